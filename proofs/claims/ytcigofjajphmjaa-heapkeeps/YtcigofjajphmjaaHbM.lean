/- The walk of the law of collections. -/
import Derived.Test.YtcigofjajphmjaaHbL
import Derived.Test.YtcigofjajphmjaaHbJ
import Derived.Test.YtcigofjajphmjaaHbD
import Derived.Test.YtcigofjajphmjaaHo
namespace Go.Proofs.Ytcigofjajphmjaa
open Go.RowKit
set_option linter.unusedVariables false
set_option linter.unusedSimpArgs false
set_option maxRecDepth 100000
theorem HbM_is1_3 : Is1 Try.prog 3 := ⟨⟨_, Try.underlying3, rfl⟩, by kernel_rfl⟩
theorem HbM_is1_4 : Is1 Try.prog 4 := ⟨⟨_, Try.underlying4, rfl⟩, by kernel_rfl⟩
theorem HbM_is1_5 : Is1 Try.prog 5 := ⟨⟨_, Try.underlying5, rfl⟩, by kernel_rfl⟩
theorem HbM_is1_59 : Is1 Try.prog 59 := ⟨⟨_, Try.underlying59, rfl⟩, by kernel_rfl⟩
theorem HbM_is1_60 : Is1 Try.prog 60 := ⟨⟨_, Try.underlying60, rfl⟩, by kernel_rfl⟩
theorem HbM_is1_61 : Is1 Try.prog 61 := ⟨⟨_, Try.underlying61, rfl⟩, by kernel_rfl⟩
theorem HbM_fld_32_0 : FieldAt Try.prog 32 0 0 := ⟨_, _, Try.underlying32, rfl, rfl, by kernel_rfl⟩
theorem HbM_fld_32_1 : FieldAt Try.prog 32 1 1 := ⟨_, _, Try.underlying32, rfl, rfl, by kernel_rfl⟩
theorem HbM_isS_32 : IsS Try.prog 32 2 := ⟨⟨_, Try.underlying32⟩, by kernel_rfl⟩
theorem Mg.b1 {w0 w : World} {A B : Ck} {R : List Ck} (h : Mg w0 w (A :: B :: R)) : Mg w0 w (B :: A :: R) := h.bring 1 rfl rfl
theorem Mg.b2 {w0 w : World} {A B C : Ck} {R : List Ck} (h : Mg w0 w (A :: B :: C :: R)) : Mg w0 w (C :: A :: B :: R) := h.bring 2 rfl rfl
theorem Mg.b3 {w0 w : World} {A B C D : Ck} {R : List Ck} (h : Mg w0 w (A :: B :: C :: D :: R)) : Mg w0 w (D :: A :: B :: C :: R) := h.bring 3 rfl rfl
theorem Mg.b4 {w0 w : World} {A B C D E : Ck} {R : List Ck} (h : Mg w0 w (A :: B :: C :: D :: E :: R)) : Mg w0 w (E :: A :: B :: C :: D :: R) := h.bring 4 rfl rfl
theorem Mg.b5 {w0 w : World} {A B C D E F : Ck} {R : List Ck} (h : Mg w0 w (A :: B :: C :: D :: E :: F :: R)) : Mg w0 w (F :: A :: B :: C :: D :: E :: R) := h.bring 5 rfl rfl
theorem Mg.b6 {w0 w : World} {A B C D E F G : Ck} {R : List Ck} (h : Mg w0 w (A :: B :: C :: D :: E :: F :: G :: R)) : Mg w0 w (G :: A :: B :: C :: D :: E :: F :: R) := h.bring 6 rfl rfl
theorem Mg.b7 {w0 w : World} {A B C D E F G H : Ck} {R : List Ck} (h : Mg w0 w (A :: B :: C :: D :: E :: F :: G :: H :: R)) : Mg w0 w (H :: A :: B :: C :: D :: E :: F :: G :: R) := h.bring 7 rfl rfl
theorem Mg.b8 {w0 w : World} {A B C D E F G H I : Ck} {R : List Ck} (h : Mg w0 w (A :: B :: C :: D :: E :: F :: G :: H :: I :: R)) : Mg w0 w (I :: A :: B :: C :: D :: E :: F :: G :: H :: R) := h.bring 8 rfl rfl
theorem Mg.b9 {w0 w : World} {A B C D E F G H I J : Ck} {R : List Ck} (h : Mg w0 w (A :: B :: C :: D :: E :: F :: G :: H :: I :: J :: R)) : Mg w0 w (J :: A :: B :: C :: D :: E :: F :: G :: H :: I :: R) := h.bring 9 rfl rfl
theorem collect_n {w0 w : World} {h m last ss ls sc lc : Nat} {sg lg : Option Addr} {gs gl : List (Nat × Nat)} {os : List Ob} {X : List Ck} {rs : List Int} {ro : Option Addr} {rc k : Nat} (hk : k = rs.length) (hnT : noBld (os.map Ob.row ++ X)) (hx : Hx os last) (hol : os.length ≤ 1000000) (hcl : ∀ o ∈ os, o.ws.length ≤ 1000000) (hsw : sumW os ≤ 1000000000) (hsS : sumS os ≤ 65536) (hss : ss ≤ 65536) (hls : ls ≤ 65536) (hpp : ∀ o ∈ os, o.p ≤ 65536) (hrf : Refs os) (hrl : rs.length ≤ 1000000000) (hrs : ∀ r ∈ rs, r = 0 ∨ (fO r os).isSome = true) (hM0 : Mg w0 w (.obj h (.cells #[.map (some m), .int .i64 (((last : Nat) : Int)), .int .i64 (((ss : Nat) : Int)), .slice sg gs.length sc, .int .i64 (((ls : Nat) : Int)), .slice lg gl.length lc] 73) :: .obj m (mapO (os.map Ob.en) last) :: .row 96 2 (.slice sg gs.length sc) gs.length (gapC gs) :: .row 96 2 (.slice lg gl.length lc) gl.length (gapC gl) :: .row 3 1 (.slice ro k rc) k (intC rs) :: (os.map Ob.row ++ X))) : Calls Try.prog 15 #[.pointer (some ⟨h, 0, none⟩), .slice ro k rc] w fun e w' => ∃ ws zs zl sg' sc' lg' lc', e = .returned (.tuple #[.int .i64 ((sumW (went ws os) : Nat) : Int), .int .i64 0]) ∧ (Vs os rs ws ∧ (∀ x, x ∈ ws ↔ Rc os rs x) ∧ zs.Perm ((mvD 0 (stay ws os)).filter (stP false)) ∧ ByP zs ∧ zl.Perm ((mvD 0 (stay ws os)).filter (stP true)) ∧ ByP zl) ∧ Mg w0 w' (.obj h (.cells #[.map (some m), .int .i64 (((last : Nat) : Int)), .int .i64 (((ss : Nat) : Int)), .slice sg' ((freeG ss zs).length) sc', .int .i64 (((ls : Nat) : Int)), .slice lg' ((freeG ls zl).length) lc'] 73) :: .obj m (mapO ((mvD 0 (stay ws os)).map Ob.en) last) :: .row 96 2 (.slice sg' ((freeG ss zs).length) sc') ((freeG ss zs).length) (gapC (freeG ss zs)) :: .row 96 2 (.slice lg' ((freeG ls zl).length) lc') ((freeG ls zl).length) (gapC (freeG ls zl)) :: .row 3 1 (.slice ro k rc) k (intC rs) :: (os.map Ob.row ++ X)) := by
  subst hk
  exact collect_any hnT hx hol hcl hsw hsS hss hls hpp hrf hrl hrs hM0
set_option maxHeartbeats 40000000 in
theorem heapKeeps_any {w : World} {so0 so1 so2 : Option Addr} {ca0 ca1 ca2 : Nat} {l0 l2 : List UInt8} {l1 : List Nat} (hl0 : Rb w so0 l0) (hl1 : Rh w so1 l1) (hl2 : Rb w so2 l2) : Calls Try.prog 4 #[.slice so0 l0.length ca0, .slice so1 l1.length ca1, .slice so2 l2.length ca2] w fun e w' => e = .returned (.bool true) ∧ Below w.heap.size w w' := by
 have hM : Mg w w ([]) := Mg.start w
 refine walk_of (l := [(0, .slice so0 l0.length ca0), (1, .slice so1 l1.length ca1), (2, .slice so2 l2.length ca2)]) Try.func4 rfl Try.ntmps4 rfl rfl ?_
 intro Q hret hnorm hP a hA
 refine wp_seq_k (fun K1 hK1 => ?_)
 refine wp_region_lit ?_
 refine seq_do hA rfl rfl rfl (does_assign rfl) ?_
 intro a hA
 refine seq_end ?_
 refine hK1 _ _ ?_
 refine wp_seq_k (fun K2 hK2 => ?_)
 refine wp_region_lit ?_
 refine seq_call hA rfl rfl rfl (enters_func rfl rfl (fun w => by kernel_rfl)) (new_any (s := 600) (l := 900) (by omega) (by omega)) ?_
 rintro _ w4 ⟨h, m, gs, gl, rfl, hM3⟩
 replace hM : Mg w w4 (.obj h (.cells #[.map (some m), .int .i64 0, .int .i64 600, .slice (some ⟨gs, 0, none⟩) 1 1, .int .i64 900, .slice (some ⟨gl, 0, none⟩) 1 1] 73) :: .obj m (mapO ([]) 0) :: .row 96 2 (.slice (some ⟨gs, 0, none⟩) 1 1) 1 (gapC [(0, 600)]) :: .row 96 2 (.slice (some ⟨gl, 0, none⟩) 1 1) 1 (gapC [(0, 900)]) :: []) := hM3
 refine ⟨_, rfl, ?_⟩
 intro a hA
 refine seq_do hA rfl rfl rfl (does_move rfl) ?_
 intro a hA
 refine seq_do (v := .pointer (some ⟨h, 0, none⟩)) hA rfl rfl rfl (does_extract (vs := [.pointer (some ⟨h, 0, none⟩), .int .i64 0]) rfl rfl) ?_
 intro a hA
 refine seq_do (v := .int .i64 0) hA rfl rfl rfl (does_extract (vs := [.pointer (some ⟨h, 0, none⟩), .int .i64 0]) rfl rfl) ?_
 intro a hA
 refine seq_do hA rfl rfl rfl (does_assign rfl) ?_
 intro a hA
 refine seq_do hA rfl rfl rfl (does_assign rfl) ?_
 intro a hA
 refine seq_end ?_
 refine hK2 _ _ ?_
 refine wp_seq_k (fun K5 hK5 => ?_)
 refine wp_seq_k (fun K6 hK6 => ?_)
 replace hA := hA.keep [(0, .slice so0 l0.length ca0), (1, .slice so1 l1.length ca1), (2, .slice so2 l2.length ca2), (6, .bool false), (7, .pointer (some ⟨h, 0, none⟩)), (8, .int .i64 0)] ⟨rfl, rfl, rfl, rfl, rfl, rfl, trivial⟩
 refine wp_region_lit ?_
 refine seq_call hA rfl rfl rfl (enters_func rfl rfl (fun w => by kernel_rfl)) (awake_any) ?_
 rintro _ w8 ⟨rfl, hb7⟩
 replace hM := hM.call hb7
 refine ⟨_, rfl, ?_⟩
 intro a hA
 refine seq_do (v := .bool false) hA rfl rfl rfl (does_un rfl un_not) ?_
 intro a hA
 refine seq_do hA rfl rfl rfl (does_move rfl) ?_
 intro a hA
 refine seq_do hA rfl rfl rfl (does_move rfl) ?_
 intro a hA
 refine seq_do (v := .bool false) hA rfl rfl rfl (does_bin rfl rfl (fun w => by kernel_rfl)) ?_
 intro a hA
 refine seq_do (v := .bool false) hA rfl rfl rfl (does_pick rfl rfl rfl rfl) ?_
 intro a hA
 refine seq_do hA rfl rfl rfl (does_move rfl) ?_
 intro a hA
 refine seq_do hA rfl rfl rfl (does_move rfl) ?_
 intro a hA
 refine seq_do (v := .bool false) hA rfl rfl rfl (does_bin rfl rfl (bin_nilN Try.underlying24)) ?_
 intro a hA
 refine seq_do (v := .bool false) hA rfl rfl rfl (does_pick rfl rfl rfl rfl) ?_
 intro a hA
 refine seq_end ?_
 refine hK6 _ _ ?_
 refine wp_cond_false (hA.ev rfl) ?_
 refine wp_skip ?_
 refine hK5 _ _ ?_
 refine wp_seq_k (fun K9 hK9 => ?_)
 replace hA := hA.keep [(0, .slice so0 l0.length ca0), (1, .slice so1 l1.length ca1), (2, .slice so2 l2.length ca2), (6, .bool false), (7, .pointer (some ⟨h, 0, none⟩)), (8, .int .i64 0)] ⟨rfl, rfl, rfl, rfl, rfl, rfl, trivial⟩
 refine wp_region_lit ?_
 refine seq_do hA rfl rfl rfl (does_assign rfl) ?_
 intro a hA
 refine seq_end ?_
 refine hK9 _ _ ?_
 refine wp_seq_k (fun K10 hK10 => ?_)
 have hJ11 : ∀ a w1, (∃ (n : Nat) (us : Nat) (ul : Nat) (os : List Ob) (sg : Option Addr) (lg : Option Addr) (sc : Nat) (lc : Nat), (Ha1 n us ul os ∧ n ≤ 40) ∧ Sl a 348 [(1, .slice so1 l1.length ca1), (2, .slice so2 l2.length ca2), (6, .bool false), (7, .pointer (some ⟨h, 0, none⟩)), (8, .int .i64 0), (9, .int .i64 (((n : Nat) : Int)))] ∧ Mg w w1 (.obj h (.cells #[.map (some m), .int .i64 (((n : Nat) : Int)), .int .i64 (((600 : Nat) : Int)), .slice sg ([(us, 600 - us)].length) sc, .int .i64 (((900 : Nat) : Int)), .slice lg ([(ul, 900 - ul)].length) lc] 73) :: .obj m (mapO (os.map Ob.en) n) :: .row 96 2 (.slice sg ([(us, 600 - us)].length) sc) ([(us, 600 - us)].length) (gapC [(us, 600 - us)]) :: .row 96 2 (.slice lg ([(ul, 900 - ul)].length) lc) ([(ul, 900 - ul)].length) (gapC [(ul, 900 - ul)]) :: (os.map Ob.row ++ []))) → K10 a w1 := by
   clear hA hM
   rintro a w12 ⟨n, us, ul, os, sg, lg, sc, lc, hf13, hA, hM⟩
   obtain ⟨hm1, hn40⟩ := hf13
   have hm := hm1.next
   have hosl := hm.len
   refine hK10 _ _ ?_
   refine wp_seq_k (fun K14 hK14 => ?_)
   refine wp_seq_k (fun K15 hK15 => ?_)
   refine wp_region_lit ?_
   refine seq_do hA rfl rfl rfl (does_move rfl) ?_
   intro a hA
   rcases Bool.eq_false_or_eq_true ((((n : Nat) : Int) == 0)) with hb16 | hb16
   · have hb16' := eq_of_beq hb16
     refine seq_do (v := .bool true) hA rfl rfl rfl (does_bin rfl rfl (fun w => (bin_eql w).trans (by rw [hb16]))) ?_
     intro a hA
     refine seq_end ?_
     refine hK15 _ _ ?_
     refine wp_cond_true (hA.ev rfl) ?_
     refine wp_seq_k (fun K17 hK17 => ?_)
     replace hA := hA.keep [(1, .slice so1 l1.length ca1), (2, .slice so2 l2.length ca2), (6, .bool false), (7, .pointer (some ⟨h, 0, none⟩)), (8, .int .i64 0), (9, .int .i64 (((n : Nat) : Int)))] ⟨rfl, rfl, rfl, rfl, rfl, rfl, trivial⟩
     refine wp_region_lit ?_
     refine seq_do hA rfl rfl rfl (does_assign rfl) ?_
     intro a hA
     refine seq_end ?_
     refine hK17 _ _ ?_
     refine wp_ret ?_
     refine hret _ _ ?_
     refine ends (v := .bool true) hA rfl (.cons (res_tmp rfl) .nil) rfl ?_
     exact ⟨rfl, hM.bel⟩
   · have hb16' := ne_of_beq_false hb16
     refine seq_do (v := .bool false) hA rfl rfl rfl (does_bin rfl rfl (fun w => (bin_eql w).trans (by rw [hb16]))) ?_
     intro a hA
     refine seq_end ?_
     refine hK15 _ _ ?_
     refine wp_cond_false (hA.ev rfl) ?_
     refine wp_skip ?_
     refine hK14 _ _ ?_
     refine wp_seq_k (fun K18 hK18 => ?_)
     replace hA := hA.keep [(1, .slice so1 l1.length ca1), (2, .slice so2 l2.length ca2), (6, .bool false), (7, .pointer (some ⟨h, 0, none⟩)), (8, .int .i64 0), (9, .int .i64 (((n : Nat) : Int)))] ⟨rfl, rfl, rfl, rfl, rfl, rfl, trivial⟩
     refine wp_region_lit ?_
     refine seq_do hA rfl rfl rfl (does_move rfl) ?_
     intro a hA
     refine seq_do (v := .int .i64 (((n + 1 : Nat) : Int))) hA rfl rfl rfl (does_bin rfl rfl (ar_add ((in_i64 (by omega) (by omega)).trans (by omega)))) ?_
     intro a hA
     refine s_makeE (z := .slice none 0 0) (sz := 1) (by_ := 24) (m := n + 1) hA hM Try.underlying58 (by kernel_rfl) rfl rfl rfl rfl rfl rfl (by omega) (by omega) (.inl (by decide)) ?_
     intro g19 w20 hM
     replace hM : Mg w w20 (.row 59 1 (.slice (some ⟨g19, 0, none⟩) (n + 1) (n + 1)) (n + 1) (slR n []) :: .obj h (.cells #[.map (some m), .int .i64 (((n : Nat) : Int)), .int .i64 (((600 : Nat) : Int)), .slice sg ([(us, 600 - us)].length) sc, .int .i64 (((900 : Nat) : Int)), .slice lg ([(ul, 900 - ul)].length) lc] 73) :: .obj m (mapO (os.map Ob.en) n) :: .row 96 2 (.slice sg ([(us, 600 - us)].length) sc) ([(us, 600 - us)].length) (gapC [(us, 600 - us)]) :: .row 96 2 (.slice lg ([(ul, 900 - ul)].length) lc) ([(ul, 900 - ul)].length) (gapC [(ul, 900 - ul)]) :: (os.map Ob.row ++ [])) := by rw [← slR_made]; exact hM
     intro a hA
     refine seq_do hA rfl rfl rfl (does_assign rfl) ?_
     intro a hA
     refine seq_end ?_
     refine hK18 _ _ ?_
     refine wp_seq_k (fun K21 hK21 => ?_)
     refine wp_seq_k (fun K22 hK22 => ?_)
     replace hA := hA.keep [(1, .slice so1 l1.length ca1), (2, .slice so2 l2.length ca2), (6, .bool false), (7, .pointer (some ⟨h, 0, none⟩)), (8, .int .i64 0), (9, .int .i64 (((n : Nat) : Int))), (13, .slice (some ⟨g19, 0, none⟩) (n + 1) (n + 1))] ⟨rfl, rfl, rfl, rfl, rfl, rfl, rfl, trivial⟩
     refine wp_region_lit ?_
     refine seq_do hA rfl rfl rfl (does_assign rfl) ?_
     intro a hA
     refine seq_end ?_
     refine hK22 _ _ ?_
     refine wp_block ?_
     replace hM := hM.b4
     replace hM := hM.b4
     replace hM := hM.b4
     replace hM := hM.b4
     refine wp_loop_n (fun m_ a w1 => ∃ (jm : Nat) (ms : List Ob), m_ = 1 + (n - jm) ∧ (jm ≤ n ∧ ms.length = jm ∧ ms.map Ob.ws = (os.take jm).map Ob.ws) ∧ Sl a 348 [(1, .slice so1 l1.length ca1), (2, .slice so2 l2.length ca2), (7, .pointer (some ⟨h, 0, none⟩)), (8, .int .i64 0), (9, .int .i64 (((n : Nat) : Int))), (13, .slice (some ⟨g19, 0, none⟩) (n + 1) (n + 1)), (14, .int .i64 (((jm + 1 : Nat) : Int)))] ∧ Mg w w1 (.obj h (.cells #[.map (some m), .int .i64 (((n : Nat) : Int)), .int .i64 (((600 : Nat) : Int)), .slice sg ([(us, 600 - us)].length) sc, .int .i64 (((900 : Nat) : Int)), .slice lg ([(ul, 900 - ul)].length) lc] 73) :: .obj m (mapO (os.map Ob.en) n) :: .row 96 2 (.slice sg ([(us, 600 - us)].length) sc) ([(us, 600 - us)].length) (gapC [(us, 600 - us)]) :: .row 96 2 (.slice lg ([(ul, 900 - ul)].length) lc) ([(ul, 900 - ul)].length) (gapC [(ul, 900 - ul)]) :: .row 59 1 (.slice (some ⟨g19, 0, none⟩) (n + 1) (n + 1)) (n + 1) (slR n ms) :: (os.map Ob.row ++ (ms.map Ob.row ++ [])))) _ ⟨0, [], rfl, ⟨Nat.zero_le _, rfl, rfl⟩, hA.keep _ ⟨rfl, rfl, rfl, rfl, rfl, rfl, rfl, trivial⟩, hM⟩ ?_
     clear hM hA
     rintro m_ a w23 ⟨jm, ms, rfl, hinv25, hA, hM⟩ K24 hK24
     obtain ⟨hj0, hml, hmw⟩ := hinv25
     refine wp_seq_k (fun K26 hK26 => ?_)
     refine wp_seq_k (fun K27 hK27 => ?_)
     refine wp_region_lit ?_
     refine seq_do hA rfl rfl rfl (does_move rfl) ?_
     intro a hA
     refine seq_do hA rfl rfl rfl (does_move rfl) ?_
     intro a hA
     rcases Bool.eq_false_or_eq_true (decide (((jm + 1 : Nat) : Int) ≤ ((n : Nat) : Int))) with hb28 | hb28
     · have hb28' := of_decide_eq_true hb28
       refine seq_do (v := .bool true) hA rfl rfl rfl (does_bin rfl rfl (fun w => (bin_leq w).trans (by rw [hb28]))) ?_
       intro a hA
       refine seq_end ?_
       refine hK27 _ _ ?_
       refine wp_cond_true (hA.ev rfl) ?_
       refine wp_skip ?_
       refine hK26 _ _ ?_
       refine wp_seq_k (fun K29 hK29 => ?_)
       refine wp_block ?_
       refine wp_seq_k (fun K30 hK30 => ?_)
       replace hA := hA.keep [(1, .slice so1 l1.length ca1), (2, .slice so2 l2.length ca2), (7, .pointer (some ⟨h, 0, none⟩)), (8, .int .i64 0), (9, .int .i64 (((n : Nat) : Int))), (13, .slice (some ⟨g19, 0, none⟩) (n + 1) (n + 1)), (14, .int .i64 (((jm + 1 : Nat) : Int)))] ⟨rfl, rfl, rfl, rfl, rfl, rfl, rfl, trivial⟩
       obtain ⟨o, ho⟩ : ∃ o, os[jm]? = some o := ⟨_, List.getElem?_eq_getElem (show jm < os.length by omega)⟩
       have hom := List.mem_of_getElem? ho
       have hsz := hm.siz o hom
       have hfo := hm.num.at ho
       have hzr : List.replicate o.ws.length (0, false) = o.ws := (List.eq_replicate_iff.2 ⟨rfl, hm1.zer o hom⟩).symm
       refine wp_region_lit ?_
       refine seq_do hA rfl rfl rfl (does_move rfl) ?_
       intro a hA
       refine seq_do hA rfl rfl rfl (does_move rfl) ?_
       intro a hA
       replace hM := hM.b3
       replace hM := hM.b3
       replace hM := hM.b3
       replace hM := hM.b3
       refine seq_call hA rfl rfl rfl (enters_func rfl rfl (fun w => by kernel_rfl)) (size_hit (X := ([.row 59 1 (.slice (some ⟨g19, 0, none⟩) (n + 1) (n + 1)) (n + 1) (slR n ms)] ++ (ms.map Ob.row ++ []))) hfo (hM.swapE (C := [.obj h (.cells #[.map (some m), .int .i64 (((n : Nat) : Int)), .int .i64 (((600 : Nat) : Int)), .slice sg ([(us, 600 - us)].length) sc, .int .i64 (((900 : Nat) : Int)), .slice lg ([(ul, 900 - ul)].length) lc] 73), .obj m (mapO (os.map Ob.en) n), .row 96 2 (.slice sg ([(us, 600 - us)].length) sc) ([(us, 600 - us)].length) (gapC [(us, 600 - us)]), .row 96 2 (.slice lg ([(ul, 900 - ul)].length) lc) ([(ul, 900 - ul)].length) (gapC [(ul, 900 - ul)])]) (E := [.row 59 1 (.slice (some ⟨g19, 0, none⟩) (n + 1) (n + 1)) (n + 1) (slR n ms)]) (R := os.map Ob.row) (X := (ms.map Ob.row ++ [])))) ?_
       rintro _ w32 ⟨rfl, hM31⟩
       replace hM : Mg w w32 (.obj h (.cells #[.map (some m), .int .i64 (((n : Nat) : Int)), .int .i64 (((600 : Nat) : Int)), .slice sg ([(us, 600 - us)].length) sc, .int .i64 (((900 : Nat) : Int)), .slice lg ([(ul, 900 - ul)].length) lc] 73) :: .obj m (mapO (os.map Ob.en) n) :: .row 96 2 (.slice sg ([(us, 600 - us)].length) sc) ([(us, 600 - us)].length) (gapC [(us, 600 - us)]) :: .row 96 2 (.slice lg ([(ul, 900 - ul)].length) lc) ([(ul, 900 - ul)].length) (gapC [(ul, 900 - ul)]) :: .row 59 1 (.slice (some ⟨g19, 0, none⟩) (n + 1) (n + 1)) (n + 1) (slR n ms) :: (os.map Ob.row ++ (ms.map Ob.row ++ []))) := (hM31.swapE (C := [.obj h (.cells #[.map (some m), .int .i64 (((n : Nat) : Int)), .int .i64 (((600 : Nat) : Int)), .slice sg ([(us, 600 - us)].length) sc, .int .i64 (((900 : Nat) : Int)), .slice lg ([(ul, 900 - ul)].length) lc] 73), .obj m (mapO (os.map Ob.en) n), .row 96 2 (.slice sg ([(us, 600 - us)].length) sc) ([(us, 600 - us)].length) (gapC [(us, 600 - us)]), .row 96 2 (.slice lg ([(ul, 900 - ul)].length) lc) ([(ul, 900 - ul)].length) (gapC [(ul, 900 - ul)])]) (E := os.map Ob.row) (R := [.row 59 1 (.slice (some ⟨g19, 0, none⟩) (n + 1) (n + 1)) (n + 1) (slR n ms)]) (X := (ms.map Ob.row ++ [])))
       refine ⟨_, rfl, ?_⟩
       intro a hA
       refine seq_do hA rfl rfl rfl (does_move rfl) ?_
       intro a hA
       refine seq_do (v := .int .i64 (((o.ws.length : Nat) : Int))) hA rfl rfl rfl (does_extract (vs := [.int .i64 (((o.ws.length : Nat) : Int)), .int .i64 0]) rfl rfl) ?_
       intro a hA
       refine seq_do (v := .int .i64 0) hA rfl rfl rfl (does_extract (vs := [.int .i64 (((o.ws.length : Nat) : Int)), .int .i64 0]) rfl rfl) ?_
       intro a hA
       refine seq_do hA rfl rfl rfl (does_assign rfl) ?_
       intro a hA
       refine seq_do hA rfl rfl rfl (does_assign rfl) ?_
       intro a hA
       refine seq_end ?_
       refine hK30 _ _ ?_
       refine wp_seq_k (fun K33 hK33 => ?_)
       refine wp_seq_k (fun K34 hK34 => ?_)
       replace hA := hA.keep [(1, .slice so1 l1.length ca1), (2, .slice so2 l2.length ca2), (7, .pointer (some ⟨h, 0, none⟩)), (8, .int .i64 0), (9, .int .i64 (((n : Nat) : Int))), (13, .slice (some ⟨g19, 0, none⟩) (n + 1) (n + 1)), (14, .int .i64 (((jm + 1 : Nat) : Int))), (15, .int .i64 (((o.ws.length : Nat) : Int))), (16, .int .i64 0)] ⟨rfl, rfl, rfl, rfl, rfl, rfl, rfl, rfl, rfl, trivial⟩
       refine wp_region_lit ?_
       refine seq_do hA rfl rfl rfl (does_move rfl) ?_
       intro a hA
       refine seq_do (v := .bool false) hA rfl rfl rfl (does_bin rfl rfl (fun w => by kernel_rfl)) ?_
       intro a hA
       refine seq_do hA rfl rfl rfl (does_move rfl) ?_
       intro a hA
       refine seq_do hA rfl rfl rfl (does_move rfl) ?_
       intro a hA
       refine seq_do (v := .bool false) hA rfl rfl rfl (does_bin rfl rfl (fun w => (bin_lss w).trans (by rw [show (decide (((o.ws.length : Nat) : Int) < 1)) = false from (decide_eq_false (by omega))]))) ?_
       intro a hA
       refine seq_do (v := .bool false) hA rfl rfl rfl (does_pick rfl rfl rfl rfl) ?_
       intro a hA
       refine seq_do hA rfl rfl rfl (does_move rfl) ?_
       intro a hA
       refine seq_do hA rfl rfl rfl (does_move rfl) ?_
       intro a hA
       refine seq_do (v := .bool false) hA rfl rfl rfl (does_bin rfl rfl (fun w => (bin_gtr w).trans (by rw [show (decide (40 < ((o.ws.length : Nat) : Int))) = false from (decide_eq_false (by omega))]))) ?_
       intro a hA
       refine seq_do (v := .bool false) hA rfl rfl rfl (does_pick rfl rfl rfl rfl) ?_
       intro a hA
       refine seq_end ?_
       refine hK34 _ _ ?_
       refine wp_cond_false (hA.ev rfl) ?_
       refine wp_skip ?_
       refine hK33 _ _ ?_
       replace hA := hA.keep [(1, .slice so1 l1.length ca1), (2, .slice so2 l2.length ca2), (7, .pointer (some ⟨h, 0, none⟩)), (8, .int .i64 0), (9, .int .i64 (((n : Nat) : Int))), (13, .slice (some ⟨g19, 0, none⟩) (n + 1) (n + 1)), (14, .int .i64 (((jm + 1 : Nat) : Int))), (15, .int .i64 (((o.ws.length : Nat) : Int))), (16, .int .i64 0)] ⟨rfl, rfl, rfl, rfl, rfl, rfl, rfl, rfl, rfl, trivial⟩
       refine wp_region_lit ?_
       refine seq_do hA rfl rfl rfl (does_move rfl) ?_
       intro a hA
       refine seq_do hA rfl rfl rfl (does_move rfl) ?_
       intro a hA
       refine seq_do hA rfl rfl rfl (does_move rfl) ?_
       intro a hA
       refine s_makeE (z := .agg #[.int .i64 0, .bool false]) (sz := 2) (by_ := 16) (m := o.ws.length) hA hM Try.underlying59 (by kernel_rfl) rfl rfl rfl rfl rfl rfl (by omega) (by omega) (.inl (by decide)) ?_
       intro g35 w36 hM
       replace hM : Mg w w36 (.row 32 2 (.slice (some ⟨g35, 0, none⟩) o.ws.length o.ws.length) o.ws.length (cellC (List.replicate o.ws.length (0, false))) :: .obj h (.cells #[.map (some m), .int .i64 (((n : Nat) : Int)), .int .i64 (((600 : Nat) : Int)), .slice sg ([(us, 600 - us)].length) sc, .int .i64 (((900 : Nat) : Int)), .slice lg ([(ul, 900 - ul)].length) lc] 73) :: .obj m (mapO (os.map Ob.en) n) :: .row 96 2 (.slice sg ([(us, 600 - us)].length) sc) ([(us, 600 - us)].length) (gapC [(us, 600 - us)]) :: .row 96 2 (.slice lg ([(ul, 900 - ul)].length) lc) ([(ul, 900 - ul)].length) (gapC [(ul, 900 - ul)]) :: .row 59 1 (.slice (some ⟨g19, 0, none⟩) (n + 1) (n + 1)) (n + 1) (slR n ms) :: (os.map Ob.row ++ (ms.map Ob.row ++ []))) := by rw [← cellC_made]; exact hM
       intro a hA
       replace hM : Mg w w36 (.row 32 2 (.slice (some ⟨g35, 0, none⟩) o.ws.length o.ws.length) o.ws.length (cellC o.ws) :: .obj h (.cells #[.map (some m), .int .i64 (((n : Nat) : Int)), .int .i64 (((600 : Nat) : Int)), .slice sg ([(us, 600 - us)].length) sc, .int .i64 (((900 : Nat) : Int)), .slice lg ([(ul, 900 - ul)].length) lc] 73) :: .obj m (mapO (os.map Ob.en) n) :: .row 96 2 (.slice sg ([(us, 600 - us)].length) sc) ([(us, 600 - us)].length) (gapC [(us, 600 - us)]) :: .row 96 2 (.slice lg ([(ul, 900 - ul)].length) lc) ([(ul, 900 - ul)].length) (gapC [(ul, 900 - ul)]) :: .row 59 1 (.slice (some ⟨g19, 0, none⟩) (n + 1) (n + 1)) (n + 1) (slR n ms) :: (os.map Ob.row ++ (ms.map Ob.row ++ []))) := by rw [hzr] at hM; exact hM
       refine seq_do (v := .pointer (some ⟨g19, (jm + 1) * 1, none⟩)) hA rfl rfl rfl (does_indexE (k := jm + 1) Try.underlying58 (by kernel_rfl) rfl rfl rfl (by omega)) ?_
       intro a hA
       refine s_storeE (cs := [.slice (some ⟨g35, 0, none⟩) o.ws.length o.ws.length]) (L' := (.row 32 2 (.slice (some ⟨g35, 0, none⟩) o.ws.length o.ws.length) o.ws.length (cellC o.ws) :: .obj h (.cells #[.map (some m), .int .i64 (((n : Nat) : Int)), .int .i64 (((600 : Nat) : Int)), .slice sg ([(us, 600 - us)].length) sc, .int .i64 (((900 : Nat) : Int)), .slice lg ([(ul, 900 - ul)].length) lc] 73) :: .obj m (mapO (os.map Ob.en) n) :: .row 96 2 (.slice sg ([(us, 600 - us)].length) sc) ([(us, 600 - us)].length) (gapC [(us, 600 - us)]) :: .row 96 2 (.slice lg ([(ul, 900 - ul)].length) lc) ([(ul, 900 - ul)].length) (gapC [(ul, 900 - ul)]) :: .row 59 1 (.slice (some ⟨g19, 0, none⟩) (n + 1) (n + 1)) (n + 1) (over (slR n ms) ((jm + 1) * 1) [.slice (some ⟨g35, 0, none⟩) o.ws.length o.ws.length]) :: (os.map Ob.row ++ (ms.map Ob.row ++ [])))) (us := []) hA hM rfl rfl (m_storeE rfl rfl rfl (by kernel_rfl) hM 5 rfl (by show (jm + 1) * 1 + 1 ≤ _; omega) rfl) 5 rfl rfl ?_
       intro w37 hM
       replace hM : Mg w w37 (.row 32 2 (.slice (some ⟨g35, 0, none⟩) o.ws.length o.ws.length) o.ws.length (cellC o.ws) :: .obj h (.cells #[.map (some m), .int .i64 (((n : Nat) : Int)), .int .i64 (((600 : Nat) : Int)), .slice sg ([(us, 600 - us)].length) sc, .int .i64 (((900 : Nat) : Int)), .slice lg ([(ul, 900 - ul)].length) lc] 73) :: .obj m (mapO (os.map Ob.en) n) :: .row 96 2 (.slice sg ([(us, 600 - us)].length) sc) ([(us, 600 - us)].length) (gapC [(us, 600 - us)]) :: .row 96 2 (.slice lg ([(ul, 900 - ul)].length) lc) ([(ul, 900 - ul)].length) (gapC [(ul, 900 - ul)]) :: .row 59 1 (.slice (some ⟨g19, 0, none⟩) (n + 1) (n + 1)) (n + 1) (slR n (ms ++ [(⟨0, 0, g35, o.ws.length, o.ws⟩ : Ob)])) :: (os.map Ob.row ++ (ms.map Ob.row ++ []))) := by rw [← slR_set (by omega) (⟨0, 0, g35, o.ws.length, o.ws⟩ : Ob), hml]; rw [Nat.mul_one] at hM; exact hM
       refine seq_end ?_
       refine hK29 _ _ ?_
       replace hA := hA.keep [(1, .slice so1 l1.length ca1), (2, .slice so2 l2.length ca2), (7, .pointer (some ⟨h, 0, none⟩)), (8, .int .i64 0), (9, .int .i64 (((n : Nat) : Int))), (13, .slice (some ⟨g19, 0, none⟩) (n + 1) (n + 1)), (14, .int .i64 (((jm + 1 : Nat) : Int))), (15, .int .i64 (((o.ws.length : Nat) : Int))), (16, .int .i64 0)] ⟨rfl, rfl, rfl, rfl, rfl, rfl, rfl, rfl, rfl, trivial⟩
       refine wp_region_lit ?_
       refine seq_do hA rfl rfl rfl (does_move rfl) ?_
       intro a hA
       refine seq_do (v := .int .i64 (((jm + 1 + 1 : Nat) : Int))) hA rfl rfl rfl (does_bin rfl rfl (ar_add ((in_i64 (by omega) (by omega)).trans (by omega)))) ?_
       intro a hA
       refine seq_do hA rfl rfl rfl (does_assign rfl) ?_
       intro a hA
       refine seq_end ?_
       replace hM := hM.b5
       replace hM := hM.b5
       replace hM := hM.b5
       replace hM := hM.b5
       replace hM := hM.b5
       replace hM := hM.b5
       replace hM : Mg w w37 (.obj h (.cells #[.map (some m), .int .i64 (((n : Nat) : Int)), .int .i64 (((600 : Nat) : Int)), .slice sg ([(us, 600 - us)].length) sc, .int .i64 (((900 : Nat) : Int)), .slice lg ([(ul, 900 - ul)].length) lc] 73) :: .obj m (mapO (os.map Ob.en) n) :: .row 96 2 (.slice sg ([(us, 600 - us)].length) sc) ([(us, 600 - us)].length) (gapC [(us, 600 - us)]) :: .row 96 2 (.slice lg ([(ul, 900 - ul)].length) lc) ([(ul, 900 - ul)].length) (gapC [(ul, 900 - ul)]) :: .row 59 1 (.slice (some ⟨g19, 0, none⟩) (n + 1) (n + 1)) (n + 1) (slR n (ms ++ [(⟨0, 0, g35, o.ws.length, o.ws⟩ : Ob)])) :: (os.map Ob.row ++ ((ms ++ [(⟨0, 0, g35, o.ws.length, o.ws⟩ : Ob)]).map Ob.row ++ []))) := perm_row2 (C := [.obj h (.cells #[.map (some m), .int .i64 (((n : Nat) : Int)), .int .i64 (((600 : Nat) : Int)), .slice sg ([(us, 600 - us)].length) sc, .int .i64 (((900 : Nat) : Int)), .slice lg ([(ul, 900 - ul)].length) lc] 73), .obj m (mapO (os.map Ob.en) n), .row 96 2 (.slice sg ([(us, 600 - us)].length) sc) ([(us, 600 - us)].length) (gapC [(us, 600 - us)]), .row 96 2 (.slice lg ([(ul, 900 - ul)].length) lc) ([(ul, 900 - ul)].length) (gapC [(ul, 900 - ul)]), .row 59 1 (.slice (some ⟨g19, 0, none⟩) (n + 1) (n + 1)) (n + 1) (slR n (ms ++ [(⟨0, 0, g35, o.ws.length, o.ws⟩ : Ob)]))]) (o := (⟨0, 0, g35, o.ws.length, o.ws⟩ : Ob)) hM
       refine hK24 _ _ _ (by omega) ⟨jm + 1, ms ++ [(⟨0, 0, g35, o.ws.length, o.ws⟩ : Ob)], rfl, ⟨by omega, by rw [List.length_append, hml]; rfl, by rw [List.map_append, hmw, List.take_add_one, ho, List.map_append]; rfl⟩, hA.keep _ ⟨rfl, rfl, rfl, rfl, rfl, rfl, rfl, trivial⟩, hM⟩
     · have hb28' := of_decide_eq_false hb28
       refine seq_do (v := .bool false) hA rfl rfl rfl (does_bin rfl rfl (fun w => (bin_leq w).trans (by rw [hb28]))) ?_
       intro a hA
       refine seq_end ?_
       refine hK27 _ _ ?_
       refine wp_cond_false (hA.ev rfl) ?_
       refine wp_exit ?_
       refine hK21 _ _ ?_
       refine wp_seq_k (fun K38 hK38 => ?_)
       have hJ39 : ∀ a w1, (∃ (oz : List Ob) (mz : List Ob), (Ha2 n oz ∧ mz.map Ob.ws = oz.map Ob.ws ∧ mz.length = n) ∧ Sl a 348 [(2, .slice so2 l2.length ca2), (7, .pointer (some ⟨h, 0, none⟩)), (8, .int .i64 0), (9, .int .i64 (((n : Nat) : Int))), (13, .slice (some ⟨g19, 0, none⟩) (n + 1) (n + 1)), (14, .int .i64 (((jm + 1 : Nat) : Int)))] ∧ Mg w w1 (.obj h (.cells #[.map (some m), .int .i64 (((n : Nat) : Int)), .int .i64 (((600 : Nat) : Int)), .slice sg ([(us, 600 - us)].length) sc, .int .i64 (((900 : Nat) : Int)), .slice lg ([(ul, 900 - ul)].length) lc] 73) :: .obj m (mapO (oz.map Ob.en) n) :: .row 96 2 (.slice sg ([(us, 600 - us)].length) sc) ([(us, 600 - us)].length) (gapC [(us, 600 - us)]) :: .row 96 2 (.slice lg ([(ul, 900 - ul)].length) lc) ([(ul, 900 - ul)].length) (gapC [(ul, 900 - ul)]) :: .row 59 1 (.slice (some ⟨g19, 0, none⟩) (n + 1) (n + 1)) (n + 1) (slR n mz) :: (oz.map Ob.row ++ (mz.map Ob.row ++ [])))) → K38 a w1 := by
         clear hA hM
         rintro a w40 ⟨oz, mz, hf41, hA, hM⟩
         obtain ⟨hm2, hmw, hml2⟩ := hf41
         have hozl := hm2.len
         refine hK38 _ _ ?_
         refine wp_seq_k (fun K42 hK42 => ?_)
         refine wp_region_lit ?_
         refine seq_do hA rfl rfl rfl (does_move rfl) ?_
         intro a hA
         refine seq_do (v := .int .i64 (((n + 1 : Nat) : Int))) hA rfl rfl rfl (does_bin rfl rfl (ar_add ((in_i64 (by omega) (by omega)).trans (by omega)))) ?_
         intro a hA
         refine s_makeE (z := .bool false) (sz := 1) (by_ := 1) (m := n + 1) hA hM Try.underlying61 (by kernel_rfl) rfl rfl rfl rfl rfl rfl (by omega) (by omega) (.inl (by decide)) ?_
         intro g43 w44 hM
         replace hM : Mg w w44 (.row 4 1 (.slice (some ⟨g43, 0, none⟩) (n + 1) (n + 1)) (n + 1) (boolC (List.replicate (n + 1) false)) :: .obj h (.cells #[.map (some m), .int .i64 (((n : Nat) : Int)), .int .i64 (((600 : Nat) : Int)), .slice sg ([(us, 600 - us)].length) sc, .int .i64 (((900 : Nat) : Int)), .slice lg ([(ul, 900 - ul)].length) lc] 73) :: .obj m (mapO (oz.map Ob.en) n) :: .row 96 2 (.slice sg ([(us, 600 - us)].length) sc) ([(us, 600 - us)].length) (gapC [(us, 600 - us)]) :: .row 96 2 (.slice lg ([(ul, 900 - ul)].length) lc) ([(ul, 900 - ul)].length) (gapC [(ul, 900 - ul)]) :: .row 59 1 (.slice (some ⟨g19, 0, none⟩) (n + 1) (n + 1)) (n + 1) (slR n mz) :: (oz.map Ob.row ++ (mz.map Ob.row ++ []))) := by rw [← boolC_made]; exact hM
         intro a hA
         refine seq_do hA rfl rfl rfl (does_assign rfl) ?_
         intro a hA
         refine seq_end ?_
         refine hK42 _ _ ?_
         refine wp_seq_k (fun K45 hK45 => ?_)
         replace hA := hA.keep [(2, .slice so2 l2.length ca2), (7, .pointer (some ⟨h, 0, none⟩)), (8, .int .i64 0), (9, .int .i64 (((n : Nat) : Int))), (13, .slice (some ⟨g19, 0, none⟩) (n + 1) (n + 1)), (14, .int .i64 (((jm + 1 : Nat) : Int))), (21, .slice (some ⟨g43, 0, none⟩) (n + 1) (n + 1))] ⟨rfl, rfl, rfl, rfl, rfl, rfl, rfl, trivial⟩
         refine wp_region_lit ?_
         refine s_litE (e := 3) (sz := 1) (m := 0) (vs := intC []) hA hM rfl rfl rfl (does_buildSlice rfl (by kernel_rfl)) rfl rfl (.inl (by decide)) ?_
         intro g46 w47 hM a hA
         refine seq_do hA rfl rfl rfl (does_assign rfl) ?_
         intro a hA
         refine seq_end ?_
         refine hK45 _ _ ?_
         refine wp_seq_k (fun K48 hK48 => ?_)
         have hJ49 : ∀ a w1, (∃ (rs : List Int) (lo : Option Addr) (lcp : Nat) (nk : Nat) (sts : List Bool), (nk = rs.length ∧ nk ≤ 5 ∧ sts.length = n + 1 ∧ (∀ y : Nat, On sts y ↔ ((y : Nat) : Int) ∈ rs) ∧ ∀ r ∈ rs, 0 ≤ r ∧ r ≤ ((n : Nat) : Int)) ∧ Sl a 348 [(7, .pointer (some ⟨h, 0, none⟩)), (8, .int .i64 0), (9, .int .i64 (((n : Nat) : Int))), (13, .slice (some ⟨g19, 0, none⟩) (n + 1) (n + 1)), (14, .int .i64 (((jm + 1 : Nat) : Int))), (21, .slice (some ⟨g43, 0, none⟩) (n + 1) (n + 1)), (22, .slice lo nk lcp)] ∧ Mg w w1 (.obj h (.cells #[.map (some m), .int .i64 (((n : Nat) : Int)), .int .i64 (((600 : Nat) : Int)), .slice sg ([(us, 600 - us)].length) sc, .int .i64 (((900 : Nat) : Int)), .slice lg ([(ul, 900 - ul)].length) lc] 73) :: .obj m (mapO (oz.map Ob.en) n) :: .row 96 2 (.slice sg ([(us, 600 - us)].length) sc) ([(us, 600 - us)].length) (gapC [(us, 600 - us)]) :: .row 96 2 (.slice lg ([(ul, 900 - ul)].length) lc) ([(ul, 900 - ul)].length) (gapC [(ul, 900 - ul)]) :: .row 59 1 (.slice (some ⟨g19, 0, none⟩) (n + 1) (n + 1)) (n + 1) (slR n mz) :: .row 4 1 (.slice (some ⟨g43, 0, none⟩) (n + 1) (n + 1)) (n + 1) (boolC sts) :: .row 3 1 (.slice lo nk lcp) nk (intC rs) :: (oz.map Ob.row ++ (mz.map Ob.row ++ [])))) → K48 a w1 := by
           clear hA hM
           rintro a w50 ⟨rs, lo, lcp, nk, sts, hf51, hA, hM⟩
           obtain ⟨hnk, hnk5, hsl, hon, hrr⟩ := hf51
           refine hK48 _ _ ?_
           refine wp_seq_k (fun K52 hK52 => ?_)
           refine wp_seq_k (fun K53 hK53 => ?_)
           refine wp_region_lit ?_
           refine seq_do hA rfl rfl rfl (does_assign rfl) ?_
           intro a hA
           refine seq_end ?_
           refine hK53 _ _ ?_
           refine wp_block ?_
           replace hM := hM.b6
           replace hM := hM.b6
           replace hM := hM.b6
           replace hM := hM.b6
           replace hM := hM.b6
           replace hM := hM.b6
           replace hM := hM.b6
           refine wp_loop_n (fun m_ a w1 => ∃ (r : Nat) (bs : List Bool), m_ = 1 + (n - r) ∧ (r ≤ n ∧ Ro n oz rs r bs) ∧ Sl a 348 [(7, .pointer (some ⟨h, 0, none⟩)), (8, .int .i64 0), (9, .int .i64 (((n : Nat) : Int))), (13, .slice (some ⟨g19, 0, none⟩) (n + 1) (n + 1)), (14, .int .i64 (((jm + 1 : Nat) : Int))), (21, .slice (some ⟨g43, 0, none⟩) (n + 1) (n + 1)), (22, .slice lo nk lcp), (25, .int .i64 (((r : Nat) : Int)))] ∧ Mg w w1 (.obj h (.cells #[.map (some m), .int .i64 (((n : Nat) : Int)), .int .i64 (((600 : Nat) : Int)), .slice sg ([(us, 600 - us)].length) sc, .int .i64 (((900 : Nat) : Int)), .slice lg ([(ul, 900 - ul)].length) lc] 73) :: .obj m (mapO (oz.map Ob.en) n) :: .row 96 2 (.slice sg ([(us, 600 - us)].length) sc) ([(us, 600 - us)].length) (gapC [(us, 600 - us)]) :: .row 96 2 (.slice lg ([(ul, 900 - ul)].length) lc) ([(ul, 900 - ul)].length) (gapC [(ul, 900 - ul)]) :: .row 59 1 (.slice (some ⟨g19, 0, none⟩) (n + 1) (n + 1)) (n + 1) (slR n mz) :: .row 4 1 (.slice (some ⟨g43, 0, none⟩) (n + 1) (n + 1)) (n + 1) (boolC bs) :: .row 3 1 (.slice lo nk lcp) nk (intC rs) :: (oz.map Ob.row ++ (mz.map Ob.row ++ [])))) _ ⟨0, sts, rfl, ⟨Nat.zero_le _, Ro.start hsl hon (fun r hr => (hrr r hr).1)⟩, hA.keep _ ⟨rfl, rfl, rfl, rfl, rfl, rfl, rfl, rfl, trivial⟩, hM⟩ ?_
           clear hM hA
           rintro m_ a w54 ⟨r, bs, rfl, hinv56, hA, hM⟩ K55 hK55
           obtain ⟨hr0, hR⟩ := hinv56
           have hbsl := hR.len
           refine wp_seq_k (fun K57 hK57 => ?_)
           refine wp_seq_k (fun K58 hK58 => ?_)
           refine wp_region_lit ?_
           refine seq_do hA rfl rfl rfl (does_move rfl) ?_
           intro a hA
           refine seq_do hA rfl rfl rfl (does_move rfl) ?_
           intro a hA
           rcases Bool.eq_false_or_eq_true (decide (((r : Nat) : Int) < ((n : Nat) : Int))) with hb59 | hb59
           · have hb59' := of_decide_eq_true hb59
             refine seq_do (v := .bool true) hA rfl rfl rfl (does_bin rfl rfl (fun w => (bin_lss w).trans (by rw [hb59]))) ?_
             intro a hA
             refine seq_end ?_
             refine hK58 _ _ ?_
             refine wp_cond_true (hA.ev rfl) ?_
             refine wp_skip ?_
             refine hK57 _ _ ?_
             refine wp_seq_k (fun K60 hK60 => ?_)
             refine wp_block ?_
             refine wp_seq_k (fun K61 hK61 => ?_)
             replace hA := hA.keep [(7, .pointer (some ⟨h, 0, none⟩)), (8, .int .i64 0), (9, .int .i64 (((n : Nat) : Int))), (13, .slice (some ⟨g19, 0, none⟩) (n + 1) (n + 1)), (14, .int .i64 (((jm + 1 : Nat) : Int))), (21, .slice (some ⟨g43, 0, none⟩) (n + 1) (n + 1)), (22, .slice lo nk lcp), (25, .int .i64 (((r : Nat) : Int)))] ⟨rfl, rfl, rfl, rfl, rfl, rfl, rfl, rfl, trivial⟩
             refine wp_region_lit ?_
             refine seq_do hA rfl rfl rfl (does_assign rfl) ?_
             intro a hA
             refine seq_end ?_
             refine hK61 _ _ ?_
             refine wp_block ?_
             replace hM := hM.b6
             replace hM := hM.b6
             replace hM := hM.b6
             replace hM := hM.b6
             replace hM := hM.b6
             replace hM := hM.b6
             replace hM := hM.b6
             refine wp_loop_n (fun m_ a w1 => ∃ (j : Nat) (b1 : List Bool), m_ = 1 + (n - j) ∧ (j ≤ n ∧ Rn1 oz bs b1 ∧ Dn oz bs b1 j ∧ b1.length = n + 1) ∧ Sl a 348 [(7, .pointer (some ⟨h, 0, none⟩)), (8, .int .i64 0), (9, .int .i64 (((n : Nat) : Int))), (13, .slice (some ⟨g19, 0, none⟩) (n + 1) (n + 1)), (14, .int .i64 (((jm + 1 : Nat) : Int))), (21, .slice (some ⟨g43, 0, none⟩) (n + 1) (n + 1)), (22, .slice lo nk lcp), (25, .int .i64 (((r : Nat) : Int))), (26, .int .i64 (((j + 1 : Nat) : Int)))] ∧ Mg w w1 (.obj h (.cells #[.map (some m), .int .i64 (((n : Nat) : Int)), .int .i64 (((600 : Nat) : Int)), .slice sg ([(us, 600 - us)].length) sc, .int .i64 (((900 : Nat) : Int)), .slice lg ([(ul, 900 - ul)].length) lc] 73) :: .obj m (mapO (oz.map Ob.en) n) :: .row 96 2 (.slice sg ([(us, 600 - us)].length) sc) ([(us, 600 - us)].length) (gapC [(us, 600 - us)]) :: .row 96 2 (.slice lg ([(ul, 900 - ul)].length) lc) ([(ul, 900 - ul)].length) (gapC [(ul, 900 - ul)]) :: .row 59 1 (.slice (some ⟨g19, 0, none⟩) (n + 1) (n + 1)) (n + 1) (slR n mz) :: .row 4 1 (.slice (some ⟨g43, 0, none⟩) (n + 1) (n + 1)) (n + 1) (boolC b1) :: .row 3 1 (.slice lo nk lcp) nk (intC rs) :: (oz.map Ob.row ++ (mz.map Ob.row ++ [])))) _ ⟨0, bs, rfl, ⟨Nat.zero_le _, Rn1.start oz bs, (fun j o hj => absurd hj (Nat.not_lt_zero _)), hbsl⟩, hA.keep _ ⟨rfl, rfl, rfl, rfl, rfl, rfl, rfl, rfl, rfl, trivial⟩, hM⟩ ?_
             clear hM hA
             rintro m_ a w62 ⟨j, b1, rfl, hinv64, hA, hM⟩ K63 hK63
             obtain ⟨hj0, hN1, hD1, hb1⟩ := hinv64
             refine wp_seq_k (fun K65 hK65 => ?_)
             refine wp_seq_k (fun K66 hK66 => ?_)
             refine wp_region_lit ?_
             refine seq_do hA rfl rfl rfl (does_move rfl) ?_
             intro a hA
             refine seq_do hA rfl rfl rfl (does_move rfl) ?_
             intro a hA
             rcases Bool.eq_false_or_eq_true (decide (((j + 1 : Nat) : Int) ≤ ((n : Nat) : Int))) with hb67 | hb67
             · have hb67' := of_decide_eq_true hb67
               refine seq_do (v := .bool true) hA rfl rfl rfl (does_bin rfl rfl (fun w => (bin_leq w).trans (by rw [hb67]))) ?_
               intro a hA
               refine seq_end ?_
               refine hK66 _ _ ?_
               refine wp_cond_true (hA.ev rfl) ?_
               refine wp_skip ?_
               refine hK65 _ _ ?_
               refine wp_seq_k (fun K68 hK68 => ?_)
               refine wp_block ?_
               refine wp_seq_k (fun K69 hK69 => ?_)
               replace hA := hA.keep [(7, .pointer (some ⟨h, 0, none⟩)), (8, .int .i64 0), (9, .int .i64 (((n : Nat) : Int))), (13, .slice (some ⟨g19, 0, none⟩) (n + 1) (n + 1)), (14, .int .i64 (((jm + 1 : Nat) : Int))), (21, .slice (some ⟨g43, 0, none⟩) (n + 1) (n + 1)), (22, .slice lo nk lcp), (25, .int .i64 (((r : Nat) : Int))), (26, .int .i64 (((j + 1 : Nat) : Int)))] ⟨rfl, rfl, rfl, rfl, rfl, rfl, rfl, rfl, rfl, trivial⟩
               refine wp_region_lit ?_
               refine seq_do hA rfl rfl rfl (does_assign rfl) ?_
               intro a hA
               refine seq_end ?_
               refine hK69 _ _ ?_
               refine wp_block ?_
               obtain ⟨o, ho⟩ : ∃ o, oz[j]? = some o := ⟨_, List.getElem?_eq_getElem (show j < oz.length by omega)⟩
               obtain ⟨mq, hmq⟩ : ∃ mq, mz[j]? = some mq := ⟨_, List.getElem?_eq_getElem (show j < mz.length by omega)⟩
               have hom := List.mem_of_getElem? ho
               have hmqm := List.mem_of_getElem? hmq
               have hqo : mq.ws = o.ws := ws_same hmw hmq ho
               have hqs : mq.ws.length = o.ws.length := by rw [hqo]
               have hsz := hm2.siz o hom
               replace hM := hM.b6
               replace hM := hM.b6
               replace hM := hM.b6
               replace hM := hM.b6
               replace hM := hM.b6
               replace hM := hM.b6
               replace hM := hM.b6
               refine wp_loop_n (fun m_ a w1 => ∃ (k : Nat) (b2 : List Bool), m_ = 1 + (o.ws.length - k) ∧ (Rn1 oz bs b2 ∧ Dn oz bs b2 j ∧ k ≤ o.ws.length ∧ b2.length = n + 1 ∧ (k = 0 ∨ On b2 (j + 1)) ∧ ∀ y : Int, (y, true) ∈ o.ws.take k → On b2 y.toNat) ∧ Sl a 348 [(7, .pointer (some ⟨h, 0, none⟩)), (8, .int .i64 0), (9, .int .i64 (((n : Nat) : Int))), (13, .slice (some ⟨g19, 0, none⟩) (n + 1) (n + 1)), (14, .int .i64 (((jm + 1 : Nat) : Int))), (21, .slice (some ⟨g43, 0, none⟩) (n + 1) (n + 1)), (22, .slice lo nk lcp), (25, .int .i64 (((r : Nat) : Int))), (26, .int .i64 (((j + 1 : Nat) : Int))), (27, .int .i64 (((k : Nat) : Int)))] ∧ Mg w w1 (.obj h (.cells #[.map (some m), .int .i64 (((n : Nat) : Int)), .int .i64 (((600 : Nat) : Int)), .slice sg ([(us, 600 - us)].length) sc, .int .i64 (((900 : Nat) : Int)), .slice lg ([(ul, 900 - ul)].length) lc] 73) :: .obj m (mapO (oz.map Ob.en) n) :: .row 96 2 (.slice sg ([(us, 600 - us)].length) sc) ([(us, 600 - us)].length) (gapC [(us, 600 - us)]) :: .row 96 2 (.slice lg ([(ul, 900 - ul)].length) lc) ([(ul, 900 - ul)].length) (gapC [(ul, 900 - ul)]) :: .row 59 1 (.slice (some ⟨g19, 0, none⟩) (n + 1) (n + 1)) (n + 1) (slR n mz) :: .row 4 1 (.slice (some ⟨g43, 0, none⟩) (n + 1) (n + 1)) (n + 1) (boolC b2) :: .row 3 1 (.slice lo nk lcp) nk (intC rs) :: (oz.map Ob.row ++ (mz.map Ob.row ++ [])))) _ ⟨0, b1, rfl, ⟨hN1, hD1, Nat.zero_le _, hb1, .inl rfl, fun y hy => by simp at hy⟩, hA.keep _ ⟨rfl, rfl, rfl, rfl, rfl, rfl, rfl, rfl, rfl, rfl, trivial⟩, hM⟩ ?_
               clear hM hA
               rintro m_ a w70 ⟨k, b2, rfl, hinv72, hA, hM⟩ K71 hK71
               obtain ⟨hN, hD, hk0, hb2, hk1, hK⟩ := hinv72
               refine wp_seq_k (fun K73 hK73 => ?_)
               refine wp_seq_k (fun K74 hK74 => ?_)
               obtain ⟨bx, hbx⟩ : ∃ bx, b2[j + 1]? = some bx := ⟨_, List.getElem?_eq_getElem (show j + 1 < b2.length by omega)⟩
               refine wp_region_lit ?_
               refine seq_do hA rfl rfl rfl (does_move rfl) ?_
               intro a hA
               refine seq_do hA rfl rfl rfl (does_move rfl) ?_
               intro a hA
               refine seq_do (v := .pointer (some ⟨g43, (j + 1) * 1, none⟩)) hA rfl rfl rfl (does_indexE (k := j + 1) Try.underlying61 (by kernel_rfl) rfl rfl rfl (by omega)) ?_
               intro a hA
               refine seq_do (v := .bool bx) hA rfl rfl rfl (m_loadE hM 5 rfl (by rw [Nat.mul_one]; exact boolC_at hbx) HbM_is1_4 rfl) ?_
               intro a hA
               refine seq_do hA rfl rfl rfl (does_move rfl) ?_
               intro a hA
               rcases bx with _ | _
               · refine seq_skip hA rfl rfl rfl ?_
                 intro a hA
                 refine seq_skip hA rfl rfl rfl ?_
                 intro a hA
                 refine seq_skip hA rfl rfl rfl ?_
                 intro a hA
                 refine seq_skip hA rfl rfl rfl ?_
                 intro a hA
                 refine seq_skip hA rfl rfl rfl ?_
                 intro a hA
                 refine seq_skip hA rfl rfl rfl ?_
                 intro a hA
                 refine seq_skip hA rfl rfl rfl ?_
                 intro a hA
                 refine seq_do (v := .bool false) hA rfl rfl rfl (does_pick rfl rfl rfl rfl) ?_
                 intro a hA
                 refine seq_end ?_
                 refine hK74 _ _ ?_
                 refine wp_cond_false (hA.ev rfl) ?_
                 refine wp_exit ?_
                 refine hK68 _ _ ?_
                 replace hA := hA.keep [(7, .pointer (some ⟨h, 0, none⟩)), (8, .int .i64 0), (9, .int .i64 (((n : Nat) : Int))), (13, .slice (some ⟨g19, 0, none⟩) (n + 1) (n + 1)), (14, .int .i64 (((jm + 1 : Nat) : Int))), (21, .slice (some ⟨g43, 0, none⟩) (n + 1) (n + 1)), (22, .slice lo nk lcp), (25, .int .i64 (((r : Nat) : Int))), (26, .int .i64 (((j + 1 : Nat) : Int))), (27, .int .i64 (((k : Nat) : Int)))] ⟨rfl, rfl, rfl, rfl, rfl, rfl, rfl, rfl, rfl, rfl, trivial⟩
                 refine wp_region_lit ?_
                 refine seq_do hA rfl rfl rfl (does_move rfl) ?_
                 intro a hA
                 refine seq_do (v := .int .i64 (((j + 1 + 1 : Nat) : Int))) hA rfl rfl rfl (does_bin rfl rfl (ar_add ((in_i64 (by omega) (by omega)).trans (by omega)))) ?_
                 intro a hA
                 refine seq_do hA rfl rfl rfl (does_assign rfl) ?_
                 intro a hA
                 refine seq_end ?_
                 replace hM := hM.b6
                 replace hM := hM.b6
                 replace hM := hM.b6
                 replace hM := hM.b6
                 replace hM := hM.b6
                 replace hM := hM.b6
                 replace hM := hM.b6
                 refine hK63 _ _ _ (by omega) ⟨j + 1, b2, rfl, ⟨by omega, hN, hD.skip hN (by unfold On; rw [hbx]; simp), hb2⟩, hA.keep _ ⟨rfl, rfl, rfl, rfl, rfl, rfl, rfl, rfl, rfl, trivial⟩, hM⟩
               · refine seq_do hA rfl rfl rfl (does_move rfl) ?_
                 intro a hA
                 refine seq_do hA rfl rfl rfl (does_move rfl) ?_
                 intro a hA
                 refine seq_do hA rfl rfl rfl (does_move rfl) ?_
                 intro a hA
                 refine seq_do (v := .pointer (some ⟨g19, (j + 1) * 1, none⟩)) hA rfl rfl rfl (does_indexE (k := j + 1) Try.underlying58 (by kernel_rfl) rfl rfl rfl (by omega)) ?_
                 intro a hA
                 refine seq_do (v := .slice (some ⟨mq.g, 0, none⟩) mq.ws.length mq.c) hA rfl rfl rfl (m_loadE hM 4 rfl (by rw [Nat.mul_one]; exact slR_at hmq) HbM_is1_59 rfl) ?_
                 intro a hA
                 refine seq_do (v := .int .i64 (((mq.ws.length : Nat) : Int))) hA rfl rfl rfl (does_len Try.underlying59 rfl) ?_
                 intro a hA
                 rcases Bool.eq_false_or_eq_true (decide (((k : Nat) : Int) < ((mq.ws.length : Nat) : Int))) with hb75 | hb75
                 · have hb75' := of_decide_eq_true hb75
                   refine seq_do (v := .bool true) hA rfl rfl rfl (does_bin rfl rfl (fun w => (bin_lss w).trans (by rw [hb75]))) ?_
                   intro a hA
                   refine seq_do (v := .bool true) hA rfl rfl rfl (does_pick rfl rfl rfl rfl) ?_
                   intro a hA
                   refine seq_end ?_
                   refine hK74 _ _ ?_
                   refine wp_cond_true (hA.ev rfl) ?_
                   refine wp_skip ?_
                   refine hK73 _ _ ?_
                   refine wp_seq_k (fun K76 hK76 => ?_)
                   refine wp_block ?_
                   refine wp_seq_k (fun K77 hK77 => ?_)
                   replace hA := hA.keep [(7, .pointer (some ⟨h, 0, none⟩)), (8, .int .i64 0), (9, .int .i64 (((n : Nat) : Int))), (13, .slice (some ⟨g19, 0, none⟩) (n + 1) (n + 1)), (14, .int .i64 (((jm + 1 : Nat) : Int))), (21, .slice (some ⟨g43, 0, none⟩) (n + 1) (n + 1)), (22, .slice lo nk lcp), (25, .int .i64 (((r : Nat) : Int))), (26, .int .i64 (((j + 1 : Nat) : Int))), (27, .int .i64 (((k : Nat) : Int)))] ⟨rfl, rfl, rfl, rfl, rfl, rfl, rfl, rfl, rfl, rfl, trivial⟩
                   obtain ⟨c1, c2, hmc⟩ : ∃ c1 c2, mq.ws[k]? = some (c1, c2) := ⟨_, _, List.getElem?_eq_getElem (show k < mq.ws.length by omega)⟩
                   have hoc : o.ws[k]? = some (c1, c2) := by rw [← hqo]; exact hmc
                   refine wp_region_lit ?_
                   refine seq_do hA rfl rfl rfl (does_move rfl) ?_
                   intro a hA
                   refine seq_do hA rfl rfl rfl (does_move rfl) ?_
                   intro a hA
                   refine seq_do (v := .pointer (some ⟨g19, (j + 1) * 1, none⟩)) hA rfl rfl rfl (does_indexE (k := j + 1) Try.underlying58 (by kernel_rfl) rfl rfl rfl (by omega)) ?_
                   intro a hA
                   refine seq_do (v := .slice (some ⟨mq.g, 0, none⟩) mq.ws.length mq.c) hA rfl rfl rfl (m_loadE hM 4 rfl (by rw [Nat.mul_one]; exact slR_at hmq) HbM_is1_59 rfl) ?_
                   intro a hA
                   refine seq_do hA rfl rfl rfl (does_move rfl) ?_
                   intro a hA
                   refine seq_do (v := .pointer (some ⟨mq.g, k * 2, none⟩)) hA rfl rfl rfl (does_indexE (k := k) Try.underlying59 (by kernel_rfl) rfl rfl rfl (by omega)) ?_
                   intro a hA
                   refine seq_do (v := .pointer (some ⟨mq.g, k * 2 + 1, none⟩)) hA rfl rfl rfl (does_field HbM_fld_32_1 rfl rfl) ?_
                   intro a hA
                   refine seq_do (v := .bool c2) hA rfl rfl rfl (m_ldW1 hM (row_in2 hmqm 7 rfl) hmc HbM_is1_4 rfl) ?_
                   intro a hA
                   refine seq_end ?_
                   refine hK77 _ _ ?_
                   refine wp_cond_split (t := c2) (hA.ev rfl) (fun hc78 => ?_) (fun hc78 => ?_)
                   · replace hA := hA.keep [(7, .pointer (some ⟨h, 0, none⟩)), (8, .int .i64 0), (9, .int .i64 (((n : Nat) : Int))), (13, .slice (some ⟨g19, 0, none⟩) (n + 1) (n + 1)), (14, .int .i64 (((jm + 1 : Nat) : Int))), (21, .slice (some ⟨g43, 0, none⟩) (n + 1) (n + 1)), (22, .slice lo nk lcp), (25, .int .i64 (((r : Nat) : Int))), (26, .int .i64 (((j + 1 : Nat) : Int))), (27, .int .i64 (((k : Nat) : Int)))] ⟨rfl, rfl, rfl, rfl, rfl, rfl, rfl, rfl, rfl, rfl, trivial⟩
                     obtain ⟨hc3, hc4⟩ := hm2.rf o hom _ (List.mem_of_getElem? hoc) hc78
                     have hc5 : c1.toNat < n + 1 := by change c1 ≤ _ at hc4; omega
                     change 1 ≤ c1 at hc3
                     refine wp_region_lit ?_
                     refine seq_do hA rfl rfl rfl (does_move rfl) ?_
                     intro a hA
                     refine seq_do hA rfl rfl rfl (does_move rfl) ?_
                     intro a hA
                     refine seq_do hA rfl rfl rfl (does_move rfl) ?_
                     intro a hA
                     refine seq_do (v := .pointer (some ⟨g19, (j + 1) * 1, none⟩)) hA rfl rfl rfl (does_indexE (k := j + 1) Try.underlying58 (by kernel_rfl) rfl rfl rfl (by omega)) ?_
                     intro a hA
                     refine seq_do (v := .slice (some ⟨mq.g, 0, none⟩) mq.ws.length mq.c) hA rfl rfl rfl (m_loadE hM 4 rfl (by rw [Nat.mul_one]; exact slR_at hmq) HbM_is1_59 rfl) ?_
                     intro a hA
                     refine seq_do hA rfl rfl rfl (does_move rfl) ?_
                     intro a hA
                     refine seq_do (v := .pointer (some ⟨mq.g, k * 2, none⟩)) hA rfl rfl rfl (does_indexE (k := k) Try.underlying59 (by kernel_rfl) rfl rfl rfl (by omega)) ?_
                     intro a hA
                     refine seq_do (v := .pointer (some ⟨mq.g, k * 2, none⟩)) hA rfl rfl rfl (does_field HbM_fld_32_0 rfl rfl) ?_
                     intro a hA
                     refine seq_do (v := .int .i64 c1) hA rfl rfl rfl (m_ldW0 hM (row_in2 hmqm 7 rfl) hmc HbM_is1_3 rfl) ?_
                     intro a hA
                     refine seq_do (v := .pointer (some ⟨g43, c1.toNat * 1, none⟩)) hA rfl rfl rfl (does_indexE (k := c1.toNat) Try.underlying61 (by kernel_rfl) rfl rfl (by omega) (by omega)) ?_
                     intro a hA
                     refine s_storeE (cs := [.bool true]) (L' := (.obj h (.cells #[.map (some m), .int .i64 (((n : Nat) : Int)), .int .i64 (((600 : Nat) : Int)), .slice sg ([(us, 600 - us)].length) sc, .int .i64 (((900 : Nat) : Int)), .slice lg ([(ul, 900 - ul)].length) lc] 73) :: .obj m (mapO (oz.map Ob.en) n) :: .row 96 2 (.slice sg ([(us, 600 - us)].length) sc) ([(us, 600 - us)].length) (gapC [(us, 600 - us)]) :: .row 96 2 (.slice lg ([(ul, 900 - ul)].length) lc) ([(ul, 900 - ul)].length) (gapC [(ul, 900 - ul)]) :: .row 59 1 (.slice (some ⟨g19, 0, none⟩) (n + 1) (n + 1)) (n + 1) (slR n mz) :: .row 4 1 (.slice (some ⟨g43, 0, none⟩) (n + 1) (n + 1)) (n + 1) (over (boolC b2) (c1.toNat * 1) [.bool true]) :: .row 3 1 (.slice lo nk lcp) nk (intC rs) :: (oz.map Ob.row ++ (mz.map Ob.row ++ [])))) (us := []) hA hM rfl rfl (m_storeE rfl rfl rfl (by kernel_rfl) hM 5 rfl (by show c1.toNat * 1 + 1 ≤ _; omega) rfl) 5 rfl rfl ?_
                     intro w79 hM
                     replace hM : Mg w w79 (.obj h (.cells #[.map (some m), .int .i64 (((n : Nat) : Int)), .int .i64 (((600 : Nat) : Int)), .slice sg ([(us, 600 - us)].length) sc, .int .i64 (((900 : Nat) : Int)), .slice lg ([(ul, 900 - ul)].length) lc] 73) :: .obj m (mapO (oz.map Ob.en) n) :: .row 96 2 (.slice sg ([(us, 600 - us)].length) sc) ([(us, 600 - us)].length) (gapC [(us, 600 - us)]) :: .row 96 2 (.slice lg ([(ul, 900 - ul)].length) lc) ([(ul, 900 - ul)].length) (gapC [(ul, 900 - ul)]) :: .row 59 1 (.slice (some ⟨g19, 0, none⟩) (n + 1) (n + 1)) (n + 1) (slR n mz) :: .row 4 1 (.slice (some ⟨g43, 0, none⟩) (n + 1) (n + 1)) (n + 1) (boolC (b2.set c1.toNat true)) :: .row 3 1 (.slice lo nk lcp) nk (intC rs) :: (oz.map Ob.row ++ (mz.map Ob.row ++ []))) := by rw [Nat.mul_one, boolC_set] at hM; exact hM
                     refine seq_end ?_
                     refine hK76 _ _ ?_
                     replace hA := hA.keep [(7, .pointer (some ⟨h, 0, none⟩)), (8, .int .i64 0), (9, .int .i64 (((n : Nat) : Int))), (13, .slice (some ⟨g19, 0, none⟩) (n + 1) (n + 1)), (14, .int .i64 (((jm + 1 : Nat) : Int))), (21, .slice (some ⟨g43, 0, none⟩) (n + 1) (n + 1)), (22, .slice lo nk lcp), (25, .int .i64 (((r : Nat) : Int))), (26, .int .i64 (((j + 1 : Nat) : Int))), (27, .int .i64 (((k : Nat) : Int)))] ⟨rfl, rfl, rfl, rfl, rfl, rfl, rfl, rfl, rfl, rfl, trivial⟩
                     refine wp_region_lit ?_
                     refine seq_do hA rfl rfl rfl (does_move rfl) ?_
                     intro a hA
                     refine seq_do (v := .int .i64 (((k + 1 : Nat) : Int))) hA rfl rfl rfl (does_bin rfl rfl (ar_add ((in_i64 (by omega) (by omega)).trans (by omega)))) ?_
                     intro a hA
                     refine seq_do hA rfl rfl rfl (does_assign rfl) ?_
                     intro a hA
                     refine seq_end ?_
                     replace hM := hM.b6
                     replace hM := hM.b6
                     replace hM := hM.b6
                     replace hM := hM.b6
                     replace hM := hM.b6
                     replace hM := hM.b6
                     replace hM := hM.b6
                     refine hK71 _ _ _ (by omega) ⟨k + 1, (b2.set c1.toNat true), rfl, ⟨hN.mark ho hbx (by rw [← hc78]; exact List.mem_of_getElem? hoc) (by omega), hD.more (by omega), by omega, by rw [List.length_set]; exact hb2, .inr ((on_set (by omega)).2 (.inr hbx)), take_on hoc (fun y hy => (on_set (by omega)).2 (.inr (hK y hy))) (fun _ => (on_set (by omega)).2 (.inl rfl))⟩, hA.keep _ ⟨rfl, rfl, rfl, rfl, rfl, rfl, rfl, rfl, rfl, rfl, trivial⟩, hM⟩
                   · refine wp_skip ?_
                     refine hK76 _ _ ?_
                     replace hA := hA.keep [(7, .pointer (some ⟨h, 0, none⟩)), (8, .int .i64 0), (9, .int .i64 (((n : Nat) : Int))), (13, .slice (some ⟨g19, 0, none⟩) (n + 1) (n + 1)), (14, .int .i64 (((jm + 1 : Nat) : Int))), (21, .slice (some ⟨g43, 0, none⟩) (n + 1) (n + 1)), (22, .slice lo nk lcp), (25, .int .i64 (((r : Nat) : Int))), (26, .int .i64 (((j + 1 : Nat) : Int))), (27, .int .i64 (((k : Nat) : Int)))] ⟨rfl, rfl, rfl, rfl, rfl, rfl, rfl, rfl, rfl, rfl, trivial⟩
                     refine wp_region_lit ?_
                     refine seq_do hA rfl rfl rfl (does_move rfl) ?_
                     intro a hA
                     refine seq_do (v := .int .i64 (((k + 1 : Nat) : Int))) hA rfl rfl rfl (does_bin rfl rfl (ar_add ((in_i64 (by omega) (by omega)).trans (by omega)))) ?_
                     intro a hA
                     refine seq_do hA rfl rfl rfl (does_assign rfl) ?_
                     intro a hA
                     refine seq_end ?_
                     replace hM := hM.b6
                     replace hM := hM.b6
                     replace hM := hM.b6
                     replace hM := hM.b6
                     replace hM := hM.b6
                     replace hM := hM.b6
                     replace hM := hM.b6
                     refine hK71 _ _ _ (by omega) ⟨k + 1, b2, rfl, ⟨hN, hD, by omega, hb2, .inr hbx, take_on hoc hK (fun q => by rw [hc78] at q; cases q)⟩, hA.keep _ ⟨rfl, rfl, rfl, rfl, rfl, rfl, rfl, rfl, rfl, rfl, trivial⟩, hM⟩
                 · have hb75' := of_decide_eq_false hb75
                   refine seq_do (v := .bool false) hA rfl rfl rfl (does_bin rfl rfl (fun w => (bin_lss w).trans (by rw [hb75]))) ?_
                   intro a hA
                   refine seq_do (v := .bool false) hA rfl rfl rfl (does_pick rfl rfl rfl rfl) ?_
                   intro a hA
                   refine seq_end ?_
                   refine hK74 _ _ ?_
                   refine wp_cond_false (hA.ev rfl) ?_
                   refine wp_exit ?_
                   refine hK68 _ _ ?_
                   replace hA := hA.keep [(7, .pointer (some ⟨h, 0, none⟩)), (8, .int .i64 0), (9, .int .i64 (((n : Nat) : Int))), (13, .slice (some ⟨g19, 0, none⟩) (n + 1) (n + 1)), (14, .int .i64 (((jm + 1 : Nat) : Int))), (21, .slice (some ⟨g43, 0, none⟩) (n + 1) (n + 1)), (22, .slice lo nk lcp), (25, .int .i64 (((r : Nat) : Int))), (26, .int .i64 (((j + 1 : Nat) : Int))), (27, .int .i64 (((k : Nat) : Int)))] ⟨rfl, rfl, rfl, rfl, rfl, rfl, rfl, rfl, rfl, rfl, trivial⟩
                   refine wp_region_lit ?_
                   refine seq_do hA rfl rfl rfl (does_move rfl) ?_
                   intro a hA
                   refine seq_do (v := .int .i64 (((j + 1 + 1 : Nat) : Int))) hA rfl rfl rfl (does_bin rfl rfl (ar_add ((in_i64 (by omega) (by omega)).trans (by omega)))) ?_
                   intro a hA
                   refine seq_do hA rfl rfl rfl (does_assign rfl) ?_
                   intro a hA
                   refine seq_end ?_
                   replace hM := hM.b6
                   replace hM := hM.b6
                   replace hM := hM.b6
                   replace hM := hM.b6
                   replace hM := hM.b6
                   replace hM := hM.b6
                   replace hM := hM.b6
                   refine hK63 _ _ _ (by omega) ⟨j + 1, b2, rfl, ⟨by omega, hN, hD.next ho (by rw [List.take_of_length_le (by omega)] at hK; exact hK), hb2⟩, hA.keep _ ⟨rfl, rfl, rfl, rfl, rfl, rfl, rfl, rfl, rfl, trivial⟩, hM⟩
             · have hb67' := of_decide_eq_false hb67
               refine seq_do (v := .bool false) hA rfl rfl rfl (does_bin rfl rfl (fun w => (bin_leq w).trans (by rw [hb67]))) ?_
               intro a hA
               refine seq_end ?_
               refine hK66 _ _ ?_
               refine wp_cond_false (hA.ev rfl) ?_
               refine wp_exit ?_
               refine hK60 _ _ ?_
               replace hA := hA.keep [(7, .pointer (some ⟨h, 0, none⟩)), (8, .int .i64 0), (9, .int .i64 (((n : Nat) : Int))), (13, .slice (some ⟨g19, 0, none⟩) (n + 1) (n + 1)), (14, .int .i64 (((jm + 1 : Nat) : Int))), (21, .slice (some ⟨g43, 0, none⟩) (n + 1) (n + 1)), (22, .slice lo nk lcp), (25, .int .i64 (((r : Nat) : Int))), (26, .int .i64 (((j + 1 : Nat) : Int)))] ⟨rfl, rfl, rfl, rfl, rfl, rfl, rfl, rfl, rfl, trivial⟩
               refine wp_region_lit ?_
               refine seq_do hA rfl rfl rfl (does_move rfl) ?_
               intro a hA
               refine seq_do (v := .int .i64 (((r + 1 : Nat) : Int))) hA rfl rfl rfl (does_bin rfl rfl (ar_add ((in_i64 (by omega) (by omega)).trans (by omega)))) ?_
               intro a hA
               refine seq_do hA rfl rfl rfl (does_assign rfl) ?_
               intro a hA
               refine seq_end ?_
               replace hM := hM.b6
               replace hM := hM.b6
               replace hM := hM.b6
               replace hM := hM.b6
               replace hM := hM.b6
               replace hM := hM.b6
               replace hM := hM.b6
               refine hK55 _ _ _ (by omega) ⟨r + 1, b1, rfl, ⟨by omega, Ro.next hm2 hR hN1 (by rw [show n = j from by omega]; exact hD1)⟩, hA.keep _ ⟨rfl, rfl, rfl, rfl, rfl, rfl, rfl, rfl, trivial⟩, hM⟩
           · have hb59' := of_decide_eq_false hb59
             refine seq_do (v := .bool false) hA rfl rfl rfl (does_bin rfl rfl (fun w => (bin_lss w).trans (by rw [hb59]))) ?_
             intro a hA
             refine seq_end ?_
             refine hK58 _ _ ?_
             refine wp_cond_false (hA.ev rfl) ?_
             refine wp_exit ?_
             refine hK52 _ _ ?_
             refine wp_seq_k (fun K80 hK80 => ?_)
             replace hA := hA.keep [(7, .pointer (some ⟨h, 0, none⟩)), (8, .int .i64 0), (9, .int .i64 (((n : Nat) : Int))), (13, .slice (some ⟨g19, 0, none⟩) (n + 1) (n + 1)), (14, .int .i64 (((jm + 1 : Nat) : Int))), (21, .slice (some ⟨g43, 0, none⟩) (n + 1) (n + 1)), (22, .slice lo nk lcp), (25, .int .i64 (((r : Nat) : Int)))] ⟨rfl, rfl, rfl, rfl, rfl, rfl, rfl, rfl, trivial⟩
             refine wp_region_lit ?_
             refine seq_do hA rfl rfl rfl (does_move rfl) ?_
             intro a hA
             refine seq_do hA rfl rfl rfl (does_move rfl) ?_
             intro a hA
             have hrn : r = n := by omega
             have hall := Ro.all hm2 (hrn ▸ hR)
             replace hM := hM.b6
             replace hM := hM.b4
             replace hM := hM.b4
             replace hM := hM.b4
             replace hM := hM.b4
             refine seq_call hA rfl rfl rfl (enters_func rfl rfl (fun w => by kernel_rfl)) (collect_n (ss := 600) (ls := 900) (X := ([.row 59 1 (.slice (some ⟨g19, 0, none⟩) (n + 1) (n + 1)) (n + 1) (slR n mz), .row 4 1 (.slice (some ⟨g43, 0, none⟩) (n + 1) (n + 1)) (n + 1) (boolC bs)] ++ (mz.map Ob.row ++ []))) hnk (nob_rows (noBld_cons (by simp) (noBld_cons (by simp) (nob_rows nob_nil mz))) oz) (hm2.num.hx hm2.len) (by have := hm2.len; omega) (fun o ho => by have := hm2.siz o ho; omega) (by rw [sum_SL]; have := hm2.ss; have := hm2.sl; omega) (by have := hm2.ss; omega) (by omega) (by omega) (fun o ho => by have := hm2.top o ho; split at this <;> omega) hm2.refs (by omega) (fun r hr => by by_cases e : r = 0; exact .inl e; exact .inr (hm2.num.some (by have := hrr r hr; omega) (by have := hrr r hr; have := hm2.len; omega))) (hM.swapE (C := [.obj h (.cells #[.map (some m), .int .i64 (((n : Nat) : Int)), .int .i64 (((600 : Nat) : Int)), .slice sg ([(us, 600 - us)].length) sc, .int .i64 (((900 : Nat) : Int)), .slice lg ([(ul, 900 - ul)].length) lc] 73), .obj m (mapO (oz.map Ob.en) n), .row 96 2 (.slice sg ([(us, 600 - us)].length) sc) ([(us, 600 - us)].length) (gapC [(us, 600 - us)]), .row 96 2 (.slice lg ([(ul, 900 - ul)].length) lc) ([(ul, 900 - ul)].length) (gapC [(ul, 900 - ul)]), .row 3 1 (.slice lo nk lcp) nk (intC rs)]) (E := [.row 59 1 (.slice (some ⟨g19, 0, none⟩) (n + 1) (n + 1)) (n + 1) (slR n mz), .row 4 1 (.slice (some ⟨g43, 0, none⟩) (n + 1) (n + 1)) (n + 1) (boolC bs)]) (R := oz.map Ob.row) (X := (mz.map Ob.row ++ [])))) ?_
             rintro _ w82 ⟨ws, zs, zl, sg1, sc1, lg1, lc1, rfl, ⟨hV, hW, _, _, _, _⟩, hM81⟩
             replace hM : Mg w w82 (.obj h (.cells #[.map (some m), .int .i64 (((n : Nat) : Int)), .int .i64 (((600 : Nat) : Int)), .slice sg1 ((freeG 600 zs).length) sc1, .int .i64 (((900 : Nat) : Int)), .slice lg1 ((freeG 900 zl).length) lc1] 73) :: .obj m (mapO ((mvD 0 (stay ws oz)).map Ob.en) n) :: .row 96 2 (.slice sg1 ((freeG 600 zs).length) sc1) ((freeG 600 zs).length) (gapC (freeG 600 zs)) :: .row 96 2 (.slice lg1 ((freeG 900 zl).length) lc1) ((freeG 900 zl).length) (gapC (freeG 900 zl)) :: .row 3 1 (.slice lo nk lcp) nk (intC rs) :: .row 59 1 (.slice (some ⟨g19, 0, none⟩) (n + 1) (n + 1)) (n + 1) (slR n mz) :: .row 4 1 (.slice (some ⟨g43, 0, none⟩) (n + 1) (n + 1)) (n + 1) (boolC bs) :: ((mvD 0 (stay ws oz)).map Ob.row ++ (mz.map Ob.row ++ []))) := (Mg.stays (C := [.obj h (.cells #[.map (some m), .int .i64 (((n : Nat) : Int)), .int .i64 (((600 : Nat) : Int)), .slice sg1 ((freeG 600 zs).length) sc1, .int .i64 (((900 : Nat) : Int)), .slice lg1 ((freeG 900 zl).length) lc1] 73), .obj m (mapO ((mvD 0 (stay ws oz)).map Ob.en) n), .row 96 2 (.slice sg1 ((freeG 600 zs).length) sc1) ((freeG 600 zs).length) (gapC (freeG 600 zs)), .row 96 2 (.slice lg1 ((freeG 900 zl).length) lc1) ((freeG 900 zl).length) (gapC (freeG 900 zl)), .row 3 1 (.slice lo nk lcp) nk (intC rs), .row 59 1 (.slice (some ⟨g19, 0, none⟩) (n + 1) (n + 1)) (n + 1) (slR n mz), .row 4 1 (.slice (some ⟨g43, 0, none⟩) (n + 1) (n + 1)) (n + 1) (boolC bs)]) ws (hM81.swapE (C := [.obj h (.cells #[.map (some m), .int .i64 (((n : Nat) : Int)), .int .i64 (((600 : Nat) : Int)), .slice sg1 ((freeG 600 zs).length) sc1, .int .i64 (((900 : Nat) : Int)), .slice lg1 ((freeG 900 zl).length) lc1] 73), .obj m (mapO ((mvD 0 (stay ws oz)).map Ob.en) n), .row 96 2 (.slice sg1 ((freeG 600 zs).length) sc1) ((freeG 600 zs).length) (gapC (freeG 600 zs)), .row 96 2 (.slice lg1 ((freeG 900 zl).length) lc1) ((freeG 900 zl).length) (gapC (freeG 900 zl)), .row 3 1 (.slice lo nk lcp) nk (intC rs)]) (E := oz.map Ob.row) (R := [.row 59 1 (.slice (some ⟨g19, 0, none⟩) (n + 1) (n + 1)) (n + 1) (slR n mz), .row 4 1 (.slice (some ⟨g43, 0, none⟩) (n + 1) (n + 1)) (n + 1) (boolC bs)]) (X := (mz.map Ob.row ++ []))))
             refine ⟨_, rfl, ?_⟩
             intro a hA
             refine seq_do hA rfl rfl rfl (does_move rfl) ?_
             intro a hA
             refine seq_do (v := .int .i64 (((sumW (went ws oz) : Nat) : Int))) hA rfl rfl rfl (does_extract (vs := [.int .i64 (((sumW (went ws oz) : Nat) : Int)), .int .i64 0]) rfl rfl) ?_
             intro a hA
             refine seq_do (v := .int .i64 0) hA rfl rfl rfl (does_extract (vs := [.int .i64 (((sumW (went ws oz) : Nat) : Int)), .int .i64 0]) rfl rfl) ?_
             intro a hA
             refine seq_do hA rfl rfl rfl (does_assign rfl) ?_
             intro a hA
             refine seq_end ?_
             refine hK80 _ _ ?_
             refine wp_seq_k (fun K83 hK83 => ?_)
             refine wp_seq_k (fun K84 hK84 => ?_)
             replace hA := hA.keep [(7, .pointer (some ⟨h, 0, none⟩)), (8, .int .i64 0), (9, .int .i64 (((n : Nat) : Int))), (13, .slice (some ⟨g19, 0, none⟩) (n + 1) (n + 1)), (14, .int .i64 (((jm + 1 : Nat) : Int))), (21, .slice (some ⟨g43, 0, none⟩) (n + 1) (n + 1)), (22, .slice lo nk lcp), (25, .int .i64 (((r : Nat) : Int)))] ⟨rfl, rfl, rfl, rfl, rfl, rfl, rfl, rfl, trivial⟩
             refine wp_region_lit ?_
             refine seq_do hA rfl rfl rfl (does_move rfl) ?_
             intro a hA
             refine seq_do (v := .bool false) hA rfl rfl rfl (does_bin rfl rfl (fun w => by kernel_rfl)) ?_
             intro a hA
             refine seq_end ?_
             refine hK84 _ _ ?_
             refine wp_cond_false (hA.ev rfl) ?_
             refine wp_skip ?_
             refine hK83 _ _ ?_
             refine wp_seq_k (fun K85 hK85 => ?_)
             replace hA := hA.keep [(7, .pointer (some ⟨h, 0, none⟩)), (8, .int .i64 0), (9, .int .i64 (((n : Nat) : Int))), (13, .slice (some ⟨g19, 0, none⟩) (n + 1) (n + 1)), (14, .int .i64 (((jm + 1 : Nat) : Int))), (21, .slice (some ⟨g43, 0, none⟩) (n + 1) (n + 1)), (22, .slice lo nk lcp), (25, .int .i64 (((r : Nat) : Int)))] ⟨rfl, rfl, rfl, rfl, rfl, rfl, rfl, rfl, trivial⟩
             have hJ86 : ∀ a w1, (∃ (gu : Nat) (ga : Nat) (gb : Nat), Sl a 348 [(7, .pointer (some ⟨h, 0, none⟩)), (8, .int .i64 0), (9, .int .i64 (((n : Nat) : Int))), (13, .slice (some ⟨g19, 0, none⟩) (n + 1) (n + 1)), (14, .int .i64 (((jm + 1 : Nat) : Int))), (21, .slice (some ⟨g43, 0, none⟩) (n + 1) (n + 1)), (22, .slice lo nk lcp), (25, .int .i64 (((r : Nat) : Int))), (28, .pointer (some ⟨gu, 0, none⟩))] ∧ Mg w w1 (.obj h (.cells #[.map (some m), .int .i64 (((n : Nat) : Int)), .int .i64 (((600 : Nat) : Int)), .slice sg1 ((freeG 600 zs).length) sc1, .int .i64 (((900 : Nat) : Int)), .slice lg1 ((freeG 900 zl).length) lc1] 73) :: .obj m (mapO ((mvD 0 (stay ws oz)).map Ob.en) n) :: .row 96 2 (.slice sg1 ((freeG 600 zs).length) sc1) ((freeG 600 zs).length) (gapC (freeG 600 zs)) :: .row 96 2 (.slice lg1 ((freeG 900 zl).length) lc1) ((freeG 900 zl).length) (gapC (freeG 900 zl)) :: .row 59 1 (.slice (some ⟨g19, 0, none⟩) (n + 1) (n + 1)) (n + 1) (slR n mz) :: .row 4 1 (.slice (some ⟨g43, 0, none⟩) (n + 1) (n + 1)) (n + 1) (boolC bs) :: .obj gu (.cells #[.slice (some ⟨ga, 0, none⟩) 600 600, .slice (some ⟨gb, 0, none⟩) 900 900] 62) :: .row 4 1 (.slice (some ⟨ga, 0, none⟩) 600 600) 600 (boolC (List.replicate 600 false)) :: .row 4 1 (.slice (some ⟨gb, 0, none⟩) 900 900) 900 (boolC (List.replicate 900 false)) :: ((mvD 0 (stay ws oz)).map Ob.row ++ (mz.map Ob.row ++ [])))) → K85 a w1 := by
               clear hA hM
               rintro a w87 ⟨gu, ga, gb, hA, hM⟩
               refine hK85 _ _ ?_
               refine wp_seq_k (fun K88 hK88 => ?_)
               refine wp_seq_k (fun K89 hK89 => ?_)
               refine wp_region_lit ?_
               refine seq_do hA rfl rfl rfl (does_assign rfl) ?_
               intro a hA
               refine seq_end ?_
               refine hK89 _ _ ?_
               refine wp_block ?_
               have hr2 : Rise (mvD 0 (stay ws oz)) := (((hm2.num.hx hm2.len).sub List.filter_sublist).mvD 0).rise
               replace hM := hM.b8
               replace hM := hM.b8
               replace hM := hM.b8
               replace hM := hM.b8
               replace hM := hM.b8
               replace hM := hM.b8
               replace hM := hM.b8
               replace hM := hM.b8
               replace hM := hM.b8
               refine wp_loop_n (fun m_ a w1 => ∃ (j : Nat) (uS : List Bool) (uL : List Bool), m_ = 1 + (n - j) ∧ (j ≤ n ∧ uS.length = 600 ∧ uL.length = 900 ∧ Us (mvD 0 (stay ws oz)) (j + 1) false uS ∧ Us (mvD 0 (stay ws oz)) (j + 1) true uL) ∧ Sl a 348 [(7, .pointer (some ⟨h, 0, none⟩)), (8, .int .i64 0), (9, .int .i64 (((n : Nat) : Int))), (13, .slice (some ⟨g19, 0, none⟩) (n + 1) (n + 1)), (14, .int .i64 (((jm + 1 : Nat) : Int))), (21, .slice (some ⟨g43, 0, none⟩) (n + 1) (n + 1)), (22, .slice lo nk lcp), (25, .int .i64 (((r : Nat) : Int))), (28, .pointer (some ⟨gu, 0, none⟩)), (29, .int .i64 (((j + 1 : Nat) : Int)))] ∧ Mg w w1 (.obj h (.cells #[.map (some m), .int .i64 (((n : Nat) : Int)), .int .i64 (((600 : Nat) : Int)), .slice sg1 ((freeG 600 zs).length) sc1, .int .i64 (((900 : Nat) : Int)), .slice lg1 ((freeG 900 zl).length) lc1] 73) :: .obj m (mapO ((mvD 0 (stay ws oz)).map Ob.en) n) :: .row 96 2 (.slice sg1 ((freeG 600 zs).length) sc1) ((freeG 600 zs).length) (gapC (freeG 600 zs)) :: .row 96 2 (.slice lg1 ((freeG 900 zl).length) lc1) ((freeG 900 zl).length) (gapC (freeG 900 zl)) :: .row 59 1 (.slice (some ⟨g19, 0, none⟩) (n + 1) (n + 1)) (n + 1) (slR n mz) :: .row 4 1 (.slice (some ⟨g43, 0, none⟩) (n + 1) (n + 1)) (n + 1) (boolC bs) :: .obj gu (.cells #[.slice (some ⟨ga, 0, none⟩) 600 600, .slice (some ⟨gb, 0, none⟩) 900 900] 62) :: .row 4 1 (.slice (some ⟨ga, 0, none⟩) 600 600) 600 (boolC uS) :: .row 4 1 (.slice (some ⟨gb, 0, none⟩) 900 900) 900 (boolC uL) :: ((mvD 0 (stay ws oz)).map Ob.row ++ (mz.map Ob.row ++ [])))) _ ⟨0, (List.replicate 600 false), (List.replicate 900 false), rfl, ⟨Nat.zero_le _, by simp, by simp, us_start _ _ _ _, us_start _ _ _ _⟩, hA.keep _ ⟨rfl, rfl, rfl, rfl, rfl, rfl, rfl, rfl, rfl, rfl, trivial⟩, hM⟩ ?_
               clear hM hA
               rintro m_ a w90 ⟨j, uS, uL, rfl, hinv92, hA, hM⟩ K91 hK91
               obtain ⟨hj0, hu6, hu9, hUS, hUL⟩ := hinv92
               refine wp_seq_k (fun K93 hK93 => ?_)
               refine wp_seq_k (fun K94 hK94 => ?_)
               refine wp_region_lit ?_
               refine seq_do hA rfl rfl rfl (does_move rfl) ?_
               intro a hA
               refine seq_do hA rfl rfl rfl (does_move rfl) ?_
               intro a hA
               rcases Bool.eq_false_or_eq_true (decide (((j + 1 : Nat) : Int) ≤ ((n : Nat) : Int))) with hb95 | hb95
               · have hb95' := of_decide_eq_true hb95
                 refine seq_do (v := .bool true) hA rfl rfl rfl (does_bin rfl rfl (fun w => (bin_leq w).trans (by rw [hb95]))) ?_
                 intro a hA
                 refine seq_end ?_
                 refine hK94 _ _ ?_
                 refine wp_cond_true (hA.ev rfl) ?_
                 refine wp_skip ?_
                 refine hK93 _ _ ?_
                 refine wp_seq_k (fun K96 hK96 => ?_)
                 refine wp_block ?_
                 refine wp_seq_k (fun K97 hK97 => ?_)
                 replace hA := hA.keep [(7, .pointer (some ⟨h, 0, none⟩)), (8, .int .i64 0), (9, .int .i64 (((n : Nat) : Int))), (13, .slice (some ⟨g19, 0, none⟩) (n + 1) (n + 1)), (14, .int .i64 (((jm + 1 : Nat) : Int))), (21, .slice (some ⟨g43, 0, none⟩) (n + 1) (n + 1)), (22, .slice lo nk lcp), (25, .int .i64 (((r : Nat) : Int))), (28, .pointer (some ⟨gu, 0, none⟩)), (29, .int .i64 (((j + 1 : Nat) : Int)))] ⟨rfl, rfl, rfl, rfl, rfl, rfl, rfl, rfl, rfl, rfl, trivial⟩
                 obtain ⟨o, ho⟩ : ∃ o, oz[j]? = some o := ⟨_, List.getElem?_eq_getElem (show j < oz.length by omega)⟩
                 obtain ⟨mq, hmq⟩ : ∃ mq, mz[j]? = some mq := ⟨_, List.getElem?_eq_getElem (show j < mz.length by omega)⟩
                 have hom := List.mem_of_getElem? ho
                 have hmqm := List.mem_of_getElem? hmq
                 have hqo : mq.ws = o.ws := ws_same hmw hmq ho
                 have hsz := hm2.siz o hom
                 refine wp_region_lit ?_
                 refine seq_do hA rfl rfl rfl (does_move rfl) ?_
                 intro a hA
                 refine seq_do hA rfl rfl rfl (does_move rfl) ?_
                 intro a hA
                 rcases Bool.eq_false_or_eq_true (decide (((j + 1 : Nat) : Int) ∈ ws)) with hb98 | hb98
                 · have hb98' := of_decide_eq_true hb98
                   obtain ⟨o2, hom2, hfo2, hx2e, hws2⟩ := hm2.find2 ho (of_decide_eq_true hb98)
                   have hsz2 := hm2.top2 o2 hom2
                   have hq2 : mq.ws = o2.ws := hqo.trans hws2.symm
                   have hql : mq.ws.length = o2.ws.length := by rw [hq2]
                   have hso : o2.ws.length = o.ws.length := by rw [hws2]
                   replace hM := hM.b3
                   replace hM := hM.b3
                   replace hM := hM.b3
                   replace hM := hM.b3
                   refine seq_call hA rfl rfl rfl (enters_func rfl rfl (fun w => by kernel_rfl)) (size_hit (X := ([.row 59 1 (.slice (some ⟨g19, 0, none⟩) (n + 1) (n + 1)) (n + 1) (slR n mz), .row 4 1 (.slice (some ⟨g43, 0, none⟩) (n + 1) (n + 1)) (n + 1) (boolC bs), .obj gu (.cells #[.slice (some ⟨ga, 0, none⟩) 600 600, .slice (some ⟨gb, 0, none⟩) 900 900] 62), .row 4 1 (.slice (some ⟨ga, 0, none⟩) 600 600) 600 (boolC uS), .row 4 1 (.slice (some ⟨gb, 0, none⟩) 900 900) 900 (boolC uL)] ++ (mz.map Ob.row ++ []))) hfo2 (hM.swapE (C := [.obj h (.cells #[.map (some m), .int .i64 (((n : Nat) : Int)), .int .i64 (((600 : Nat) : Int)), .slice sg1 ((freeG 600 zs).length) sc1, .int .i64 (((900 : Nat) : Int)), .slice lg1 ((freeG 900 zl).length) lc1] 73), .obj m (mapO ((mvD 0 (stay ws oz)).map Ob.en) n), .row 96 2 (.slice sg1 ((freeG 600 zs).length) sc1) ((freeG 600 zs).length) (gapC (freeG 600 zs)), .row 96 2 (.slice lg1 ((freeG 900 zl).length) lc1) ((freeG 900 zl).length) (gapC (freeG 900 zl))]) (E := [.row 59 1 (.slice (some ⟨g19, 0, none⟩) (n + 1) (n + 1)) (n + 1) (slR n mz), .row 4 1 (.slice (some ⟨g43, 0, none⟩) (n + 1) (n + 1)) (n + 1) (boolC bs), .obj gu (.cells #[.slice (some ⟨ga, 0, none⟩) 600 600, .slice (some ⟨gb, 0, none⟩) 900 900] 62), .row 4 1 (.slice (some ⟨ga, 0, none⟩) 600 600) 600 (boolC uS), .row 4 1 (.slice (some ⟨gb, 0, none⟩) 900 900) 900 (boolC uL)]) (R := (mvD 0 (stay ws oz)).map Ob.row) (X := (mz.map Ob.row ++ [])))) ?_
                   rintro _ w100 ⟨rfl, hM99⟩
                   replace hM : Mg w w100 (.obj h (.cells #[.map (some m), .int .i64 (((n : Nat) : Int)), .int .i64 (((600 : Nat) : Int)), .slice sg1 ((freeG 600 zs).length) sc1, .int .i64 (((900 : Nat) : Int)), .slice lg1 ((freeG 900 zl).length) lc1] 73) :: .obj m (mapO ((mvD 0 (stay ws oz)).map Ob.en) n) :: .row 96 2 (.slice sg1 ((freeG 600 zs).length) sc1) ((freeG 600 zs).length) (gapC (freeG 600 zs)) :: .row 96 2 (.slice lg1 ((freeG 900 zl).length) lc1) ((freeG 900 zl).length) (gapC (freeG 900 zl)) :: .row 59 1 (.slice (some ⟨g19, 0, none⟩) (n + 1) (n + 1)) (n + 1) (slR n mz) :: .row 4 1 (.slice (some ⟨g43, 0, none⟩) (n + 1) (n + 1)) (n + 1) (boolC bs) :: .obj gu (.cells #[.slice (some ⟨ga, 0, none⟩) 600 600, .slice (some ⟨gb, 0, none⟩) 900 900] 62) :: .row 4 1 (.slice (some ⟨ga, 0, none⟩) 600 600) 600 (boolC uS) :: .row 4 1 (.slice (some ⟨gb, 0, none⟩) 900 900) 900 (boolC uL) :: ((mvD 0 (stay ws oz)).map Ob.row ++ (mz.map Ob.row ++ []))) := (hM99.swapE (C := [.obj h (.cells #[.map (some m), .int .i64 (((n : Nat) : Int)), .int .i64 (((600 : Nat) : Int)), .slice sg1 ((freeG 600 zs).length) sc1, .int .i64 (((900 : Nat) : Int)), .slice lg1 ((freeG 900 zl).length) lc1] 73), .obj m (mapO ((mvD 0 (stay ws oz)).map Ob.en) n), .row 96 2 (.slice sg1 ((freeG 600 zs).length) sc1) ((freeG 600 zs).length) (gapC (freeG 600 zs)), .row 96 2 (.slice lg1 ((freeG 900 zl).length) lc1) ((freeG 900 zl).length) (gapC (freeG 900 zl))]) (E := (mvD 0 (stay ws oz)).map Ob.row) (R := [.row 59 1 (.slice (some ⟨g19, 0, none⟩) (n + 1) (n + 1)) (n + 1) (slR n mz), .row 4 1 (.slice (some ⟨g43, 0, none⟩) (n + 1) (n + 1)) (n + 1) (boolC bs), .obj gu (.cells #[.slice (some ⟨ga, 0, none⟩) 600 600, .slice (some ⟨gb, 0, none⟩) 900 900] 62), .row 4 1 (.slice (some ⟨ga, 0, none⟩) 600 600) 600 (boolC uS), .row 4 1 (.slice (some ⟨gb, 0, none⟩) 900 900) 900 (boolC uL)]) (X := (mz.map Ob.row ++ [])))
                   refine ⟨_, rfl, ?_⟩
                   intro a hA
                   refine seq_do hA rfl rfl rfl (does_move rfl) ?_
                   intro a hA
                   refine seq_do (v := .int .i64 (((o2.ws.length : Nat) : Int))) hA rfl rfl rfl (does_extract (vs := [.int .i64 (((o2.ws.length : Nat) : Int)), .int .i64 0]) rfl rfl) ?_
                   intro a hA
                   refine seq_do (v := .int .i64 0) hA rfl rfl rfl (does_extract (vs := [.int .i64 (((o2.ws.length : Nat) : Int)), .int .i64 0]) rfl rfl) ?_
                   intro a hA
                   refine seq_do hA rfl rfl rfl (does_assign rfl) ?_
                   intro a hA
                   refine seq_do hA rfl rfl rfl (does_assign rfl) ?_
                   intro a hA
                   refine seq_end ?_
                   refine hK97 _ _ ?_
                   refine wp_seq_k (fun K101 hK101 => ?_)
                   refine wp_seq_k (fun K102 hK102 => ?_)
                   replace hA := hA.keep [(7, .pointer (some ⟨h, 0, none⟩)), (8, .int .i64 0), (9, .int .i64 (((n : Nat) : Int))), (13, .slice (some ⟨g19, 0, none⟩) (n + 1) (n + 1)), (14, .int .i64 (((jm + 1 : Nat) : Int))), (21, .slice (some ⟨g43, 0, none⟩) (n + 1) (n + 1)), (22, .slice lo nk lcp), (25, .int .i64 (((r : Nat) : Int))), (28, .pointer (some ⟨gu, 0, none⟩)), (29, .int .i64 (((j + 1 : Nat) : Int))), (30, .int .i64 (((o2.ws.length : Nat) : Int))), (31, .int .i64 0)] ⟨rfl, rfl, rfl, rfl, rfl, rfl, rfl, rfl, rfl, rfl, rfl, rfl, trivial⟩
                   have hon : bs[j + 1]? = some true := mark_is hall hW (by omega) (show j + 1 < bs.length by omega) hb98
                   refine wp_region_lit ?_
                   refine seq_do hA rfl rfl rfl (does_move rfl) ?_
                   intro a hA
                   refine seq_do hA rfl rfl rfl (does_move rfl) ?_
                   intro a hA
                   refine seq_do (v := .pointer (some ⟨g43, (j + 1) * 1, none⟩)) hA rfl rfl rfl (does_indexE (k := j + 1) Try.underlying61 (by kernel_rfl) rfl rfl rfl (by omega)) ?_
                   intro a hA
                   refine seq_do (v := .bool true) hA rfl rfl rfl (m_loadE hM 5 rfl (by rw [Nat.mul_one]; exact boolC_at hon) HbM_is1_4 rfl) ?_
                   intro a hA
                   refine seq_do (v := .bool false) hA rfl rfl rfl (does_un rfl un_not) ?_
                   intro a hA
                   refine seq_end ?_
                   refine hK102 _ _ ?_
                   refine wp_cond_false (hA.ev rfl) ?_
                   refine wp_skip ?_
                   refine hK101 _ _ ?_
                   refine wp_seq_k (fun K103 hK103 => ?_)
                   replace hA := hA.keep [(7, .pointer (some ⟨h, 0, none⟩)), (8, .int .i64 0), (9, .int .i64 (((n : Nat) : Int))), (13, .slice (some ⟨g19, 0, none⟩) (n + 1) (n + 1)), (14, .int .i64 (((jm + 1 : Nat) : Int))), (21, .slice (some ⟨g43, 0, none⟩) (n + 1) (n + 1)), (22, .slice lo nk lcp), (25, .int .i64 (((r : Nat) : Int))), (28, .pointer (some ⟨gu, 0, none⟩)), (29, .int .i64 (((j + 1 : Nat) : Int))), (30, .int .i64 (((o2.ws.length : Nat) : Int))), (31, .int .i64 0)] ⟨rfl, rfl, rfl, rfl, rfl, rfl, rfl, rfl, rfl, rfl, rfl, rfl, trivial⟩
                   refine wp_region_lit ?_
                   refine seq_do hA rfl rfl rfl (does_move rfl) ?_
                   intro a hA
                   refine seq_do hA rfl rfl rfl (does_move rfl) ?_
                   intro a hA
                   replace hM := hM.b3
                   replace hM := hM.b3
                   replace hM := hM.b3
                   replace hM := hM.b3
                   refine seq_call hA rfl rfl rfl (enters_func rfl rfl (fun w => by kernel_rfl)) (place_hit (X := ([.row 59 1 (.slice (some ⟨g19, 0, none⟩) (n + 1) (n + 1)) (n + 1) (slR n mz), .row 4 1 (.slice (some ⟨g43, 0, none⟩) (n + 1) (n + 1)) (n + 1) (boolC bs), .obj gu (.cells #[.slice (some ⟨ga, 0, none⟩) 600 600, .slice (some ⟨gb, 0, none⟩) 900 900] 62), .row 4 1 (.slice (some ⟨ga, 0, none⟩) 600 600) 600 (boolC uS), .row 4 1 (.slice (some ⟨gb, 0, none⟩) 900 900) 900 (boolC uL)] ++ (mz.map Ob.row ++ []))) hfo2 (hM.swapE (C := [.obj h (.cells #[.map (some m), .int .i64 (((n : Nat) : Int)), .int .i64 (((600 : Nat) : Int)), .slice sg1 ((freeG 600 zs).length) sc1, .int .i64 (((900 : Nat) : Int)), .slice lg1 ((freeG 900 zl).length) lc1] 73), .obj m (mapO ((mvD 0 (stay ws oz)).map Ob.en) n), .row 96 2 (.slice sg1 ((freeG 600 zs).length) sc1) ((freeG 600 zs).length) (gapC (freeG 600 zs)), .row 96 2 (.slice lg1 ((freeG 900 zl).length) lc1) ((freeG 900 zl).length) (gapC (freeG 900 zl))]) (E := [.row 59 1 (.slice (some ⟨g19, 0, none⟩) (n + 1) (n + 1)) (n + 1) (slR n mz), .row 4 1 (.slice (some ⟨g43, 0, none⟩) (n + 1) (n + 1)) (n + 1) (boolC bs), .obj gu (.cells #[.slice (some ⟨ga, 0, none⟩) 600 600, .slice (some ⟨gb, 0, none⟩) 900 900] 62), .row 4 1 (.slice (some ⟨ga, 0, none⟩) 600 600) 600 (boolC uS), .row 4 1 (.slice (some ⟨gb, 0, none⟩) 900 900) 900 (boolC uL)]) (R := (mvD 0 (stay ws oz)).map Ob.row) (X := (mz.map Ob.row ++ [])))) ?_
                   rintro _ w105 ⟨rfl, hM104⟩
                   replace hM : Mg w w105 (.obj h (.cells #[.map (some m), .int .i64 (((n : Nat) : Int)), .int .i64 (((600 : Nat) : Int)), .slice sg1 ((freeG 600 zs).length) sc1, .int .i64 (((900 : Nat) : Int)), .slice lg1 ((freeG 900 zl).length) lc1] 73) :: .obj m (mapO ((mvD 0 (stay ws oz)).map Ob.en) n) :: .row 96 2 (.slice sg1 ((freeG 600 zs).length) sc1) ((freeG 600 zs).length) (gapC (freeG 600 zs)) :: .row 96 2 (.slice lg1 ((freeG 900 zl).length) lc1) ((freeG 900 zl).length) (gapC (freeG 900 zl)) :: .row 59 1 (.slice (some ⟨g19, 0, none⟩) (n + 1) (n + 1)) (n + 1) (slR n mz) :: .row 4 1 (.slice (some ⟨g43, 0, none⟩) (n + 1) (n + 1)) (n + 1) (boolC bs) :: .obj gu (.cells #[.slice (some ⟨ga, 0, none⟩) 600 600, .slice (some ⟨gb, 0, none⟩) 900 900] 62) :: .row 4 1 (.slice (some ⟨ga, 0, none⟩) 600 600) 600 (boolC uS) :: .row 4 1 (.slice (some ⟨gb, 0, none⟩) 900 900) 900 (boolC uL) :: ((mvD 0 (stay ws oz)).map Ob.row ++ (mz.map Ob.row ++ []))) := (hM104.swapE (C := [.obj h (.cells #[.map (some m), .int .i64 (((n : Nat) : Int)), .int .i64 (((600 : Nat) : Int)), .slice sg1 ((freeG 600 zs).length) sc1, .int .i64 (((900 : Nat) : Int)), .slice lg1 ((freeG 900 zl).length) lc1] 73), .obj m (mapO ((mvD 0 (stay ws oz)).map Ob.en) n), .row 96 2 (.slice sg1 ((freeG 600 zs).length) sc1) ((freeG 600 zs).length) (gapC (freeG 600 zs)), .row 96 2 (.slice lg1 ((freeG 900 zl).length) lc1) ((freeG 900 zl).length) (gapC (freeG 900 zl))]) (E := (mvD 0 (stay ws oz)).map Ob.row) (R := [.row 59 1 (.slice (some ⟨g19, 0, none⟩) (n + 1) (n + 1)) (n + 1) (slR n mz), .row 4 1 (.slice (some ⟨g43, 0, none⟩) (n + 1) (n + 1)) (n + 1) (boolC bs), .obj gu (.cells #[.slice (some ⟨ga, 0, none⟩) 600 600, .slice (some ⟨gb, 0, none⟩) 900 900] 62), .row 4 1 (.slice (some ⟨ga, 0, none⟩) 600 600) 600 (boolC uS), .row 4 1 (.slice (some ⟨gb, 0, none⟩) 900 900) 900 (boolC uL)]) (X := (mz.map Ob.row ++ [])))
                   refine ⟨_, rfl, ?_⟩
                   intro a hA
                   refine seq_do hA rfl rfl rfl (does_move rfl) ?_
                   intro a hA
                   refine seq_do (v := .int .i64 (((o2.p : Nat) : Int))) hA rfl rfl rfl (does_extract (vs := [.int .i64 (((o2.p : Nat) : Int)), .int .i64 0]) rfl rfl) ?_
                   intro a hA
                   refine seq_do (v := .int .i64 0) hA rfl rfl rfl (does_extract (vs := [.int .i64 (((o2.p : Nat) : Int)), .int .i64 0]) rfl rfl) ?_
                   intro a hA
                   refine seq_do hA rfl rfl rfl (does_assign rfl) ?_
                   intro a hA
                   refine seq_do hA rfl rfl rfl (does_assign rfl) ?_
                   intro a hA
                   refine seq_end ?_
                   refine hK103 _ _ ?_
                   refine wp_seq_k (fun K106 hK106 => ?_)
                   replace hA := hA.keep [(7, .pointer (some ⟨h, 0, none⟩)), (8, .int .i64 0), (9, .int .i64 (((n : Nat) : Int))), (13, .slice (some ⟨g19, 0, none⟩) (n + 1) (n + 1)), (14, .int .i64 (((jm + 1 : Nat) : Int))), (21, .slice (some ⟨g43, 0, none⟩) (n + 1) (n + 1)), (22, .slice lo nk lcp), (25, .int .i64 (((r : Nat) : Int))), (28, .pointer (some ⟨gu, 0, none⟩)), (29, .int .i64 (((j + 1 : Nat) : Int))), (30, .int .i64 (((o2.ws.length : Nat) : Int))), (31, .int .i64 0), (32, .int .i64 (((o2.p : Nat) : Int))), (33, .int .i64 0)] ⟨rfl, rfl, rfl, rfl, rfl, rfl, rfl, rfl, rfl, rfl, rfl, rfl, rfl, rfl, trivial⟩
                   refine wp_region_lit ?_
                   refine seq_do hA rfl rfl rfl (does_assign rfl) ?_
                   intro a hA
                   refine seq_end ?_
                   refine hK106 _ _ ?_
                   refine wp_seq_k (fun K107 hK107 => ?_)
                   refine wp_seq_k (fun K108 hK108 => ?_)
                   refine wp_region_lit ?_
                   refine seq_do hA rfl rfl rfl (does_move rfl) ?_
                   intro a hA
                   rcases Bool.eq_false_or_eq_true (decide (16 < ((o2.ws.length : Nat) : Int))) with hb109 | hb109
                   · have hb109' := of_decide_eq_true hb109
                     refine seq_do (v := .bool true) hA rfl rfl rfl (does_bin rfl rfl (fun w => (bin_gtr w).trans (by rw [hb109]))) ?_
                     intro a hA
                     refine seq_end ?_
                     refine hK108 _ _ ?_
                     refine wp_cond_true (hA.ev rfl) ?_
                     replace hA := hA.keep [(7, .pointer (some ⟨h, 0, none⟩)), (8, .int .i64 0), (9, .int .i64 (((n : Nat) : Int))), (13, .slice (some ⟨g19, 0, none⟩) (n + 1) (n + 1)), (14, .int .i64 (((jm + 1 : Nat) : Int))), (21, .slice (some ⟨g43, 0, none⟩) (n + 1) (n + 1)), (22, .slice lo nk lcp), (25, .int .i64 (((r : Nat) : Int))), (28, .pointer (some ⟨gu, 0, none⟩)), (29, .int .i64 (((j + 1 : Nat) : Int))), (30, .int .i64 (((o2.ws.length : Nat) : Int))), (31, .int .i64 0), (32, .int .i64 (((o2.p : Nat) : Int))), (33, .int .i64 0), (34, .int .i64 0)] ⟨rfl, rfl, rfl, rfl, rfl, rfl, rfl, rfl, rfl, rfl, rfl, rfl, rfl, rfl, rfl, trivial⟩
                     refine wp_region_lit ?_
                     refine seq_do hA rfl rfl rfl (does_assign rfl) ?_
                     intro a hA
                     refine seq_end ?_
                     refine hK107 _ _ ?_
                     refine wp_seq_k (fun K110 hK110 => ?_)
                     refine wp_seq_k (fun K111 hK111 => ?_)
                     refine wp_region_lit ?_
                     refine seq_do hA rfl rfl rfl (does_move rfl) ?_
                     intro a hA
                     refine seq_do (v := .bool false) hA rfl rfl rfl (does_bin rfl rfl (fun w => by kernel_rfl)) ?_
                     intro a hA
                     refine seq_do hA rfl rfl rfl (does_move rfl) ?_
                     intro a hA
                     refine seq_do hA rfl rfl rfl (does_move rfl) ?_
                     intro a hA
                     refine seq_do (v := .bool false) hA rfl rfl rfl (does_bin rfl rfl (fun w => by kernel_rfl)) ?_
                     intro a hA
                     refine seq_do (v := .bool false) hA rfl rfl rfl (does_pick rfl rfl rfl rfl) ?_
                     intro a hA
                     refine seq_do hA rfl rfl rfl (does_move rfl) ?_
                     intro a hA
                     refine seq_do hA rfl rfl rfl (does_move rfl) ?_
                     intro a hA
                     refine seq_do hA rfl rfl rfl (does_move rfl) ?_
                     intro a hA
                     refine seq_do hA rfl rfl rfl (does_move rfl) ?_
                     intro a hA
                     refine seq_do (v := .pointer (some ⟨g19, (j + 1) * 1, none⟩)) hA rfl rfl rfl (does_indexE (k := j + 1) Try.underlying58 (by kernel_rfl) rfl rfl rfl (by omega)) ?_
                     intro a hA
                     refine seq_do (v := .slice (some ⟨mq.g, 0, none⟩) mq.ws.length mq.c) hA rfl rfl rfl (m_loadE hM 4 rfl (by rw [Nat.mul_one]; exact slR_at hmq) HbM_is1_59 rfl) ?_
                     intro a hA
                     refine seq_do (v := .int .i64 (((mq.ws.length : Nat) : Int))) hA rfl rfl rfl (does_len Try.underlying59 rfl) ?_
                     intro a hA
                     refine seq_do (v := .bool false) hA rfl rfl rfl (does_bin rfl rfl (fun w => (bin_neq w).trans (by rw [show ((((o2.ws.length : Nat) : Int) != ((mq.ws.length : Nat) : Int))) = false from (by rw [hql]; simp)]))) ?_
                     intro a hA
                     refine seq_do (v := .bool false) hA rfl rfl rfl (does_pick rfl rfl rfl rfl) ?_
                     intro a hA
                     refine seq_do hA rfl rfl rfl (does_move rfl) ?_
                     intro a hA
                     refine seq_do hA rfl rfl rfl (does_move rfl) ?_
                     intro a hA
                     refine seq_do (v := .bool false) hA rfl rfl rfl (does_bin rfl rfl (fun w => (bin_lss w).trans (by rw [show (decide (((o2.p : Nat) : Int) < 0)) = false from (decide_eq_false (by omega))]))) ?_
                     intro a hA
                     refine seq_do (v := .bool false) hA rfl rfl rfl (does_pick rfl rfl rfl rfl) ?_
                     intro a hA
                     refine seq_do hA rfl rfl rfl (does_move rfl) ?_
                     intro a hA
                     refine seq_do hA rfl rfl rfl (does_move rfl) ?_
                     intro a hA
                     refine seq_do hA rfl rfl rfl (does_move rfl) ?_
                     intro a hA
                     refine seq_do (v := .pointer (some ⟨gu, 1, none⟩)) hA rfl rfl rfl (does_ixA2 rfl rfl (fun w => by kernel_rfl)) ?_
                     intro a hA
                     refine seq_do hA rfl rfl rfl (m_load1 hM HbM_is1_61 rfl 6 rfl rfl) ?_
                     intro a hA
                     refine seq_do (v := .int .i64 900) hA rfl rfl rfl (does_len Try.underlying61 rfl) ?_
                     intro a hA
                     refine seq_do hA rfl rfl rfl (does_move rfl) ?_
                     intro a hA
                     refine seq_do (v := .int .i64 (((900 - o2.ws.length : Nat) : Int))) hA rfl rfl rfl (does_bin rfl rfl (ar_sub ((in_i64 (by omega) (by omega)).trans (by omega)))) ?_
                     intro a hA
                     refine seq_do (v := .bool false) hA rfl rfl rfl (does_bin rfl rfl (fun w => (bin_gtr w).trans (by rw [show (decide (((900 - o2.ws.length : Nat) : Int) < ((o2.p : Nat) : Int))) = false from (decide_eq_false (by have hbg0 : big o2 = true := hb109; rw [hbg0] at hsz2; simp at hsz2; omega))]))) ?_
                     intro a hA
                     refine seq_do (v := .bool false) hA rfl rfl rfl (does_pick rfl rfl rfl rfl) ?_
                     intro a hA
                     refine seq_end ?_
                     refine hK111 _ _ ?_
                     refine wp_cond_false (hA.ev rfl) ?_
                     refine wp_skip ?_
                     refine hK110 _ _ ?_
                     refine wp_seq_k (fun K112 hK112 => ?_)
                     replace hA := hA.keep [(7, .pointer (some ⟨h, 0, none⟩)), (8, .int .i64 0), (9, .int .i64 (((n : Nat) : Int))), (13, .slice (some ⟨g19, 0, none⟩) (n + 1) (n + 1)), (14, .int .i64 (((jm + 1 : Nat) : Int))), (21, .slice (some ⟨g43, 0, none⟩) (n + 1) (n + 1)), (22, .slice lo nk lcp), (25, .int .i64 (((r : Nat) : Int))), (28, .pointer (some ⟨gu, 0, none⟩)), (29, .int .i64 (((j + 1 : Nat) : Int))), (30, .int .i64 (((o2.ws.length : Nat) : Int))), (31, .int .i64 0), (32, .int .i64 (((o2.p : Nat) : Int))), (33, .int .i64 0), (34, .int .i64 1)] ⟨rfl, rfl, rfl, rfl, rfl, rfl, rfl, rfl, rfl, rfl, rfl, rfl, rfl, rfl, rfl, trivial⟩
                     refine wp_region_lit ?_
                     refine seq_do hA rfl rfl rfl (does_assign rfl) ?_
                     intro a hA
                     refine seq_end ?_
                     refine hK112 _ _ ?_
                     refine wp_block ?_
                     have hbg : big o2 = true := hb109
                     replace hM := hM.b8
                     replace hM := hM.b8
                     replace hM := hM.b8
                     replace hM := hM.b8
                     replace hM := hM.b8
                     replace hM := hM.b8
                     replace hM := hM.b8
                     replace hM := hM.b8
                     replace hM := hM.b8
                     refine wp_loop_n (fun m_ a w1 => ∃ (k : Nat) (u1 : List Bool), m_ = 1 + (o2.ws.length - k) ∧ (k ≤ o2.ws.length ∧ u1.length = 900 ∧ ∀ y, On u1 y → Cov (mvD 0 (stay ws oz)) (j + 1) true y ∨ (o2.p ≤ y ∧ y < o2.p + k)) ∧ Sl a 348 [(7, .pointer (some ⟨h, 0, none⟩)), (8, .int .i64 0), (9, .int .i64 (((n : Nat) : Int))), (13, .slice (some ⟨g19, 0, none⟩) (n + 1) (n + 1)), (14, .int .i64 (((jm + 1 : Nat) : Int))), (21, .slice (some ⟨g43, 0, none⟩) (n + 1) (n + 1)), (22, .slice lo nk lcp), (25, .int .i64 (((r : Nat) : Int))), (28, .pointer (some ⟨gu, 0, none⟩)), (29, .int .i64 (((j + 1 : Nat) : Int))), (30, .int .i64 (((o2.ws.length : Nat) : Int))), (31, .int .i64 0), (32, .int .i64 (((o2.p : Nat) : Int))), (33, .int .i64 0), (34, .int .i64 1), (35, .int .i64 (((k : Nat) : Int)))] ∧ Mg w w1 (.obj h (.cells #[.map (some m), .int .i64 (((n : Nat) : Int)), .int .i64 (((600 : Nat) : Int)), .slice sg1 ((freeG 600 zs).length) sc1, .int .i64 (((900 : Nat) : Int)), .slice lg1 ((freeG 900 zl).length) lc1] 73) :: .obj m (mapO ((mvD 0 (stay ws oz)).map Ob.en) n) :: .row 96 2 (.slice sg1 ((freeG 600 zs).length) sc1) ((freeG 600 zs).length) (gapC (freeG 600 zs)) :: .row 96 2 (.slice lg1 ((freeG 900 zl).length) lc1) ((freeG 900 zl).length) (gapC (freeG 900 zl)) :: .row 59 1 (.slice (some ⟨g19, 0, none⟩) (n + 1) (n + 1)) (n + 1) (slR n mz) :: .row 4 1 (.slice (some ⟨g43, 0, none⟩) (n + 1) (n + 1)) (n + 1) (boolC bs) :: .obj gu (.cells #[.slice (some ⟨ga, 0, none⟩) 600 600, .slice (some ⟨gb, 0, none⟩) 900 900] 62) :: .row 4 1 (.slice (some ⟨ga, 0, none⟩) 600 600) 600 (boolC uS) :: .row 4 1 (.slice (some ⟨gb, 0, none⟩) 900 900) 900 (boolC u1) :: ((mvD 0 (stay ws oz)).map Ob.row ++ (mz.map Ob.row ++ [])))) _ ⟨0, uL, rfl, ⟨Nat.zero_le _, hu9, fun y hy => .inl (hUL y hy)⟩, hA.keep _ ⟨rfl, rfl, rfl, rfl, rfl, rfl, rfl, rfl, rfl, rfl, rfl, rfl, rfl, rfl, rfl, rfl, trivial⟩, hM⟩ ?_
                     clear hM hA
                     rintro m_ a w113 ⟨k, u1, rfl, hinv115, hA, hM⟩ K114 hK114
                     obtain ⟨hk0, hu1, hU⟩ := hinv115
                     have hsz3 := hsz2
                     rw [hbg] at hsz3
                     simp at hsz3
                     refine wp_seq_k (fun K116 hK116 => ?_)
                     refine wp_seq_k (fun K117 hK117 => ?_)
                     refine wp_region_lit ?_
                     refine seq_do hA rfl rfl rfl (does_move rfl) ?_
                     intro a hA
                     refine seq_do hA rfl rfl rfl (does_move rfl) ?_
                     intro a hA
                     rcases Bool.eq_false_or_eq_true (decide (((k : Nat) : Int) < ((o2.ws.length : Nat) : Int))) with hb118 | hb118
                     · have hb118' := of_decide_eq_true hb118
                       refine seq_do (v := .bool true) hA rfl rfl rfl (does_bin rfl rfl (fun w => (bin_lss w).trans (by rw [hb118]))) ?_
                       intro a hA
                       refine seq_end ?_
                       refine hK117 _ _ ?_
                       refine wp_cond_true (hA.ev rfl) ?_
                       refine wp_skip ?_
                       refine hK116 _ _ ?_
                       refine wp_seq_k (fun K119 hK119 => ?_)
                       refine wp_block ?_
                       refine wp_seq_k (fun K120 hK120 => ?_)
                       replace hA := hA.keep [(7, .pointer (some ⟨h, 0, none⟩)), (8, .int .i64 0), (9, .int .i64 (((n : Nat) : Int))), (13, .slice (some ⟨g19, 0, none⟩) (n + 1) (n + 1)), (14, .int .i64 (((jm + 1 : Nat) : Int))), (21, .slice (some ⟨g43, 0, none⟩) (n + 1) (n + 1)), (22, .slice lo nk lcp), (25, .int .i64 (((r : Nat) : Int))), (28, .pointer (some ⟨gu, 0, none⟩)), (29, .int .i64 (((j + 1 : Nat) : Int))), (30, .int .i64 (((o2.ws.length : Nat) : Int))), (31, .int .i64 0), (32, .int .i64 (((o2.p : Nat) : Int))), (33, .int .i64 0), (34, .int .i64 1), (35, .int .i64 (((k : Nat) : Int)))] ⟨rfl, rfl, rfl, rfl, rfl, rfl, rfl, rfl, rfl, rfl, rfl, rfl, rfl, rfl, rfl, rfl, trivial⟩
                       refine wp_region_lit ?_
                       refine seq_do hA rfl rfl rfl (does_move rfl) ?_
                       intro a hA
                       refine seq_do hA rfl rfl rfl (does_move rfl) ?_
                       intro a hA
                       refine seq_do hA rfl rfl rfl (does_move rfl) ?_
                       intro a hA
                       obtain ⟨c1, c2, hmc⟩ : ∃ c1 c2, mq.ws[k]? = some (c1, c2) := ⟨_, _, List.getElem?_eq_getElem (show k < mq.ws.length by omega)⟩
                       have hoc : o2.ws[k]? = some (c1, c2) := by rw [← hq2]; exact hmc
                       replace hM := hM.b3
                       replace hM := hM.b3
                       replace hM := hM.b3
                       replace hM := hM.b3
                       refine seq_call hA rfl rfl rfl (enters_func rfl rfl (fun w => by kernel_rfl)) (get_hit (X := ([.row 59 1 (.slice (some ⟨g19, 0, none⟩) (n + 1) (n + 1)) (n + 1) (slR n mz), .row 4 1 (.slice (some ⟨g43, 0, none⟩) (n + 1) (n + 1)) (n + 1) (boolC bs), .obj gu (.cells #[.slice (some ⟨ga, 0, none⟩) 600 600, .slice (some ⟨gb, 0, none⟩) 900 900] 62), .row 4 1 (.slice (some ⟨ga, 0, none⟩) 600 600) 600 (boolC uS), .row 4 1 (.slice (some ⟨gb, 0, none⟩) 900 900) 900 (boolC u1)] ++ (mz.map Ob.row ++ []))) hfo2 rfl hoc (hM.swapE (C := [.obj h (.cells #[.map (some m), .int .i64 (((n : Nat) : Int)), .int .i64 (((600 : Nat) : Int)), .slice sg1 ((freeG 600 zs).length) sc1, .int .i64 (((900 : Nat) : Int)), .slice lg1 ((freeG 900 zl).length) lc1] 73), .obj m (mapO ((mvD 0 (stay ws oz)).map Ob.en) n), .row 96 2 (.slice sg1 ((freeG 600 zs).length) sc1) ((freeG 600 zs).length) (gapC (freeG 600 zs)), .row 96 2 (.slice lg1 ((freeG 900 zl).length) lc1) ((freeG 900 zl).length) (gapC (freeG 900 zl))]) (E := [.row 59 1 (.slice (some ⟨g19, 0, none⟩) (n + 1) (n + 1)) (n + 1) (slR n mz), .row 4 1 (.slice (some ⟨g43, 0, none⟩) (n + 1) (n + 1)) (n + 1) (boolC bs), .obj gu (.cells #[.slice (some ⟨ga, 0, none⟩) 600 600, .slice (some ⟨gb, 0, none⟩) 900 900] 62), .row 4 1 (.slice (some ⟨ga, 0, none⟩) 600 600) 600 (boolC uS), .row 4 1 (.slice (some ⟨gb, 0, none⟩) 900 900) 900 (boolC u1)]) (R := (mvD 0 (stay ws oz)).map Ob.row) (X := (mz.map Ob.row ++ [])))) ?_
                       rintro _ w122 ⟨rfl, hM121⟩
                       replace hM : Mg w w122 (.obj h (.cells #[.map (some m), .int .i64 (((n : Nat) : Int)), .int .i64 (((600 : Nat) : Int)), .slice sg1 ((freeG 600 zs).length) sc1, .int .i64 (((900 : Nat) : Int)), .slice lg1 ((freeG 900 zl).length) lc1] 73) :: .obj m (mapO ((mvD 0 (stay ws oz)).map Ob.en) n) :: .row 96 2 (.slice sg1 ((freeG 600 zs).length) sc1) ((freeG 600 zs).length) (gapC (freeG 600 zs)) :: .row 96 2 (.slice lg1 ((freeG 900 zl).length) lc1) ((freeG 900 zl).length) (gapC (freeG 900 zl)) :: .row 59 1 (.slice (some ⟨g19, 0, none⟩) (n + 1) (n + 1)) (n + 1) (slR n mz) :: .row 4 1 (.slice (some ⟨g43, 0, none⟩) (n + 1) (n + 1)) (n + 1) (boolC bs) :: .obj gu (.cells #[.slice (some ⟨ga, 0, none⟩) 600 600, .slice (some ⟨gb, 0, none⟩) 900 900] 62) :: .row 4 1 (.slice (some ⟨ga, 0, none⟩) 600 600) 600 (boolC uS) :: .row 4 1 (.slice (some ⟨gb, 0, none⟩) 900 900) 900 (boolC u1) :: ((mvD 0 (stay ws oz)).map Ob.row ++ (mz.map Ob.row ++ []))) := (hM121.swapE (C := [.obj h (.cells #[.map (some m), .int .i64 (((n : Nat) : Int)), .int .i64 (((600 : Nat) : Int)), .slice sg1 ((freeG 600 zs).length) sc1, .int .i64 (((900 : Nat) : Int)), .slice lg1 ((freeG 900 zl).length) lc1] 73), .obj m (mapO ((mvD 0 (stay ws oz)).map Ob.en) n), .row 96 2 (.slice sg1 ((freeG 600 zs).length) sc1) ((freeG 600 zs).length) (gapC (freeG 600 zs)), .row 96 2 (.slice lg1 ((freeG 900 zl).length) lc1) ((freeG 900 zl).length) (gapC (freeG 900 zl))]) (E := (mvD 0 (stay ws oz)).map Ob.row) (R := [.row 59 1 (.slice (some ⟨g19, 0, none⟩) (n + 1) (n + 1)) (n + 1) (slR n mz), .row 4 1 (.slice (some ⟨g43, 0, none⟩) (n + 1) (n + 1)) (n + 1) (boolC bs), .obj gu (.cells #[.slice (some ⟨ga, 0, none⟩) 600 600, .slice (some ⟨gb, 0, none⟩) 900 900] 62), .row 4 1 (.slice (some ⟨ga, 0, none⟩) 600 600) 600 (boolC uS), .row 4 1 (.slice (some ⟨gb, 0, none⟩) 900 900) 900 (boolC u1)]) (X := (mz.map Ob.row ++ [])))
                       refine ⟨_, rfl, ?_⟩
                       intro a hA
                       refine seq_do hA rfl rfl rfl (does_move rfl) ?_
                       intro a hA
                       refine seq_do (v := .agg #[.int .i64 c1, .bool c2]) hA rfl rfl rfl (does_extract (vs := [.agg #[.int .i64 c1, .bool c2], .int .i64 0]) rfl rfl) ?_
                       intro a hA
                       refine seq_do (v := .int .i64 0) hA rfl rfl rfl (does_extract (vs := [.agg #[.int .i64 c1, .bool c2], .int .i64 0]) rfl rfl) ?_
                       intro a hA
                       refine s_new (vs := [.int .i64 0, .bool false]) (t := 32) hA hM rfl rfl rfl (fun g => .pointer (some ⟨g, 0, none⟩)) (does_alloc (z := .agg #[.int .i64 0, .bool false]) (by kernel_rfl) rfl) (by decide) ?_
                       intro g123 w124 hM a hA
                       refine s_store (us := [.int .i64 c1, .bool c2]) (L' := (.obj g123 (.cells #[.int .i64 c1, .bool c2] 32) :: .obj h (.cells #[.map (some m), .int .i64 (((n : Nat) : Int)), .int .i64 (((600 : Nat) : Int)), .slice sg1 ((freeG 600 zs).length) sc1, .int .i64 (((900 : Nat) : Int)), .slice lg1 ((freeG 900 zl).length) lc1] 73) :: .obj m (mapO ((mvD 0 (stay ws oz)).map Ob.en) n) :: .row 96 2 (.slice sg1 ((freeG 600 zs).length) sc1) ((freeG 600 zs).length) (gapC (freeG 600 zs)) :: .row 96 2 (.slice lg1 ((freeG 900 zl).length) lc1) ((freeG 900 zl).length) (gapC (freeG 900 zl)) :: .row 59 1 (.slice (some ⟨g19, 0, none⟩) (n + 1) (n + 1)) (n + 1) (slR n mz) :: .row 4 1 (.slice (some ⟨g43, 0, none⟩) (n + 1) (n + 1)) (n + 1) (boolC bs) :: .obj gu (.cells #[.slice (some ⟨ga, 0, none⟩) 600 600, .slice (some ⟨gb, 0, none⟩) 900 900] 62) :: .row 4 1 (.slice (some ⟨ga, 0, none⟩) 600 600) 600 (boolC uS) :: .row 4 1 (.slice (some ⟨gb, 0, none⟩) 900 900) 900 (boolC u1) :: ((mvD 0 (stay ws oz)).map Ob.row ++ (mz.map Ob.row ++ [])))) hA hM rfl rfl (m_store rfl rfl rfl (by kernel_rfl) hM 0 rfl rfl rfl) 0 rfl rfl rfl ?_
                       intro w126 hM
                       refine seq_do hA rfl rfl rfl (does_assign rfl) ?_
                       intro a hA
                       refine seq_end ?_
                       refine hK120 _ _ ?_
                       refine wp_seq_k (fun K127 hK127 => ?_)
                       refine wp_seq_k (fun K128 hK128 => ?_)
                       replace hA := hA.keep [(7, .pointer (some ⟨h, 0, none⟩)), (8, .int .i64 0), (9, .int .i64 (((n : Nat) : Int))), (13, .slice (some ⟨g19, 0, none⟩) (n + 1) (n + 1)), (14, .int .i64 (((jm + 1 : Nat) : Int))), (21, .slice (some ⟨g43, 0, none⟩) (n + 1) (n + 1)), (22, .slice lo nk lcp), (25, .int .i64 (((r : Nat) : Int))), (28, .pointer (some ⟨gu, 0, none⟩)), (29, .int .i64 (((j + 1 : Nat) : Int))), (30, .int .i64 (((o2.ws.length : Nat) : Int))), (31, .int .i64 0), (32, .int .i64 (((o2.p : Nat) : Int))), (33, .int .i64 0), (34, .int .i64 1), (35, .int .i64 (((k : Nat) : Int))), (36, .pointer (some ⟨g123, 0, none⟩)), (37, .int .i64 0)] ⟨rfl, rfl, rfl, rfl, rfl, rfl, rfl, rfl, rfl, rfl, rfl, rfl, rfl, rfl, rfl, rfl, rfl, rfl, trivial⟩
                       have huf : u1[o2.p + k]? = some false := not_on (show o2.p + k < u1.length by omega) (fun hq => (hU (o2.p + k) hq).elim (fun hv => Cov.not (j := o2.p + k) hm2.stk2 hr2 hom2 (by omega) (by omega) (by rw [hx2e, hbg]; exact hv)) (fun hv => by omega))
                       refine wp_draw (S := fun w1 => Mg w w1 (.obj g123 (.cells #[.int .i64 c1, .bool c2] 32) :: .row 59 1 (.slice (some ⟨g19, 0, none⟩) (n + 1) (n + 1)) (n + 1) (slR n mz) :: .row 4 1 (.slice (some ⟨g43, 0, none⟩) (n + 1) (n + 1)) (n + 1) (boolC bs) :: .obj gu (.cells #[.slice (some ⟨ga, 0, none⟩) 600 600, .slice (some ⟨gb, 0, none⟩) 900 900] 62) :: .row 4 1 (.slice (some ⟨ga, 0, none⟩) 600 600) 600 (boolC uS) :: .row 4 1 (.slice (some ⟨gb, 0, none⟩) 900 900) 900 (boolC u1) :: ((mvD 0 (stay ws oz)).map Ob.row ++ (mz.map Ob.row ++ [])))) (by kernel_rfl) ?_
                       replace hM := hM.drew
                       refine any_tk hA 0 rfl rfl rfl rfl hP (hM.sub (.cons_cons _ (.cons _ (.cons _ (.cons _ (.cons _ (.cons_cons _ (.cons_cons _ (.cons_cons _ (.cons_cons _ (.cons_cons _ (List.Sublist.refl _)))))))))))) (fun w1 hM => does_move rfl) ?_
                       intro a hA
                       refine any_tk (v := .bool false) hA 1 rfl rfl rfl rfl hP (hM.sub (.cons_cons _ (.cons _ (.cons _ (.cons _ (.cons _ (.cons_cons _ (.cons_cons _ (.cons_cons _ (.cons_cons _ (.cons_cons _ (List.Sublist.refl _)))))))))))) (fun w1 hM => does_bin rfl rfl (fun w => by kernel_rfl)) ?_
                       intro a hA
                       refine any_tk hA 2 rfl rfl rfl rfl hP (hM.sub (.cons_cons _ (.cons _ (.cons _ (.cons _ (.cons _ (.cons_cons _ (.cons_cons _ (.cons_cons _ (.cons_cons _ (.cons_cons _ (List.Sublist.refl _)))))))))))) (fun w1 hM => does_move rfl) ?_
                       intro a hA
                       refine any_tk hA 3 rfl rfl rfl rfl hP (hM.sub (.cons_cons _ (.cons _ (.cons _ (.cons _ (.cons _ (.cons_cons _ (.cons_cons _ (.cons_cons _ (.cons_cons _ (.cons_cons _ (List.Sublist.refl _)))))))))))) (fun w1 hM => m_loadS hM HbM_isS_32 rfl 0 rfl (cs := [.int .i64 c1, .bool c2]) rfl rfl) ?_
                       intro a hA
                       refine any_tk hA 4 rfl rfl rfl rfl hP (hM.sub (.cons_cons _ (.cons _ (.cons _ (.cons _ (.cons _ (.cons_cons _ (.cons_cons _ (.cons_cons _ (.cons_cons _ (.cons_cons _ (List.Sublist.refl _)))))))))))) (fun w1 hM => does_move rfl) ?_
                       intro a hA
                       refine any_tk hA 5 rfl rfl rfl rfl hP (hM.sub (.cons_cons _ (.cons _ (.cons _ (.cons _ (.cons _ (.cons_cons _ (.cons_cons _ (.cons_cons _ (.cons_cons _ (.cons_cons _ (List.Sublist.refl _)))))))))))) (fun w1 hM => does_move rfl) ?_
                       intro a hA
                       refine any_tk (v := .pointer (some ⟨g19, (j + 1) * 1, none⟩)) hA 6 rfl rfl rfl rfl hP (hM.sub (.cons_cons _ (.cons _ (.cons _ (.cons _ (.cons _ (.cons_cons _ (.cons_cons _ (.cons_cons _ (.cons_cons _ (.cons_cons _ (List.Sublist.refl _)))))))))))) (fun w1 hM => does_indexE (k := j + 1) Try.underlying58 (by kernel_rfl) rfl rfl rfl (by omega)) ?_
                       intro a hA
                       refine any_tk (v := .slice (some ⟨mq.g, 0, none⟩) mq.ws.length mq.c) hA 7 rfl rfl rfl rfl hP (hM.sub (.cons_cons _ (.cons _ (.cons _ (.cons _ (.cons _ (.cons_cons _ (.cons_cons _ (.cons_cons _ (.cons_cons _ (.cons_cons _ (List.Sublist.refl _)))))))))))) (fun w1 hM => m_loadE hM 1 rfl (by rw [Nat.mul_one]; exact slR_at hmq) HbM_is1_59 rfl) ?_
                       intro a hA
                       refine any_tk hA 8 rfl rfl rfl rfl hP (hM.sub (.cons_cons _ (.cons _ (.cons _ (.cons _ (.cons _ (.cons_cons _ (.cons_cons _ (.cons_cons _ (.cons_cons _ (.cons_cons _ (List.Sublist.refl _)))))))))))) (fun w1 hM => does_move rfl) ?_
                       intro a hA
                       refine any_tk (v := .pointer (some ⟨mq.g, k * 2, none⟩)) hA 9 rfl rfl rfl rfl hP (hM.sub (.cons_cons _ (.cons _ (.cons _ (.cons _ (.cons _ (.cons_cons _ (.cons_cons _ (.cons_cons _ (.cons_cons _ (.cons_cons _ (List.Sublist.refl _)))))))))))) (fun w1 hM => does_indexE (k := k) Try.underlying59 (by kernel_rfl) rfl rfl rfl (by omega)) ?_
                       intro a hA
                       refine any_tk hA 10 rfl rfl rfl rfl hP (hM.sub (.cons_cons _ (.cons _ (.cons _ (.cons _ (.cons _ (.cons_cons _ (.cons_cons _ (.cons_cons _ (.cons_cons _ (.cons_cons _ (List.Sublist.refl _)))))))))))) (fun w1 hM => m_ldW hM (row_in2 hmqm 6 rfl) hmc HbM_isS_32 rfl) ?_
                       intro a hA
                       refine any_tk (v := .bool false) hA 11 rfl rfl rfl rfl hP (hM.sub (.cons_cons _ (.cons _ (.cons _ (.cons _ (.cons _ (.cons_cons _ (.cons_cons _ (.cons_cons _ (.cons_cons _ (.cons_cons _ (List.Sublist.refl _)))))))))))) (fun w1 hM => does_bin rfl rfl (fun w => (neqC w).trans (by simp))) ?_
                       intro a hA
                       refine any_tk (v := .bool false) hA 12 rfl rfl rfl rfl hP (hM.sub (.cons_cons _ (.cons _ (.cons _ (.cons _ (.cons _ (.cons_cons _ (.cons_cons _ (.cons_cons _ (.cons_cons _ (.cons_cons _ (List.Sublist.refl _)))))))))))) (fun w1 hM => does_pick rfl rfl rfl rfl) ?_
                       intro a hA
                       refine any_tk hA 13 rfl rfl rfl rfl hP (hM.sub (.cons_cons _ (.cons _ (.cons _ (.cons _ (.cons _ (.cons_cons _ (.cons_cons _ (.cons_cons _ (.cons_cons _ (.cons_cons _ (List.Sublist.refl _)))))))))))) (fun w1 hM => does_move rfl) ?_
                       intro a hA
                       refine any_tk hA 14 rfl rfl rfl rfl hP (hM.sub (.cons_cons _ (.cons _ (.cons _ (.cons _ (.cons _ (.cons_cons _ (.cons_cons _ (.cons_cons _ (.cons_cons _ (.cons_cons _ (List.Sublist.refl _)))))))))))) (fun w1 hM => does_move rfl) ?_
                       intro a hA
                       refine any_tk (v := .pointer (some ⟨gu, 1, none⟩)) hA 15 rfl rfl rfl rfl hP (hM.sub (.cons_cons _ (.cons _ (.cons _ (.cons _ (.cons _ (.cons_cons _ (.cons_cons _ (.cons_cons _ (.cons_cons _ (.cons_cons _ (List.Sublist.refl _)))))))))))) (fun w1 hM => does_ixA2 rfl rfl (fun w => by kernel_rfl)) ?_
                       intro a hA
                       refine any_tk hA 16 rfl rfl rfl rfl hP (hM.sub (.cons_cons _ (.cons _ (.cons _ (.cons _ (.cons _ (.cons_cons _ (.cons_cons _ (.cons_cons _ (.cons_cons _ (.cons_cons _ (List.Sublist.refl _)))))))))))) (fun w1 hM => m_load1 hM HbM_is1_61 rfl 3 rfl rfl) ?_
                       intro a hA
                       refine any_tk hA 17 rfl rfl rfl rfl hP (hM.sub (.cons_cons _ (.cons _ (.cons _ (.cons _ (.cons _ (.cons_cons _ (.cons_cons _ (.cons_cons _ (.cons_cons _ (.cons_cons _ (List.Sublist.refl _)))))))))))) (fun w1 hM => does_move rfl) ?_
                       intro a hA
                       refine any_tk hA 18 rfl rfl rfl rfl hP (hM.sub (.cons_cons _ (.cons _ (.cons _ (.cons _ (.cons _ (.cons_cons _ (.cons_cons _ (.cons_cons _ (.cons_cons _ (.cons_cons _ (List.Sublist.refl _)))))))))))) (fun w1 hM => does_move rfl) ?_
                       intro a hA
                       refine any_tk (v := .int .i64 (((o2.p + k : Nat) : Int))) hA 19 rfl rfl rfl rfl hP (hM.sub (.cons_cons _ (.cons _ (.cons _ (.cons _ (.cons _ (.cons_cons _ (.cons_cons _ (.cons_cons _ (.cons_cons _ (.cons_cons _ (List.Sublist.refl _)))))))))))) (fun w1 hM => does_bin rfl rfl (ar_add ((in_i64 (by omega) (by omega)).trans (by omega)))) ?_
                       intro a hA
                       refine any_tk (v := .pointer (some ⟨gb, (o2.p + k) * 1, none⟩)) hA 20 rfl rfl rfl rfl hP (hM.sub (.cons_cons _ (.cons _ (.cons _ (.cons _ (.cons _ (.cons_cons _ (.cons_cons _ (.cons_cons _ (.cons_cons _ (.cons_cons _ (List.Sublist.refl _)))))))))))) (fun w1 hM => does_indexE (k := o2.p + k) Try.underlying61 (by kernel_rfl) rfl rfl rfl (by omega)) ?_
                       intro a hA
                       refine any_tk (v := .bool false) hA 21 rfl rfl rfl rfl hP (hM.sub (.cons_cons _ (.cons _ (.cons _ (.cons _ (.cons _ (.cons_cons _ (.cons_cons _ (.cons_cons _ (.cons_cons _ (.cons_cons _ (List.Sublist.refl _)))))))))))) (fun w1 hM => m_loadE hM 5 rfl (by rw [Nat.mul_one]; exact boolC_at huf) HbM_is1_4 rfl) ?_
                       intro a hA
                       refine any_tk (v := .bool false) hA 22 rfl rfl rfl rfl hP (hM.sub (.cons_cons _ (.cons _ (.cons _ (.cons _ (.cons _ (.cons_cons _ (.cons_cons _ (.cons_cons _ (.cons_cons _ (.cons_cons _ (List.Sublist.refl _)))))))))))) (fun w1 hM => does_pick rfl rfl rfl rfl) ?_
                       intro a hA
                       refine any_end (by kernel_rfl) ?_
                       refine hK128 _ _ ?_
                       refine wp_cond_false (hA.ev rfl) ?_
                       refine wp_skip ?_
                       refine hK127 _ _ ?_
                       replace hA := hA.keep [(7, .pointer (some ⟨h, 0, none⟩)), (8, .int .i64 0), (9, .int .i64 (((n : Nat) : Int))), (13, .slice (some ⟨g19, 0, none⟩) (n + 1) (n + 1)), (14, .int .i64 (((jm + 1 : Nat) : Int))), (21, .slice (some ⟨g43, 0, none⟩) (n + 1) (n + 1)), (22, .slice lo nk lcp), (25, .int .i64 (((r : Nat) : Int))), (28, .pointer (some ⟨gu, 0, none⟩)), (29, .int .i64 (((j + 1 : Nat) : Int))), (30, .int .i64 (((o2.ws.length : Nat) : Int))), (31, .int .i64 0), (32, .int .i64 (((o2.p : Nat) : Int))), (33, .int .i64 0), (34, .int .i64 1), (35, .int .i64 (((k : Nat) : Int))), (36, .pointer (some ⟨g123, 0, none⟩)), (37, .int .i64 0)] ⟨rfl, rfl, rfl, rfl, rfl, rfl, rfl, rfl, rfl, rfl, rfl, rfl, rfl, rfl, rfl, rfl, rfl, rfl, trivial⟩
                       refine wp_region_lit ?_
                       refine seq_do hA rfl rfl rfl (does_move rfl) ?_
                       intro a hA
                       refine seq_do (v := .pointer (some ⟨gu, 1, none⟩)) hA rfl rfl rfl (does_ixA2 rfl rfl (fun w => by kernel_rfl)) ?_
                       intro a hA
                       refine seq_do hA rfl rfl rfl (m_load1 hM HbM_is1_61 rfl 7 rfl rfl) ?_
                       intro a hA
                       refine seq_do hA rfl rfl rfl (does_move rfl) ?_
                       intro a hA
                       refine seq_do hA rfl rfl rfl (does_move rfl) ?_
                       intro a hA
                       refine seq_do (v := .int .i64 (((o2.p + k : Nat) : Int))) hA rfl rfl rfl (does_bin rfl rfl (ar_add ((in_i64 (by omega) (by omega)).trans (by omega)))) ?_
                       intro a hA
                       refine seq_do (v := .pointer (some ⟨gb, (o2.p + k) * 1, none⟩)) hA rfl rfl rfl (does_indexE (k := o2.p + k) Try.underlying61 (by kernel_rfl) rfl rfl rfl (by omega)) ?_
                       intro a hA
                       refine s_storeE (cs := [.bool true]) (L' := (.obj g123 (.cells #[.int .i64 c1, .bool c2] 32) :: .obj h (.cells #[.map (some m), .int .i64 (((n : Nat) : Int)), .int .i64 (((600 : Nat) : Int)), .slice sg1 ((freeG 600 zs).length) sc1, .int .i64 (((900 : Nat) : Int)), .slice lg1 ((freeG 900 zl).length) lc1] 73) :: .obj m (mapO ((mvD 0 (stay ws oz)).map Ob.en) n) :: .row 96 2 (.slice sg1 ((freeG 600 zs).length) sc1) ((freeG 600 zs).length) (gapC (freeG 600 zs)) :: .row 96 2 (.slice lg1 ((freeG 900 zl).length) lc1) ((freeG 900 zl).length) (gapC (freeG 900 zl)) :: .row 59 1 (.slice (some ⟨g19, 0, none⟩) (n + 1) (n + 1)) (n + 1) (slR n mz) :: .row 4 1 (.slice (some ⟨g43, 0, none⟩) (n + 1) (n + 1)) (n + 1) (boolC bs) :: .obj gu (.cells #[.slice (some ⟨ga, 0, none⟩) 600 600, .slice (some ⟨gb, 0, none⟩) 900 900] 62) :: .row 4 1 (.slice (some ⟨ga, 0, none⟩) 600 600) 600 (boolC uS) :: .row 4 1 (.slice (some ⟨gb, 0, none⟩) 900 900) 900 (over (boolC u1) ((o2.p + k) * 1) [.bool true]) :: ((mvD 0 (stay ws oz)).map Ob.row ++ (mz.map Ob.row ++ [])))) (us := []) hA hM rfl rfl (m_storeE rfl rfl rfl (by kernel_rfl) hM 9 rfl (by show (o2.p + k) * 1 + 1 ≤ _; omega) rfl) 9 rfl rfl ?_
                       intro w129 hM
                       replace hM : Mg w w129 (.obj g123 (.cells #[.int .i64 c1, .bool c2] 32) :: .obj h (.cells #[.map (some m), .int .i64 (((n : Nat) : Int)), .int .i64 (((600 : Nat) : Int)), .slice sg1 ((freeG 600 zs).length) sc1, .int .i64 (((900 : Nat) : Int)), .slice lg1 ((freeG 900 zl).length) lc1] 73) :: .obj m (mapO ((mvD 0 (stay ws oz)).map Ob.en) n) :: .row 96 2 (.slice sg1 ((freeG 600 zs).length) sc1) ((freeG 600 zs).length) (gapC (freeG 600 zs)) :: .row 96 2 (.slice lg1 ((freeG 900 zl).length) lc1) ((freeG 900 zl).length) (gapC (freeG 900 zl)) :: .row 59 1 (.slice (some ⟨g19, 0, none⟩) (n + 1) (n + 1)) (n + 1) (slR n mz) :: .row 4 1 (.slice (some ⟨g43, 0, none⟩) (n + 1) (n + 1)) (n + 1) (boolC bs) :: .obj gu (.cells #[.slice (some ⟨ga, 0, none⟩) 600 600, .slice (some ⟨gb, 0, none⟩) 900 900] 62) :: .row 4 1 (.slice (some ⟨ga, 0, none⟩) 600 600) 600 (boolC uS) :: .row 4 1 (.slice (some ⟨gb, 0, none⟩) 900 900) 900 (boolC (u1.set (o2.p + k) true)) :: ((mvD 0 (stay ws oz)).map Ob.row ++ (mz.map Ob.row ++ []))) := by rw [Nat.mul_one, boolC_set] at hM; exact hM
                       refine seq_end ?_
                       refine hK119 _ _ ?_
                       replace hA := hA.keep [(7, .pointer (some ⟨h, 0, none⟩)), (8, .int .i64 0), (9, .int .i64 (((n : Nat) : Int))), (13, .slice (some ⟨g19, 0, none⟩) (n + 1) (n + 1)), (14, .int .i64 (((jm + 1 : Nat) : Int))), (21, .slice (some ⟨g43, 0, none⟩) (n + 1) (n + 1)), (22, .slice lo nk lcp), (25, .int .i64 (((r : Nat) : Int))), (28, .pointer (some ⟨gu, 0, none⟩)), (29, .int .i64 (((j + 1 : Nat) : Int))), (30, .int .i64 (((o2.ws.length : Nat) : Int))), (31, .int .i64 0), (32, .int .i64 (((o2.p : Nat) : Int))), (33, .int .i64 0), (34, .int .i64 1), (35, .int .i64 (((k : Nat) : Int))), (36, .pointer (some ⟨g123, 0, none⟩)), (37, .int .i64 0)] ⟨rfl, rfl, rfl, rfl, rfl, rfl, rfl, rfl, rfl, rfl, rfl, rfl, rfl, rfl, rfl, rfl, rfl, rfl, trivial⟩
                       refine wp_region_lit ?_
                       refine seq_do hA rfl rfl rfl (does_move rfl) ?_
                       intro a hA
                       refine seq_do (v := .int .i64 (((k + 1 : Nat) : Int))) hA rfl rfl rfl (does_bin rfl rfl (ar_add ((in_i64 (by omega) (by omega)).trans (by omega)))) ?_
                       intro a hA
                       refine seq_do hA rfl rfl rfl (does_assign rfl) ?_
                       intro a hA
                       refine seq_end ?_
                       replace hM := hM.b9
                       replace hM := hM.b9
                       replace hM := hM.b9
                       replace hM := hM.b9
                       replace hM := hM.b9
                       replace hM := hM.b9
                       replace hM := hM.b9
                       replace hM := hM.b9
                       replace hM := hM.b9
                       replace hM : Mg w w129 (.obj h (.cells #[.map (some m), .int .i64 (((n : Nat) : Int)), .int .i64 (((600 : Nat) : Int)), .slice sg1 ((freeG 600 zs).length) sc1, .int .i64 (((900 : Nat) : Int)), .slice lg1 ((freeG 900 zl).length) lc1] 73) :: .obj m (mapO ((mvD 0 (stay ws oz)).map Ob.en) n) :: .row 96 2 (.slice sg1 ((freeG 600 zs).length) sc1) ((freeG 600 zs).length) (gapC (freeG 600 zs)) :: .row 96 2 (.slice lg1 ((freeG 900 zl).length) lc1) ((freeG 900 zl).length) (gapC (freeG 900 zl)) :: .row 59 1 (.slice (some ⟨g19, 0, none⟩) (n + 1) (n + 1)) (n + 1) (slR n mz) :: .row 4 1 (.slice (some ⟨g43, 0, none⟩) (n + 1) (n + 1)) (n + 1) (boolC bs) :: .obj gu (.cells #[.slice (some ⟨ga, 0, none⟩) 600 600, .slice (some ⟨gb, 0, none⟩) 900 900] 62) :: .row 4 1 (.slice (some ⟨ga, 0, none⟩) 600 600) 600 (boolC uS) :: .row 4 1 (.slice (some ⟨gb, 0, none⟩) 900 900) 900 (boolC (u1.set (o2.p + k) true)) :: ((mvD 0 (stay ws oz)).map Ob.row ++ (mz.map Ob.row ++ []))) := by
                         have h9 := hM.sub (.cons_cons _ (.cons_cons _ (.cons_cons _ (.cons_cons _ (.cons_cons _ (.cons_cons _ (.cons_cons _ (.cons_cons _ (.cons_cons _ (.cons _ (.refl _)))))))))))
                         exact h9
                       refine hK114 _ _ _ (by omega) ⟨k + 1, (u1.set (o2.p + k) true), rfl, ⟨by omega, by rw [List.length_set]; exact hu1, fun y hy => ((on_set (by omega)).1 hy).elim (fun hv => .inr (by omega)) (fun hv => (hU y hv).imp id (fun hq => by omega))⟩, hA.keep _ ⟨rfl, rfl, rfl, rfl, rfl, rfl, rfl, rfl, rfl, rfl, rfl, rfl, rfl, rfl, rfl, rfl, trivial⟩, hM⟩
                     · have hb118' := of_decide_eq_false hb118
                       refine seq_do (v := .bool false) hA rfl rfl rfl (does_bin rfl rfl (fun w => (bin_lss w).trans (by rw [hb118]))) ?_
                       intro a hA
                       refine seq_end ?_
                       refine hK117 _ _ ?_
                       refine wp_cond_false (hA.ev rfl) ?_
                       refine wp_exit ?_
                       refine hK96 _ _ ?_
                       replace hA := hA.keep [(7, .pointer (some ⟨h, 0, none⟩)), (8, .int .i64 0), (9, .int .i64 (((n : Nat) : Int))), (13, .slice (some ⟨g19, 0, none⟩) (n + 1) (n + 1)), (14, .int .i64 (((jm + 1 : Nat) : Int))), (21, .slice (some ⟨g43, 0, none⟩) (n + 1) (n + 1)), (22, .slice lo nk lcp), (25, .int .i64 (((r : Nat) : Int))), (28, .pointer (some ⟨gu, 0, none⟩)), (29, .int .i64 (((j + 1 : Nat) : Int))), (30, .int .i64 (((o2.ws.length : Nat) : Int))), (31, .int .i64 0), (32, .int .i64 (((o2.p : Nat) : Int))), (33, .int .i64 0), (34, .int .i64 1), (35, .int .i64 (((k : Nat) : Int)))] ⟨rfl, rfl, rfl, rfl, rfl, rfl, rfl, rfl, rfl, rfl, rfl, rfl, rfl, rfl, rfl, rfl, trivial⟩
                       refine wp_region_lit ?_
                       refine seq_do hA rfl rfl rfl (does_move rfl) ?_
                       intro a hA
                       refine seq_do (v := .int .i64 (((j + 1 + 1 : Nat) : Int))) hA rfl rfl rfl (does_bin rfl rfl (ar_add ((in_i64 (by omega) (by omega)).trans (by omega)))) ?_
                       intro a hA
                       refine seq_do hA rfl rfl rfl (does_assign rfl) ?_
                       intro a hA
                       refine seq_end ?_
                       replace hM := hM.b8
                       replace hM := hM.b8
                       replace hM := hM.b8
                       replace hM := hM.b8
                       replace hM := hM.b8
                       replace hM := hM.b8
                       replace hM := hM.b8
                       replace hM := hM.b8
                       replace hM := hM.b8
                       refine hK91 _ _ _ (by omega) ⟨j + 1, uS, u1, rfl, ⟨by omega, hu6, hu1, fun y hy => (hUS y hy).up, (fun y hy => (hU y hy).elim (fun hv => hv.up) (fun hv => ⟨o2, hom2, by omega, hbg, by omega, by omega⟩))⟩, hA.keep _ ⟨rfl, rfl, rfl, rfl, rfl, rfl, rfl, rfl, rfl, rfl, trivial⟩, hM⟩
                   · have hb109' := of_decide_eq_false hb109
                     refine seq_do (v := .bool false) hA rfl rfl rfl (does_bin rfl rfl (fun w => (bin_gtr w).trans (by rw [hb109]))) ?_
                     intro a hA
                     refine seq_end ?_
                     refine hK108 _ _ ?_
                     refine wp_cond_false (hA.ev rfl) ?_
                     refine wp_skip ?_
                     refine hK107 _ _ ?_
                     refine wp_seq_k (fun K130 hK130 => ?_)
                     refine wp_seq_k (fun K131 hK131 => ?_)
                     replace hA := hA.keep [(7, .pointer (some ⟨h, 0, none⟩)), (8, .int .i64 0), (9, .int .i64 (((n : Nat) : Int))), (13, .slice (some ⟨g19, 0, none⟩) (n + 1) (n + 1)), (14, .int .i64 (((jm + 1 : Nat) : Int))), (21, .slice (some ⟨g43, 0, none⟩) (n + 1) (n + 1)), (22, .slice lo nk lcp), (25, .int .i64 (((r : Nat) : Int))), (28, .pointer (some ⟨gu, 0, none⟩)), (29, .int .i64 (((j + 1 : Nat) : Int))), (30, .int .i64 (((o2.ws.length : Nat) : Int))), (31, .int .i64 0), (32, .int .i64 (((o2.p : Nat) : Int))), (33, .int .i64 0), (34, .int .i64 0)] ⟨rfl, rfl, rfl, rfl, rfl, rfl, rfl, rfl, rfl, rfl, rfl, rfl, rfl, rfl, rfl, trivial⟩
                     refine wp_region_lit ?_
                     refine seq_do hA rfl rfl rfl (does_move rfl) ?_
                     intro a hA
                     refine seq_do (v := .bool false) hA rfl rfl rfl (does_bin rfl rfl (fun w => by kernel_rfl)) ?_
                     intro a hA
                     refine seq_do hA rfl rfl rfl (does_move rfl) ?_
                     intro a hA
                     refine seq_do hA rfl rfl rfl (does_move rfl) ?_
                     intro a hA
                     refine seq_do (v := .bool false) hA rfl rfl rfl (does_bin rfl rfl (fun w => by kernel_rfl)) ?_
                     intro a hA
                     refine seq_do (v := .bool false) hA rfl rfl rfl (does_pick rfl rfl rfl rfl) ?_
                     intro a hA
                     refine seq_do hA rfl rfl rfl (does_move rfl) ?_
                     intro a hA
                     refine seq_do hA rfl rfl rfl (does_move rfl) ?_
                     intro a hA
                     refine seq_do hA rfl rfl rfl (does_move rfl) ?_
                     intro a hA
                     refine seq_do hA rfl rfl rfl (does_move rfl) ?_
                     intro a hA
                     refine seq_do (v := .pointer (some ⟨g19, (j + 1) * 1, none⟩)) hA rfl rfl rfl (does_indexE (k := j + 1) Try.underlying58 (by kernel_rfl) rfl rfl rfl (by omega)) ?_
                     intro a hA
                     refine seq_do (v := .slice (some ⟨mq.g, 0, none⟩) mq.ws.length mq.c) hA rfl rfl rfl (m_loadE hM 4 rfl (by rw [Nat.mul_one]; exact slR_at hmq) HbM_is1_59 rfl) ?_
                     intro a hA
                     refine seq_do (v := .int .i64 (((mq.ws.length : Nat) : Int))) hA rfl rfl rfl (does_len Try.underlying59 rfl) ?_
                     intro a hA
                     refine seq_do (v := .bool false) hA rfl rfl rfl (does_bin rfl rfl (fun w => (bin_neq w).trans (by rw [show ((((o2.ws.length : Nat) : Int) != ((mq.ws.length : Nat) : Int))) = false from (by rw [hql]; simp)]))) ?_
                     intro a hA
                     refine seq_do (v := .bool false) hA rfl rfl rfl (does_pick rfl rfl rfl rfl) ?_
                     intro a hA
                     refine seq_do hA rfl rfl rfl (does_move rfl) ?_
                     intro a hA
                     refine seq_do hA rfl rfl rfl (does_move rfl) ?_
                     intro a hA
                     refine seq_do (v := .bool false) hA rfl rfl rfl (does_bin rfl rfl (fun w => (bin_lss w).trans (by rw [show (decide (((o2.p : Nat) : Int) < 0)) = false from (decide_eq_false (by omega))]))) ?_
                     intro a hA
                     refine seq_do (v := .bool false) hA rfl rfl rfl (does_pick rfl rfl rfl rfl) ?_
                     intro a hA
                     refine seq_do hA rfl rfl rfl (does_move rfl) ?_
                     intro a hA
                     refine seq_do hA rfl rfl rfl (does_move rfl) ?_
                     intro a hA
                     refine seq_do hA rfl rfl rfl (does_move rfl) ?_
                     intro a hA
                     refine seq_do (v := .pointer (some ⟨gu, 0, none⟩)) hA rfl rfl rfl (does_ixA2 rfl rfl (fun w => by kernel_rfl)) ?_
                     intro a hA
                     refine seq_do hA rfl rfl rfl (m_load1 hM HbM_is1_61 rfl 6 rfl rfl) ?_
                     intro a hA
                     refine seq_do (v := .int .i64 600) hA rfl rfl rfl (does_len Try.underlying61 rfl) ?_
                     intro a hA
                     refine seq_do hA rfl rfl rfl (does_move rfl) ?_
                     intro a hA
                     refine seq_do (v := .int .i64 (((600 - o2.ws.length : Nat) : Int))) hA rfl rfl rfl (does_bin rfl rfl (ar_sub ((in_i64 (by omega) (by omega)).trans (by omega)))) ?_
                     intro a hA
                     refine seq_do (v := .bool false) hA rfl rfl rfl (does_bin rfl rfl (fun w => (bin_gtr w).trans (by rw [show (decide (((600 - o2.ws.length : Nat) : Int) < ((o2.p : Nat) : Int))) = false from (decide_eq_false (by have hbg0 : big o2 = false := hb109; rw [hbg0] at hsz2; simp at hsz2; omega))]))) ?_
                     intro a hA
                     refine seq_do (v := .bool false) hA rfl rfl rfl (does_pick rfl rfl rfl rfl) ?_
                     intro a hA
                     refine seq_end ?_
                     refine hK131 _ _ ?_
                     refine wp_cond_false (hA.ev rfl) ?_
                     refine wp_skip ?_
                     refine hK130 _ _ ?_
                     refine wp_seq_k (fun K132 hK132 => ?_)
                     replace hA := hA.keep [(7, .pointer (some ⟨h, 0, none⟩)), (8, .int .i64 0), (9, .int .i64 (((n : Nat) : Int))), (13, .slice (some ⟨g19, 0, none⟩) (n + 1) (n + 1)), (14, .int .i64 (((jm + 1 : Nat) : Int))), (21, .slice (some ⟨g43, 0, none⟩) (n + 1) (n + 1)), (22, .slice lo nk lcp), (25, .int .i64 (((r : Nat) : Int))), (28, .pointer (some ⟨gu, 0, none⟩)), (29, .int .i64 (((j + 1 : Nat) : Int))), (30, .int .i64 (((o2.ws.length : Nat) : Int))), (31, .int .i64 0), (32, .int .i64 (((o2.p : Nat) : Int))), (33, .int .i64 0), (34, .int .i64 0)] ⟨rfl, rfl, rfl, rfl, rfl, rfl, rfl, rfl, rfl, rfl, rfl, rfl, rfl, rfl, rfl, trivial⟩
                     refine wp_region_lit ?_
                     refine seq_do hA rfl rfl rfl (does_assign rfl) ?_
                     intro a hA
                     refine seq_end ?_
                     refine hK132 _ _ ?_
                     refine wp_block ?_
                     have hbg : big o2 = false := hb109
                     replace hM := hM.b8
                     replace hM := hM.b8
                     replace hM := hM.b8
                     replace hM := hM.b8
                     replace hM := hM.b8
                     replace hM := hM.b8
                     replace hM := hM.b8
                     replace hM := hM.b8
                     replace hM := hM.b8
                     refine wp_loop_n (fun m_ a w1 => ∃ (k : Nat) (u1 : List Bool), m_ = 1 + (o2.ws.length - k) ∧ (k ≤ o2.ws.length ∧ u1.length = 600 ∧ ∀ y, On u1 y → Cov (mvD 0 (stay ws oz)) (j + 1) false y ∨ (o2.p ≤ y ∧ y < o2.p + k)) ∧ Sl a 348 [(7, .pointer (some ⟨h, 0, none⟩)), (8, .int .i64 0), (9, .int .i64 (((n : Nat) : Int))), (13, .slice (some ⟨g19, 0, none⟩) (n + 1) (n + 1)), (14, .int .i64 (((jm + 1 : Nat) : Int))), (21, .slice (some ⟨g43, 0, none⟩) (n + 1) (n + 1)), (22, .slice lo nk lcp), (25, .int .i64 (((r : Nat) : Int))), (28, .pointer (some ⟨gu, 0, none⟩)), (29, .int .i64 (((j + 1 : Nat) : Int))), (30, .int .i64 (((o2.ws.length : Nat) : Int))), (31, .int .i64 0), (32, .int .i64 (((o2.p : Nat) : Int))), (33, .int .i64 0), (34, .int .i64 0), (35, .int .i64 (((k : Nat) : Int)))] ∧ Mg w w1 (.obj h (.cells #[.map (some m), .int .i64 (((n : Nat) : Int)), .int .i64 (((600 : Nat) : Int)), .slice sg1 ((freeG 600 zs).length) sc1, .int .i64 (((900 : Nat) : Int)), .slice lg1 ((freeG 900 zl).length) lc1] 73) :: .obj m (mapO ((mvD 0 (stay ws oz)).map Ob.en) n) :: .row 96 2 (.slice sg1 ((freeG 600 zs).length) sc1) ((freeG 600 zs).length) (gapC (freeG 600 zs)) :: .row 96 2 (.slice lg1 ((freeG 900 zl).length) lc1) ((freeG 900 zl).length) (gapC (freeG 900 zl)) :: .row 59 1 (.slice (some ⟨g19, 0, none⟩) (n + 1) (n + 1)) (n + 1) (slR n mz) :: .row 4 1 (.slice (some ⟨g43, 0, none⟩) (n + 1) (n + 1)) (n + 1) (boolC bs) :: .obj gu (.cells #[.slice (some ⟨ga, 0, none⟩) 600 600, .slice (some ⟨gb, 0, none⟩) 900 900] 62) :: .row 4 1 (.slice (some ⟨ga, 0, none⟩) 600 600) 600 (boolC u1) :: .row 4 1 (.slice (some ⟨gb, 0, none⟩) 900 900) 900 (boolC uL) :: ((mvD 0 (stay ws oz)).map Ob.row ++ (mz.map Ob.row ++ [])))) _ ⟨0, uS, rfl, ⟨Nat.zero_le _, hu6, fun y hy => .inl (hUS y hy)⟩, hA.keep _ ⟨rfl, rfl, rfl, rfl, rfl, rfl, rfl, rfl, rfl, rfl, rfl, rfl, rfl, rfl, rfl, rfl, trivial⟩, hM⟩ ?_
                     clear hM hA
                     rintro m_ a w133 ⟨k, u1, rfl, hinv135, hA, hM⟩ K134 hK134
                     obtain ⟨hk0, hu1, hU⟩ := hinv135
                     have hsz3 := hsz2
                     rw [hbg] at hsz3
                     simp at hsz3
                     refine wp_seq_k (fun K136 hK136 => ?_)
                     refine wp_seq_k (fun K137 hK137 => ?_)
                     refine wp_region_lit ?_
                     refine seq_do hA rfl rfl rfl (does_move rfl) ?_
                     intro a hA
                     refine seq_do hA rfl rfl rfl (does_move rfl) ?_
                     intro a hA
                     rcases Bool.eq_false_or_eq_true (decide (((k : Nat) : Int) < ((o2.ws.length : Nat) : Int))) with hb138 | hb138
                     · have hb138' := of_decide_eq_true hb138
                       refine seq_do (v := .bool true) hA rfl rfl rfl (does_bin rfl rfl (fun w => (bin_lss w).trans (by rw [hb138]))) ?_
                       intro a hA
                       refine seq_end ?_
                       refine hK137 _ _ ?_
                       refine wp_cond_true (hA.ev rfl) ?_
                       refine wp_skip ?_
                       refine hK136 _ _ ?_
                       refine wp_seq_k (fun K139 hK139 => ?_)
                       refine wp_block ?_
                       refine wp_seq_k (fun K140 hK140 => ?_)
                       replace hA := hA.keep [(7, .pointer (some ⟨h, 0, none⟩)), (8, .int .i64 0), (9, .int .i64 (((n : Nat) : Int))), (13, .slice (some ⟨g19, 0, none⟩) (n + 1) (n + 1)), (14, .int .i64 (((jm + 1 : Nat) : Int))), (21, .slice (some ⟨g43, 0, none⟩) (n + 1) (n + 1)), (22, .slice lo nk lcp), (25, .int .i64 (((r : Nat) : Int))), (28, .pointer (some ⟨gu, 0, none⟩)), (29, .int .i64 (((j + 1 : Nat) : Int))), (30, .int .i64 (((o2.ws.length : Nat) : Int))), (31, .int .i64 0), (32, .int .i64 (((o2.p : Nat) : Int))), (33, .int .i64 0), (34, .int .i64 0), (35, .int .i64 (((k : Nat) : Int)))] ⟨rfl, rfl, rfl, rfl, rfl, rfl, rfl, rfl, rfl, rfl, rfl, rfl, rfl, rfl, rfl, rfl, trivial⟩
                       refine wp_region_lit ?_
                       refine seq_do hA rfl rfl rfl (does_move rfl) ?_
                       intro a hA
                       refine seq_do hA rfl rfl rfl (does_move rfl) ?_
                       intro a hA
                       refine seq_do hA rfl rfl rfl (does_move rfl) ?_
                       intro a hA
                       obtain ⟨c1, c2, hmc⟩ : ∃ c1 c2, mq.ws[k]? = some (c1, c2) := ⟨_, _, List.getElem?_eq_getElem (show k < mq.ws.length by omega)⟩
                       have hoc : o2.ws[k]? = some (c1, c2) := by rw [← hq2]; exact hmc
                       replace hM := hM.b3
                       replace hM := hM.b3
                       replace hM := hM.b3
                       replace hM := hM.b3
                       refine seq_call hA rfl rfl rfl (enters_func rfl rfl (fun w => by kernel_rfl)) (get_hit (X := ([.row 59 1 (.slice (some ⟨g19, 0, none⟩) (n + 1) (n + 1)) (n + 1) (slR n mz), .row 4 1 (.slice (some ⟨g43, 0, none⟩) (n + 1) (n + 1)) (n + 1) (boolC bs), .obj gu (.cells #[.slice (some ⟨ga, 0, none⟩) 600 600, .slice (some ⟨gb, 0, none⟩) 900 900] 62), .row 4 1 (.slice (some ⟨ga, 0, none⟩) 600 600) 600 (boolC u1), .row 4 1 (.slice (some ⟨gb, 0, none⟩) 900 900) 900 (boolC uL)] ++ (mz.map Ob.row ++ []))) hfo2 rfl hoc (hM.swapE (C := [.obj h (.cells #[.map (some m), .int .i64 (((n : Nat) : Int)), .int .i64 (((600 : Nat) : Int)), .slice sg1 ((freeG 600 zs).length) sc1, .int .i64 (((900 : Nat) : Int)), .slice lg1 ((freeG 900 zl).length) lc1] 73), .obj m (mapO ((mvD 0 (stay ws oz)).map Ob.en) n), .row 96 2 (.slice sg1 ((freeG 600 zs).length) sc1) ((freeG 600 zs).length) (gapC (freeG 600 zs)), .row 96 2 (.slice lg1 ((freeG 900 zl).length) lc1) ((freeG 900 zl).length) (gapC (freeG 900 zl))]) (E := [.row 59 1 (.slice (some ⟨g19, 0, none⟩) (n + 1) (n + 1)) (n + 1) (slR n mz), .row 4 1 (.slice (some ⟨g43, 0, none⟩) (n + 1) (n + 1)) (n + 1) (boolC bs), .obj gu (.cells #[.slice (some ⟨ga, 0, none⟩) 600 600, .slice (some ⟨gb, 0, none⟩) 900 900] 62), .row 4 1 (.slice (some ⟨ga, 0, none⟩) 600 600) 600 (boolC u1), .row 4 1 (.slice (some ⟨gb, 0, none⟩) 900 900) 900 (boolC uL)]) (R := (mvD 0 (stay ws oz)).map Ob.row) (X := (mz.map Ob.row ++ [])))) ?_
                       rintro _ w142 ⟨rfl, hM141⟩
                       replace hM : Mg w w142 (.obj h (.cells #[.map (some m), .int .i64 (((n : Nat) : Int)), .int .i64 (((600 : Nat) : Int)), .slice sg1 ((freeG 600 zs).length) sc1, .int .i64 (((900 : Nat) : Int)), .slice lg1 ((freeG 900 zl).length) lc1] 73) :: .obj m (mapO ((mvD 0 (stay ws oz)).map Ob.en) n) :: .row 96 2 (.slice sg1 ((freeG 600 zs).length) sc1) ((freeG 600 zs).length) (gapC (freeG 600 zs)) :: .row 96 2 (.slice lg1 ((freeG 900 zl).length) lc1) ((freeG 900 zl).length) (gapC (freeG 900 zl)) :: .row 59 1 (.slice (some ⟨g19, 0, none⟩) (n + 1) (n + 1)) (n + 1) (slR n mz) :: .row 4 1 (.slice (some ⟨g43, 0, none⟩) (n + 1) (n + 1)) (n + 1) (boolC bs) :: .obj gu (.cells #[.slice (some ⟨ga, 0, none⟩) 600 600, .slice (some ⟨gb, 0, none⟩) 900 900] 62) :: .row 4 1 (.slice (some ⟨ga, 0, none⟩) 600 600) 600 (boolC u1) :: .row 4 1 (.slice (some ⟨gb, 0, none⟩) 900 900) 900 (boolC uL) :: ((mvD 0 (stay ws oz)).map Ob.row ++ (mz.map Ob.row ++ []))) := (hM141.swapE (C := [.obj h (.cells #[.map (some m), .int .i64 (((n : Nat) : Int)), .int .i64 (((600 : Nat) : Int)), .slice sg1 ((freeG 600 zs).length) sc1, .int .i64 (((900 : Nat) : Int)), .slice lg1 ((freeG 900 zl).length) lc1] 73), .obj m (mapO ((mvD 0 (stay ws oz)).map Ob.en) n), .row 96 2 (.slice sg1 ((freeG 600 zs).length) sc1) ((freeG 600 zs).length) (gapC (freeG 600 zs)), .row 96 2 (.slice lg1 ((freeG 900 zl).length) lc1) ((freeG 900 zl).length) (gapC (freeG 900 zl))]) (E := (mvD 0 (stay ws oz)).map Ob.row) (R := [.row 59 1 (.slice (some ⟨g19, 0, none⟩) (n + 1) (n + 1)) (n + 1) (slR n mz), .row 4 1 (.slice (some ⟨g43, 0, none⟩) (n + 1) (n + 1)) (n + 1) (boolC bs), .obj gu (.cells #[.slice (some ⟨ga, 0, none⟩) 600 600, .slice (some ⟨gb, 0, none⟩) 900 900] 62), .row 4 1 (.slice (some ⟨ga, 0, none⟩) 600 600) 600 (boolC u1), .row 4 1 (.slice (some ⟨gb, 0, none⟩) 900 900) 900 (boolC uL)]) (X := (mz.map Ob.row ++ [])))
                       refine ⟨_, rfl, ?_⟩
                       intro a hA
                       refine seq_do hA rfl rfl rfl (does_move rfl) ?_
                       intro a hA
                       refine seq_do (v := .agg #[.int .i64 c1, .bool c2]) hA rfl rfl rfl (does_extract (vs := [.agg #[.int .i64 c1, .bool c2], .int .i64 0]) rfl rfl) ?_
                       intro a hA
                       refine seq_do (v := .int .i64 0) hA rfl rfl rfl (does_extract (vs := [.agg #[.int .i64 c1, .bool c2], .int .i64 0]) rfl rfl) ?_
                       intro a hA
                       refine s_new (vs := [.int .i64 0, .bool false]) (t := 32) hA hM rfl rfl rfl (fun g => .pointer (some ⟨g, 0, none⟩)) (does_alloc (z := .agg #[.int .i64 0, .bool false]) (by kernel_rfl) rfl) (by decide) ?_
                       intro g143 w144 hM a hA
                       refine s_store (us := [.int .i64 c1, .bool c2]) (L' := (.obj g143 (.cells #[.int .i64 c1, .bool c2] 32) :: .obj h (.cells #[.map (some m), .int .i64 (((n : Nat) : Int)), .int .i64 (((600 : Nat) : Int)), .slice sg1 ((freeG 600 zs).length) sc1, .int .i64 (((900 : Nat) : Int)), .slice lg1 ((freeG 900 zl).length) lc1] 73) :: .obj m (mapO ((mvD 0 (stay ws oz)).map Ob.en) n) :: .row 96 2 (.slice sg1 ((freeG 600 zs).length) sc1) ((freeG 600 zs).length) (gapC (freeG 600 zs)) :: .row 96 2 (.slice lg1 ((freeG 900 zl).length) lc1) ((freeG 900 zl).length) (gapC (freeG 900 zl)) :: .row 59 1 (.slice (some ⟨g19, 0, none⟩) (n + 1) (n + 1)) (n + 1) (slR n mz) :: .row 4 1 (.slice (some ⟨g43, 0, none⟩) (n + 1) (n + 1)) (n + 1) (boolC bs) :: .obj gu (.cells #[.slice (some ⟨ga, 0, none⟩) 600 600, .slice (some ⟨gb, 0, none⟩) 900 900] 62) :: .row 4 1 (.slice (some ⟨ga, 0, none⟩) 600 600) 600 (boolC u1) :: .row 4 1 (.slice (some ⟨gb, 0, none⟩) 900 900) 900 (boolC uL) :: ((mvD 0 (stay ws oz)).map Ob.row ++ (mz.map Ob.row ++ [])))) hA hM rfl rfl (m_store rfl rfl rfl (by kernel_rfl) hM 0 rfl rfl rfl) 0 rfl rfl rfl ?_
                       intro w146 hM
                       refine seq_do hA rfl rfl rfl (does_assign rfl) ?_
                       intro a hA
                       refine seq_end ?_
                       refine hK140 _ _ ?_
                       refine wp_seq_k (fun K147 hK147 => ?_)
                       refine wp_seq_k (fun K148 hK148 => ?_)
                       replace hA := hA.keep [(7, .pointer (some ⟨h, 0, none⟩)), (8, .int .i64 0), (9, .int .i64 (((n : Nat) : Int))), (13, .slice (some ⟨g19, 0, none⟩) (n + 1) (n + 1)), (14, .int .i64 (((jm + 1 : Nat) : Int))), (21, .slice (some ⟨g43, 0, none⟩) (n + 1) (n + 1)), (22, .slice lo nk lcp), (25, .int .i64 (((r : Nat) : Int))), (28, .pointer (some ⟨gu, 0, none⟩)), (29, .int .i64 (((j + 1 : Nat) : Int))), (30, .int .i64 (((o2.ws.length : Nat) : Int))), (31, .int .i64 0), (32, .int .i64 (((o2.p : Nat) : Int))), (33, .int .i64 0), (34, .int .i64 0), (35, .int .i64 (((k : Nat) : Int))), (36, .pointer (some ⟨g143, 0, none⟩)), (37, .int .i64 0)] ⟨rfl, rfl, rfl, rfl, rfl, rfl, rfl, rfl, rfl, rfl, rfl, rfl, rfl, rfl, rfl, rfl, rfl, rfl, trivial⟩
                       have huf : u1[o2.p + k]? = some false := not_on (show o2.p + k < u1.length by omega) (fun hq => (hU (o2.p + k) hq).elim (fun hv => Cov.not (j := o2.p + k) hm2.stk2 hr2 hom2 (by omega) (by omega) (by rw [hx2e, hbg]; exact hv)) (fun hv => by omega))
                       refine wp_draw (S := fun w1 => Mg w w1 (.obj g143 (.cells #[.int .i64 c1, .bool c2] 32) :: .row 59 1 (.slice (some ⟨g19, 0, none⟩) (n + 1) (n + 1)) (n + 1) (slR n mz) :: .row 4 1 (.slice (some ⟨g43, 0, none⟩) (n + 1) (n + 1)) (n + 1) (boolC bs) :: .obj gu (.cells #[.slice (some ⟨ga, 0, none⟩) 600 600, .slice (some ⟨gb, 0, none⟩) 900 900] 62) :: .row 4 1 (.slice (some ⟨ga, 0, none⟩) 600 600) 600 (boolC u1) :: .row 4 1 (.slice (some ⟨gb, 0, none⟩) 900 900) 900 (boolC uL) :: ((mvD 0 (stay ws oz)).map Ob.row ++ (mz.map Ob.row ++ [])))) (by kernel_rfl) ?_
                       replace hM := hM.drew
                       refine any_tk hA 0 rfl rfl rfl rfl hP (hM.sub (.cons_cons _ (.cons _ (.cons _ (.cons _ (.cons _ (.cons_cons _ (.cons_cons _ (.cons_cons _ (.cons_cons _ (.cons_cons _ (List.Sublist.refl _)))))))))))) (fun w1 hM => does_move rfl) ?_
                       intro a hA
                       refine any_tk (v := .bool false) hA 1 rfl rfl rfl rfl hP (hM.sub (.cons_cons _ (.cons _ (.cons _ (.cons _ (.cons _ (.cons_cons _ (.cons_cons _ (.cons_cons _ (.cons_cons _ (.cons_cons _ (List.Sublist.refl _)))))))))))) (fun w1 hM => does_bin rfl rfl (fun w => by kernel_rfl)) ?_
                       intro a hA
                       refine any_tk hA 2 rfl rfl rfl rfl hP (hM.sub (.cons_cons _ (.cons _ (.cons _ (.cons _ (.cons _ (.cons_cons _ (.cons_cons _ (.cons_cons _ (.cons_cons _ (.cons_cons _ (List.Sublist.refl _)))))))))))) (fun w1 hM => does_move rfl) ?_
                       intro a hA
                       refine any_tk hA 3 rfl rfl rfl rfl hP (hM.sub (.cons_cons _ (.cons _ (.cons _ (.cons _ (.cons _ (.cons_cons _ (.cons_cons _ (.cons_cons _ (.cons_cons _ (.cons_cons _ (List.Sublist.refl _)))))))))))) (fun w1 hM => m_loadS hM HbM_isS_32 rfl 0 rfl (cs := [.int .i64 c1, .bool c2]) rfl rfl) ?_
                       intro a hA
                       refine any_tk hA 4 rfl rfl rfl rfl hP (hM.sub (.cons_cons _ (.cons _ (.cons _ (.cons _ (.cons _ (.cons_cons _ (.cons_cons _ (.cons_cons _ (.cons_cons _ (.cons_cons _ (List.Sublist.refl _)))))))))))) (fun w1 hM => does_move rfl) ?_
                       intro a hA
                       refine any_tk hA 5 rfl rfl rfl rfl hP (hM.sub (.cons_cons _ (.cons _ (.cons _ (.cons _ (.cons _ (.cons_cons _ (.cons_cons _ (.cons_cons _ (.cons_cons _ (.cons_cons _ (List.Sublist.refl _)))))))))))) (fun w1 hM => does_move rfl) ?_
                       intro a hA
                       refine any_tk (v := .pointer (some ⟨g19, (j + 1) * 1, none⟩)) hA 6 rfl rfl rfl rfl hP (hM.sub (.cons_cons _ (.cons _ (.cons _ (.cons _ (.cons _ (.cons_cons _ (.cons_cons _ (.cons_cons _ (.cons_cons _ (.cons_cons _ (List.Sublist.refl _)))))))))))) (fun w1 hM => does_indexE (k := j + 1) Try.underlying58 (by kernel_rfl) rfl rfl rfl (by omega)) ?_
                       intro a hA
                       refine any_tk (v := .slice (some ⟨mq.g, 0, none⟩) mq.ws.length mq.c) hA 7 rfl rfl rfl rfl hP (hM.sub (.cons_cons _ (.cons _ (.cons _ (.cons _ (.cons _ (.cons_cons _ (.cons_cons _ (.cons_cons _ (.cons_cons _ (.cons_cons _ (List.Sublist.refl _)))))))))))) (fun w1 hM => m_loadE hM 1 rfl (by rw [Nat.mul_one]; exact slR_at hmq) HbM_is1_59 rfl) ?_
                       intro a hA
                       refine any_tk hA 8 rfl rfl rfl rfl hP (hM.sub (.cons_cons _ (.cons _ (.cons _ (.cons _ (.cons _ (.cons_cons _ (.cons_cons _ (.cons_cons _ (.cons_cons _ (.cons_cons _ (List.Sublist.refl _)))))))))))) (fun w1 hM => does_move rfl) ?_
                       intro a hA
                       refine any_tk (v := .pointer (some ⟨mq.g, k * 2, none⟩)) hA 9 rfl rfl rfl rfl hP (hM.sub (.cons_cons _ (.cons _ (.cons _ (.cons _ (.cons _ (.cons_cons _ (.cons_cons _ (.cons_cons _ (.cons_cons _ (.cons_cons _ (List.Sublist.refl _)))))))))))) (fun w1 hM => does_indexE (k := k) Try.underlying59 (by kernel_rfl) rfl rfl rfl (by omega)) ?_
                       intro a hA
                       refine any_tk hA 10 rfl rfl rfl rfl hP (hM.sub (.cons_cons _ (.cons _ (.cons _ (.cons _ (.cons _ (.cons_cons _ (.cons_cons _ (.cons_cons _ (.cons_cons _ (.cons_cons _ (List.Sublist.refl _)))))))))))) (fun w1 hM => m_ldW hM (row_in2 hmqm 6 rfl) hmc HbM_isS_32 rfl) ?_
                       intro a hA
                       refine any_tk (v := .bool false) hA 11 rfl rfl rfl rfl hP (hM.sub (.cons_cons _ (.cons _ (.cons _ (.cons _ (.cons _ (.cons_cons _ (.cons_cons _ (.cons_cons _ (.cons_cons _ (.cons_cons _ (List.Sublist.refl _)))))))))))) (fun w1 hM => does_bin rfl rfl (fun w => (neqC w).trans (by simp))) ?_
                       intro a hA
                       refine any_tk (v := .bool false) hA 12 rfl rfl rfl rfl hP (hM.sub (.cons_cons _ (.cons _ (.cons _ (.cons _ (.cons _ (.cons_cons _ (.cons_cons _ (.cons_cons _ (.cons_cons _ (.cons_cons _ (List.Sublist.refl _)))))))))))) (fun w1 hM => does_pick rfl rfl rfl rfl) ?_
                       intro a hA
                       refine any_tk hA 13 rfl rfl rfl rfl hP (hM.sub (.cons_cons _ (.cons _ (.cons _ (.cons _ (.cons _ (.cons_cons _ (.cons_cons _ (.cons_cons _ (.cons_cons _ (.cons_cons _ (List.Sublist.refl _)))))))))))) (fun w1 hM => does_move rfl) ?_
                       intro a hA
                       refine any_tk hA 14 rfl rfl rfl rfl hP (hM.sub (.cons_cons _ (.cons _ (.cons _ (.cons _ (.cons _ (.cons_cons _ (.cons_cons _ (.cons_cons _ (.cons_cons _ (.cons_cons _ (List.Sublist.refl _)))))))))))) (fun w1 hM => does_move rfl) ?_
                       intro a hA
                       refine any_tk (v := .pointer (some ⟨gu, 0, none⟩)) hA 15 rfl rfl rfl rfl hP (hM.sub (.cons_cons _ (.cons _ (.cons _ (.cons _ (.cons _ (.cons_cons _ (.cons_cons _ (.cons_cons _ (.cons_cons _ (.cons_cons _ (List.Sublist.refl _)))))))))))) (fun w1 hM => does_ixA2 rfl rfl (fun w => by kernel_rfl)) ?_
                       intro a hA
                       refine any_tk hA 16 rfl rfl rfl rfl hP (hM.sub (.cons_cons _ (.cons _ (.cons _ (.cons _ (.cons _ (.cons_cons _ (.cons_cons _ (.cons_cons _ (.cons_cons _ (.cons_cons _ (List.Sublist.refl _)))))))))))) (fun w1 hM => m_load1 hM HbM_is1_61 rfl 3 rfl rfl) ?_
                       intro a hA
                       refine any_tk hA 17 rfl rfl rfl rfl hP (hM.sub (.cons_cons _ (.cons _ (.cons _ (.cons _ (.cons _ (.cons_cons _ (.cons_cons _ (.cons_cons _ (.cons_cons _ (.cons_cons _ (List.Sublist.refl _)))))))))))) (fun w1 hM => does_move rfl) ?_
                       intro a hA
                       refine any_tk hA 18 rfl rfl rfl rfl hP (hM.sub (.cons_cons _ (.cons _ (.cons _ (.cons _ (.cons _ (.cons_cons _ (.cons_cons _ (.cons_cons _ (.cons_cons _ (.cons_cons _ (List.Sublist.refl _)))))))))))) (fun w1 hM => does_move rfl) ?_
                       intro a hA
                       refine any_tk (v := .int .i64 (((o2.p + k : Nat) : Int))) hA 19 rfl rfl rfl rfl hP (hM.sub (.cons_cons _ (.cons _ (.cons _ (.cons _ (.cons _ (.cons_cons _ (.cons_cons _ (.cons_cons _ (.cons_cons _ (.cons_cons _ (List.Sublist.refl _)))))))))))) (fun w1 hM => does_bin rfl rfl (ar_add ((in_i64 (by omega) (by omega)).trans (by omega)))) ?_
                       intro a hA
                       refine any_tk (v := .pointer (some ⟨ga, (o2.p + k) * 1, none⟩)) hA 20 rfl rfl rfl rfl hP (hM.sub (.cons_cons _ (.cons _ (.cons _ (.cons _ (.cons _ (.cons_cons _ (.cons_cons _ (.cons_cons _ (.cons_cons _ (.cons_cons _ (List.Sublist.refl _)))))))))))) (fun w1 hM => does_indexE (k := o2.p + k) Try.underlying61 (by kernel_rfl) rfl rfl rfl (by omega)) ?_
                       intro a hA
                       refine any_tk (v := .bool false) hA 21 rfl rfl rfl rfl hP (hM.sub (.cons_cons _ (.cons _ (.cons _ (.cons _ (.cons _ (.cons_cons _ (.cons_cons _ (.cons_cons _ (.cons_cons _ (.cons_cons _ (List.Sublist.refl _)))))))))))) (fun w1 hM => m_loadE hM 4 rfl (by rw [Nat.mul_one]; exact boolC_at huf) HbM_is1_4 rfl) ?_
                       intro a hA
                       refine any_tk (v := .bool false) hA 22 rfl rfl rfl rfl hP (hM.sub (.cons_cons _ (.cons _ (.cons _ (.cons _ (.cons _ (.cons_cons _ (.cons_cons _ (.cons_cons _ (.cons_cons _ (.cons_cons _ (List.Sublist.refl _)))))))))))) (fun w1 hM => does_pick rfl rfl rfl rfl) ?_
                       intro a hA
                       refine any_end (by kernel_rfl) ?_
                       refine hK148 _ _ ?_
                       refine wp_cond_false (hA.ev rfl) ?_
                       refine wp_skip ?_
                       refine hK147 _ _ ?_
                       replace hA := hA.keep [(7, .pointer (some ⟨h, 0, none⟩)), (8, .int .i64 0), (9, .int .i64 (((n : Nat) : Int))), (13, .slice (some ⟨g19, 0, none⟩) (n + 1) (n + 1)), (14, .int .i64 (((jm + 1 : Nat) : Int))), (21, .slice (some ⟨g43, 0, none⟩) (n + 1) (n + 1)), (22, .slice lo nk lcp), (25, .int .i64 (((r : Nat) : Int))), (28, .pointer (some ⟨gu, 0, none⟩)), (29, .int .i64 (((j + 1 : Nat) : Int))), (30, .int .i64 (((o2.ws.length : Nat) : Int))), (31, .int .i64 0), (32, .int .i64 (((o2.p : Nat) : Int))), (33, .int .i64 0), (34, .int .i64 0), (35, .int .i64 (((k : Nat) : Int))), (36, .pointer (some ⟨g143, 0, none⟩)), (37, .int .i64 0)] ⟨rfl, rfl, rfl, rfl, rfl, rfl, rfl, rfl, rfl, rfl, rfl, rfl, rfl, rfl, rfl, rfl, rfl, rfl, trivial⟩
                       refine wp_region_lit ?_
                       refine seq_do hA rfl rfl rfl (does_move rfl) ?_
                       intro a hA
                       refine seq_do (v := .pointer (some ⟨gu, 0, none⟩)) hA rfl rfl rfl (does_ixA2 rfl rfl (fun w => by kernel_rfl)) ?_
                       intro a hA
                       refine seq_do hA rfl rfl rfl (m_load1 hM HbM_is1_61 rfl 7 rfl rfl) ?_
                       intro a hA
                       refine seq_do hA rfl rfl rfl (does_move rfl) ?_
                       intro a hA
                       refine seq_do hA rfl rfl rfl (does_move rfl) ?_
                       intro a hA
                       refine seq_do (v := .int .i64 (((o2.p + k : Nat) : Int))) hA rfl rfl rfl (does_bin rfl rfl (ar_add ((in_i64 (by omega) (by omega)).trans (by omega)))) ?_
                       intro a hA
                       refine seq_do (v := .pointer (some ⟨ga, (o2.p + k) * 1, none⟩)) hA rfl rfl rfl (does_indexE (k := o2.p + k) Try.underlying61 (by kernel_rfl) rfl rfl rfl (by omega)) ?_
                       intro a hA
                       refine s_storeE (cs := [.bool true]) (L' := (.obj g143 (.cells #[.int .i64 c1, .bool c2] 32) :: .obj h (.cells #[.map (some m), .int .i64 (((n : Nat) : Int)), .int .i64 (((600 : Nat) : Int)), .slice sg1 ((freeG 600 zs).length) sc1, .int .i64 (((900 : Nat) : Int)), .slice lg1 ((freeG 900 zl).length) lc1] 73) :: .obj m (mapO ((mvD 0 (stay ws oz)).map Ob.en) n) :: .row 96 2 (.slice sg1 ((freeG 600 zs).length) sc1) ((freeG 600 zs).length) (gapC (freeG 600 zs)) :: .row 96 2 (.slice lg1 ((freeG 900 zl).length) lc1) ((freeG 900 zl).length) (gapC (freeG 900 zl)) :: .row 59 1 (.slice (some ⟨g19, 0, none⟩) (n + 1) (n + 1)) (n + 1) (slR n mz) :: .row 4 1 (.slice (some ⟨g43, 0, none⟩) (n + 1) (n + 1)) (n + 1) (boolC bs) :: .obj gu (.cells #[.slice (some ⟨ga, 0, none⟩) 600 600, .slice (some ⟨gb, 0, none⟩) 900 900] 62) :: .row 4 1 (.slice (some ⟨ga, 0, none⟩) 600 600) 600 (over (boolC u1) ((o2.p + k) * 1) [.bool true]) :: .row 4 1 (.slice (some ⟨gb, 0, none⟩) 900 900) 900 (boolC uL) :: ((mvD 0 (stay ws oz)).map Ob.row ++ (mz.map Ob.row ++ [])))) (us := []) hA hM rfl rfl (m_storeE rfl rfl rfl (by kernel_rfl) hM 8 rfl (by show (o2.p + k) * 1 + 1 ≤ _; omega) rfl) 8 rfl rfl ?_
                       intro w149 hM
                       replace hM : Mg w w149 (.obj g143 (.cells #[.int .i64 c1, .bool c2] 32) :: .obj h (.cells #[.map (some m), .int .i64 (((n : Nat) : Int)), .int .i64 (((600 : Nat) : Int)), .slice sg1 ((freeG 600 zs).length) sc1, .int .i64 (((900 : Nat) : Int)), .slice lg1 ((freeG 900 zl).length) lc1] 73) :: .obj m (mapO ((mvD 0 (stay ws oz)).map Ob.en) n) :: .row 96 2 (.slice sg1 ((freeG 600 zs).length) sc1) ((freeG 600 zs).length) (gapC (freeG 600 zs)) :: .row 96 2 (.slice lg1 ((freeG 900 zl).length) lc1) ((freeG 900 zl).length) (gapC (freeG 900 zl)) :: .row 59 1 (.slice (some ⟨g19, 0, none⟩) (n + 1) (n + 1)) (n + 1) (slR n mz) :: .row 4 1 (.slice (some ⟨g43, 0, none⟩) (n + 1) (n + 1)) (n + 1) (boolC bs) :: .obj gu (.cells #[.slice (some ⟨ga, 0, none⟩) 600 600, .slice (some ⟨gb, 0, none⟩) 900 900] 62) :: .row 4 1 (.slice (some ⟨ga, 0, none⟩) 600 600) 600 (boolC (u1.set (o2.p + k) true)) :: .row 4 1 (.slice (some ⟨gb, 0, none⟩) 900 900) 900 (boolC uL) :: ((mvD 0 (stay ws oz)).map Ob.row ++ (mz.map Ob.row ++ []))) := by rw [Nat.mul_one, boolC_set] at hM; exact hM
                       refine seq_end ?_
                       refine hK139 _ _ ?_
                       replace hA := hA.keep [(7, .pointer (some ⟨h, 0, none⟩)), (8, .int .i64 0), (9, .int .i64 (((n : Nat) : Int))), (13, .slice (some ⟨g19, 0, none⟩) (n + 1) (n + 1)), (14, .int .i64 (((jm + 1 : Nat) : Int))), (21, .slice (some ⟨g43, 0, none⟩) (n + 1) (n + 1)), (22, .slice lo nk lcp), (25, .int .i64 (((r : Nat) : Int))), (28, .pointer (some ⟨gu, 0, none⟩)), (29, .int .i64 (((j + 1 : Nat) : Int))), (30, .int .i64 (((o2.ws.length : Nat) : Int))), (31, .int .i64 0), (32, .int .i64 (((o2.p : Nat) : Int))), (33, .int .i64 0), (34, .int .i64 0), (35, .int .i64 (((k : Nat) : Int))), (36, .pointer (some ⟨g143, 0, none⟩)), (37, .int .i64 0)] ⟨rfl, rfl, rfl, rfl, rfl, rfl, rfl, rfl, rfl, rfl, rfl, rfl, rfl, rfl, rfl, rfl, rfl, rfl, trivial⟩
                       refine wp_region_lit ?_
                       refine seq_do hA rfl rfl rfl (does_move rfl) ?_
                       intro a hA
                       refine seq_do (v := .int .i64 (((k + 1 : Nat) : Int))) hA rfl rfl rfl (does_bin rfl rfl (ar_add ((in_i64 (by omega) (by omega)).trans (by omega)))) ?_
                       intro a hA
                       refine seq_do hA rfl rfl rfl (does_assign rfl) ?_
                       intro a hA
                       refine seq_end ?_
                       replace hM := hM.b9
                       replace hM := hM.b9
                       replace hM := hM.b9
                       replace hM := hM.b9
                       replace hM := hM.b9
                       replace hM := hM.b9
                       replace hM := hM.b9
                       replace hM := hM.b9
                       replace hM := hM.b9
                       replace hM : Mg w w149 (.obj h (.cells #[.map (some m), .int .i64 (((n : Nat) : Int)), .int .i64 (((600 : Nat) : Int)), .slice sg1 ((freeG 600 zs).length) sc1, .int .i64 (((900 : Nat) : Int)), .slice lg1 ((freeG 900 zl).length) lc1] 73) :: .obj m (mapO ((mvD 0 (stay ws oz)).map Ob.en) n) :: .row 96 2 (.slice sg1 ((freeG 600 zs).length) sc1) ((freeG 600 zs).length) (gapC (freeG 600 zs)) :: .row 96 2 (.slice lg1 ((freeG 900 zl).length) lc1) ((freeG 900 zl).length) (gapC (freeG 900 zl)) :: .row 59 1 (.slice (some ⟨g19, 0, none⟩) (n + 1) (n + 1)) (n + 1) (slR n mz) :: .row 4 1 (.slice (some ⟨g43, 0, none⟩) (n + 1) (n + 1)) (n + 1) (boolC bs) :: .obj gu (.cells #[.slice (some ⟨ga, 0, none⟩) 600 600, .slice (some ⟨gb, 0, none⟩) 900 900] 62) :: .row 4 1 (.slice (some ⟨ga, 0, none⟩) 600 600) 600 (boolC (u1.set (o2.p + k) true)) :: .row 4 1 (.slice (some ⟨gb, 0, none⟩) 900 900) 900 (boolC uL) :: ((mvD 0 (stay ws oz)).map Ob.row ++ (mz.map Ob.row ++ []))) := by
                         have h9 := hM.sub (.cons_cons _ (.cons_cons _ (.cons_cons _ (.cons_cons _ (.cons_cons _ (.cons_cons _ (.cons_cons _ (.cons_cons _ (.cons_cons _ (.cons _ (.refl _)))))))))))
                         exact h9
                       refine hK134 _ _ _ (by omega) ⟨k + 1, (u1.set (o2.p + k) true), rfl, ⟨by omega, by rw [List.length_set]; exact hu1, fun y hy => ((on_set (by omega)).1 hy).elim (fun hv => .inr (by omega)) (fun hv => (hU y hv).imp id (fun hq => by omega))⟩, hA.keep _ ⟨rfl, rfl, rfl, rfl, rfl, rfl, rfl, rfl, rfl, rfl, rfl, rfl, rfl, rfl, rfl, rfl, trivial⟩, hM⟩
                     · have hb138' := of_decide_eq_false hb138
                       refine seq_do (v := .bool false) hA rfl rfl rfl (does_bin rfl rfl (fun w => (bin_lss w).trans (by rw [hb138]))) ?_
                       intro a hA
                       refine seq_end ?_
                       refine hK137 _ _ ?_
                       refine wp_cond_false (hA.ev rfl) ?_
                       refine wp_exit ?_
                       refine hK96 _ _ ?_
                       replace hA := hA.keep [(7, .pointer (some ⟨h, 0, none⟩)), (8, .int .i64 0), (9, .int .i64 (((n : Nat) : Int))), (13, .slice (some ⟨g19, 0, none⟩) (n + 1) (n + 1)), (14, .int .i64 (((jm + 1 : Nat) : Int))), (21, .slice (some ⟨g43, 0, none⟩) (n + 1) (n + 1)), (22, .slice lo nk lcp), (25, .int .i64 (((r : Nat) : Int))), (28, .pointer (some ⟨gu, 0, none⟩)), (29, .int .i64 (((j + 1 : Nat) : Int))), (30, .int .i64 (((o2.ws.length : Nat) : Int))), (31, .int .i64 0), (32, .int .i64 (((o2.p : Nat) : Int))), (33, .int .i64 0), (34, .int .i64 0), (35, .int .i64 (((k : Nat) : Int)))] ⟨rfl, rfl, rfl, rfl, rfl, rfl, rfl, rfl, rfl, rfl, rfl, rfl, rfl, rfl, rfl, rfl, trivial⟩
                       refine wp_region_lit ?_
                       refine seq_do hA rfl rfl rfl (does_move rfl) ?_
                       intro a hA
                       refine seq_do (v := .int .i64 (((j + 1 + 1 : Nat) : Int))) hA rfl rfl rfl (does_bin rfl rfl (ar_add ((in_i64 (by omega) (by omega)).trans (by omega)))) ?_
                       intro a hA
                       refine seq_do hA rfl rfl rfl (does_assign rfl) ?_
                       intro a hA
                       refine seq_end ?_
                       replace hM := hM.b8
                       replace hM := hM.b8
                       replace hM := hM.b8
                       replace hM := hM.b8
                       replace hM := hM.b8
                       replace hM := hM.b8
                       replace hM := hM.b8
                       replace hM := hM.b8
                       replace hM := hM.b8
                       refine hK91 _ _ _ (by omega) ⟨j + 1, u1, uL, rfl, ⟨by omega, hu1, hu9, (fun y hy => (hU y hy).elim (fun hv => hv.up) (fun hv => ⟨o2, hom2, by omega, hbg, by omega, by omega⟩)), fun y hy => (hUL y hy).up⟩, hA.keep _ ⟨rfl, rfl, rfl, rfl, rfl, rfl, rfl, rfl, rfl, rfl, trivial⟩, hM⟩
                 · have hb98' := of_decide_eq_false hb98
                   replace hM := hM.b3
                   replace hM := hM.b3
                   replace hM := hM.b3
                   replace hM := hM.b3
                   refine seq_call hA rfl rfl rfl (enters_func rfl rfl (fun w => by kernel_rfl)) (size_miss (X := ([.row 59 1 (.slice (some ⟨g19, 0, none⟩) (n + 1) (n + 1)) (n + 1) (slR n mz), .row 4 1 (.slice (some ⟨g43, 0, none⟩) (n + 1) (n + 1)) (n + 1) (boolC bs), .obj gu (.cells #[.slice (some ⟨ga, 0, none⟩) 600 600, .slice (some ⟨gb, 0, none⟩) 900 900] 62), .row 4 1 (.slice (some ⟨ga, 0, none⟩) 600 600) 600 (boolC uS), .row 4 1 (.slice (some ⟨gb, 0, none⟩) 900 900) 900 (boolC uL)] ++ (mz.map Ob.row ++ []))) (hm2.lost2 (of_decide_eq_false hb98)) (hM.swapE (C := [.obj h (.cells #[.map (some m), .int .i64 (((n : Nat) : Int)), .int .i64 (((600 : Nat) : Int)), .slice sg1 ((freeG 600 zs).length) sc1, .int .i64 (((900 : Nat) : Int)), .slice lg1 ((freeG 900 zl).length) lc1] 73), .obj m (mapO ((mvD 0 (stay ws oz)).map Ob.en) n), .row 96 2 (.slice sg1 ((freeG 600 zs).length) sc1) ((freeG 600 zs).length) (gapC (freeG 600 zs)), .row 96 2 (.slice lg1 ((freeG 900 zl).length) lc1) ((freeG 900 zl).length) (gapC (freeG 900 zl))]) (E := [.row 59 1 (.slice (some ⟨g19, 0, none⟩) (n + 1) (n + 1)) (n + 1) (slR n mz), .row 4 1 (.slice (some ⟨g43, 0, none⟩) (n + 1) (n + 1)) (n + 1) (boolC bs), .obj gu (.cells #[.slice (some ⟨ga, 0, none⟩) 600 600, .slice (some ⟨gb, 0, none⟩) 900 900] 62), .row 4 1 (.slice (some ⟨ga, 0, none⟩) 600 600) 600 (boolC uS), .row 4 1 (.slice (some ⟨gb, 0, none⟩) 900 900) 900 (boolC uL)]) (R := (mvD 0 (stay ws oz)).map Ob.row) (X := (mz.map Ob.row ++ [])))) ?_
                   rintro _ w151 ⟨rfl, hM150⟩
                   replace hM : Mg w w151 (.obj h (.cells #[.map (some m), .int .i64 (((n : Nat) : Int)), .int .i64 (((600 : Nat) : Int)), .slice sg1 ((freeG 600 zs).length) sc1, .int .i64 (((900 : Nat) : Int)), .slice lg1 ((freeG 900 zl).length) lc1] 73) :: .obj m (mapO ((mvD 0 (stay ws oz)).map Ob.en) n) :: .row 96 2 (.slice sg1 ((freeG 600 zs).length) sc1) ((freeG 600 zs).length) (gapC (freeG 600 zs)) :: .row 96 2 (.slice lg1 ((freeG 900 zl).length) lc1) ((freeG 900 zl).length) (gapC (freeG 900 zl)) :: .row 59 1 (.slice (some ⟨g19, 0, none⟩) (n + 1) (n + 1)) (n + 1) (slR n mz) :: .row 4 1 (.slice (some ⟨g43, 0, none⟩) (n + 1) (n + 1)) (n + 1) (boolC bs) :: .obj gu (.cells #[.slice (some ⟨ga, 0, none⟩) 600 600, .slice (some ⟨gb, 0, none⟩) 900 900] 62) :: .row 4 1 (.slice (some ⟨ga, 0, none⟩) 600 600) 600 (boolC uS) :: .row 4 1 (.slice (some ⟨gb, 0, none⟩) 900 900) 900 (boolC uL) :: ((mvD 0 (stay ws oz)).map Ob.row ++ (mz.map Ob.row ++ []))) := (hM150.swapE (C := [.obj h (.cells #[.map (some m), .int .i64 (((n : Nat) : Int)), .int .i64 (((600 : Nat) : Int)), .slice sg1 ((freeG 600 zs).length) sc1, .int .i64 (((900 : Nat) : Int)), .slice lg1 ((freeG 900 zl).length) lc1] 73), .obj m (mapO ((mvD 0 (stay ws oz)).map Ob.en) n), .row 96 2 (.slice sg1 ((freeG 600 zs).length) sc1) ((freeG 600 zs).length) (gapC (freeG 600 zs)), .row 96 2 (.slice lg1 ((freeG 900 zl).length) lc1) ((freeG 900 zl).length) (gapC (freeG 900 zl))]) (E := (mvD 0 (stay ws oz)).map Ob.row) (R := [.row 59 1 (.slice (some ⟨g19, 0, none⟩) (n + 1) (n + 1)) (n + 1) (slR n mz), .row 4 1 (.slice (some ⟨g43, 0, none⟩) (n + 1) (n + 1)) (n + 1) (boolC bs), .obj gu (.cells #[.slice (some ⟨ga, 0, none⟩) 600 600, .slice (some ⟨gb, 0, none⟩) 900 900] 62), .row 4 1 (.slice (some ⟨ga, 0, none⟩) 600 600) 600 (boolC uS), .row 4 1 (.slice (some ⟨gb, 0, none⟩) 900 900) 900 (boolC uL)]) (X := (mz.map Ob.row ++ [])))
                   refine ⟨_, rfl, ?_⟩
                   intro a hA
                   refine seq_do hA rfl rfl rfl (does_move rfl) ?_
                   intro a hA
                   refine seq_do (v := .int .i64 0) hA rfl rfl rfl (does_extract (vs := [.int .i64 0, .int .i64 7]) rfl rfl) ?_
                   intro a hA
                   refine seq_do (v := .int .i64 7) hA rfl rfl rfl (does_extract (vs := [.int .i64 0, .int .i64 7]) rfl rfl) ?_
                   intro a hA
                   refine seq_do hA rfl rfl rfl (does_assign rfl) ?_
                   intro a hA
                   refine seq_do hA rfl rfl rfl (does_assign rfl) ?_
                   intro a hA
                   refine seq_end ?_
                   refine hK97 _ _ ?_
                   refine wp_seq_k (fun K152 hK152 => ?_)
                   refine wp_seq_k (fun K153 hK153 => ?_)
                   replace hA := hA.keep [(7, .pointer (some ⟨h, 0, none⟩)), (8, .int .i64 0), (9, .int .i64 (((n : Nat) : Int))), (13, .slice (some ⟨g19, 0, none⟩) (n + 1) (n + 1)), (14, .int .i64 (((jm + 1 : Nat) : Int))), (21, .slice (some ⟨g43, 0, none⟩) (n + 1) (n + 1)), (22, .slice lo nk lcp), (25, .int .i64 (((r : Nat) : Int))), (28, .pointer (some ⟨gu, 0, none⟩)), (29, .int .i64 (((j + 1 : Nat) : Int))), (30, .int .i64 0), (31, .int .i64 7)] ⟨rfl, rfl, rfl, rfl, rfl, rfl, rfl, rfl, rfl, rfl, rfl, rfl, trivial⟩
                   have hon : bs[j + 1]? = some false := mark_is hall hW (by omega) (show j + 1 < bs.length by omega) hb98
                   refine wp_region_lit ?_
                   refine seq_do hA rfl rfl rfl (does_move rfl) ?_
                   intro a hA
                   refine seq_do hA rfl rfl rfl (does_move rfl) ?_
                   intro a hA
                   refine seq_do (v := .pointer (some ⟨g43, (j + 1) * 1, none⟩)) hA rfl rfl rfl (does_indexE (k := j + 1) Try.underlying61 (by kernel_rfl) rfl rfl rfl (by omega)) ?_
                   intro a hA
                   refine seq_do (v := .bool false) hA rfl rfl rfl (m_loadE hM 5 rfl (by rw [Nat.mul_one]; exact boolC_at hon) HbM_is1_4 rfl) ?_
                   intro a hA
                   refine seq_do (v := .bool true) hA rfl rfl rfl (does_un rfl un_not) ?_
                   intro a hA
                   refine seq_end ?_
                   refine hK153 _ _ ?_
                   refine wp_cond_true (hA.ev rfl) ?_
                   refine wp_seq_k (fun K154 hK154 => ?_)
                   refine wp_seq_k (fun K155 hK155 => ?_)
                   replace hA := hA.keep [(7, .pointer (some ⟨h, 0, none⟩)), (8, .int .i64 0), (9, .int .i64 (((n : Nat) : Int))), (13, .slice (some ⟨g19, 0, none⟩) (n + 1) (n + 1)), (14, .int .i64 (((jm + 1 : Nat) : Int))), (21, .slice (some ⟨g43, 0, none⟩) (n + 1) (n + 1)), (22, .slice lo nk lcp), (25, .int .i64 (((r : Nat) : Int))), (28, .pointer (some ⟨gu, 0, none⟩)), (29, .int .i64 (((j + 1 : Nat) : Int))), (30, .int .i64 0), (31, .int .i64 7)] ⟨rfl, rfl, rfl, rfl, rfl, rfl, rfl, rfl, rfl, rfl, rfl, rfl, trivial⟩
                   refine wp_region_lit ?_
                   refine seq_do hA rfl rfl rfl (does_move rfl) ?_
                   intro a hA
                   refine seq_do (v := .bool false) hA rfl rfl rfl (does_bin rfl rfl (fun w => by kernel_rfl)) ?_
                   intro a hA
                   refine seq_end ?_
                   refine hK155 _ _ ?_
                   refine wp_cond_false (hA.ev rfl) ?_
                   refine wp_skip ?_
                   refine hK154 _ _ ?_
                   refine wp_exit ?_
                   refine hK96 _ _ ?_
                   replace hA := hA.keep [(7, .pointer (some ⟨h, 0, none⟩)), (8, .int .i64 0), (9, .int .i64 (((n : Nat) : Int))), (13, .slice (some ⟨g19, 0, none⟩) (n + 1) (n + 1)), (14, .int .i64 (((jm + 1 : Nat) : Int))), (21, .slice (some ⟨g43, 0, none⟩) (n + 1) (n + 1)), (22, .slice lo nk lcp), (25, .int .i64 (((r : Nat) : Int))), (28, .pointer (some ⟨gu, 0, none⟩)), (29, .int .i64 (((j + 1 : Nat) : Int))), (30, .int .i64 0), (31, .int .i64 7)] ⟨rfl, rfl, rfl, rfl, rfl, rfl, rfl, rfl, rfl, rfl, rfl, rfl, trivial⟩
                   refine wp_region_lit ?_
                   refine seq_do hA rfl rfl rfl (does_move rfl) ?_
                   intro a hA
                   refine seq_do (v := .int .i64 (((j + 1 + 1 : Nat) : Int))) hA rfl rfl rfl (does_bin rfl rfl (ar_add ((in_i64 (by omega) (by omega)).trans (by omega)))) ?_
                   intro a hA
                   refine seq_do hA rfl rfl rfl (does_assign rfl) ?_
                   intro a hA
                   refine seq_end ?_
                   replace hM := hM.b8
                   replace hM := hM.b8
                   replace hM := hM.b8
                   replace hM := hM.b8
                   replace hM := hM.b8
                   replace hM := hM.b8
                   replace hM := hM.b8
                   replace hM := hM.b8
                   replace hM := hM.b8
                   refine hK91 _ _ _ (by omega) ⟨j + 1, uS, uL, rfl, ⟨by omega, hu6, hu9, fun y hy => (hUS y hy).up, fun y hy => (hUL y hy).up⟩, hA.keep _ ⟨rfl, rfl, rfl, rfl, rfl, rfl, rfl, rfl, rfl, rfl, trivial⟩, hM⟩
               · have hb95' := of_decide_eq_false hb95
                 refine seq_do (v := .bool false) hA rfl rfl rfl (does_bin rfl rfl (fun w => (bin_leq w).trans (by rw [hb95]))) ?_
                 intro a hA
                 refine seq_end ?_
                 refine hK94 _ _ ?_
                 refine wp_cond_false (hA.ev rfl) ?_
                 refine wp_exit ?_
                 refine hK88 _ _ ?_
                 refine wp_seq_k (fun K156 hK156 => ?_)
                 replace hA := hA.keep [(7, .pointer (some ⟨h, 0, none⟩)), (8, .int .i64 0), (9, .int .i64 (((n : Nat) : Int))), (13, .slice (some ⟨g19, 0, none⟩) (n + 1) (n + 1)), (14, .int .i64 (((jm + 1 : Nat) : Int))), (21, .slice (some ⟨g43, 0, none⟩) (n + 1) (n + 1)), (22, .slice lo nk lcp), (25, .int .i64 (((r : Nat) : Int))), (28, .pointer (some ⟨gu, 0, none⟩)), (29, .int .i64 (((j + 1 : Nat) : Int)))] ⟨rfl, rfl, rfl, rfl, rfl, rfl, rfl, rfl, rfl, rfl, trivial⟩
                 refine wp_region_lit ?_
                 refine seq_do hA rfl rfl rfl (does_assign rfl) ?_
                 intro a hA
                 refine seq_end ?_
                 refine hK156 _ _ ?_
                 refine wp_ret ?_
                 refine hret _ _ ?_
                 refine ends (v := .bool true) hA rfl (.cons (res_tmp rfl) .nil) rfl ?_
                 exact ⟨rfl, hM.bel⟩
             refine wp_draw (S := fun w1 => Mg w w1 (.row 59 1 (.slice (some ⟨g19, 0, none⟩) (n + 1) (n + 1)) (n + 1) (slR n mz) :: .row 4 1 (.slice (some ⟨g43, 0, none⟩) (n + 1) (n + 1)) (n + 1) (boolC bs) :: [])) (by kernel_rfl) ?_
             replace hM := hM.drew
             refine any_many (rs := [0, 1, 3]) (by kernel_rfl) (by simp) ⟨?_, ?_, ?_, trivial⟩
             · refine g_makeE (z := .bool false) (sz := 1) (by_ := 1) (m := 600) hA hM Try.underlying61 (by kernel_rfl) rfl rfl rfl 0 rfl rfl rfl rfl (by omega) (by omega) (.inl (by decide)) ?_
               intro g157 w158 hM
               replace hM : Mg w w158 (.row 4 1 (.slice (some ⟨g157, 0, none⟩) 600 600) 600 (boolC (List.replicate 600 false)) :: .obj h (.cells #[.map (some m), .int .i64 (((n : Nat) : Int)), .int .i64 (((600 : Nat) : Int)), .slice sg1 ((freeG 600 zs).length) sc1, .int .i64 (((900 : Nat) : Int)), .slice lg1 ((freeG 900 zl).length) lc1] 73) :: .obj m (mapO ((mvD 0 (stay ws oz)).map Ob.en) n) :: .row 96 2 (.slice sg1 ((freeG 600 zs).length) sc1) ((freeG 600 zs).length) (gapC (freeG 600 zs)) :: .row 96 2 (.slice lg1 ((freeG 900 zl).length) lc1) ((freeG 900 zl).length) (gapC (freeG 900 zl)) :: .row 3 1 (.slice lo nk lcp) nk (intC rs) :: .row 59 1 (.slice (some ⟨g19, 0, none⟩) (n + 1) (n + 1)) (n + 1) (slR n mz) :: .row 4 1 (.slice (some ⟨g43, 0, none⟩) (n + 1) (n + 1)) (n + 1) (boolC bs) :: ((mvD 0 (stay ws oz)).map Ob.row ++ (mz.map Ob.row ++ []))) := by rw [← boolC_made]; exact hM
               refine ⟨(hM.sub (.cons _ (.cons _ (.cons _ (.cons _ (.cons _ (.cons _ (.cons_cons _ (.cons_cons _ (List.nil_sublist _)))))))))), ?_⟩
               intro a hA
               refine any_many (rs := [1, 3]) (by kernel_rfl) (by simp) ⟨?_, ?_, trivial⟩
               · refine g_makeE (z := .bool false) (sz := 1) (by_ := 1) (m := 900) hA hM Try.underlying61 (by kernel_rfl) rfl rfl rfl 1 rfl rfl rfl rfl (by omega) (by omega) (.inl (by decide)) ?_
                 intro g159 w160 hM
                 replace hM : Mg w w160 (.row 4 1 (.slice (some ⟨g159, 0, none⟩) 900 900) 900 (boolC (List.replicate 900 false)) :: .row 4 1 (.slice (some ⟨g157, 0, none⟩) 600 600) 600 (boolC (List.replicate 600 false)) :: .obj h (.cells #[.map (some m), .int .i64 (((n : Nat) : Int)), .int .i64 (((600 : Nat) : Int)), .slice sg1 ((freeG 600 zs).length) sc1, .int .i64 (((900 : Nat) : Int)), .slice lg1 ((freeG 900 zl).length) lc1] 73) :: .obj m (mapO ((mvD 0 (stay ws oz)).map Ob.en) n) :: .row 96 2 (.slice sg1 ((freeG 600 zs).length) sc1) ((freeG 600 zs).length) (gapC (freeG 600 zs)) :: .row 96 2 (.slice lg1 ((freeG 900 zl).length) lc1) ((freeG 900 zl).length) (gapC (freeG 900 zl)) :: .row 3 1 (.slice lo nk lcp) nk (intC rs) :: .row 59 1 (.slice (some ⟨g19, 0, none⟩) (n + 1) (n + 1)) (n + 1) (slR n mz) :: .row 4 1 (.slice (some ⟨g43, 0, none⟩) (n + 1) (n + 1)) (n + 1) (boolC bs) :: ((mvD 0 (stay ws oz)).map Ob.row ++ (mz.map Ob.row ++ []))) := by rw [← boolC_made]; exact hM
                 refine ⟨(hM.sub (.cons _ (.cons _ (.cons _ (.cons _ (.cons _ (.cons _ (.cons _ (.cons_cons _ (.cons_cons _ (List.nil_sublist _))))))))))), ?_⟩
                 intro a hA
                 refine any_tk (v := .agg #[.slice (some ⟨g157, 0, none⟩) 600 600, .slice (some ⟨g159, 0, none⟩) 900 900]) hA 2 rfl rfl rfl rfl hP (hM.sub (.cons _ (.cons _ (.cons _ (.cons _ (.cons _ (.cons _ (.cons _ (.cons_cons _ (.cons_cons _ (List.nil_sublist _))))))))))) (fun w1 hM => does_build rfl (fun w => by kernel_rfl)) ?_
                 intro a hA
                 refine any_one (by kernel_rfl) (g_new (vs := [.slice none 0 0, .slice none 0 0]) (t := 62) hA hM 3 rfl rfl rfl rfl (fun g => .pointer (some ⟨g, 0, none⟩)) (does_alloc (z := .agg #[.slice none 0 0, .slice none 0 0]) (by kernel_rfl) rfl) (by decide) ?_)
                 intro g161 w162 hM
                 refine ⟨(hM.sub (.cons _ (.cons _ (.cons _ (.cons _ (.cons _ (.cons _ (.cons _ (.cons _ (.cons_cons _ (.cons_cons _ (List.nil_sublist _)))))))))))), ?_⟩
                 intro a hA
                 refine any_one (by kernel_rfl) (g_store (us := [.slice (some ⟨g157, 0, none⟩) 600 600, .slice (some ⟨g159, 0, none⟩) 900 900]) (L' := (.obj g161 (.cells #[.slice (some ⟨g157, 0, none⟩) 600 600, .slice (some ⟨g159, 0, none⟩) 900 900] 62) :: .row 4 1 (.slice (some ⟨g159, 0, none⟩) 900 900) 900 (boolC (List.replicate 900 false)) :: .row 4 1 (.slice (some ⟨g157, 0, none⟩) 600 600) 600 (boolC (List.replicate 600 false)) :: .obj h (.cells #[.map (some m), .int .i64 (((n : Nat) : Int)), .int .i64 (((600 : Nat) : Int)), .slice sg1 ((freeG 600 zs).length) sc1, .int .i64 (((900 : Nat) : Int)), .slice lg1 ((freeG 900 zl).length) lc1] 73) :: .obj m (mapO ((mvD 0 (stay ws oz)).map Ob.en) n) :: .row 96 2 (.slice sg1 ((freeG 600 zs).length) sc1) ((freeG 600 zs).length) (gapC (freeG 600 zs)) :: .row 96 2 (.slice lg1 ((freeG 900 zl).length) lc1) ((freeG 900 zl).length) (gapC (freeG 900 zl)) :: .row 3 1 (.slice lo nk lcp) nk (intC rs) :: .row 59 1 (.slice (some ⟨g19, 0, none⟩) (n + 1) (n + 1)) (n + 1) (slR n mz) :: .row 4 1 (.slice (some ⟨g43, 0, none⟩) (n + 1) (n + 1)) (n + 1) (boolC bs) :: ((mvD 0 (stay ws oz)).map Ob.row ++ (mz.map Ob.row ++ [])))) hA hM 4 rfl rfl rfl (m_store rfl rfl rfl (by kernel_rfl) hM 0 rfl rfl rfl) 0 rfl rfl rfl ?_)
                 intro w164 hM
                 refine ⟨(hM.sub (.cons _ (.cons _ (.cons _ (.cons _ (.cons _ (.cons _ (.cons _ (.cons _ (.cons_cons _ (.cons_cons _ (List.nil_sublist _)))))))))))), ?_⟩
                 refine any_end (by kernel_rfl) ?_
                 replace hM := hM.b1
                 replace hM := hM.b2
                 replace hM := hM.b2
                 replace hM := hM.b9
                 replace hM := hM.b9
                 replace hM := hM.b8
                 replace hM := hM.b8
                 replace hM := hM.b8
                 replace hM := hM.b8
                 replace hM : Mg w w164 (.obj h (.cells #[.map (some m), .int .i64 (((n : Nat) : Int)), .int .i64 (((600 : Nat) : Int)), .slice sg1 ((freeG 600 zs).length) sc1, .int .i64 (((900 : Nat) : Int)), .slice lg1 ((freeG 900 zl).length) lc1] 73) :: .obj m (mapO ((mvD 0 (stay ws oz)).map Ob.en) n) :: .row 96 2 (.slice sg1 ((freeG 600 zs).length) sc1) ((freeG 600 zs).length) (gapC (freeG 600 zs)) :: .row 96 2 (.slice lg1 ((freeG 900 zl).length) lc1) ((freeG 900 zl).length) (gapC (freeG 900 zl)) :: .row 59 1 (.slice (some ⟨g19, 0, none⟩) (n + 1) (n + 1)) (n + 1) (slR n mz) :: .row 4 1 (.slice (some ⟨g43, 0, none⟩) (n + 1) (n + 1)) (n + 1) (boolC bs) :: .obj g161 (.cells #[.slice (some ⟨g157, 0, none⟩) 600 600, .slice (some ⟨g159, 0, none⟩) 900 900] 62) :: .row 4 1 (.slice (some ⟨g157, 0, none⟩) 600 600) 600 (boolC (List.replicate 600 false)) :: .row 4 1 (.slice (some ⟨g159, 0, none⟩) 900 900) 900 (boolC (List.replicate 900 false)) :: ((mvD 0 (stay ws oz)).map Ob.row ++ (mz.map Ob.row ++ []))) := by
                   have h9 := hM.sub (.cons_cons _ (.cons_cons _ (.cons_cons _ (.cons_cons _ (.cons_cons _ (.cons_cons _ (.cons_cons _ (.cons_cons _ (.cons_cons _ (.cons _ (.refl _)))))))))))
                   exact h9
                 exact hJ86 _ _ ⟨g161, g157, g159, hA.keep _ ⟨rfl, rfl, rfl, rfl, rfl, rfl, rfl, rfl, rfl, trivial⟩, hM⟩
               · refine g_new (vs := [.slice none 0 0, .slice none 0 0]) (t := 62) hA hM 3 rfl rfl rfl rfl (fun g => .pointer (some ⟨g, 0, none⟩)) (does_alloc (z := .agg #[.slice none 0 0, .slice none 0 0]) (by kernel_rfl) rfl) (by decide) ?_
                 intro g165 w166 hM
                 refine ⟨(hM.sub (.cons _ (.cons _ (.cons _ (.cons _ (.cons _ (.cons _ (.cons _ (.cons_cons _ (.cons_cons _ (List.nil_sublist _))))))))))), ?_⟩
                 intro a hA
                 refine any_one (by kernel_rfl) (g_makeE (z := .bool false) (sz := 1) (by_ := 1) (m := 900) hA hM Try.underlying61 (by kernel_rfl) rfl rfl rfl 1 rfl rfl rfl rfl (by omega) (by omega) (.inl (by decide)) ?_)
                 intro g167 w168 hM
                 replace hM : Mg w w168 (.row 4 1 (.slice (some ⟨g167, 0, none⟩) 900 900) 900 (boolC (List.replicate 900 false)) :: .obj g165 (.cells #[.slice none 0 0, .slice none 0 0] 62) :: .row 4 1 (.slice (some ⟨g157, 0, none⟩) 600 600) 600 (boolC (List.replicate 600 false)) :: .obj h (.cells #[.map (some m), .int .i64 (((n : Nat) : Int)), .int .i64 (((600 : Nat) : Int)), .slice sg1 ((freeG 600 zs).length) sc1, .int .i64 (((900 : Nat) : Int)), .slice lg1 ((freeG 900 zl).length) lc1] 73) :: .obj m (mapO ((mvD 0 (stay ws oz)).map Ob.en) n) :: .row 96 2 (.slice sg1 ((freeG 600 zs).length) sc1) ((freeG 600 zs).length) (gapC (freeG 600 zs)) :: .row 96 2 (.slice lg1 ((freeG 900 zl).length) lc1) ((freeG 900 zl).length) (gapC (freeG 900 zl)) :: .row 3 1 (.slice lo nk lcp) nk (intC rs) :: .row 59 1 (.slice (some ⟨g19, 0, none⟩) (n + 1) (n + 1)) (n + 1) (slR n mz) :: .row 4 1 (.slice (some ⟨g43, 0, none⟩) (n + 1) (n + 1)) (n + 1) (boolC bs) :: ((mvD 0 (stay ws oz)).map Ob.row ++ (mz.map Ob.row ++ []))) := by rw [← boolC_made]; exact hM
                 refine ⟨(hM.sub (.cons _ (.cons _ (.cons _ (.cons _ (.cons _ (.cons _ (.cons _ (.cons _ (.cons_cons _ (.cons_cons _ (List.nil_sublist _)))))))))))), ?_⟩
                 intro a hA
                 refine any_tk (v := .agg #[.slice (some ⟨g157, 0, none⟩) 600 600, .slice (some ⟨g167, 0, none⟩) 900 900]) hA 2 rfl rfl rfl rfl hP (hM.sub (.cons _ (.cons _ (.cons _ (.cons _ (.cons _ (.cons _ (.cons _ (.cons _ (.cons_cons _ (.cons_cons _ (List.nil_sublist _)))))))))))) (fun w1 hM => does_build rfl (fun w => by kernel_rfl)) ?_
                 intro a hA
                 refine any_one (by kernel_rfl) (g_store (us := [.slice (some ⟨g157, 0, none⟩) 600 600, .slice (some ⟨g167, 0, none⟩) 900 900]) (L' := (.row 4 1 (.slice (some ⟨g167, 0, none⟩) 900 900) 900 (boolC (List.replicate 900 false)) :: .obj g165 (.cells #[.slice (some ⟨g157, 0, none⟩) 600 600, .slice (some ⟨g167, 0, none⟩) 900 900] 62) :: .row 4 1 (.slice (some ⟨g157, 0, none⟩) 600 600) 600 (boolC (List.replicate 600 false)) :: .obj h (.cells #[.map (some m), .int .i64 (((n : Nat) : Int)), .int .i64 (((600 : Nat) : Int)), .slice sg1 ((freeG 600 zs).length) sc1, .int .i64 (((900 : Nat) : Int)), .slice lg1 ((freeG 900 zl).length) lc1] 73) :: .obj m (mapO ((mvD 0 (stay ws oz)).map Ob.en) n) :: .row 96 2 (.slice sg1 ((freeG 600 zs).length) sc1) ((freeG 600 zs).length) (gapC (freeG 600 zs)) :: .row 96 2 (.slice lg1 ((freeG 900 zl).length) lc1) ((freeG 900 zl).length) (gapC (freeG 900 zl)) :: .row 3 1 (.slice lo nk lcp) nk (intC rs) :: .row 59 1 (.slice (some ⟨g19, 0, none⟩) (n + 1) (n + 1)) (n + 1) (slR n mz) :: .row 4 1 (.slice (some ⟨g43, 0, none⟩) (n + 1) (n + 1)) (n + 1) (boolC bs) :: ((mvD 0 (stay ws oz)).map Ob.row ++ (mz.map Ob.row ++ [])))) hA hM 4 rfl rfl rfl (m_store rfl rfl rfl (by kernel_rfl) hM 1 rfl rfl rfl) 1 rfl rfl rfl ?_)
                 intro w170 hM
                 refine ⟨(hM.sub (.cons _ (.cons _ (.cons _ (.cons _ (.cons _ (.cons _ (.cons _ (.cons _ (.cons_cons _ (.cons_cons _ (List.nil_sublist _)))))))))))), ?_⟩
                 refine any_end (by kernel_rfl) ?_
                 replace hM := hM.b2
                 replace hM := hM.b2
                 replace hM := hM.b9
                 replace hM := hM.b9
                 replace hM := hM.b8
                 replace hM := hM.b8
                 replace hM := hM.b8
                 replace hM := hM.b8
                 replace hM : Mg w w170 (.obj h (.cells #[.map (some m), .int .i64 (((n : Nat) : Int)), .int .i64 (((600 : Nat) : Int)), .slice sg1 ((freeG 600 zs).length) sc1, .int .i64 (((900 : Nat) : Int)), .slice lg1 ((freeG 900 zl).length) lc1] 73) :: .obj m (mapO ((mvD 0 (stay ws oz)).map Ob.en) n) :: .row 96 2 (.slice sg1 ((freeG 600 zs).length) sc1) ((freeG 600 zs).length) (gapC (freeG 600 zs)) :: .row 96 2 (.slice lg1 ((freeG 900 zl).length) lc1) ((freeG 900 zl).length) (gapC (freeG 900 zl)) :: .row 59 1 (.slice (some ⟨g19, 0, none⟩) (n + 1) (n + 1)) (n + 1) (slR n mz) :: .row 4 1 (.slice (some ⟨g43, 0, none⟩) (n + 1) (n + 1)) (n + 1) (boolC bs) :: .obj g165 (.cells #[.slice (some ⟨g157, 0, none⟩) 600 600, .slice (some ⟨g167, 0, none⟩) 900 900] 62) :: .row 4 1 (.slice (some ⟨g157, 0, none⟩) 600 600) 600 (boolC (List.replicate 600 false)) :: .row 4 1 (.slice (some ⟨g167, 0, none⟩) 900 900) 900 (boolC (List.replicate 900 false)) :: ((mvD 0 (stay ws oz)).map Ob.row ++ (mz.map Ob.row ++ []))) := by
                   have h9 := hM.sub (.cons_cons _ (.cons_cons _ (.cons_cons _ (.cons_cons _ (.cons_cons _ (.cons_cons _ (.cons_cons _ (.cons_cons _ (.cons_cons _ (.cons _ (.refl _)))))))))))
                   exact h9
                 exact hJ86 _ _ ⟨g165, g157, g167, hA.keep _ ⟨rfl, rfl, rfl, rfl, rfl, rfl, rfl, rfl, rfl, trivial⟩, hM⟩
             · refine g_makeE (z := .bool false) (sz := 1) (by_ := 1) (m := 900) hA hM Try.underlying61 (by kernel_rfl) rfl rfl rfl 1 rfl rfl rfl rfl (by omega) (by omega) (.inl (by decide)) ?_
               intro g171 w172 hM
               replace hM : Mg w w172 (.row 4 1 (.slice (some ⟨g171, 0, none⟩) 900 900) 900 (boolC (List.replicate 900 false)) :: .obj h (.cells #[.map (some m), .int .i64 (((n : Nat) : Int)), .int .i64 (((600 : Nat) : Int)), .slice sg1 ((freeG 600 zs).length) sc1, .int .i64 (((900 : Nat) : Int)), .slice lg1 ((freeG 900 zl).length) lc1] 73) :: .obj m (mapO ((mvD 0 (stay ws oz)).map Ob.en) n) :: .row 96 2 (.slice sg1 ((freeG 600 zs).length) sc1) ((freeG 600 zs).length) (gapC (freeG 600 zs)) :: .row 96 2 (.slice lg1 ((freeG 900 zl).length) lc1) ((freeG 900 zl).length) (gapC (freeG 900 zl)) :: .row 3 1 (.slice lo nk lcp) nk (intC rs) :: .row 59 1 (.slice (some ⟨g19, 0, none⟩) (n + 1) (n + 1)) (n + 1) (slR n mz) :: .row 4 1 (.slice (some ⟨g43, 0, none⟩) (n + 1) (n + 1)) (n + 1) (boolC bs) :: ((mvD 0 (stay ws oz)).map Ob.row ++ (mz.map Ob.row ++ []))) := by rw [← boolC_made]; exact hM
               refine ⟨(hM.sub (.cons _ (.cons _ (.cons _ (.cons _ (.cons _ (.cons _ (.cons_cons _ (.cons_cons _ (List.nil_sublist _)))))))))), ?_⟩
               intro a hA
               refine any_many (rs := [0, 3]) (by kernel_rfl) (by simp) ⟨?_, ?_, trivial⟩
               · refine g_makeE (z := .bool false) (sz := 1) (by_ := 1) (m := 600) hA hM Try.underlying61 (by kernel_rfl) rfl rfl rfl 0 rfl rfl rfl rfl (by omega) (by omega) (.inl (by decide)) ?_
                 intro g173 w174 hM
                 replace hM : Mg w w174 (.row 4 1 (.slice (some ⟨g173, 0, none⟩) 600 600) 600 (boolC (List.replicate 600 false)) :: .row 4 1 (.slice (some ⟨g171, 0, none⟩) 900 900) 900 (boolC (List.replicate 900 false)) :: .obj h (.cells #[.map (some m), .int .i64 (((n : Nat) : Int)), .int .i64 (((600 : Nat) : Int)), .slice sg1 ((freeG 600 zs).length) sc1, .int .i64 (((900 : Nat) : Int)), .slice lg1 ((freeG 900 zl).length) lc1] 73) :: .obj m (mapO ((mvD 0 (stay ws oz)).map Ob.en) n) :: .row 96 2 (.slice sg1 ((freeG 600 zs).length) sc1) ((freeG 600 zs).length) (gapC (freeG 600 zs)) :: .row 96 2 (.slice lg1 ((freeG 900 zl).length) lc1) ((freeG 900 zl).length) (gapC (freeG 900 zl)) :: .row 3 1 (.slice lo nk lcp) nk (intC rs) :: .row 59 1 (.slice (some ⟨g19, 0, none⟩) (n + 1) (n + 1)) (n + 1) (slR n mz) :: .row 4 1 (.slice (some ⟨g43, 0, none⟩) (n + 1) (n + 1)) (n + 1) (boolC bs) :: ((mvD 0 (stay ws oz)).map Ob.row ++ (mz.map Ob.row ++ []))) := by rw [← boolC_made]; exact hM
                 refine ⟨(hM.sub (.cons _ (.cons _ (.cons _ (.cons _ (.cons _ (.cons _ (.cons _ (.cons_cons _ (.cons_cons _ (List.nil_sublist _))))))))))), ?_⟩
                 intro a hA
                 refine any_tk (v := .agg #[.slice (some ⟨g173, 0, none⟩) 600 600, .slice (some ⟨g171, 0, none⟩) 900 900]) hA 2 rfl rfl rfl rfl hP (hM.sub (.cons _ (.cons _ (.cons _ (.cons _ (.cons _ (.cons _ (.cons _ (.cons_cons _ (.cons_cons _ (List.nil_sublist _))))))))))) (fun w1 hM => does_build rfl (fun w => by kernel_rfl)) ?_
                 intro a hA
                 refine any_one (by kernel_rfl) (g_new (vs := [.slice none 0 0, .slice none 0 0]) (t := 62) hA hM 3 rfl rfl rfl rfl (fun g => .pointer (some ⟨g, 0, none⟩)) (does_alloc (z := .agg #[.slice none 0 0, .slice none 0 0]) (by kernel_rfl) rfl) (by decide) ?_)
                 intro g175 w176 hM
                 refine ⟨(hM.sub (.cons _ (.cons _ (.cons _ (.cons _ (.cons _ (.cons _ (.cons _ (.cons _ (.cons_cons _ (.cons_cons _ (List.nil_sublist _)))))))))))), ?_⟩
                 intro a hA
                 refine any_one (by kernel_rfl) (g_store (us := [.slice (some ⟨g173, 0, none⟩) 600 600, .slice (some ⟨g171, 0, none⟩) 900 900]) (L' := (.obj g175 (.cells #[.slice (some ⟨g173, 0, none⟩) 600 600, .slice (some ⟨g171, 0, none⟩) 900 900] 62) :: .row 4 1 (.slice (some ⟨g173, 0, none⟩) 600 600) 600 (boolC (List.replicate 600 false)) :: .row 4 1 (.slice (some ⟨g171, 0, none⟩) 900 900) 900 (boolC (List.replicate 900 false)) :: .obj h (.cells #[.map (some m), .int .i64 (((n : Nat) : Int)), .int .i64 (((600 : Nat) : Int)), .slice sg1 ((freeG 600 zs).length) sc1, .int .i64 (((900 : Nat) : Int)), .slice lg1 ((freeG 900 zl).length) lc1] 73) :: .obj m (mapO ((mvD 0 (stay ws oz)).map Ob.en) n) :: .row 96 2 (.slice sg1 ((freeG 600 zs).length) sc1) ((freeG 600 zs).length) (gapC (freeG 600 zs)) :: .row 96 2 (.slice lg1 ((freeG 900 zl).length) lc1) ((freeG 900 zl).length) (gapC (freeG 900 zl)) :: .row 3 1 (.slice lo nk lcp) nk (intC rs) :: .row 59 1 (.slice (some ⟨g19, 0, none⟩) (n + 1) (n + 1)) (n + 1) (slR n mz) :: .row 4 1 (.slice (some ⟨g43, 0, none⟩) (n + 1) (n + 1)) (n + 1) (boolC bs) :: ((mvD 0 (stay ws oz)).map Ob.row ++ (mz.map Ob.row ++ [])))) hA hM 4 rfl rfl rfl (m_store rfl rfl rfl (by kernel_rfl) hM 0 rfl rfl rfl) 0 rfl rfl rfl ?_)
                 intro w178 hM
                 refine ⟨(hM.sub (.cons _ (.cons _ (.cons _ (.cons _ (.cons _ (.cons _ (.cons _ (.cons _ (.cons_cons _ (.cons_cons _ (List.nil_sublist _)))))))))))), ?_⟩
                 refine any_end (by kernel_rfl) ?_
                 replace hM := hM.b2
                 replace hM := hM.b2
                 replace hM := hM.b2
                 replace hM := hM.b9
                 replace hM := hM.b9
                 replace hM := hM.b8
                 replace hM := hM.b8
                 replace hM := hM.b8
                 replace hM := hM.b8
                 replace hM : Mg w w178 (.obj h (.cells #[.map (some m), .int .i64 (((n : Nat) : Int)), .int .i64 (((600 : Nat) : Int)), .slice sg1 ((freeG 600 zs).length) sc1, .int .i64 (((900 : Nat) : Int)), .slice lg1 ((freeG 900 zl).length) lc1] 73) :: .obj m (mapO ((mvD 0 (stay ws oz)).map Ob.en) n) :: .row 96 2 (.slice sg1 ((freeG 600 zs).length) sc1) ((freeG 600 zs).length) (gapC (freeG 600 zs)) :: .row 96 2 (.slice lg1 ((freeG 900 zl).length) lc1) ((freeG 900 zl).length) (gapC (freeG 900 zl)) :: .row 59 1 (.slice (some ⟨g19, 0, none⟩) (n + 1) (n + 1)) (n + 1) (slR n mz) :: .row 4 1 (.slice (some ⟨g43, 0, none⟩) (n + 1) (n + 1)) (n + 1) (boolC bs) :: .obj g175 (.cells #[.slice (some ⟨g173, 0, none⟩) 600 600, .slice (some ⟨g171, 0, none⟩) 900 900] 62) :: .row 4 1 (.slice (some ⟨g173, 0, none⟩) 600 600) 600 (boolC (List.replicate 600 false)) :: .row 4 1 (.slice (some ⟨g171, 0, none⟩) 900 900) 900 (boolC (List.replicate 900 false)) :: ((mvD 0 (stay ws oz)).map Ob.row ++ (mz.map Ob.row ++ []))) := by
                   have h9 := hM.sub (.cons_cons _ (.cons_cons _ (.cons_cons _ (.cons_cons _ (.cons_cons _ (.cons_cons _ (.cons_cons _ (.cons_cons _ (.cons_cons _ (.cons _ (.refl _)))))))))))
                   exact h9
                 exact hJ86 _ _ ⟨g175, g173, g171, hA.keep _ ⟨rfl, rfl, rfl, rfl, rfl, rfl, rfl, rfl, rfl, trivial⟩, hM⟩
               · refine g_new (vs := [.slice none 0 0, .slice none 0 0]) (t := 62) hA hM 3 rfl rfl rfl rfl (fun g => .pointer (some ⟨g, 0, none⟩)) (does_alloc (z := .agg #[.slice none 0 0, .slice none 0 0]) (by kernel_rfl) rfl) (by decide) ?_
                 intro g179 w180 hM
                 refine ⟨(hM.sub (.cons _ (.cons _ (.cons _ (.cons _ (.cons _ (.cons _ (.cons _ (.cons_cons _ (.cons_cons _ (List.nil_sublist _))))))))))), ?_⟩
                 intro a hA
                 refine any_one (by kernel_rfl) (g_makeE (z := .bool false) (sz := 1) (by_ := 1) (m := 600) hA hM Try.underlying61 (by kernel_rfl) rfl rfl rfl 0 rfl rfl rfl rfl (by omega) (by omega) (.inl (by decide)) ?_)
                 intro g181 w182 hM
                 replace hM : Mg w w182 (.row 4 1 (.slice (some ⟨g181, 0, none⟩) 600 600) 600 (boolC (List.replicate 600 false)) :: .obj g179 (.cells #[.slice none 0 0, .slice none 0 0] 62) :: .row 4 1 (.slice (some ⟨g171, 0, none⟩) 900 900) 900 (boolC (List.replicate 900 false)) :: .obj h (.cells #[.map (some m), .int .i64 (((n : Nat) : Int)), .int .i64 (((600 : Nat) : Int)), .slice sg1 ((freeG 600 zs).length) sc1, .int .i64 (((900 : Nat) : Int)), .slice lg1 ((freeG 900 zl).length) lc1] 73) :: .obj m (mapO ((mvD 0 (stay ws oz)).map Ob.en) n) :: .row 96 2 (.slice sg1 ((freeG 600 zs).length) sc1) ((freeG 600 zs).length) (gapC (freeG 600 zs)) :: .row 96 2 (.slice lg1 ((freeG 900 zl).length) lc1) ((freeG 900 zl).length) (gapC (freeG 900 zl)) :: .row 3 1 (.slice lo nk lcp) nk (intC rs) :: .row 59 1 (.slice (some ⟨g19, 0, none⟩) (n + 1) (n + 1)) (n + 1) (slR n mz) :: .row 4 1 (.slice (some ⟨g43, 0, none⟩) (n + 1) (n + 1)) (n + 1) (boolC bs) :: ((mvD 0 (stay ws oz)).map Ob.row ++ (mz.map Ob.row ++ []))) := by rw [← boolC_made]; exact hM
                 refine ⟨(hM.sub (.cons _ (.cons _ (.cons _ (.cons _ (.cons _ (.cons _ (.cons _ (.cons _ (.cons_cons _ (.cons_cons _ (List.nil_sublist _)))))))))))), ?_⟩
                 intro a hA
                 refine any_tk (v := .agg #[.slice (some ⟨g181, 0, none⟩) 600 600, .slice (some ⟨g171, 0, none⟩) 900 900]) hA 2 rfl rfl rfl rfl hP (hM.sub (.cons _ (.cons _ (.cons _ (.cons _ (.cons _ (.cons _ (.cons _ (.cons _ (.cons_cons _ (.cons_cons _ (List.nil_sublist _)))))))))))) (fun w1 hM => does_build rfl (fun w => by kernel_rfl)) ?_
                 intro a hA
                 refine any_one (by kernel_rfl) (g_store (us := [.slice (some ⟨g181, 0, none⟩) 600 600, .slice (some ⟨g171, 0, none⟩) 900 900]) (L' := (.row 4 1 (.slice (some ⟨g181, 0, none⟩) 600 600) 600 (boolC (List.replicate 600 false)) :: .obj g179 (.cells #[.slice (some ⟨g181, 0, none⟩) 600 600, .slice (some ⟨g171, 0, none⟩) 900 900] 62) :: .row 4 1 (.slice (some ⟨g171, 0, none⟩) 900 900) 900 (boolC (List.replicate 900 false)) :: .obj h (.cells #[.map (some m), .int .i64 (((n : Nat) : Int)), .int .i64 (((600 : Nat) : Int)), .slice sg1 ((freeG 600 zs).length) sc1, .int .i64 (((900 : Nat) : Int)), .slice lg1 ((freeG 900 zl).length) lc1] 73) :: .obj m (mapO ((mvD 0 (stay ws oz)).map Ob.en) n) :: .row 96 2 (.slice sg1 ((freeG 600 zs).length) sc1) ((freeG 600 zs).length) (gapC (freeG 600 zs)) :: .row 96 2 (.slice lg1 ((freeG 900 zl).length) lc1) ((freeG 900 zl).length) (gapC (freeG 900 zl)) :: .row 3 1 (.slice lo nk lcp) nk (intC rs) :: .row 59 1 (.slice (some ⟨g19, 0, none⟩) (n + 1) (n + 1)) (n + 1) (slR n mz) :: .row 4 1 (.slice (some ⟨g43, 0, none⟩) (n + 1) (n + 1)) (n + 1) (boolC bs) :: ((mvD 0 (stay ws oz)).map Ob.row ++ (mz.map Ob.row ++ [])))) hA hM 4 rfl rfl rfl (m_store rfl rfl rfl (by kernel_rfl) hM 1 rfl rfl rfl) 1 rfl rfl rfl ?_)
                 intro w184 hM
                 refine ⟨(hM.sub (.cons _ (.cons _ (.cons _ (.cons _ (.cons _ (.cons _ (.cons _ (.cons _ (.cons_cons _ (.cons_cons _ (List.nil_sublist _)))))))))))), ?_⟩
                 refine any_end (by kernel_rfl) ?_
                 replace hM := hM.b2
                 replace hM := hM.b1
                 replace hM := hM.b2
                 replace hM := hM.b9
                 replace hM := hM.b9
                 replace hM := hM.b8
                 replace hM := hM.b8
                 replace hM := hM.b8
                 replace hM := hM.b8
                 replace hM : Mg w w184 (.obj h (.cells #[.map (some m), .int .i64 (((n : Nat) : Int)), .int .i64 (((600 : Nat) : Int)), .slice sg1 ((freeG 600 zs).length) sc1, .int .i64 (((900 : Nat) : Int)), .slice lg1 ((freeG 900 zl).length) lc1] 73) :: .obj m (mapO ((mvD 0 (stay ws oz)).map Ob.en) n) :: .row 96 2 (.slice sg1 ((freeG 600 zs).length) sc1) ((freeG 600 zs).length) (gapC (freeG 600 zs)) :: .row 96 2 (.slice lg1 ((freeG 900 zl).length) lc1) ((freeG 900 zl).length) (gapC (freeG 900 zl)) :: .row 59 1 (.slice (some ⟨g19, 0, none⟩) (n + 1) (n + 1)) (n + 1) (slR n mz) :: .row 4 1 (.slice (some ⟨g43, 0, none⟩) (n + 1) (n + 1)) (n + 1) (boolC bs) :: .obj g179 (.cells #[.slice (some ⟨g181, 0, none⟩) 600 600, .slice (some ⟨g171, 0, none⟩) 900 900] 62) :: .row 4 1 (.slice (some ⟨g181, 0, none⟩) 600 600) 600 (boolC (List.replicate 600 false)) :: .row 4 1 (.slice (some ⟨g171, 0, none⟩) 900 900) 900 (boolC (List.replicate 900 false)) :: ((mvD 0 (stay ws oz)).map Ob.row ++ (mz.map Ob.row ++ []))) := by
                   have h9 := hM.sub (.cons_cons _ (.cons_cons _ (.cons_cons _ (.cons_cons _ (.cons_cons _ (.cons_cons _ (.cons_cons _ (.cons_cons _ (.cons_cons _ (.cons _ (.refl _)))))))))))
                   exact h9
                 exact hJ86 _ _ ⟨g179, g181, g171, hA.keep _ ⟨rfl, rfl, rfl, rfl, rfl, rfl, rfl, rfl, rfl, trivial⟩, hM⟩
             · refine g_new (vs := [.slice none 0 0, .slice none 0 0]) (t := 62) hA hM 3 rfl rfl rfl rfl (fun g => .pointer (some ⟨g, 0, none⟩)) (does_alloc (z := .agg #[.slice none 0 0, .slice none 0 0]) (by kernel_rfl) rfl) (by decide) ?_
               intro g185 w186 hM
               refine ⟨(hM.sub (.cons _ (.cons _ (.cons _ (.cons _ (.cons _ (.cons _ (.cons_cons _ (.cons_cons _ (List.nil_sublist _)))))))))), ?_⟩
               intro a hA
               refine any_many (rs := [0, 1]) (by kernel_rfl) (by simp) ⟨?_, ?_, trivial⟩
               · refine g_makeE (z := .bool false) (sz := 1) (by_ := 1) (m := 600) hA hM Try.underlying61 (by kernel_rfl) rfl rfl rfl 0 rfl rfl rfl rfl (by omega) (by omega) (.inl (by decide)) ?_
                 intro g187 w188 hM
                 replace hM : Mg w w188 (.row 4 1 (.slice (some ⟨g187, 0, none⟩) 600 600) 600 (boolC (List.replicate 600 false)) :: .obj g185 (.cells #[.slice none 0 0, .slice none 0 0] 62) :: .obj h (.cells #[.map (some m), .int .i64 (((n : Nat) : Int)), .int .i64 (((600 : Nat) : Int)), .slice sg1 ((freeG 600 zs).length) sc1, .int .i64 (((900 : Nat) : Int)), .slice lg1 ((freeG 900 zl).length) lc1] 73) :: .obj m (mapO ((mvD 0 (stay ws oz)).map Ob.en) n) :: .row 96 2 (.slice sg1 ((freeG 600 zs).length) sc1) ((freeG 600 zs).length) (gapC (freeG 600 zs)) :: .row 96 2 (.slice lg1 ((freeG 900 zl).length) lc1) ((freeG 900 zl).length) (gapC (freeG 900 zl)) :: .row 3 1 (.slice lo nk lcp) nk (intC rs) :: .row 59 1 (.slice (some ⟨g19, 0, none⟩) (n + 1) (n + 1)) (n + 1) (slR n mz) :: .row 4 1 (.slice (some ⟨g43, 0, none⟩) (n + 1) (n + 1)) (n + 1) (boolC bs) :: ((mvD 0 (stay ws oz)).map Ob.row ++ (mz.map Ob.row ++ []))) := by rw [← boolC_made]; exact hM
                 refine ⟨(hM.sub (.cons _ (.cons _ (.cons _ (.cons _ (.cons _ (.cons _ (.cons _ (.cons_cons _ (.cons_cons _ (List.nil_sublist _))))))))))), ?_⟩
                 intro a hA
                 refine any_one (by kernel_rfl) (g_makeE (z := .bool false) (sz := 1) (by_ := 1) (m := 900) hA hM Try.underlying61 (by kernel_rfl) rfl rfl rfl 1 rfl rfl rfl rfl (by omega) (by omega) (.inl (by decide)) ?_)
                 intro g189 w190 hM
                 replace hM : Mg w w190 (.row 4 1 (.slice (some ⟨g189, 0, none⟩) 900 900) 900 (boolC (List.replicate 900 false)) :: .row 4 1 (.slice (some ⟨g187, 0, none⟩) 600 600) 600 (boolC (List.replicate 600 false)) :: .obj g185 (.cells #[.slice none 0 0, .slice none 0 0] 62) :: .obj h (.cells #[.map (some m), .int .i64 (((n : Nat) : Int)), .int .i64 (((600 : Nat) : Int)), .slice sg1 ((freeG 600 zs).length) sc1, .int .i64 (((900 : Nat) : Int)), .slice lg1 ((freeG 900 zl).length) lc1] 73) :: .obj m (mapO ((mvD 0 (stay ws oz)).map Ob.en) n) :: .row 96 2 (.slice sg1 ((freeG 600 zs).length) sc1) ((freeG 600 zs).length) (gapC (freeG 600 zs)) :: .row 96 2 (.slice lg1 ((freeG 900 zl).length) lc1) ((freeG 900 zl).length) (gapC (freeG 900 zl)) :: .row 3 1 (.slice lo nk lcp) nk (intC rs) :: .row 59 1 (.slice (some ⟨g19, 0, none⟩) (n + 1) (n + 1)) (n + 1) (slR n mz) :: .row 4 1 (.slice (some ⟨g43, 0, none⟩) (n + 1) (n + 1)) (n + 1) (boolC bs) :: ((mvD 0 (stay ws oz)).map Ob.row ++ (mz.map Ob.row ++ []))) := by rw [← boolC_made]; exact hM
                 refine ⟨(hM.sub (.cons _ (.cons _ (.cons _ (.cons _ (.cons _ (.cons _ (.cons _ (.cons _ (.cons_cons _ (.cons_cons _ (List.nil_sublist _)))))))))))), ?_⟩
                 intro a hA
                 refine any_tk (v := .agg #[.slice (some ⟨g187, 0, none⟩) 600 600, .slice (some ⟨g189, 0, none⟩) 900 900]) hA 2 rfl rfl rfl rfl hP (hM.sub (.cons _ (.cons _ (.cons _ (.cons _ (.cons _ (.cons _ (.cons _ (.cons _ (.cons_cons _ (.cons_cons _ (List.nil_sublist _)))))))))))) (fun w1 hM => does_build rfl (fun w => by kernel_rfl)) ?_
                 intro a hA
                 refine any_one (by kernel_rfl) (g_store (us := [.slice (some ⟨g187, 0, none⟩) 600 600, .slice (some ⟨g189, 0, none⟩) 900 900]) (L' := (.row 4 1 (.slice (some ⟨g189, 0, none⟩) 900 900) 900 (boolC (List.replicate 900 false)) :: .row 4 1 (.slice (some ⟨g187, 0, none⟩) 600 600) 600 (boolC (List.replicate 600 false)) :: .obj g185 (.cells #[.slice (some ⟨g187, 0, none⟩) 600 600, .slice (some ⟨g189, 0, none⟩) 900 900] 62) :: .obj h (.cells #[.map (some m), .int .i64 (((n : Nat) : Int)), .int .i64 (((600 : Nat) : Int)), .slice sg1 ((freeG 600 zs).length) sc1, .int .i64 (((900 : Nat) : Int)), .slice lg1 ((freeG 900 zl).length) lc1] 73) :: .obj m (mapO ((mvD 0 (stay ws oz)).map Ob.en) n) :: .row 96 2 (.slice sg1 ((freeG 600 zs).length) sc1) ((freeG 600 zs).length) (gapC (freeG 600 zs)) :: .row 96 2 (.slice lg1 ((freeG 900 zl).length) lc1) ((freeG 900 zl).length) (gapC (freeG 900 zl)) :: .row 3 1 (.slice lo nk lcp) nk (intC rs) :: .row 59 1 (.slice (some ⟨g19, 0, none⟩) (n + 1) (n + 1)) (n + 1) (slR n mz) :: .row 4 1 (.slice (some ⟨g43, 0, none⟩) (n + 1) (n + 1)) (n + 1) (boolC bs) :: ((mvD 0 (stay ws oz)).map Ob.row ++ (mz.map Ob.row ++ [])))) hA hM 4 rfl rfl rfl (m_store rfl rfl rfl (by kernel_rfl) hM 2 rfl rfl rfl) 2 rfl rfl rfl ?_)
                 intro w192 hM
                 refine ⟨(hM.sub (.cons _ (.cons _ (.cons _ (.cons _ (.cons _ (.cons _ (.cons _ (.cons _ (.cons_cons _ (.cons_cons _ (List.nil_sublist _)))))))))))), ?_⟩
                 refine any_end (by kernel_rfl) ?_
                 replace hM := hM.b1
                 replace hM := hM.b2
                 replace hM := hM.b9
                 replace hM := hM.b9
                 replace hM := hM.b8
                 replace hM := hM.b8
                 replace hM := hM.b8
                 replace hM := hM.b8
                 replace hM : Mg w w192 (.obj h (.cells #[.map (some m), .int .i64 (((n : Nat) : Int)), .int .i64 (((600 : Nat) : Int)), .slice sg1 ((freeG 600 zs).length) sc1, .int .i64 (((900 : Nat) : Int)), .slice lg1 ((freeG 900 zl).length) lc1] 73) :: .obj m (mapO ((mvD 0 (stay ws oz)).map Ob.en) n) :: .row 96 2 (.slice sg1 ((freeG 600 zs).length) sc1) ((freeG 600 zs).length) (gapC (freeG 600 zs)) :: .row 96 2 (.slice lg1 ((freeG 900 zl).length) lc1) ((freeG 900 zl).length) (gapC (freeG 900 zl)) :: .row 59 1 (.slice (some ⟨g19, 0, none⟩) (n + 1) (n + 1)) (n + 1) (slR n mz) :: .row 4 1 (.slice (some ⟨g43, 0, none⟩) (n + 1) (n + 1)) (n + 1) (boolC bs) :: .obj g185 (.cells #[.slice (some ⟨g187, 0, none⟩) 600 600, .slice (some ⟨g189, 0, none⟩) 900 900] 62) :: .row 4 1 (.slice (some ⟨g187, 0, none⟩) 600 600) 600 (boolC (List.replicate 600 false)) :: .row 4 1 (.slice (some ⟨g189, 0, none⟩) 900 900) 900 (boolC (List.replicate 900 false)) :: ((mvD 0 (stay ws oz)).map Ob.row ++ (mz.map Ob.row ++ []))) := by
                   have h9 := hM.sub (.cons_cons _ (.cons_cons _ (.cons_cons _ (.cons_cons _ (.cons_cons _ (.cons_cons _ (.cons_cons _ (.cons_cons _ (.cons_cons _ (.cons _ (.refl _)))))))))))
                   exact h9
                 exact hJ86 _ _ ⟨g185, g187, g189, hA.keep _ ⟨rfl, rfl, rfl, rfl, rfl, rfl, rfl, rfl, rfl, trivial⟩, hM⟩
               · refine g_makeE (z := .bool false) (sz := 1) (by_ := 1) (m := 900) hA hM Try.underlying61 (by kernel_rfl) rfl rfl rfl 1 rfl rfl rfl rfl (by omega) (by omega) (.inl (by decide)) ?_
                 intro g193 w194 hM
                 replace hM : Mg w w194 (.row 4 1 (.slice (some ⟨g193, 0, none⟩) 900 900) 900 (boolC (List.replicate 900 false)) :: .obj g185 (.cells #[.slice none 0 0, .slice none 0 0] 62) :: .obj h (.cells #[.map (some m), .int .i64 (((n : Nat) : Int)), .int .i64 (((600 : Nat) : Int)), .slice sg1 ((freeG 600 zs).length) sc1, .int .i64 (((900 : Nat) : Int)), .slice lg1 ((freeG 900 zl).length) lc1] 73) :: .obj m (mapO ((mvD 0 (stay ws oz)).map Ob.en) n) :: .row 96 2 (.slice sg1 ((freeG 600 zs).length) sc1) ((freeG 600 zs).length) (gapC (freeG 600 zs)) :: .row 96 2 (.slice lg1 ((freeG 900 zl).length) lc1) ((freeG 900 zl).length) (gapC (freeG 900 zl)) :: .row 3 1 (.slice lo nk lcp) nk (intC rs) :: .row 59 1 (.slice (some ⟨g19, 0, none⟩) (n + 1) (n + 1)) (n + 1) (slR n mz) :: .row 4 1 (.slice (some ⟨g43, 0, none⟩) (n + 1) (n + 1)) (n + 1) (boolC bs) :: ((mvD 0 (stay ws oz)).map Ob.row ++ (mz.map Ob.row ++ []))) := by rw [← boolC_made]; exact hM
                 refine ⟨(hM.sub (.cons _ (.cons _ (.cons _ (.cons _ (.cons _ (.cons _ (.cons _ (.cons_cons _ (.cons_cons _ (List.nil_sublist _))))))))))), ?_⟩
                 intro a hA
                 refine any_one (by kernel_rfl) (g_makeE (z := .bool false) (sz := 1) (by_ := 1) (m := 600) hA hM Try.underlying61 (by kernel_rfl) rfl rfl rfl 0 rfl rfl rfl rfl (by omega) (by omega) (.inl (by decide)) ?_)
                 intro g195 w196 hM
                 replace hM : Mg w w196 (.row 4 1 (.slice (some ⟨g195, 0, none⟩) 600 600) 600 (boolC (List.replicate 600 false)) :: .row 4 1 (.slice (some ⟨g193, 0, none⟩) 900 900) 900 (boolC (List.replicate 900 false)) :: .obj g185 (.cells #[.slice none 0 0, .slice none 0 0] 62) :: .obj h (.cells #[.map (some m), .int .i64 (((n : Nat) : Int)), .int .i64 (((600 : Nat) : Int)), .slice sg1 ((freeG 600 zs).length) sc1, .int .i64 (((900 : Nat) : Int)), .slice lg1 ((freeG 900 zl).length) lc1] 73) :: .obj m (mapO ((mvD 0 (stay ws oz)).map Ob.en) n) :: .row 96 2 (.slice sg1 ((freeG 600 zs).length) sc1) ((freeG 600 zs).length) (gapC (freeG 600 zs)) :: .row 96 2 (.slice lg1 ((freeG 900 zl).length) lc1) ((freeG 900 zl).length) (gapC (freeG 900 zl)) :: .row 3 1 (.slice lo nk lcp) nk (intC rs) :: .row 59 1 (.slice (some ⟨g19, 0, none⟩) (n + 1) (n + 1)) (n + 1) (slR n mz) :: .row 4 1 (.slice (some ⟨g43, 0, none⟩) (n + 1) (n + 1)) (n + 1) (boolC bs) :: ((mvD 0 (stay ws oz)).map Ob.row ++ (mz.map Ob.row ++ []))) := by rw [← boolC_made]; exact hM
                 refine ⟨(hM.sub (.cons _ (.cons _ (.cons _ (.cons _ (.cons _ (.cons _ (.cons _ (.cons _ (.cons_cons _ (.cons_cons _ (List.nil_sublist _)))))))))))), ?_⟩
                 intro a hA
                 refine any_tk (v := .agg #[.slice (some ⟨g195, 0, none⟩) 600 600, .slice (some ⟨g193, 0, none⟩) 900 900]) hA 2 rfl rfl rfl rfl hP (hM.sub (.cons _ (.cons _ (.cons _ (.cons _ (.cons _ (.cons _ (.cons _ (.cons _ (.cons_cons _ (.cons_cons _ (List.nil_sublist _)))))))))))) (fun w1 hM => does_build rfl (fun w => by kernel_rfl)) ?_
                 intro a hA
                 refine any_one (by kernel_rfl) (g_store (us := [.slice (some ⟨g195, 0, none⟩) 600 600, .slice (some ⟨g193, 0, none⟩) 900 900]) (L' := (.row 4 1 (.slice (some ⟨g195, 0, none⟩) 600 600) 600 (boolC (List.replicate 600 false)) :: .row 4 1 (.slice (some ⟨g193, 0, none⟩) 900 900) 900 (boolC (List.replicate 900 false)) :: .obj g185 (.cells #[.slice (some ⟨g195, 0, none⟩) 600 600, .slice (some ⟨g193, 0, none⟩) 900 900] 62) :: .obj h (.cells #[.map (some m), .int .i64 (((n : Nat) : Int)), .int .i64 (((600 : Nat) : Int)), .slice sg1 ((freeG 600 zs).length) sc1, .int .i64 (((900 : Nat) : Int)), .slice lg1 ((freeG 900 zl).length) lc1] 73) :: .obj m (mapO ((mvD 0 (stay ws oz)).map Ob.en) n) :: .row 96 2 (.slice sg1 ((freeG 600 zs).length) sc1) ((freeG 600 zs).length) (gapC (freeG 600 zs)) :: .row 96 2 (.slice lg1 ((freeG 900 zl).length) lc1) ((freeG 900 zl).length) (gapC (freeG 900 zl)) :: .row 3 1 (.slice lo nk lcp) nk (intC rs) :: .row 59 1 (.slice (some ⟨g19, 0, none⟩) (n + 1) (n + 1)) (n + 1) (slR n mz) :: .row 4 1 (.slice (some ⟨g43, 0, none⟩) (n + 1) (n + 1)) (n + 1) (boolC bs) :: ((mvD 0 (stay ws oz)).map Ob.row ++ (mz.map Ob.row ++ [])))) hA hM 4 rfl rfl rfl (m_store rfl rfl rfl (by kernel_rfl) hM 2 rfl rfl rfl) 2 rfl rfl rfl ?_)
                 intro w198 hM
                 refine ⟨(hM.sub (.cons _ (.cons _ (.cons _ (.cons _ (.cons _ (.cons _ (.cons _ (.cons _ (.cons_cons _ (.cons_cons _ (List.nil_sublist _)))))))))))), ?_⟩
                 refine any_end (by kernel_rfl) ?_
                 replace hM := hM.b1
                 replace hM := hM.b1
                 replace hM := hM.b2
                 replace hM := hM.b9
                 replace hM := hM.b9
                 replace hM := hM.b8
                 replace hM := hM.b8
                 replace hM := hM.b8
                 replace hM := hM.b8
                 replace hM : Mg w w198 (.obj h (.cells #[.map (some m), .int .i64 (((n : Nat) : Int)), .int .i64 (((600 : Nat) : Int)), .slice sg1 ((freeG 600 zs).length) sc1, .int .i64 (((900 : Nat) : Int)), .slice lg1 ((freeG 900 zl).length) lc1] 73) :: .obj m (mapO ((mvD 0 (stay ws oz)).map Ob.en) n) :: .row 96 2 (.slice sg1 ((freeG 600 zs).length) sc1) ((freeG 600 zs).length) (gapC (freeG 600 zs)) :: .row 96 2 (.slice lg1 ((freeG 900 zl).length) lc1) ((freeG 900 zl).length) (gapC (freeG 900 zl)) :: .row 59 1 (.slice (some ⟨g19, 0, none⟩) (n + 1) (n + 1)) (n + 1) (slR n mz) :: .row 4 1 (.slice (some ⟨g43, 0, none⟩) (n + 1) (n + 1)) (n + 1) (boolC bs) :: .obj g185 (.cells #[.slice (some ⟨g195, 0, none⟩) 600 600, .slice (some ⟨g193, 0, none⟩) 900 900] 62) :: .row 4 1 (.slice (some ⟨g195, 0, none⟩) 600 600) 600 (boolC (List.replicate 600 false)) :: .row 4 1 (.slice (some ⟨g193, 0, none⟩) 900 900) 900 (boolC (List.replicate 900 false)) :: ((mvD 0 (stay ws oz)).map Ob.row ++ (mz.map Ob.row ++ []))) := by
                   have h9 := hM.sub (.cons_cons _ (.cons_cons _ (.cons_cons _ (.cons_cons _ (.cons_cons _ (.cons_cons _ (.cons_cons _ (.cons_cons _ (.cons_cons _ (.cons _ (.refl _)))))))))))
                   exact h9
                 exact hJ86 _ _ ⟨g185, g195, g193, hA.keep _ ⟨rfl, rfl, rfl, rfl, rfl, rfl, rfl, rfl, rfl, trivial⟩, hM⟩
         refine wp_seq_k (fun K199 hK199 => ?_)
         replace hA := hA.keep [(2, .slice so2 l2.length ca2), (7, .pointer (some ⟨h, 0, none⟩)), (8, .int .i64 0), (9, .int .i64 (((n : Nat) : Int))), (13, .slice (some ⟨g19, 0, none⟩) (n + 1) (n + 1)), (14, .int .i64 (((jm + 1 : Nat) : Int))), (21, .slice (some ⟨g43, 0, none⟩) (n + 1) (n + 1)), (22, .slice (some ⟨g46, 0, none⟩) 0 0)] ⟨rfl, rfl, rfl, rfl, rfl, rfl, rfl, rfl, trivial⟩
         refine wp_region_lit ?_
         refine seq_do hA rfl rfl rfl (does_assign rfl) ?_
         intro a hA
         refine seq_end ?_
         refine hK199 _ _ ?_
         refine wp_block ?_
         replace hM := hM.b1
         replace hM := hM.b6
         replace hM := hM.b6
         replace hM := hM.b6
         replace hM := hM.b6
         replace hM := hM.b6
         refine wp_loop_n (fun m_ a w1 => ∃ (i : Nat) (rs : List Int) (lo : Option Addr) (lcp : Nat) (nk : Nat) (sts : List Bool), m_ = 1 + (5 - i) ∧ (i ≤ 5 ∧ nk = rs.length ∧ nk ≤ i ∧ sts.length = n + 1 ∧ (∀ y : Nat, On sts y ↔ ((y : Nat) : Int) ∈ rs) ∧ ∀ r ∈ rs, 0 ≤ r ∧ r ≤ ((n : Nat) : Int)) ∧ Sl a 348 [(2, .slice so2 l2.length ca2), (7, .pointer (some ⟨h, 0, none⟩)), (8, .int .i64 0), (9, .int .i64 (((n : Nat) : Int))), (13, .slice (some ⟨g19, 0, none⟩) (n + 1) (n + 1)), (14, .int .i64 (((jm + 1 : Nat) : Int))), (21, .slice (some ⟨g43, 0, none⟩) (n + 1) (n + 1)), (22, .slice lo nk lcp), (23, .int .i64 (((i : Nat) : Int)))] ∧ Mg w w1 (.obj h (.cells #[.map (some m), .int .i64 (((n : Nat) : Int)), .int .i64 (((600 : Nat) : Int)), .slice sg ([(us, 600 - us)].length) sc, .int .i64 (((900 : Nat) : Int)), .slice lg ([(ul, 900 - ul)].length) lc] 73) :: .obj m (mapO (oz.map Ob.en) n) :: .row 96 2 (.slice sg ([(us, 600 - us)].length) sc) ([(us, 600 - us)].length) (gapC [(us, 600 - us)]) :: .row 96 2 (.slice lg ([(ul, 900 - ul)].length) lc) ([(ul, 900 - ul)].length) (gapC [(ul, 900 - ul)]) :: .row 59 1 (.slice (some ⟨g19, 0, none⟩) (n + 1) (n + 1)) (n + 1) (slR n mz) :: .row 4 1 (.slice (some ⟨g43, 0, none⟩) (n + 1) (n + 1)) (n + 1) (boolC sts) :: .row 3 1 (.slice lo nk lcp) nk (intC rs) :: (oz.map Ob.row ++ (mz.map Ob.row ++ [])))) _ ⟨0, [], some ⟨g46, 0, none⟩, 0, 0, (List.replicate (n + 1) false), rfl, ⟨Nat.zero_le _, rfl, Nat.le_refl _, by simp, fun y => ⟨(fun hq => by have := List.mem_of_getElem? hq; rw [List.mem_replicate] at this; cases this.2), (fun hq => by cases hq)⟩, (fun r hr => by cases hr)⟩, hA.keep _ ⟨rfl, rfl, rfl, rfl, rfl, rfl, rfl, rfl, rfl, trivial⟩, hM⟩ ?_
         clear hM hA
         rintro m_ a w200 ⟨i, rs, lo, lcp, nk, sts, rfl, hinv202, hA, hM⟩ K201 hK201
         obtain ⟨hi0, hnk, hnki, hsl, hon, hrr⟩ := hinv202
         refine wp_seq_k (fun K203 hK203 => ?_)
         refine wp_seq_k (fun K204 hK204 => ?_)
         refine wp_region_lit ?_
         refine seq_do hA rfl rfl rfl (does_move rfl) ?_
         intro a hA
         refine seq_do hA rfl rfl rfl (does_move rfl) ?_
         intro a hA
         refine seq_do (v := .int .i64 (((l2.length : Nat) : Int))) hA rfl rfl rfl (does_len Try.underlying56 rfl) ?_
         intro a hA
         rcases Bool.eq_false_or_eq_true (decide (((i : Nat) : Int) < ((l2.length : Nat) : Int))) with hb205 | hb205
         · have hb205' := of_decide_eq_true hb205
           refine seq_do (v := .bool true) hA rfl rfl rfl (does_bin rfl rfl (fun w => (bin_lss w).trans (by rw [hb205]))) ?_
           intro a hA
           refine seq_do hA rfl rfl rfl (does_move rfl) ?_
           intro a hA
           refine seq_do hA rfl rfl rfl (does_move rfl) ?_
           intro a hA
           rcases Bool.eq_false_or_eq_true (decide (((i : Nat) : Int) < 5)) with hb206 | hb206
           · have hb206' := of_decide_eq_true hb206
             refine seq_do (v := .bool true) hA rfl rfl rfl (does_bin rfl rfl (fun w => (bin_lss w).trans (by rw [hb206]))) ?_
             intro a hA
             refine seq_do (v := .bool true) hA rfl rfl rfl (does_pick rfl rfl rfl rfl) ?_
             intro a hA
             refine seq_end ?_
             refine hK204 _ _ ?_
             refine wp_cond_true (hA.ev rfl) ?_
             refine wp_skip ?_
             refine hK203 _ _ ?_
             refine wp_seq_k (fun K207 hK207 => ?_)
             refine wp_block ?_
             refine wp_seq_k (fun K208 hK208 => ?_)
             replace hA := hA.keep [(2, .slice so2 l2.length ca2), (7, .pointer (some ⟨h, 0, none⟩)), (8, .int .i64 0), (9, .int .i64 (((n : Nat) : Int))), (13, .slice (some ⟨g19, 0, none⟩) (n + 1) (n + 1)), (14, .int .i64 (((jm + 1 : Nat) : Int))), (21, .slice (some ⟨g43, 0, none⟩) (n + 1) (n + 1)), (22, .slice lo nk lcp), (23, .int .i64 (((i : Nat) : Int)))] ⟨rfl, rfl, rfl, rfl, rfl, rfl, rfl, rfl, rfl, trivial⟩
             obtain ⟨bso2, fso2, hso2, htso2, hcso2⟩ := hl2.pos (fun k => by have h9 : i < l2.length := (by omega); rw [k] at h9; exact absurd h9 (Nat.not_lt_zero _))
             have hb8 := UInt8.toNat_lt (l2.getD i 0)
             obtain ⟨rx, hrx⟩ : ∃ rx, rx = (l2.getD i 0).toNat % (n + 1) := ⟨_, rfl⟩
             have hrl : rx < n + 1 := by rw [hrx]; exact Nat.mod_lt _ (by omega)
             refine wp_region_lit ?_
             refine seq_do hA rfl rfl rfl (does_move rfl) ?_
             intro a hA
             refine seq_do hA rfl rfl rfl (does_move rfl) ?_
             intro a hA
             refine seq_do (v := .pointer (some ⟨bso2, fso2 + i, none⟩)) hA rfl rfl rfl (does_indexRow (k := i) Try.underlying56 (by kernel_rfl) rfl rfl rfl hso2 (by omega)) ?_
             intro a hA
             refine seq_do (v := .int .u8 ((((l2.getD i 0).toNat : Nat) : Int))) hA rfl rfl rfl (m_loadR hM htso2 (hcso2 i (by omega)) HbM_is1_5 rfl) ?_
             intro a hA
             refine seq_do (v := .int .i64 ((((l2.getD i 0).toNat : Nat) : Int))) hA rfl rfl rfl (does_convert rfl (ar_conv Try.underlying5 Try.underlying3 (in_i64 (by omega) (by omega)))) ?_
             intro a hA
             refine seq_do hA rfl rfl rfl (does_move rfl) ?_
             intro a hA
             refine seq_do (v := .int .i64 (((n + 1 : Nat) : Int))) hA rfl rfl rfl (does_bin rfl rfl (ar_add ((in_i64 (by omega) (by omega)).trans (by omega)))) ?_
             intro a hA
             refine seq_do (v := .int .i64 (((rx : Nat) : Int))) hA rfl rfl rfl (does_bin rfl rfl (ar_rem (by omega) ((rem_nat _ _).trans (by rw [← hrx])))) ?_
             intro a hA
             refine seq_do hA rfl rfl rfl (does_assign rfl) ?_
             intro a hA
             refine seq_end ?_
             refine hK208 _ _ ?_
             refine wp_seq_k (fun K209 hK209 => ?_)
             replace hA := hA.keep [(2, .slice so2 l2.length ca2), (7, .pointer (some ⟨h, 0, none⟩)), (8, .int .i64 0), (9, .int .i64 (((n : Nat) : Int))), (13, .slice (some ⟨g19, 0, none⟩) (n + 1) (n + 1)), (14, .int .i64 (((jm + 1 : Nat) : Int))), (21, .slice (some ⟨g43, 0, none⟩) (n + 1) (n + 1)), (22, .slice lo nk lcp), (23, .int .i64 (((i : Nat) : Int))), (24, .int .i64 (((rx : Nat) : Int)))] ⟨rfl, rfl, rfl, rfl, rfl, rfl, rfl, rfl, rfl, rfl, trivial⟩
             refine wp_region_lit ?_
             refine seq_do hA rfl rfl rfl (does_move rfl) ?_
             intro a hA
             refine seq_do hA rfl rfl rfl (does_move rfl) ?_
             intro a hA
             refine s_litE (e := 3) (sz := 1) (m := 1) (vs := intC [((rx : Nat) : Int)]) hA hM rfl rfl rfl (does_buildSlice rfl (by kernel_rfl)) rfl rfl (.inl (by decide)) ?_
             intro g210 w211 hM a hA
             refine s_appendE (e := 3) (sz := 1) (k := 7) (q := nk) (m := 1) (xs := intC rs) (news := intC [((rx : Nat) : Int)]) (L' := fun v212 => (.row 3 1 (.slice (some ⟨g210, 0, none⟩) 1 1) 1 (intC [((rx : Nat) : Int)]) :: .obj h (.cells #[.map (some m), .int .i64 (((n : Nat) : Int)), .int .i64 (((600 : Nat) : Int)), .slice sg ([(us, 600 - us)].length) sc, .int .i64 (((900 : Nat) : Int)), .slice lg ([(ul, 900 - ul)].length) lc] 73) :: .obj m (mapO (oz.map Ob.en) n) :: .row 96 2 (.slice sg ([(us, 600 - us)].length) sc) ([(us, 600 - us)].length) (gapC [(us, 600 - us)]) :: .row 96 2 (.slice lg ([(ul, 900 - ul)].length) lc) ([(ul, 900 - ul)].length) (gapC [(ul, 900 - ul)]) :: .row 59 1 (.slice (some ⟨g19, 0, none⟩) (n + 1) (n + 1)) (n + 1) (slR n mz) :: .row 4 1 (.slice (some ⟨g43, 0, none⟩) (n + 1) (n + 1)) (n + 1) (boolC sts) :: .row 3 1 (v212) (nk + 1) (intC rs ++ intC [((rx : Nat) : Int)]) :: (oz.map Ob.row ++ (mz.map Ob.row ++ [])))) hA rfl rfl rfl (m_appendE (z := .int .i64 0) (sz := 1) (by_ := 8) Try.underlying33 (by kernel_rfl) rfl rfl rfl hM 7 rfl rfl 0 rfl rfl rfl rfl (by omega)) (fun _ => rfl) ?_
             intro v212 w213 hM a hA
             replace hM : Mg w w213 (.row 3 1 (.slice (some ⟨g210, 0, none⟩) 1 1) 1 (intC [((rx : Nat) : Int)]) :: .obj h (.cells #[.map (some m), .int .i64 (((n : Nat) : Int)), .int .i64 (((600 : Nat) : Int)), .slice sg ([(us, 600 - us)].length) sc, .int .i64 (((900 : Nat) : Int)), .slice lg ([(ul, 900 - ul)].length) lc] 73) :: .obj m (mapO (oz.map Ob.en) n) :: .row 96 2 (.slice sg ([(us, 600 - us)].length) sc) ([(us, 600 - us)].length) (gapC [(us, 600 - us)]) :: .row 96 2 (.slice lg ([(ul, 900 - ul)].length) lc) ([(ul, 900 - ul)].length) (gapC [(ul, 900 - ul)]) :: .row 59 1 (.slice (some ⟨g19, 0, none⟩) (n + 1) (n + 1)) (n + 1) (slR n mz) :: .row 4 1 (.slice (some ⟨g43, 0, none⟩) (n + 1) (n + 1)) (n + 1) (boolC sts) :: .row 3 1 (v212) (nk + 1) (intC (rs ++ [((rx : Nat) : Int)])) :: (oz.map Ob.row ++ (mz.map Ob.row ++ []))) := by rw [intC_append]; exact hM
             obtain ⟨so214, ca215, rfl⟩ := owns_anyH (hM.has 7 rfl)
             refine seq_do hA rfl rfl rfl (does_assign rfl) ?_
             intro a hA
             refine seq_end ?_
             refine hK209 _ _ ?_
             replace hA := hA.keep [(2, .slice so2 l2.length ca2), (7, .pointer (some ⟨h, 0, none⟩)), (8, .int .i64 0), (9, .int .i64 (((n : Nat) : Int))), (13, .slice (some ⟨g19, 0, none⟩) (n + 1) (n + 1)), (14, .int .i64 (((jm + 1 : Nat) : Int))), (21, .slice (some ⟨g43, 0, none⟩) (n + 1) (n + 1)), (22, .slice so214 (nk + 1) ca215), (23, .int .i64 (((i : Nat) : Int))), (24, .int .i64 (((rx : Nat) : Int)))] ⟨rfl, rfl, rfl, rfl, rfl, rfl, rfl, rfl, rfl, rfl, trivial⟩
             refine wp_region_lit ?_
             refine seq_do hA rfl rfl rfl (does_move rfl) ?_
             intro a hA
             refine seq_do hA rfl rfl rfl (does_move rfl) ?_
             intro a hA
             refine seq_do (v := .pointer (some ⟨g43, rx * 1, none⟩)) hA rfl rfl rfl (does_indexE (k := rx) Try.underlying61 (by kernel_rfl) rfl rfl rfl (by omega)) ?_
             intro a hA
             refine s_storeE (cs := [.bool true]) (L' := (.row 3 1 (.slice (some ⟨g210, 0, none⟩) 1 1) 1 (intC [((rx : Nat) : Int)]) :: .obj h (.cells #[.map (some m), .int .i64 (((n : Nat) : Int)), .int .i64 (((600 : Nat) : Int)), .slice sg ([(us, 600 - us)].length) sc, .int .i64 (((900 : Nat) : Int)), .slice lg ([(ul, 900 - ul)].length) lc] 73) :: .obj m (mapO (oz.map Ob.en) n) :: .row 96 2 (.slice sg ([(us, 600 - us)].length) sc) ([(us, 600 - us)].length) (gapC [(us, 600 - us)]) :: .row 96 2 (.slice lg ([(ul, 900 - ul)].length) lc) ([(ul, 900 - ul)].length) (gapC [(ul, 900 - ul)]) :: .row 59 1 (.slice (some ⟨g19, 0, none⟩) (n + 1) (n + 1)) (n + 1) (slR n mz) :: .row 4 1 (.slice (some ⟨g43, 0, none⟩) (n + 1) (n + 1)) (n + 1) (over (boolC sts) (rx * 1) [.bool true]) :: .row 3 1 (.slice so214 (nk + 1) ca215) (nk + 1) (intC (rs ++ [((rx : Nat) : Int)])) :: (oz.map Ob.row ++ (mz.map Ob.row ++ [])))) (us := []) hA hM rfl rfl (m_storeE rfl rfl rfl (by kernel_rfl) hM 6 rfl (by show rx * 1 + 1 ≤ _; omega) rfl) 6 rfl rfl ?_
             intro w216 hM
             replace hM : Mg w w216 (.row 3 1 (.slice (some ⟨g210, 0, none⟩) 1 1) 1 (intC [((rx : Nat) : Int)]) :: .obj h (.cells #[.map (some m), .int .i64 (((n : Nat) : Int)), .int .i64 (((600 : Nat) : Int)), .slice sg ([(us, 600 - us)].length) sc, .int .i64 (((900 : Nat) : Int)), .slice lg ([(ul, 900 - ul)].length) lc] 73) :: .obj m (mapO (oz.map Ob.en) n) :: .row 96 2 (.slice sg ([(us, 600 - us)].length) sc) ([(us, 600 - us)].length) (gapC [(us, 600 - us)]) :: .row 96 2 (.slice lg ([(ul, 900 - ul)].length) lc) ([(ul, 900 - ul)].length) (gapC [(ul, 900 - ul)]) :: .row 59 1 (.slice (some ⟨g19, 0, none⟩) (n + 1) (n + 1)) (n + 1) (slR n mz) :: .row 4 1 (.slice (some ⟨g43, 0, none⟩) (n + 1) (n + 1)) (n + 1) (boolC (sts.set rx true)) :: .row 3 1 (.slice so214 (nk + 1) ca215) (nk + 1) (intC (rs ++ [((rx : Nat) : Int)])) :: (oz.map Ob.row ++ (mz.map Ob.row ++ []))) := by rw [Nat.mul_one, boolC_set] at hM; exact hM
             refine seq_end ?_
             refine hK207 _ _ ?_
             replace hA := hA.keep [(2, .slice so2 l2.length ca2), (7, .pointer (some ⟨h, 0, none⟩)), (8, .int .i64 0), (9, .int .i64 (((n : Nat) : Int))), (13, .slice (some ⟨g19, 0, none⟩) (n + 1) (n + 1)), (14, .int .i64 (((jm + 1 : Nat) : Int))), (21, .slice (some ⟨g43, 0, none⟩) (n + 1) (n + 1)), (22, .slice so214 (nk + 1) ca215), (23, .int .i64 (((i : Nat) : Int))), (24, .int .i64 (((rx : Nat) : Int)))] ⟨rfl, rfl, rfl, rfl, rfl, rfl, rfl, rfl, rfl, rfl, trivial⟩
             refine wp_region_lit ?_
             refine seq_do hA rfl rfl rfl (does_move rfl) ?_
             intro a hA
             refine seq_do (v := .int .i64 (((i + 1 : Nat) : Int))) hA rfl rfl rfl (does_bin rfl rfl (ar_add ((in_i64 (by omega) (by omega)).trans (by omega)))) ?_
             intro a hA
             refine seq_do hA rfl rfl rfl (does_assign rfl) ?_
             intro a hA
             refine seq_end ?_
             replace hM := hM.b7
             replace hM := hM.b7
             replace hM := hM.b7
             replace hM := hM.b7
             replace hM := hM.b7
             replace hM := hM.b7
             replace hM := hM.b7
             replace hM : Mg w w216 (.obj h (.cells #[.map (some m), .int .i64 (((n : Nat) : Int)), .int .i64 (((600 : Nat) : Int)), .slice sg ([(us, 600 - us)].length) sc, .int .i64 (((900 : Nat) : Int)), .slice lg ([(ul, 900 - ul)].length) lc] 73) :: .obj m (mapO (oz.map Ob.en) n) :: .row 96 2 (.slice sg ([(us, 600 - us)].length) sc) ([(us, 600 - us)].length) (gapC [(us, 600 - us)]) :: .row 96 2 (.slice lg ([(ul, 900 - ul)].length) lc) ([(ul, 900 - ul)].length) (gapC [(ul, 900 - ul)]) :: .row 59 1 (.slice (some ⟨g19, 0, none⟩) (n + 1) (n + 1)) (n + 1) (slR n mz) :: .row 4 1 (.slice (some ⟨g43, 0, none⟩) (n + 1) (n + 1)) (n + 1) (boolC (sts.set rx true)) :: .row 3 1 (.slice so214 (nk + 1) ca215) (nk + 1) (intC (rs ++ [((rx : Nat) : Int)])) :: (oz.map Ob.row ++ (mz.map Ob.row ++ []))) := by
               have h9 := hM.sub (.cons_cons _ (.cons_cons _ (.cons_cons _ (.cons_cons _ (.cons_cons _ (.cons_cons _ (.cons_cons _ (.cons _ (.refl _)))))))))
               exact h9
             refine hK201 _ _ _ (by omega) ⟨i + 1, rs ++ [((rx : Nat) : Int)], so214, ca215, nk + 1, (sts.set rx true), rfl, ⟨by omega, by rw [hnk]; simp, by omega, by rw [List.length_set]; exact hsl, on_snoc (by omega) hon, root_snoc hrl hrr⟩, hA.keep _ ⟨rfl, rfl, rfl, rfl, rfl, rfl, rfl, rfl, rfl, trivial⟩, hM⟩
           · have hb206' := of_decide_eq_false hb206
             refine seq_do (v := .bool false) hA rfl rfl rfl (does_bin rfl rfl (fun w => (bin_lss w).trans (by rw [hb206]))) ?_
             intro a hA
             refine seq_do (v := .bool false) hA rfl rfl rfl (does_pick rfl rfl rfl rfl) ?_
             intro a hA
             refine seq_end ?_
             refine hK204 _ _ ?_
             refine wp_cond_false (hA.ev rfl) ?_
             refine wp_exit ?_
             replace hM := hM.b6
             replace hM := hM.b6
             replace hM := hM.b6
             replace hM := hM.b6
             replace hM := hM.b6
             replace hM := hM.b6
             replace hM := hM.b6
             exact hJ49 _ _ ⟨rs, lo, lcp, nk, sts, ⟨hnk, by omega, hsl, hon, hrr⟩, hA.keep _ ⟨rfl, rfl, rfl, rfl, rfl, rfl, rfl, trivial⟩, hM⟩
         · have hb205' := of_decide_eq_false hb205
           refine seq_do (v := .bool false) hA rfl rfl rfl (does_bin rfl rfl (fun w => (bin_lss w).trans (by rw [hb205]))) ?_
           intro a hA
           refine seq_do hA rfl rfl rfl (does_move rfl) ?_
           intro a hA
           refine seq_skip hA rfl rfl rfl ?_
           intro a hA
           refine seq_skip hA rfl rfl rfl ?_
           intro a hA
           refine seq_do (v := .bool false) hA rfl rfl rfl (does_pick rfl rfl rfl rfl) ?_
           intro a hA
           refine seq_end ?_
           refine hK204 _ _ ?_
           refine wp_cond_false (hA.ev rfl) ?_
           refine wp_exit ?_
           replace hM := hM.b6
           replace hM := hM.b6
           replace hM := hM.b6
           replace hM := hM.b6
           replace hM := hM.b6
           replace hM := hM.b6
           replace hM := hM.b6
           exact hJ49 _ _ ⟨rs, lo, lcp, nk, sts, ⟨hnk, by omega, hsl, hon, hrr⟩, hA.keep _ ⟨rfl, rfl, rfl, rfl, rfl, rfl, rfl, trivial⟩, hM⟩
       refine wp_seq_k (fun K217 hK217 => ?_)
       replace hA := hA.keep [(1, .slice so1 l1.length ca1), (2, .slice so2 l2.length ca2), (7, .pointer (some ⟨h, 0, none⟩)), (8, .int .i64 0), (9, .int .i64 (((n : Nat) : Int))), (13, .slice (some ⟨g19, 0, none⟩) (n + 1) (n + 1)), (14, .int .i64 (((jm + 1 : Nat) : Int)))] ⟨rfl, rfl, rfl, rfl, rfl, rfl, rfl, trivial⟩
       refine wp_region_lit ?_
       refine seq_do hA rfl rfl rfl (does_assign rfl) ?_
       intro a hA
       refine seq_end ?_
       refine hK217 _ _ ?_
       refine wp_block ?_
       replace hM := hM.b4
       replace hM := hM.b4
       replace hM := hM.b4
       replace hM := hM.b4
       replace hM := hM.b4
       refine wp_loop_n (fun m_ a w1 => ∃ (i : Nat) (oz : List Ob) (mz : List Ob), m_ = 1 + (200 - i) ∧ (i ≤ 200 ∧ Ha2 n oz ∧ mz.map Ob.ws = oz.map Ob.ws ∧ mz.length = n) ∧ Sl a 348 [(1, .slice so1 l1.length ca1), (2, .slice so2 l2.length ca2), (7, .pointer (some ⟨h, 0, none⟩)), (8, .int .i64 0), (9, .int .i64 (((n : Nat) : Int))), (13, .slice (some ⟨g19, 0, none⟩) (n + 1) (n + 1)), (14, .int .i64 (((jm + 1 : Nat) : Int))), (17, .int .i64 (((i : Nat) : Int)))] ∧ Mg w w1 (.obj h (.cells #[.map (some m), .int .i64 (((n : Nat) : Int)), .int .i64 (((600 : Nat) : Int)), .slice sg ([(us, 600 - us)].length) sc, .int .i64 (((900 : Nat) : Int)), .slice lg ([(ul, 900 - ul)].length) lc] 73) :: .obj m (mapO (oz.map Ob.en) n) :: .row 96 2 (.slice sg ([(us, 600 - us)].length) sc) ([(us, 600 - us)].length) (gapC [(us, 600 - us)]) :: .row 96 2 (.slice lg ([(ul, 900 - ul)].length) lc) ([(ul, 900 - ul)].length) (gapC [(ul, 900 - ul)]) :: .row 59 1 (.slice (some ⟨g19, 0, none⟩) (n + 1) (n + 1)) (n + 1) (slR n mz) :: (oz.map Ob.row ++ (mz.map Ob.row ++ [])))) _ ⟨0, os, ms, rfl, ⟨Nat.zero_le _, hm, (by rw [List.take_of_length_le (by omega)] at hmw; exact hmw), by omega⟩, hA.keep _ ⟨rfl, rfl, rfl, rfl, rfl, rfl, rfl, rfl, trivial⟩, hM⟩ ?_
       clear hM hA
       rintro m_ a w218 ⟨i, oz, mz, rfl, hinv220, hA, hM⟩ K219 hK219
       obtain ⟨hi0, hm2, hmw, hml2⟩ := hinv220
       have hozl := hm2.len
       refine wp_seq_k (fun K221 hK221 => ?_)
       refine wp_seq_k (fun K222 hK222 => ?_)
       refine wp_region_lit ?_
       refine seq_do hA rfl rfl rfl (does_move rfl) ?_
       intro a hA
       refine seq_do hA rfl rfl rfl (does_move rfl) ?_
       intro a hA
       refine seq_do (v := .int .i64 (((l1.length : Nat) : Int))) hA rfl rfl rfl (does_len Try.underlying57 rfl) ?_
       intro a hA
       rcases Bool.eq_false_or_eq_true (decide (((i : Nat) : Int) < ((l1.length : Nat) : Int))) with hb223 | hb223
       · have hb223' := of_decide_eq_true hb223
         refine seq_do (v := .bool true) hA rfl rfl rfl (does_bin rfl rfl (fun w => (bin_lss w).trans (by rw [hb223]))) ?_
         intro a hA
         refine seq_do hA rfl rfl rfl (does_move rfl) ?_
         intro a hA
         refine seq_do hA rfl rfl rfl (does_move rfl) ?_
         intro a hA
         rcases Bool.eq_false_or_eq_true (decide (((i : Nat) : Int) < 200)) with hb224 | hb224
         · have hb224' := of_decide_eq_true hb224
           refine seq_do (v := .bool true) hA rfl rfl rfl (does_bin rfl rfl (fun w => (bin_lss w).trans (by rw [hb224]))) ?_
           intro a hA
           refine seq_do (v := .bool true) hA rfl rfl rfl (does_pick rfl rfl rfl rfl) ?_
           intro a hA
           refine seq_end ?_
           refine hK222 _ _ ?_
           refine wp_cond_true (hA.ev rfl) ?_
           refine wp_skip ?_
           refine hK221 _ _ ?_
           refine wp_seq_k (fun K225 hK225 => ?_)
           refine wp_block ?_
           refine wp_seq_k (fun K226 hK226 => ?_)
           replace hA := hA.keep [(1, .slice so1 l1.length ca1), (2, .slice so2 l2.length ca2), (7, .pointer (some ⟨h, 0, none⟩)), (8, .int .i64 0), (9, .int .i64 (((n : Nat) : Int))), (13, .slice (some ⟨g19, 0, none⟩) (n + 1) (n + 1)), (14, .int .i64 (((jm + 1 : Nat) : Int))), (17, .int .i64 (((i : Nat) : Int)))] ⟨rfl, rfl, rfl, rfl, rfl, rfl, rfl, rfl, trivial⟩
           obtain ⟨bso1, fso1, hso1, htso1, hcso1⟩ := hl1.pos (fun k => by have h9 : i < l1.length := (by omega); rw [k] at h9; exact absurd h9 (Nat.not_lt_zero _))
           have hlt := hl1.lt i
           obtain ⟨jx, hjx⟩ : ∃ jx, jx = (l1.getD i 0) % n := ⟨_, rfl⟩
           have hjl : jx < n := by rw [hjx]; exact Nat.mod_lt _ (by omega)
           obtain ⟨o, ho⟩ : ∃ o, oz[jx]? = some o := ⟨_, List.getElem?_eq_getElem (show jx < oz.length by omega)⟩
           obtain ⟨mq, hmq⟩ : ∃ mq, mz[jx]? = some mq := ⟨_, List.getElem?_eq_getElem (show jx < mz.length by omega)⟩
           have hom := List.mem_of_getElem? ho
           have hmqm := List.mem_of_getElem? hmq
           have hqo : mq.ws = o.ws := ws_same hmw hmq ho
           have hsz := hm2.siz o hom
           have hqs : mq.ws.length = o.ws.length := by rw [hqo]
           obtain ⟨kx, hkx⟩ : ∃ kx, kx = (l1.getD i 0) / 64 % mq.ws.length := ⟨_, rfl⟩
           have hkl : kx < mq.ws.length := by rw [hkx]; exact Nat.mod_lt _ (by omega)
           obtain ⟨cz, hcz⟩ : ∃ cz, cz = (l1.getD i 0) / 8 % n := ⟨_, rfl⟩
           have hcl : cz < n := by rw [hcz]; exact Nat.mod_lt _ (by omega)
           obtain ⟨cb, hcb⟩ : ∃ cb, cb = (((((l1.getD i 0) % 4 : Nat)) : Int) != 0) := ⟨_, rfl⟩
           have hfo := hm2.num.at ho
           refine wp_region_lit ?_
           refine seq_do hA rfl rfl rfl (does_move rfl) ?_
           intro a hA
           refine seq_do hA rfl rfl rfl (does_move rfl) ?_
           intro a hA
           refine seq_do (v := .pointer (some ⟨bso1, fso1 + i, none⟩)) hA rfl rfl rfl (does_indexRow (k := i) Try.underlying57 (by kernel_rfl) rfl rfl rfl hso1 (by omega)) ?_
           intro a hA
           refine seq_do (v := .int .u16 (((l1.getD i 0 : Nat) : Int))) hA rfl rfl rfl (m_loadR hM htso1 (hcso1 i (by omega)) HbM_is1_60 rfl) ?_
           intro a hA
           refine seq_do (v := .int .i64 (((l1.getD i 0 : Nat) : Int))) hA rfl rfl rfl (does_convert rfl (ar_conv Try.underlying60 Try.underlying3 (in_i64 (by omega) (by omega)))) ?_
           intro a hA
           refine seq_do hA rfl rfl rfl (does_move rfl) ?_
           intro a hA
           refine seq_do (v := .int .i64 (((jx : Nat) : Int))) hA rfl rfl rfl (does_bin rfl rfl (ar_rem (by omega) ((rem_nat _ _).trans (by rw [← hjx])))) ?_
           intro a hA
           refine seq_do (v := .int .i64 (((jx + 1 : Nat) : Int))) hA rfl rfl rfl (does_bin rfl rfl (ar_add ((in_i64 (by omega) (by omega)).trans (by omega)))) ?_
           intro a hA
           refine seq_do hA rfl rfl rfl (does_assign rfl) ?_
           intro a hA
           refine seq_end ?_
           refine hK226 _ _ ?_
           refine wp_seq_k (fun K227 hK227 => ?_)
           replace hA := hA.keep [(1, .slice so1 l1.length ca1), (2, .slice so2 l2.length ca2), (7, .pointer (some ⟨h, 0, none⟩)), (8, .int .i64 0), (9, .int .i64 (((n : Nat) : Int))), (13, .slice (some ⟨g19, 0, none⟩) (n + 1) (n + 1)), (14, .int .i64 (((jm + 1 : Nat) : Int))), (17, .int .i64 (((i : Nat) : Int))), (18, .int .i64 (((jx + 1 : Nat) : Int)))] ⟨rfl, rfl, rfl, rfl, rfl, rfl, rfl, rfl, rfl, trivial⟩
           refine wp_draw (S := fun w1 => Mg w w1 (.row 59 1 (.slice (some ⟨g19, 0, none⟩) (n + 1) (n + 1)) (n + 1) (slR n mz) :: [])) (by kernel_rfl) ?_
           replace hM := hM.drew
           refine any_tk hA 0 rfl rfl rfl rfl hP (hM.sub (.cons _ (.cons _ (.cons _ (.cons _ (.cons_cons _ (List.nil_sublist _))))))) (fun w1 hM => does_move rfl) ?_
           intro a hA
           refine any_tk hA 1 rfl rfl rfl rfl hP (hM.sub (.cons _ (.cons _ (.cons _ (.cons _ (.cons_cons _ (List.nil_sublist _))))))) (fun w1 hM => does_move rfl) ?_
           intro a hA
           refine any_tk (v := .pointer (some ⟨bso1, fso1 + i, none⟩)) hA 2 rfl rfl rfl rfl hP (hM.sub (.cons _ (.cons _ (.cons _ (.cons _ (.cons_cons _ (List.nil_sublist _))))))) (fun w1 hM => does_indexRow (k := i) Try.underlying57 (by kernel_rfl) rfl rfl rfl hso1 (by omega)) ?_
           intro a hA
           refine any_tk (v := .int .u16 (((l1.getD i 0 : Nat) : Int))) hA 3 rfl rfl rfl rfl hP (hM.sub (.cons _ (.cons _ (.cons _ (.cons _ (.cons_cons _ (List.nil_sublist _))))))) (fun w1 hM => m_loadR hM htso1 (hcso1 i (by omega)) HbM_is1_60 rfl) ?_
           intro a hA
           refine any_tk (v := .int .u16 (((l1.getD i 0 / 64 : Nat) : Int))) hA 4 rfl rfl rfl rfl hP (hM.sub (.cons _ (.cons _ (.cons _ (.cons _ (.cons_cons _ (List.nil_sublist _))))))) (fun w1 hM => does_bin rfl rfl (ar_quo (by decide) ((congrArg IntKind.u16.wrap (Int.tdiv_eq_ediv_of_nonneg (by omega))).trans ((in_u16 (by omega) (by omega)).trans (by omega))))) ?_
           intro a hA
           refine any_tk (v := .int .i64 (((l1.getD i 0 / 64 : Nat) : Int))) hA 5 rfl rfl rfl rfl hP (hM.sub (.cons _ (.cons _ (.cons _ (.cons _ (.cons_cons _ (List.nil_sublist _))))))) (fun w1 hM => does_convert rfl (ar_conv Try.underlying60 Try.underlying3 (in_i64 (by omega) (by omega)))) ?_
           intro a hA
           refine any_tk hA 6 rfl rfl rfl rfl hP (hM.sub (.cons _ (.cons _ (.cons _ (.cons _ (.cons_cons _ (List.nil_sublist _))))))) (fun w1 hM => does_move rfl) ?_
           intro a hA
           refine any_tk hA 7 rfl rfl rfl rfl hP (hM.sub (.cons _ (.cons _ (.cons _ (.cons _ (.cons_cons _ (List.nil_sublist _))))))) (fun w1 hM => does_move rfl) ?_
           intro a hA
           refine any_tk (v := .pointer (some ⟨g19, (jx + 1) * 1, none⟩)) hA 8 rfl rfl rfl rfl hP (hM.sub (.cons _ (.cons _ (.cons _ (.cons _ (.cons_cons _ (List.nil_sublist _))))))) (fun w1 hM => does_indexE (k := jx + 1) Try.underlying58 (by kernel_rfl) rfl rfl rfl (by omega)) ?_
           intro a hA
           refine any_tk (v := .slice (some ⟨mq.g, 0, none⟩) mq.ws.length mq.c) hA 9 rfl rfl rfl rfl hP (hM.sub (.cons _ (.cons _ (.cons _ (.cons _ (.cons_cons _ (List.nil_sublist _))))))) (fun w1 hM => m_loadE hM 0 rfl (by rw [Nat.mul_one]; exact slR_at hmq) HbM_is1_59 rfl) ?_
           intro a hA
           refine any_tk (v := .int .i64 (((mq.ws.length : Nat) : Int))) hA 10 rfl rfl rfl rfl hP (hM.sub (.cons _ (.cons _ (.cons _ (.cons _ (.cons_cons _ (List.nil_sublist _))))))) (fun w1 hM => does_len Try.underlying59 rfl) ?_
           intro a hA
           refine any_tk (v := .int .i64 (((kx : Nat) : Int))) hA 11 rfl rfl rfl rfl hP (hM.sub (.cons _ (.cons _ (.cons _ (.cons _ (.cons_cons _ (List.nil_sublist _))))))) (fun w1 hM => does_bin rfl rfl (ar_rem (by omega) ((rem_nat _ _).trans (by rw [← hkx])))) ?_
           intro a hA
           refine any_tk hA 12 rfl rfl rfl rfl hP (hM.sub (.cons _ (.cons _ (.cons _ (.cons _ (.cons_cons _ (List.nil_sublist _))))))) (fun w1 hM => does_assign rfl) ?_
           intro a hA
           refine any_end (by kernel_rfl) ?_
           refine hK227 _ _ ?_
           refine wp_seq_k (fun K228 hK228 => ?_)
           replace hA := hA.keep [(1, .slice so1 l1.length ca1), (2, .slice so2 l2.length ca2), (7, .pointer (some ⟨h, 0, none⟩)), (8, .int .i64 0), (9, .int .i64 (((n : Nat) : Int))), (13, .slice (some ⟨g19, 0, none⟩) (n + 1) (n + 1)), (14, .int .i64 (((jm + 1 : Nat) : Int))), (17, .int .i64 (((i : Nat) : Int))), (18, .int .i64 (((jx + 1 : Nat) : Int))), (19, .int .i64 (((kx : Nat) : Int)))] ⟨rfl, rfl, rfl, rfl, rfl, rfl, rfl, rfl, rfl, rfl, trivial⟩
           refine wp_draw (S := fun w1 => Mg w w1 (.row 59 1 (.slice (some ⟨g19, 0, none⟩) (n + 1) (n + 1)) (n + 1) (slR n mz) :: [])) (by kernel_rfl) ?_
           replace hM := hM.drew
           refine any_tk hA 0 rfl rfl rfl rfl hP (hM.sub (.cons _ (.cons _ (.cons _ (.cons _ (.cons_cons _ (List.nil_sublist _))))))) (fun w1 hM => does_move rfl) ?_
           intro a hA
           refine any_tk hA 1 rfl rfl rfl rfl hP (hM.sub (.cons _ (.cons _ (.cons _ (.cons _ (.cons_cons _ (List.nil_sublist _))))))) (fun w1 hM => does_move rfl) ?_
           intro a hA
           refine any_tk (v := .pointer (some ⟨bso1, fso1 + i, none⟩)) hA 2 rfl rfl rfl rfl hP (hM.sub (.cons _ (.cons _ (.cons _ (.cons _ (.cons_cons _ (List.nil_sublist _))))))) (fun w1 hM => does_indexRow (k := i) Try.underlying57 (by kernel_rfl) rfl rfl rfl hso1 (by omega)) ?_
           intro a hA
           refine any_tk (v := .int .u16 (((l1.getD i 0 : Nat) : Int))) hA 3 rfl rfl rfl rfl hP (hM.sub (.cons _ (.cons _ (.cons _ (.cons _ (.cons_cons _ (List.nil_sublist _))))))) (fun w1 hM => m_loadR hM htso1 (hcso1 i (by omega)) HbM_is1_60 rfl) ?_
           intro a hA
           refine any_tk (v := .int .u16 (((l1.getD i 0 / 8 : Nat) : Int))) hA 4 rfl rfl rfl rfl hP (hM.sub (.cons _ (.cons _ (.cons _ (.cons _ (.cons_cons _ (List.nil_sublist _))))))) (fun w1 hM => does_bin rfl rfl (ar_quo (by decide) ((congrArg IntKind.u16.wrap (Int.tdiv_eq_ediv_of_nonneg (by omega))).trans ((in_u16 (by omega) (by omega)).trans (by omega))))) ?_
           intro a hA
           refine any_tk (v := .int .i64 (((l1.getD i 0 / 8 : Nat) : Int))) hA 5 rfl rfl rfl rfl hP (hM.sub (.cons _ (.cons _ (.cons _ (.cons _ (.cons_cons _ (List.nil_sublist _))))))) (fun w1 hM => does_convert rfl (ar_conv Try.underlying60 Try.underlying3 (in_i64 (by omega) (by omega)))) ?_
           intro a hA
           refine any_tk hA 6 rfl rfl rfl rfl hP (hM.sub (.cons _ (.cons _ (.cons _ (.cons _ (.cons_cons _ (List.nil_sublist _))))))) (fun w1 hM => does_move rfl) ?_
           intro a hA
           refine any_tk (v := .int .i64 (((cz : Nat) : Int))) hA 7 rfl rfl rfl rfl hP (hM.sub (.cons _ (.cons _ (.cons _ (.cons _ (.cons_cons _ (List.nil_sublist _))))))) (fun w1 hM => does_bin rfl rfl (ar_rem (by omega) ((rem_nat _ _).trans (by rw [← hcz])))) ?_
           intro a hA
           refine any_tk (v := .int .i64 (((cz + 1 : Nat) : Int))) hA 8 rfl rfl rfl rfl hP (hM.sub (.cons _ (.cons _ (.cons _ (.cons _ (.cons_cons _ (List.nil_sublist _))))))) (fun w1 hM => does_bin rfl rfl (ar_add ((in_i64 (by omega) (by omega)).trans (by omega)))) ?_
           intro a hA
           refine any_tk hA 9 rfl rfl rfl rfl hP (hM.sub (.cons _ (.cons _ (.cons _ (.cons _ (.cons_cons _ (List.nil_sublist _))))))) (fun w1 hM => does_move rfl) ?_
           intro a hA
           refine any_tk hA 10 rfl rfl rfl rfl hP (hM.sub (.cons _ (.cons _ (.cons _ (.cons _ (.cons_cons _ (List.nil_sublist _))))))) (fun w1 hM => does_move rfl) ?_
           intro a hA
           refine any_tk (v := .pointer (some ⟨bso1, fso1 + i, none⟩)) hA 11 rfl rfl rfl rfl hP (hM.sub (.cons _ (.cons _ (.cons _ (.cons _ (.cons_cons _ (List.nil_sublist _))))))) (fun w1 hM => does_indexRow (k := i) Try.underlying57 (by kernel_rfl) rfl rfl rfl hso1 (by omega)) ?_
           intro a hA
           refine any_tk (v := .int .u16 (((l1.getD i 0 : Nat) : Int))) hA 12 rfl rfl rfl rfl hP (hM.sub (.cons _ (.cons _ (.cons _ (.cons _ (.cons_cons _ (List.nil_sublist _))))))) (fun w1 hM => m_loadR hM htso1 (hcso1 i (by omega)) HbM_is1_60 rfl) ?_
           intro a hA
           refine any_tk (v := .int .u16 (((l1.getD i 0 % 4 : Nat) : Int))) hA 13 rfl rfl rfl rfl hP (hM.sub (.cons _ (.cons _ (.cons _ (.cons _ (.cons_cons _ (List.nil_sublist _))))))) (fun w1 hM => does_bin rfl rfl (ar_rem (by decide) ((Int.tmod_eq_emod_of_nonneg (by omega)).trans (by omega)))) ?_
           intro a hA
           refine any_tk (v := .bool cb) hA 14 rfl rfl rfl rfl hP (hM.sub (.cons _ (.cons _ (.cons _ (.cons _ (.cons_cons _ (List.nil_sublist _))))))) (fun w1 hM => does_bin rfl rfl (fun w => (bin_neq w).trans (by rw [← hcb]))) ?_
           intro a hA
           refine any_tk (v := .agg #[.int .i64 (((cz + 1 : Nat) : Int)), .bool cb]) hA 15 rfl rfl rfl rfl hP (hM.sub (.cons _ (.cons _ (.cons _ (.cons _ (.cons_cons _ (List.nil_sublist _))))))) (fun w1 hM => does_build rfl (fun w => by kernel_rfl)) ?_
           intro a hA
           refine any_one (by kernel_rfl) (g_new (vs := [.int .i64 0, .bool false]) (t := 32) hA hM 16 rfl rfl rfl rfl (fun g => .pointer (some ⟨g, 0, none⟩)) (does_alloc (z := .agg #[.int .i64 0, .bool false]) (by kernel_rfl) rfl) (by decide) ?_)
           intro g229 w230 hM
           refine ⟨(hM.sub (.cons _ (.cons _ (.cons _ (.cons _ (.cons _ (.cons_cons _ (List.nil_sublist _)))))))), ?_⟩
           intro a hA
           refine any_one (by kernel_rfl) (g_store (us := [.int .i64 (((cz + 1 : Nat) : Int)), .bool cb]) (L' := (.obj g229 (.cells #[.int .i64 (((cz + 1 : Nat) : Int)), .bool cb] 32) :: .obj h (.cells #[.map (some m), .int .i64 (((n : Nat) : Int)), .int .i64 (((600 : Nat) : Int)), .slice sg ([(us, 600 - us)].length) sc, .int .i64 (((900 : Nat) : Int)), .slice lg ([(ul, 900 - ul)].length) lc] 73) :: .obj m (mapO (oz.map Ob.en) n) :: .row 96 2 (.slice sg ([(us, 600 - us)].length) sc) ([(us, 600 - us)].length) (gapC [(us, 600 - us)]) :: .row 96 2 (.slice lg ([(ul, 900 - ul)].length) lc) ([(ul, 900 - ul)].length) (gapC [(ul, 900 - ul)]) :: .row 59 1 (.slice (some ⟨g19, 0, none⟩) (n + 1) (n + 1)) (n + 1) (slR n mz) :: (oz.map Ob.row ++ (mz.map Ob.row ++ [])))) hA hM 17 rfl rfl rfl (m_store rfl rfl rfl (by kernel_rfl) hM 0 rfl rfl rfl) 0 rfl rfl rfl ?_)
           intro w232 hM
           refine ⟨(hM.sub (.cons _ (.cons _ (.cons _ (.cons _ (.cons _ (.cons_cons _ (List.nil_sublist _)))))))), ?_⟩
           refine any_end (by kernel_rfl) ?_
           refine hK228 _ _ ?_
           refine wp_seq_k (fun K233 hK233 => ?_)
           refine wp_seq_k (fun K234 hK234 => ?_)
           replace hA := hA.keep [(1, .slice so1 l1.length ca1), (2, .slice so2 l2.length ca2), (7, .pointer (some ⟨h, 0, none⟩)), (8, .int .i64 0), (9, .int .i64 (((n : Nat) : Int))), (13, .slice (some ⟨g19, 0, none⟩) (n + 1) (n + 1)), (14, .int .i64 (((jm + 1 : Nat) : Int))), (17, .int .i64 (((i : Nat) : Int))), (18, .int .i64 (((jx + 1 : Nat) : Int))), (19, .int .i64 (((kx : Nat) : Int))), (20, .pointer (some ⟨g229, 0, none⟩))] ⟨rfl, rfl, rfl, rfl, rfl, rfl, rfl, rfl, rfl, rfl, rfl, trivial⟩
           refine wp_region_lit ?_
           refine seq_do hA rfl rfl rfl (does_move rfl) ?_
           intro a hA
           refine seq_do hA rfl rfl rfl (does_move rfl) ?_
           intro a hA
           refine seq_do hA rfl rfl rfl (does_move rfl) ?_
           intro a hA
           refine seq_do hA rfl rfl rfl (m_loadS hM HbM_isS_32 rfl 0 rfl (cs := [.int .i64 (((cz + 1 : Nat) : Int)), .bool cb]) rfl rfl) ?_
           intro a hA
           replace hM := hM.b4
           replace hM := hM.b4
           replace hM := hM.b4
           replace hM := hM.b4
           refine seq_call hA rfl rfl rfl (enters_func rfl rfl (fun w => by kernel_rfl)) (set_any (X := ([.obj g229 (.cells #[.int .i64 (((cz + 1 : Nat) : Int)), .bool cb] 32), .row 59 1 (.slice (some ⟨g19, 0, none⟩) (n + 1) (n + 1)) (n + 1) (slR n mz)] ++ (mz.map Ob.row ++ []))) (j := kx) (jo := jx) (c1 := ((cz + 1 : Nat) : Int)) (c2 := cb) hfo ho rfl (by omega) (fun _ => by rw [hm2.num.some (by omega) (by omega), Bool.or_true]) (hM.swapE (C := [.obj h (.cells #[.map (some m), .int .i64 (((n : Nat) : Int)), .int .i64 (((600 : Nat) : Int)), .slice sg ([(us, 600 - us)].length) sc, .int .i64 (((900 : Nat) : Int)), .slice lg ([(ul, 900 - ul)].length) lc] 73), .obj m (mapO (oz.map Ob.en) n), .row 96 2 (.slice sg ([(us, 600 - us)].length) sc) ([(us, 600 - us)].length) (gapC [(us, 600 - us)]), .row 96 2 (.slice lg ([(ul, 900 - ul)].length) lc) ([(ul, 900 - ul)].length) (gapC [(ul, 900 - ul)])]) (E := [.obj g229 (.cells #[.int .i64 (((cz + 1 : Nat) : Int)), .bool cb] 32), .row 59 1 (.slice (some ⟨g19, 0, none⟩) (n + 1) (n + 1)) (n + 1) (slR n mz)]) (R := oz.map Ob.row) (X := (mz.map Ob.row ++ [])))) ?_
           rintro _ w236 ⟨rfl, hM235⟩
           replace hM : Mg w w236 (.obj h (.cells #[.map (some m), .int .i64 (((n : Nat) : Int)), .int .i64 (((600 : Nat) : Int)), .slice sg ([(us, 600 - us)].length) sc, .int .i64 (((900 : Nat) : Int)), .slice lg ([(ul, 900 - ul)].length) lc] 73) :: .obj m (mapO ((oz.set jx (o.put kx (((cz + 1 : Nat) : Int), cb))).map Ob.en) n) :: .row 96 2 (.slice sg ([(us, 600 - us)].length) sc) ([(us, 600 - us)].length) (gapC [(us, 600 - us)]) :: .row 96 2 (.slice lg ([(ul, 900 - ul)].length) lc) ([(ul, 900 - ul)].length) (gapC [(ul, 900 - ul)]) :: .obj g229 (.cells #[.int .i64 (((cz + 1 : Nat) : Int)), .bool cb] 32) :: .row 59 1 (.slice (some ⟨g19, 0, none⟩) (n + 1) (n + 1)) (n + 1) (slR n mz) :: ((oz.set jx (o.put kx (((cz + 1 : Nat) : Int), cb))).map Ob.row ++ (mz.map Ob.row ++ []))) := (hM235.swapE (C := [.obj h (.cells #[.map (some m), .int .i64 (((n : Nat) : Int)), .int .i64 (((600 : Nat) : Int)), .slice sg ([(us, 600 - us)].length) sc, .int .i64 (((900 : Nat) : Int)), .slice lg ([(ul, 900 - ul)].length) lc] 73), .obj m (mapO ((oz.set jx (o.put kx (((cz + 1 : Nat) : Int), cb))).map Ob.en) n), .row 96 2 (.slice sg ([(us, 600 - us)].length) sc) ([(us, 600 - us)].length) (gapC [(us, 600 - us)]), .row 96 2 (.slice lg ([(ul, 900 - ul)].length) lc) ([(ul, 900 - ul)].length) (gapC [(ul, 900 - ul)])]) (E := (oz.set jx (o.put kx (((cz + 1 : Nat) : Int), cb))).map Ob.row) (R := [.obj g229 (.cells #[.int .i64 (((cz + 1 : Nat) : Int)), .bool cb] 32), .row 59 1 (.slice (some ⟨g19, 0, none⟩) (n + 1) (n + 1)) (n + 1) (slR n mz)]) (X := (mz.map Ob.row ++ [])))
           refine ⟨_, rfl, ?_⟩
           intro a hA
           refine seq_do (v := .bool false) hA rfl rfl rfl (does_bin rfl rfl (fun w => by kernel_rfl)) ?_
           intro a hA
           refine seq_end ?_
           refine hK234 _ _ ?_
           refine wp_cond_false (hA.ev rfl) ?_
           refine wp_skip ?_
           refine hK233 _ _ ?_
           replace hA := hA.keep [(1, .slice so1 l1.length ca1), (2, .slice so2 l2.length ca2), (7, .pointer (some ⟨h, 0, none⟩)), (8, .int .i64 0), (9, .int .i64 (((n : Nat) : Int))), (13, .slice (some ⟨g19, 0, none⟩) (n + 1) (n + 1)), (14, .int .i64 (((jm + 1 : Nat) : Int))), (17, .int .i64 (((i : Nat) : Int))), (18, .int .i64 (((jx + 1 : Nat) : Int))), (19, .int .i64 (((kx : Nat) : Int))), (20, .pointer (some ⟨g229, 0, none⟩))] ⟨rfl, rfl, rfl, rfl, rfl, rfl, rfl, rfl, rfl, rfl, rfl, trivial⟩
           refine wp_draw (S := fun w1 => Mg w w1 (.obj g229 (.cells #[.int .i64 (((cz + 1 : Nat) : Int)), .bool cb] 32) :: .row 59 1 (.slice (some ⟨g19, 0, none⟩) (n + 1) (n + 1)) (n + 1) (slR n mz) :: [])) (by kernel_rfl) ?_
           replace hM := hM.drew
           refine any_tk hA 0 rfl rfl rfl rfl hP (hM.sub (.cons _ (.cons _ (.cons _ (.cons _ (.cons_cons _ (.cons_cons _ (List.nil_sublist _)))))))) (fun w1 hM => does_move rfl) ?_
           intro a hA
           refine any_tk hA 1 rfl rfl rfl rfl hP (hM.sub (.cons _ (.cons _ (.cons _ (.cons _ (.cons_cons _ (.cons_cons _ (List.nil_sublist _)))))))) (fun w1 hM => does_move rfl) ?_
           intro a hA
           refine any_tk (v := .pointer (some ⟨g19, (jx + 1) * 1, none⟩)) hA 2 rfl rfl rfl rfl hP (hM.sub (.cons _ (.cons _ (.cons _ (.cons _ (.cons_cons _ (.cons_cons _ (List.nil_sublist _)))))))) (fun w1 hM => does_indexE (k := jx + 1) Try.underlying58 (by kernel_rfl) rfl rfl rfl (by omega)) ?_
           intro a hA
           refine any_tk hA 4 rfl rfl rfl rfl hP (hM.sub (.cons _ (.cons _ (.cons _ (.cons _ (.cons_cons _ (.cons_cons _ (List.nil_sublist _)))))))) (fun w1 hM => does_move rfl) ?_
           intro a hA
           refine any_tk hA 5 rfl rfl rfl rfl hP (hM.sub (.cons _ (.cons _ (.cons _ (.cons _ (.cons_cons _ (.cons_cons _ (List.nil_sublist _)))))))) (fun w1 hM => m_loadS hM HbM_isS_32 rfl 0 rfl (cs := [.int .i64 (((cz + 1 : Nat) : Int)), .bool cb]) rfl rfl) ?_
           intro a hA
           refine any_one (by kernel_rfl) (op_do (v := .slice (some ⟨mq.g, 0, none⟩) mq.ws.length mq.c) hA 3 rfl rfl rfl rfl (m_loadE hM 5 rfl (by rw [Nat.mul_one]; exact slR_at hmq) HbM_is1_59 rfl) (hM.sub (.cons _ (.cons _ (.cons _ (.cons _ (.cons_cons _ (.cons_cons _ (List.nil_sublist _)))))))) ?_)
           intro a hA
           refine any_tk (v := .pointer (some ⟨mq.g, kx * 2, none⟩)) hA 6 rfl rfl rfl rfl hP (hM.sub (.cons _ (.cons _ (.cons _ (.cons _ (.cons_cons _ (.cons_cons _ (List.nil_sublist _)))))))) (fun w1 hM => does_indexE (k := kx) Try.underlying59 (by kernel_rfl) rfl rfl rfl (by omega)) ?_
           intro a hA
           replace hM := hM.b5
           replace hM := hM.b4
           replace hM := hM.b4
           replace hM := hM.b4
           replace hM := hM.b4
           refine any_one (by kernel_rfl) (g_storeE (cs := [.int .i64 (((cz + 1 : Nat) : Int)), .bool cb]) (L' := (.obj h (.cells #[.map (some m), .int .i64 (((n : Nat) : Int)), .int .i64 (((600 : Nat) : Int)), .slice sg ([(us, 600 - us)].length) sc, .int .i64 (((900 : Nat) : Int)), .slice lg ([(ul, 900 - ul)].length) lc] 73) :: .obj m (mapO ((oz.set jx (o.put kx (((cz + 1 : Nat) : Int), cb))).map Ob.en) n) :: .row 96 2 (.slice sg ([(us, 600 - us)].length) sc) ([(us, 600 - us)].length) (gapC [(us, 600 - us)]) :: .row 96 2 (.slice lg ([(ul, 900 - ul)].length) lc) ([(ul, 900 - ul)].length) (gapC [(ul, 900 - ul)]) :: .row 59 1 (.slice (some ⟨g19, 0, none⟩) (n + 1) (n + 1)) (n + 1) (slR n mz) :: .obj g229 (.cells #[.int .i64 (((cz + 1 : Nat) : Int)), .bool cb] 32) :: ((oz.set jx (o.put kx (((cz + 1 : Nat) : Int), cb))).map Ob.row ++ ((mz.set jx (mq.put kx (((cz + 1 : Nat) : Int), cb))).map Ob.row ++ [])))) (us := []) hA hM 7 rfl rfl rfl (m_storeE rfl rfl rfl (by kernel_rfl) hM (6 + ((oz.set jx (o.put kx (((cz + 1 : Nat) : Int), cb))).length + jx)) (row_place2 hmq [.obj h (.cells #[.map (some m), .int .i64 (((n : Nat) : Int)), .int .i64 (((600 : Nat) : Int)), .slice sg ([(us, 600 - us)].length) sc, .int .i64 (((900 : Nat) : Int)), .slice lg ([(ul, 900 - ul)].length) lc] 73), .obj m (mapO ((oz.set jx (o.put kx (((cz + 1 : Nat) : Int), cb))).map Ob.en) n), .row 96 2 (.slice sg ([(us, 600 - us)].length) sc) ([(us, 600 - us)].length) (gapC [(us, 600 - us)]), .row 96 2 (.slice lg ([(ul, 900 - ul)].length) lc) ([(ul, 900 - ul)].length) (gapC [(ul, 900 - ul)]), .row 59 1 (.slice (some ⟨g19, 0, none⟩) (n + 1) (n + 1)) (n + 1) (slR n mz), .obj g229 (.cells #[.int .i64 (((cz + 1 : Nat) : Int)), .bool cb] 32)] []) (by show kx * 2 + 2 ≤ _; omega) rfl) (6 + ((oz.set jx (o.put kx (((cz + 1 : Nat) : Int), cb))).length + jx)) (row_place2 hmq [.obj h (.cells #[.map (some m), .int .i64 (((n : Nat) : Int)), .int .i64 (((600 : Nat) : Int)), .slice sg ([(us, 600 - us)].length) sc, .int .i64 (((900 : Nat) : Int)), .slice lg ([(ul, 900 - ul)].length) lc] 73), .obj m (mapO ((oz.set jx (o.put kx (((cz + 1 : Nat) : Int), cb))).map Ob.en) n), .row 96 2 (.slice sg ([(us, 600 - us)].length) sc) ([(us, 600 - us)].length) (gapC [(us, 600 - us)]), .row 96 2 (.slice lg ([(ul, 900 - ul)].length) lc) ([(ul, 900 - ul)].length) (gapC [(ul, 900 - ul)]), .row 59 1 (.slice (some ⟨g19, 0, none⟩) (n + 1) (n + 1)) (n + 1) (slR n mz), .obj g229 (.cells #[.int .i64 (((cz + 1 : Nat) : Int)), .bool cb] 32)] []) (row_put2 hmq [.obj h (.cells #[.map (some m), .int .i64 (((n : Nat) : Int)), .int .i64 (((600 : Nat) : Int)), .slice sg ([(us, 600 - us)].length) sc, .int .i64 (((900 : Nat) : Int)), .slice lg ([(ul, 900 - ul)].length) lc] 73), .obj m (mapO ((oz.set jx (o.put kx (((cz + 1 : Nat) : Int), cb))).map Ob.en) n), .row 96 2 (.slice sg ([(us, 600 - us)].length) sc) ([(us, 600 - us)].length) (gapC [(us, 600 - us)]), .row 96 2 (.slice lg ([(ul, 900 - ul)].length) lc) ([(ul, 900 - ul)].length) (gapC [(ul, 900 - ul)]), .row 59 1 (.slice (some ⟨g19, 0, none⟩) (n + 1) (n + 1)) (n + 1) (slR n mz), .obj g229 (.cells #[.int .i64 (((cz + 1 : Nat) : Int)), .bool cb] 32)] [] kx _ _ (by omega)) ?_)
           intro w237 hM
           replace hM : Mg w w237 (.row 59 1 (.slice (some ⟨g19, 0, none⟩) (n + 1) (n + 1)) (n + 1) (slR n mz) :: .obj h (.cells #[.map (some m), .int .i64 (((n : Nat) : Int)), .int .i64 (((600 : Nat) : Int)), .slice sg ([(us, 600 - us)].length) sc, .int .i64 (((900 : Nat) : Int)), .slice lg ([(ul, 900 - ul)].length) lc] 73) :: .obj m (mapO ((oz.set jx (o.put kx (((cz + 1 : Nat) : Int), cb))).map Ob.en) n) :: .row 96 2 (.slice sg ([(us, 600 - us)].length) sc) ([(us, 600 - us)].length) (gapC [(us, 600 - us)]) :: .row 96 2 (.slice lg ([(ul, 900 - ul)].length) lc) ([(ul, 900 - ul)].length) (gapC [(ul, 900 - ul)]) :: .obj g229 (.cells #[.int .i64 (((cz + 1 : Nat) : Int)), .bool cb] 32) :: ((oz.set jx (o.put kx (((cz + 1 : Nat) : Int), cb))).map Ob.row ++ ((mz.set jx (mq.put kx (((cz + 1 : Nat) : Int), cb))).map Ob.row ++ []))) := hM.bring 4 rfl rfl
           replace hM : Mg w w237 (.obj g229 (.cells #[.int .i64 (((cz + 1 : Nat) : Int)), .bool cb] 32) :: .row 59 1 (.slice (some ⟨g19, 0, none⟩) (n + 1) (n + 1)) (n + 1) (slR n mz) :: .obj h (.cells #[.map (some m), .int .i64 (((n : Nat) : Int)), .int .i64 (((600 : Nat) : Int)), .slice sg ([(us, 600 - us)].length) sc, .int .i64 (((900 : Nat) : Int)), .slice lg ([(ul, 900 - ul)].length) lc] 73) :: .obj m (mapO ((oz.set jx (o.put kx (((cz + 1 : Nat) : Int), cb))).map Ob.en) n) :: .row 96 2 (.slice sg ([(us, 600 - us)].length) sc) ([(us, 600 - us)].length) (gapC [(us, 600 - us)]) :: .row 96 2 (.slice lg ([(ul, 900 - ul)].length) lc) ([(ul, 900 - ul)].length) (gapC [(ul, 900 - ul)]) :: ((oz.set jx (o.put kx (((cz + 1 : Nat) : Int), cb))).map Ob.row ++ ((mz.set jx (mq.put kx (((cz + 1 : Nat) : Int), cb))).map Ob.row ++ []))) := hM.bring 5 rfl rfl
           refine ⟨(hM.sub (.cons_cons _ (.cons_cons _ (.cons _ (.cons _ (.cons _ (.cons _ (List.nil_sublist _)))))))), ?_⟩
           refine any_end (by kernel_rfl) ?_
           refine hK225 _ _ ?_
           replace hA := hA.keep [(1, .slice so1 l1.length ca1), (2, .slice so2 l2.length ca2), (7, .pointer (some ⟨h, 0, none⟩)), (8, .int .i64 0), (9, .int .i64 (((n : Nat) : Int))), (13, .slice (some ⟨g19, 0, none⟩) (n + 1) (n + 1)), (14, .int .i64 (((jm + 1 : Nat) : Int))), (17, .int .i64 (((i : Nat) : Int))), (18, .int .i64 (((jx + 1 : Nat) : Int))), (19, .int .i64 (((kx : Nat) : Int))), (20, .pointer (some ⟨g229, 0, none⟩))] ⟨rfl, rfl, rfl, rfl, rfl, rfl, rfl, rfl, rfl, rfl, rfl, trivial⟩
           refine wp_region_lit ?_
           refine seq_do hA rfl rfl rfl (does_move rfl) ?_
           intro a hA
           refine seq_do (v := .int .i64 (((i + 1 : Nat) : Int))) hA rfl rfl rfl (does_bin rfl rfl (ar_add ((in_i64 (by omega) (by omega)).trans (by omega)))) ?_
           intro a hA
           refine seq_do hA rfl rfl rfl (does_assign rfl) ?_
           intro a hA
           refine seq_end ?_
           replace hM := hM.b1
           replace hM := hM.b5
           replace hM := hM.b5
           replace hM := hM.b5
           replace hM := hM.b5
           replace hM : Mg w w237 (.obj h (.cells #[.map (some m), .int .i64 (((n : Nat) : Int)), .int .i64 (((600 : Nat) : Int)), .slice sg ([(us, 600 - us)].length) sc, .int .i64 (((900 : Nat) : Int)), .slice lg ([(ul, 900 - ul)].length) lc] 73) :: .obj m (mapO ((oz.set jx (o.put kx (((cz + 1 : Nat) : Int), cb))).map Ob.en) n) :: .row 96 2 (.slice sg ([(us, 600 - us)].length) sc) ([(us, 600 - us)].length) (gapC [(us, 600 - us)]) :: .row 96 2 (.slice lg ([(ul, 900 - ul)].length) lc) ([(ul, 900 - ul)].length) (gapC [(ul, 900 - ul)]) :: .row 59 1 (.slice (some ⟨g19, 0, none⟩) (n + 1) (n + 1)) (n + 1) (slR n mz) :: ((oz.set jx (o.put kx (((cz + 1 : Nat) : Int), cb))).map Ob.row ++ ((mz.set jx (mq.put kx (((cz + 1 : Nat) : Int), cb))).map Ob.row ++ []))) := by
             have h9 := hM.sub (.cons_cons _ (.cons_cons _ (.cons_cons _ (.cons_cons _ (.cons_cons _ (.cons _ (.refl _)))))))
             exact h9
           replace hM : Mg w w237 (.obj h (.cells #[.map (some m), .int .i64 (((n : Nat) : Int)), .int .i64 (((600 : Nat) : Int)), .slice sg ([(us, 600 - us)].length) sc, .int .i64 (((900 : Nat) : Int)), .slice lg ([(ul, 900 - ul)].length) lc] 73) :: .obj m (mapO ((oz.set jx (o.put kx (((cz + 1 : Nat) : Int), cb))).map Ob.en) n) :: .row 96 2 (.slice sg ([(us, 600 - us)].length) sc) ([(us, 600 - us)].length) (gapC [(us, 600 - us)]) :: .row 96 2 (.slice lg ([(ul, 900 - ul)].length) lc) ([(ul, 900 - ul)].length) (gapC [(ul, 900 - ul)]) :: .row 59 1 (.slice (some ⟨g19, 0, none⟩) (n + 1) (n + 1)) (n + 1) (slR n (mz.set jx (mq.put kx (((cz + 1 : Nat) : Int), cb)))) :: ((oz.set jx (o.put kx (((cz + 1 : Nat) : Int), cb))).map Ob.row ++ ((mz.set jx (mq.put kx (((cz + 1 : Nat) : Int), cb))).map Ob.row ++ []))) := by rw [slR_put hmq]; exact hM
           refine hK219 _ _ _ (by omega) ⟨i + 1, (oz.set jx (o.put kx (((cz + 1 : Nat) : Int), cb))), (mz.set jx (mq.put kx (((cz + 1 : Nat) : Int), cb))), rfl, ⟨by omega, hm2.put ho kx _ (fun _ => ⟨by show (1 : Int) ≤ ((cz + 1 : Nat) : Int); omega, by show ((cz + 1 : Nat) : Int) ≤ _; omega⟩), by rw [List.map_set, List.map_set, hmw]; simp only [Ob.put, hqo], by rw [List.length_set]; exact hml2⟩, hA.keep _ ⟨rfl, rfl, rfl, rfl, rfl, rfl, rfl, rfl, trivial⟩, hM⟩
         · have hb224' := of_decide_eq_false hb224
           refine seq_do (v := .bool false) hA rfl rfl rfl (does_bin rfl rfl (fun w => (bin_lss w).trans (by rw [hb224]))) ?_
           intro a hA
           refine seq_do (v := .bool false) hA rfl rfl rfl (does_pick rfl rfl rfl rfl) ?_
           intro a hA
           refine seq_end ?_
           refine hK222 _ _ ?_
           refine wp_cond_false (hA.ev rfl) ?_
           refine wp_exit ?_
           replace hM := hM.b4
           replace hM := hM.b4
           replace hM := hM.b4
           replace hM := hM.b4
           replace hM := hM.b4
           exact hJ39 _ _ ⟨oz, mz, ⟨hm2, hmw, hml2⟩, hA.keep _ ⟨rfl, rfl, rfl, rfl, rfl, rfl, trivial⟩, hM⟩
       · have hb223' := of_decide_eq_false hb223
         refine seq_do (v := .bool false) hA rfl rfl rfl (does_bin rfl rfl (fun w => (bin_lss w).trans (by rw [hb223]))) ?_
         intro a hA
         refine seq_do hA rfl rfl rfl (does_move rfl) ?_
         intro a hA
         refine seq_skip hA rfl rfl rfl ?_
         intro a hA
         refine seq_skip hA rfl rfl rfl ?_
         intro a hA
         refine seq_do (v := .bool false) hA rfl rfl rfl (does_pick rfl rfl rfl rfl) ?_
         intro a hA
         refine seq_end ?_
         refine hK222 _ _ ?_
         refine wp_cond_false (hA.ev rfl) ?_
         refine wp_exit ?_
         replace hM := hM.b4
         replace hM := hM.b4
         replace hM := hM.b4
         replace hM := hM.b4
         replace hM := hM.b4
         exact hJ39 _ _ ⟨oz, mz, ⟨hm2, hmw, hml2⟩, hA.keep _ ⟨rfl, rfl, rfl, rfl, rfl, rfl, trivial⟩, hM⟩
 refine wp_seq_k (fun K238 hK238 => ?_)
 refine wp_region_lit ?_
 refine seq_do hA rfl rfl rfl (does_assign rfl) ?_
 intro a hA
 refine seq_end ?_
 refine hK238 _ _ ?_
 refine wp_block ?_
 replace hM := hM.b3
 replace hM := hM.b3
 replace hM := hM.b3
 replace hM := hM.b3
 replace hM : Mg w w8 (.obj h (.cells #[.map (some m), .int .i64 ((0 : Nat) : Int), .int .i64 ((600 : Nat) : Int), .slice (some ⟨gs, 0, none⟩) ([(0, 600 - 0)].length) 1, .int .i64 ((900 : Nat) : Int), .slice (some ⟨gl, 0, none⟩) ([(0, 900 - 0)].length) 1] 73) :: .obj m (mapO (([] : List Ob).map Ob.en) 0) :: .row 96 2 (.slice (some ⟨gs, 0, none⟩) ([(0, 600 - 0)].length) 1) ([(0, 600 - 0)].length) (gapC [(0, 600 - 0)]) :: .row 96 2 (.slice (some ⟨gl, 0, none⟩) ([(0, 900 - 0)].length) 1) ([(0, 900 - 0)].length) (gapC [(0, 900 - 0)]) :: (([] : List Ob).map Ob.row ++ [])) := hM
 refine wp_loop_n (fun m_ a w1 => ∃ (i : Nat) (n : Nat) (us : Nat) (ul : Nat) (os : List Ob) (sg : Option Addr) (lg : Option Addr) (sc : Nat) (lc : Nat), m_ = 1 + (40 - i) ∧ (i ≤ 40 ∧ Ha1 n us ul os ∧ n ≤ i) ∧ Sl a 348 [(0, .slice so0 l0.length ca0), (1, .slice so1 l1.length ca1), (2, .slice so2 l2.length ca2), (6, .bool false), (7, .pointer (some ⟨h, 0, none⟩)), (8, .int .i64 0), (9, .int .i64 (((n : Nat) : Int))), (10, .int .i64 (((i : Nat) : Int)))] ∧ Mg w w1 (.obj h (.cells #[.map (some m), .int .i64 (((n : Nat) : Int)), .int .i64 (((600 : Nat) : Int)), .slice sg ([(us, 600 - us)].length) sc, .int .i64 (((900 : Nat) : Int)), .slice lg ([(ul, 900 - ul)].length) lc] 73) :: .obj m (mapO (os.map Ob.en) n) :: .row 96 2 (.slice sg ([(us, 600 - us)].length) sc) ([(us, 600 - us)].length) (gapC [(us, 600 - us)]) :: .row 96 2 (.slice lg ([(ul, 900 - ul)].length) lc) ([(ul, 900 - ul)].length) (gapC [(ul, 900 - ul)]) :: (os.map Ob.row ++ []))) _ ⟨0, 0, 0, 0, [], some ⟨gs, 0, none⟩, some ⟨gl, 0, none⟩, 1, 1, rfl, ⟨Nat.zero_le _, Ha1.start, Nat.le_refl _⟩, hA.keep _ ⟨rfl, rfl, rfl, rfl, rfl, rfl, rfl, rfl, trivial⟩, hM⟩ ?_
 clear hM hA
 rintro m_ a w239 ⟨i, n, us, ul, os, sg, lg, sc, lc, rfl, hinv241, hA, hM⟩ K240 hK240
 obtain ⟨hi0, hm, hni⟩ := hinv241
 refine wp_seq_k (fun K242 hK242 => ?_)
 refine wp_seq_k (fun K243 hK243 => ?_)
 refine wp_region_lit ?_
 refine seq_do hA rfl rfl rfl (does_move rfl) ?_
 intro a hA
 refine seq_do hA rfl rfl rfl (does_move rfl) ?_
 intro a hA
 refine seq_do (v := .int .i64 (((l0.length : Nat) : Int))) hA rfl rfl rfl (does_len Try.underlying56 rfl) ?_
 intro a hA
 rcases Bool.eq_false_or_eq_true (decide (((i : Nat) : Int) < ((l0.length : Nat) : Int))) with hb244 | hb244
 · have hb244' := of_decide_eq_true hb244
   refine seq_do (v := .bool true) hA rfl rfl rfl (does_bin rfl rfl (fun w => (bin_lss w).trans (by rw [hb244]))) ?_
   intro a hA
   refine seq_do hA rfl rfl rfl (does_move rfl) ?_
   intro a hA
   refine seq_do hA rfl rfl rfl (does_move rfl) ?_
   intro a hA
   rcases Bool.eq_false_or_eq_true (decide (((i : Nat) : Int) < 40)) with hb245 | hb245
   · have hb245' := of_decide_eq_true hb245
     refine seq_do (v := .bool true) hA rfl rfl rfl (does_bin rfl rfl (fun w => (bin_lss w).trans (by rw [hb245]))) ?_
     intro a hA
     refine seq_do (v := .bool true) hA rfl rfl rfl (does_pick rfl rfl rfl rfl) ?_
     intro a hA
     refine seq_end ?_
     refine hK243 _ _ ?_
     refine wp_cond_true (hA.ev rfl) ?_
     refine wp_skip ?_
     refine hK242 _ _ ?_
     refine wp_seq_k (fun K246 hK246 => ?_)
     refine wp_block ?_
     refine wp_seq_k (fun K247 hK247 => ?_)
     replace hA := hA.keep [(0, .slice so0 l0.length ca0), (1, .slice so1 l1.length ca1), (2, .slice so2 l2.length ca2), (6, .bool false), (7, .pointer (some ⟨h, 0, none⟩)), (8, .int .i64 0), (9, .int .i64 (((n : Nat) : Int))), (10, .int .i64 (((i : Nat) : Int)))] ⟨rfl, rfl, rfl, rfl, rfl, rfl, rfl, rfl, trivial⟩
     obtain ⟨bso0, fso0, hso0, htso0, hcso0⟩ := hl0.pos (fun k => by have h9 : i < l0.length := (by omega); rw [k] at h9; exact absurd h9 (Nat.not_lt_zero _))
     have hb8 := UInt8.toNat_lt (l0.getD i 0)
     obtain ⟨kz, hkz⟩ : ∃ kz, kz = (l0.getD i 0).toNat % 40 + 1 := ⟨_, rfl⟩
     refine wp_region_lit ?_
     refine seq_do hA rfl rfl rfl (does_move rfl) ?_
     intro a hA
     refine seq_do hA rfl rfl rfl (does_move rfl) ?_
     intro a hA
     refine seq_do hA rfl rfl rfl (does_move rfl) ?_
     intro a hA
     refine seq_do (v := .pointer (some ⟨bso0, fso0 + i, none⟩)) hA rfl rfl rfl (does_indexRow (k := i) Try.underlying56 (by kernel_rfl) rfl rfl rfl hso0 (by omega)) ?_
     intro a hA
     refine seq_do (v := .int .u8 ((((l0.getD i 0).toNat : Nat) : Int))) hA rfl rfl rfl (m_loadR hM htso0 (hcso0 i (by omega)) HbM_is1_5 rfl) ?_
     intro a hA
     refine seq_do (v := .int .u8 ((((l0.getD i 0).toNat % 40 : Nat) : Int))) hA rfl rfl rfl (does_bin rfl rfl (ar_rem (by decide) ((Int.tmod_eq_emod_of_nonneg (by omega)).trans (by omega)))) ?_
     intro a hA
     refine seq_do (v := .int .i64 ((((l0.getD i 0).toNat % 40 : Nat) : Int))) hA rfl rfl rfl (does_convert rfl (ar_conv Try.underlying5 Try.underlying3 (in_i64 (by omega) (by omega)))) ?_
     intro a hA
     refine seq_do (v := .int .i64 (((kz : Nat) : Int))) hA rfl rfl rfl (does_bin rfl rfl (ar_add ((in_i64 (by omega) (by omega)).trans (by omega)))) ?_
     intro a hA
     rcases Bool.eq_false_or_eq_true (decide (16 < ((kz : Nat) : Int))) with hb248 | hb248
     · have hb248' := of_decide_eq_true hb248
       rcases Bool.eq_false_or_eq_true (decide (kz ≤ 900 - ul)) with hb249 | hb249
       · have hb249' := of_decide_eq_true hb249
         replace hM := hM.b3
         replace hM := hM.b3
         replace hM := hM.b3
         replace hM := hM.b3
         refine seq_call hA rfl rfl rfl (enters_func rfl rfl (fun w => by kernel_rfl)) (allocL_ok (n := kz) (ss := 600) (ls := 900) (last := n) (gs := [(us, 600 - us)]) (gl := [(ul, 900 - ul)]) (i := 0) (p := ul) (s := 900 - ul) (X := []) (by omega) hb248 (by omega) (hm.num.hx hm.len) (by simp) (by simp [idxG]; omega) rfl (by omega) (by have := hm.ls; have := hm.ll; omega) hM) ?_
         rintro _ w251 ⟨gr, rfl, hM250⟩
         rw [show 900 - ul - kz = 900 - (ul + kz) from by omega] at hM250
         replace hM : Mg w w251 (.obj h (.cells #[.map (some m), .int .i64 ((((n + 1) : Nat) : Int)), .int .i64 (((600 : Nat) : Int)), .slice sg ([(us, 600 - us)].length) sc, .int .i64 (((900 : Nat) : Int)), .slice lg ([(ul + kz, 900 - (ul + kz))].length) lc] 73) :: .obj m (mapO ((os ++ [nOb n ul gr kz]).map Ob.en) ((n + 1))) :: .row 96 2 (.slice sg ([(us, 600 - us)].length) sc) ([(us, 600 - us)].length) (gapC [(us, 600 - us)]) :: .row 96 2 (.slice lg ([(ul + kz, 900 - (ul + kz))].length) lc) ([(ul + kz, 900 - (ul + kz))].length) (gapC [(ul + kz, 900 - (ul + kz))]) :: ((os ++ [nOb n ul gr kz]).map Ob.row ++ [])) := hM250
         refine ⟨_, rfl, ?_⟩
         intro a hA
         refine seq_do hA rfl rfl rfl (does_move rfl) ?_
         intro a hA
         refine seq_do (v := .int .i64 (((n + 1 : Nat) : Int))) hA rfl rfl rfl (does_extract (vs := [.int .i64 (((n + 1 : Nat) : Int)), .int .i64 0]) rfl rfl) ?_
         intro a hA
         refine seq_do (v := .int .i64 0) hA rfl rfl rfl (does_extract (vs := [.int .i64 (((n + 1 : Nat) : Int)), .int .i64 0]) rfl rfl) ?_
         intro a hA
         refine seq_do hA rfl rfl rfl (does_assign rfl) ?_
         intro a hA
         refine seq_do hA rfl rfl rfl (does_assign rfl) ?_
         intro a hA
         refine seq_end ?_
         refine hK247 _ _ ?_
         refine wp_seq_k (fun K252 hK252 => ?_)
         replace hA := hA.keep [(0, .slice so0 l0.length ca0), (1, .slice so1 l1.length ca1), (2, .slice so2 l2.length ca2), (6, .bool false), (7, .pointer (some ⟨h, 0, none⟩)), (8, .int .i64 0), (9, .int .i64 (((n : Nat) : Int))), (10, .int .i64 (((i : Nat) : Int))), (12, .int .i64 0)] ⟨rfl, rfl, rfl, rfl, rfl, rfl, rfl, rfl, rfl, trivial⟩
         refine wp_region_lit ?_
         refine seq_do hA rfl rfl rfl (does_move rfl) ?_
         intro a hA
         refine seq_do (v := .bool true) hA rfl rfl rfl (does_bin rfl rfl (fun w => by kernel_rfl)) ?_
         intro a hA
         refine seq_end ?_
         refine hK252 _ _ ?_
         refine wp_cond_true (hA.ev rfl) ?_
         replace hA := hA.keep [(0, .slice so0 l0.length ca0), (1, .slice so1 l1.length ca1), (2, .slice so2 l2.length ca2), (6, .bool false), (7, .pointer (some ⟨h, 0, none⟩)), (8, .int .i64 0), (9, .int .i64 (((n : Nat) : Int))), (10, .int .i64 (((i : Nat) : Int))), (12, .int .i64 0)] ⟨rfl, rfl, rfl, rfl, rfl, rfl, rfl, rfl, rfl, trivial⟩
         refine wp_region_lit ?_
         refine seq_do hA rfl rfl rfl (does_move rfl) ?_
         intro a hA
         refine seq_do (v := .int .i64 (((n + 1 : Nat) : Int))) hA rfl rfl rfl (does_bin rfl rfl (ar_add ((in_i64 (by omega) (by omega)).trans (by omega)))) ?_
         intro a hA
         refine seq_do hA rfl rfl rfl (does_assign rfl) ?_
         intro a hA
         refine seq_end ?_
         refine hK246 _ _ ?_
         replace hA := hA.keep [(0, .slice so0 l0.length ca0), (1, .slice so1 l1.length ca1), (2, .slice so2 l2.length ca2), (6, .bool false), (7, .pointer (some ⟨h, 0, none⟩)), (8, .int .i64 0), (9, .int .i64 (((n + 1 : Nat) : Int))), (10, .int .i64 (((i : Nat) : Int))), (12, .int .i64 0)] ⟨rfl, rfl, rfl, rfl, rfl, rfl, rfl, rfl, rfl, trivial⟩
         refine wp_region_lit ?_
         refine seq_do hA rfl rfl rfl (does_move rfl) ?_
         intro a hA
         refine seq_do (v := .int .i64 (((i + 1 : Nat) : Int))) hA rfl rfl rfl (does_bin rfl rfl (ar_add ((in_i64 (by omega) (by omega)).trans (by omega)))) ?_
         intro a hA
         refine seq_do hA rfl rfl rfl (does_assign rfl) ?_
         intro a hA
         refine seq_end ?_
         replace hM := hM.b3
         replace hM := hM.b3
         replace hM := hM.b3
         replace hM := hM.b3
         refine hK240 _ _ _ (by omega) ⟨i + 1, n + 1, us, ul + kz, os ++ [nOb n ul gr kz], sg, lg, sc, lc, rfl, ⟨by omega, hm.large (by omega) (by have := of_decide_eq_true hb248; omega) (of_decide_eq_true hb249) gr, by omega⟩, hA.keep _ ⟨rfl, rfl, rfl, rfl, rfl, rfl, rfl, rfl, trivial⟩, hM⟩
       · have hb249' := of_decide_eq_false hb249
         replace hM := hM.b3
         replace hM := hM.b3
         replace hM := hM.b3
         replace hM := hM.b3
         refine seq_call hA rfl rfl rfl (enters_func rfl rfl (fun w => by kernel_rfl)) (allocL_full (n := kz) (ss := 600) (ls := 900) (last := n) (gs := [(us, 600 - us)]) (gl := [(ul, 900 - ul)]) (os := os) (T := os.map Ob.row ++ []) (by omega) hb248 (by simp) (by simp [idxG]; omega) hM) ?_
         rintro _ w254 ⟨rfl, hM253⟩
         replace hM : Mg w w254 (.obj h (.cells #[.map (some m), .int .i64 (((n : Nat) : Int)), .int .i64 (((600 : Nat) : Int)), .slice sg ([(us, 600 - us)].length) sc, .int .i64 (((900 : Nat) : Int)), .slice lg ([(ul, 900 - ul)].length) lc] 73) :: .obj m (mapO (os.map Ob.en) n) :: .row 96 2 (.slice sg ([(us, 600 - us)].length) sc) ([(us, 600 - us)].length) (gapC [(us, 600 - us)]) :: .row 96 2 (.slice lg ([(ul, 900 - ul)].length) lc) ([(ul, 900 - ul)].length) (gapC [(ul, 900 - ul)]) :: (os.map Ob.row ++ [])) := hM253
         refine ⟨_, rfl, ?_⟩
         intro a hA
         refine seq_do hA rfl rfl rfl (does_move rfl) ?_
         intro a hA
         refine seq_do (v := .int .i64 0) hA rfl rfl rfl (does_extract (vs := [.int .i64 0, .int .i64 9]) rfl rfl) ?_
         intro a hA
         refine seq_do (v := .int .i64 9) hA rfl rfl rfl (does_extract (vs := [.int .i64 0, .int .i64 9]) rfl rfl) ?_
         intro a hA
         refine seq_do hA rfl rfl rfl (does_assign rfl) ?_
         intro a hA
         refine seq_do hA rfl rfl rfl (does_assign rfl) ?_
         intro a hA
         refine seq_end ?_
         refine hK247 _ _ ?_
         refine wp_seq_k (fun K255 hK255 => ?_)
         replace hA := hA.keep [(0, .slice so0 l0.length ca0), (1, .slice so1 l1.length ca1), (2, .slice so2 l2.length ca2), (6, .bool false), (7, .pointer (some ⟨h, 0, none⟩)), (8, .int .i64 0), (9, .int .i64 (((n : Nat) : Int))), (10, .int .i64 (((i : Nat) : Int))), (12, .int .i64 9)] ⟨rfl, rfl, rfl, rfl, rfl, rfl, rfl, rfl, rfl, trivial⟩
         refine wp_region_lit ?_
         refine seq_do hA rfl rfl rfl (does_move rfl) ?_
         intro a hA
         refine seq_do (v := .bool false) hA rfl rfl rfl (does_bin rfl rfl (fun w => by kernel_rfl)) ?_
         intro a hA
         refine seq_end ?_
         refine hK255 _ _ ?_
         refine wp_cond_false (hA.ev rfl) ?_
         refine wp_skip ?_
         refine hK246 _ _ ?_
         replace hA := hA.keep [(0, .slice so0 l0.length ca0), (1, .slice so1 l1.length ca1), (2, .slice so2 l2.length ca2), (6, .bool false), (7, .pointer (some ⟨h, 0, none⟩)), (8, .int .i64 0), (9, .int .i64 (((n : Nat) : Int))), (10, .int .i64 (((i : Nat) : Int))), (12, .int .i64 9)] ⟨rfl, rfl, rfl, rfl, rfl, rfl, rfl, rfl, rfl, trivial⟩
         refine wp_region_lit ?_
         refine seq_do hA rfl rfl rfl (does_move rfl) ?_
         intro a hA
         refine seq_do (v := .int .i64 (((i + 1 : Nat) : Int))) hA rfl rfl rfl (does_bin rfl rfl (ar_add ((in_i64 (by omega) (by omega)).trans (by omega)))) ?_
         intro a hA
         refine seq_do hA rfl rfl rfl (does_assign rfl) ?_
         intro a hA
         refine seq_end ?_
         replace hM := hM.b3
         replace hM := hM.b3
         replace hM := hM.b3
         replace hM := hM.b3
         refine hK240 _ _ _ (by omega) ⟨i + 1, n, us, ul, os, sg, lg, sc, lc, rfl, ⟨by omega, hm, by omega⟩, hA.keep _ ⟨rfl, rfl, rfl, rfl, rfl, rfl, rfl, rfl, trivial⟩, hM⟩
     · have hb248' := of_decide_eq_false hb248
       rcases Bool.eq_false_or_eq_true (decide (kz ≤ 600 - us)) with hb256 | hb256
       · have hb256' := of_decide_eq_true hb256
         replace hM := hM.b3
         replace hM := hM.b3
         replace hM := hM.b3
         replace hM := hM.b3
         refine seq_call hA rfl rfl rfl (enters_func rfl rfl (fun w => by kernel_rfl)) (allocS_ok (n := kz) (ss := 600) (ls := 900) (last := n) (gs := [(us, 600 - us)]) (gl := [(ul, 900 - ul)]) (i := 0) (p := us) (s := 600 - us) (X := []) (by omega) hb248 (by omega) (hm.num.hx hm.len) (by simp) (by simp [idxG]; omega) rfl (by omega) (by have := hm.ls; have := hm.ll; omega) hM) ?_
         rintro _ w258 ⟨gr, rfl, hM257⟩
         rw [show 600 - us - kz = 600 - (us + kz) from by omega] at hM257
         replace hM : Mg w w258 (.obj h (.cells #[.map (some m), .int .i64 ((((n + 1) : Nat) : Int)), .int .i64 (((600 : Nat) : Int)), .slice sg ([(us + kz, 600 - (us + kz))].length) sc, .int .i64 (((900 : Nat) : Int)), .slice lg ([(ul, 900 - ul)].length) lc] 73) :: .obj m (mapO ((os ++ [nOb n us gr kz]).map Ob.en) ((n + 1))) :: .row 96 2 (.slice sg ([(us + kz, 600 - (us + kz))].length) sc) ([(us + kz, 600 - (us + kz))].length) (gapC [(us + kz, 600 - (us + kz))]) :: .row 96 2 (.slice lg ([(ul, 900 - ul)].length) lc) ([(ul, 900 - ul)].length) (gapC [(ul, 900 - ul)]) :: ((os ++ [nOb n us gr kz]).map Ob.row ++ [])) := hM257
         refine ⟨_, rfl, ?_⟩
         intro a hA
         refine seq_do hA rfl rfl rfl (does_move rfl) ?_
         intro a hA
         refine seq_do (v := .int .i64 (((n + 1 : Nat) : Int))) hA rfl rfl rfl (does_extract (vs := [.int .i64 (((n + 1 : Nat) : Int)), .int .i64 0]) rfl rfl) ?_
         intro a hA
         refine seq_do (v := .int .i64 0) hA rfl rfl rfl (does_extract (vs := [.int .i64 (((n + 1 : Nat) : Int)), .int .i64 0]) rfl rfl) ?_
         intro a hA
         refine seq_do hA rfl rfl rfl (does_assign rfl) ?_
         intro a hA
         refine seq_do hA rfl rfl rfl (does_assign rfl) ?_
         intro a hA
         refine seq_end ?_
         refine hK247 _ _ ?_
         refine wp_seq_k (fun K259 hK259 => ?_)
         replace hA := hA.keep [(0, .slice so0 l0.length ca0), (1, .slice so1 l1.length ca1), (2, .slice so2 l2.length ca2), (6, .bool false), (7, .pointer (some ⟨h, 0, none⟩)), (8, .int .i64 0), (9, .int .i64 (((n : Nat) : Int))), (10, .int .i64 (((i : Nat) : Int))), (12, .int .i64 0)] ⟨rfl, rfl, rfl, rfl, rfl, rfl, rfl, rfl, rfl, trivial⟩
         refine wp_region_lit ?_
         refine seq_do hA rfl rfl rfl (does_move rfl) ?_
         intro a hA
         refine seq_do (v := .bool true) hA rfl rfl rfl (does_bin rfl rfl (fun w => by kernel_rfl)) ?_
         intro a hA
         refine seq_end ?_
         refine hK259 _ _ ?_
         refine wp_cond_true (hA.ev rfl) ?_
         replace hA := hA.keep [(0, .slice so0 l0.length ca0), (1, .slice so1 l1.length ca1), (2, .slice so2 l2.length ca2), (6, .bool false), (7, .pointer (some ⟨h, 0, none⟩)), (8, .int .i64 0), (9, .int .i64 (((n : Nat) : Int))), (10, .int .i64 (((i : Nat) : Int))), (12, .int .i64 0)] ⟨rfl, rfl, rfl, rfl, rfl, rfl, rfl, rfl, rfl, trivial⟩
         refine wp_region_lit ?_
         refine seq_do hA rfl rfl rfl (does_move rfl) ?_
         intro a hA
         refine seq_do (v := .int .i64 (((n + 1 : Nat) : Int))) hA rfl rfl rfl (does_bin rfl rfl (ar_add ((in_i64 (by omega) (by omega)).trans (by omega)))) ?_
         intro a hA
         refine seq_do hA rfl rfl rfl (does_assign rfl) ?_
         intro a hA
         refine seq_end ?_
         refine hK246 _ _ ?_
         replace hA := hA.keep [(0, .slice so0 l0.length ca0), (1, .slice so1 l1.length ca1), (2, .slice so2 l2.length ca2), (6, .bool false), (7, .pointer (some ⟨h, 0, none⟩)), (8, .int .i64 0), (9, .int .i64 (((n + 1 : Nat) : Int))), (10, .int .i64 (((i : Nat) : Int))), (12, .int .i64 0)] ⟨rfl, rfl, rfl, rfl, rfl, rfl, rfl, rfl, rfl, trivial⟩
         refine wp_region_lit ?_
         refine seq_do hA rfl rfl rfl (does_move rfl) ?_
         intro a hA
         refine seq_do (v := .int .i64 (((i + 1 : Nat) : Int))) hA rfl rfl rfl (does_bin rfl rfl (ar_add ((in_i64 (by omega) (by omega)).trans (by omega)))) ?_
         intro a hA
         refine seq_do hA rfl rfl rfl (does_assign rfl) ?_
         intro a hA
         refine seq_end ?_
         replace hM := hM.b3
         replace hM := hM.b3
         replace hM := hM.b3
         replace hM := hM.b3
         refine hK240 _ _ _ (by omega) ⟨i + 1, n + 1, us + kz, ul, os ++ [nOb n us gr kz], sg, lg, sc, lc, rfl, ⟨by omega, hm.small (by omega) (by have := of_decide_eq_false hb248; omega) (of_decide_eq_true hb256) gr, by omega⟩, hA.keep _ ⟨rfl, rfl, rfl, rfl, rfl, rfl, rfl, rfl, trivial⟩, hM⟩
       · have hb256' := of_decide_eq_false hb256
         replace hM := hM.b3
         replace hM := hM.b3
         replace hM := hM.b3
         replace hM := hM.b3
         refine seq_call hA rfl rfl rfl (enters_func rfl rfl (fun w => by kernel_rfl)) (allocS_full (n := kz) (ss := 600) (ls := 900) (last := n) (gs := [(us, 600 - us)]) (gl := [(ul, 900 - ul)]) (os := os) (T := os.map Ob.row ++ []) (by omega) hb248 (by simp) (by simp [idxG]; omega) hM) ?_
         rintro _ w261 ⟨rfl, hM260⟩
         replace hM : Mg w w261 (.obj h (.cells #[.map (some m), .int .i64 (((n : Nat) : Int)), .int .i64 (((600 : Nat) : Int)), .slice sg ([(us, 600 - us)].length) sc, .int .i64 (((900 : Nat) : Int)), .slice lg ([(ul, 900 - ul)].length) lc] 73) :: .obj m (mapO (os.map Ob.en) n) :: .row 96 2 (.slice sg ([(us, 600 - us)].length) sc) ([(us, 600 - us)].length) (gapC [(us, 600 - us)]) :: .row 96 2 (.slice lg ([(ul, 900 - ul)].length) lc) ([(ul, 900 - ul)].length) (gapC [(ul, 900 - ul)]) :: (os.map Ob.row ++ [])) := hM260
         refine ⟨_, rfl, ?_⟩
         intro a hA
         refine seq_do hA rfl rfl rfl (does_move rfl) ?_
         intro a hA
         refine seq_do (v := .int .i64 0) hA rfl rfl rfl (does_extract (vs := [.int .i64 0, .int .i64 9]) rfl rfl) ?_
         intro a hA
         refine seq_do (v := .int .i64 9) hA rfl rfl rfl (does_extract (vs := [.int .i64 0, .int .i64 9]) rfl rfl) ?_
         intro a hA
         refine seq_do hA rfl rfl rfl (does_assign rfl) ?_
         intro a hA
         refine seq_do hA rfl rfl rfl (does_assign rfl) ?_
         intro a hA
         refine seq_end ?_
         refine hK247 _ _ ?_
         refine wp_seq_k (fun K262 hK262 => ?_)
         replace hA := hA.keep [(0, .slice so0 l0.length ca0), (1, .slice so1 l1.length ca1), (2, .slice so2 l2.length ca2), (6, .bool false), (7, .pointer (some ⟨h, 0, none⟩)), (8, .int .i64 0), (9, .int .i64 (((n : Nat) : Int))), (10, .int .i64 (((i : Nat) : Int))), (12, .int .i64 9)] ⟨rfl, rfl, rfl, rfl, rfl, rfl, rfl, rfl, rfl, trivial⟩
         refine wp_region_lit ?_
         refine seq_do hA rfl rfl rfl (does_move rfl) ?_
         intro a hA
         refine seq_do (v := .bool false) hA rfl rfl rfl (does_bin rfl rfl (fun w => by kernel_rfl)) ?_
         intro a hA
         refine seq_end ?_
         refine hK262 _ _ ?_
         refine wp_cond_false (hA.ev rfl) ?_
         refine wp_skip ?_
         refine hK246 _ _ ?_
         replace hA := hA.keep [(0, .slice so0 l0.length ca0), (1, .slice so1 l1.length ca1), (2, .slice so2 l2.length ca2), (6, .bool false), (7, .pointer (some ⟨h, 0, none⟩)), (8, .int .i64 0), (9, .int .i64 (((n : Nat) : Int))), (10, .int .i64 (((i : Nat) : Int))), (12, .int .i64 9)] ⟨rfl, rfl, rfl, rfl, rfl, rfl, rfl, rfl, rfl, trivial⟩
         refine wp_region_lit ?_
         refine seq_do hA rfl rfl rfl (does_move rfl) ?_
         intro a hA
         refine seq_do (v := .int .i64 (((i + 1 : Nat) : Int))) hA rfl rfl rfl (does_bin rfl rfl (ar_add ((in_i64 (by omega) (by omega)).trans (by omega)))) ?_
         intro a hA
         refine seq_do hA rfl rfl rfl (does_assign rfl) ?_
         intro a hA
         refine seq_end ?_
         replace hM := hM.b3
         replace hM := hM.b3
         replace hM := hM.b3
         replace hM := hM.b3
         refine hK240 _ _ _ (by omega) ⟨i + 1, n, us, ul, os, sg, lg, sc, lc, rfl, ⟨by omega, hm, by omega⟩, hA.keep _ ⟨rfl, rfl, rfl, rfl, rfl, rfl, rfl, rfl, trivial⟩, hM⟩
   · have hb245' := of_decide_eq_false hb245
     refine seq_do (v := .bool false) hA rfl rfl rfl (does_bin rfl rfl (fun w => (bin_lss w).trans (by rw [hb245]))) ?_
     intro a hA
     refine seq_do (v := .bool false) hA rfl rfl rfl (does_pick rfl rfl rfl rfl) ?_
     intro a hA
     refine seq_end ?_
     refine hK243 _ _ ?_
     refine wp_cond_false (hA.ev rfl) ?_
     refine wp_exit ?_
     replace hM := hM.b3
     replace hM := hM.b3
     replace hM := hM.b3
     replace hM := hM.b3
     exact hJ11 _ _ ⟨n, us, ul, os, sg, lg, sc, lc, ⟨hm, by omega⟩, hA.keep _ ⟨rfl, rfl, rfl, rfl, rfl, rfl, trivial⟩, hM⟩
 · have hb244' := of_decide_eq_false hb244
   refine seq_do (v := .bool false) hA rfl rfl rfl (does_bin rfl rfl (fun w => (bin_lss w).trans (by rw [hb244]))) ?_
   intro a hA
   refine seq_do hA rfl rfl rfl (does_move rfl) ?_
   intro a hA
   refine seq_skip hA rfl rfl rfl ?_
   intro a hA
   refine seq_skip hA rfl rfl rfl ?_
   intro a hA
   refine seq_do (v := .bool false) hA rfl rfl rfl (does_pick rfl rfl rfl rfl) ?_
   intro a hA
   refine seq_end ?_
   refine hK243 _ _ ?_
   refine wp_cond_false (hA.ev rfl) ?_
   refine wp_exit ?_
   replace hM := hM.b3
   replace hM := hM.b3
   replace hM := hM.b3
   replace hM := hM.b3
   exact hJ11 _ _ ⟨n, us, ul, os, sg, lg, sc, lc, ⟨hm, by omega⟩, hA.keep _ ⟨rfl, rfl, rfl, rfl, rfl, rfl, trivial⟩, hM⟩
end Go.Proofs.Ytcigofjajphmjaa
