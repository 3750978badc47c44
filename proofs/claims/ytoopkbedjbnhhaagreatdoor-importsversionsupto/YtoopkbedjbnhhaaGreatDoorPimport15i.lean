/- JcG Le Jf JcH JcI JcP Bulk ArgC ArgB ArgD ArgI -/
import Derived.Test.YtoopkbedjbnhhaaGreatDoorPimport15g
import Derived.Test.YtoopkbedjbnhhaaGreatDoorPimport15h
import Derived.Test.YtoopkbedjbnhhaaGreatDoorPimport15f
import Derived.RangeFuncNested
import Derived.RangeFuncLeaves
import Derived.LoopNIn
import Derived.Test.YtoopkbedjbnhhaaGreatDoorProg
import Derived.Test.YtoopkbedjbnhhaaGreatDoorArith
import Derived.ControlIn
import Derived.OrdersIn
import Derived.Test.YtoopkbedjbnhhaaGreatDoorRows
import Derived.Test.YtoopkbedjbnhhaaGreatDoorPimport15d
import Derived.WalkKit
import Derived.ProofKit
import Derived.OpenShut
import Derived.ChangeOld
import Derived.Lib.SmallJoins
import Derived.Deep.Strs
import Derived.Test.YtoopkbedjbnhhaaGreatDoorPimport15c
import Derived.Deep.Slices
import Derived.DataElems
set_option linter.unusedVariables false
set_option linter.unusedSimpArgs false
set_option maxHeartbeats 1000000
namespace Go.Proofs.YtoopkbedjbnhhaaGreatDoor.G
open Go.RowKit
set_option maxRecDepth 100000
theorem JcG_is1_3 : Is1 Tryz.prog 3 := ⟨⟨_, Tryz.underlying3, rfl⟩, by kernel_rfl⟩
theorem JcG_is1_31 : Is1 Tryz.prog 31 := ⟨⟨_, Tryz.underlying31, rfl⟩, by kernel_rfl⟩
theorem JcG_is1_32 : Is1 Tryz.prog 32 := ⟨⟨_, Tryz.underlying32, rfl⟩, by kernel_rfl⟩
theorem JcG_is1_39 : Is1 Tryz.prog 39 := ⟨⟨_, Tryz.underlying39, rfl⟩, by kernel_rfl⟩
theorem JcG_is1_9 : Is1 Tryz.prog 9 := ⟨⟨_, Tryz.underlying9, rfl⟩, by kernel_rfl⟩
theorem JcG_fld_34_0 : FieldAt Tryz.prog 34 0 0 := ⟨_, _, Tryz.underlying34, rfl, rfl, by kernel_rfl⟩
theorem JcG_fld_34_3 : FieldAt Tryz.prog 34 3 13 := ⟨_, _, Tryz.underlying34, rfl, rfl, by kernel_rfl⟩
theorem JcG_fld_34_4 : FieldAt Tryz.prog 34 4 14 := ⟨_, _, Tryz.underlying34, rfl, rfl, by kernel_rfl⟩
theorem JcG_fld_66_0 : FieldAt Tryz.prog 66 0 0 := ⟨_, _, Tryz.underlying66, rfl, rfl, by kernel_rfl⟩
theorem JcG_fld_81_0 : FieldAt Tryz.prog 81 0 0 := ⟨_, _, Tryz.underlying81, rfl, rfl, by kernel_rfl⟩
theorem JcG_fld_81_1 : FieldAt Tryz.prog 81 1 1 := ⟨_, _, Tryz.underlying81, rfl, rfl, by kernel_rfl⟩
theorem JcG_isS_34 : IsS Tryz.prog 34 15 := ⟨⟨_, Tryz.underlying34⟩, by kernel_rfl⟩
theorem JcG_isS_66 : IsS Tryz.prog 66 2 := ⟨⟨_, Tryz.underlying66⟩, by kernel_rfl⟩
theorem JcG_isS_81 : IsS Tryz.prog 81 2 := ⟨⟨_, Tryz.underlying81⟩, by kernel_rfl⟩
def jm (k : Int) (ofs nms : Value) : List Value := [.int .i64 k, .slice none 0 0, .int .i64 0, .int .i64 0, .bool false, .slice none 0 0, .slice none 0 0, .bool false, .slice none 0 0, .slice none 0 0, .string ⟨#[]⟩, .slice none 0 0, .slice none 0 0, ofs, nms]
theorem qgh {α : Type} : ∀ (L : List α) (k : Nat) (c : α), L[k]? = some c → L.Perm (c :: L.eraseIdx k)
  | [], _, _, h => by simp at h
  | a :: t, 0, c, h => by cases h; exact .refl _
  | a :: t, k + 1, c, h => ((qgh t k c (by simpa using h)).cons a).trans (.swap c a _)
theorem Mg.bringJ {w0 w : World} {L L' : List Ck} (h : Mg w0 w L) (k : Nat) {c : Ck} (hk : L[k]? = some c) (hL : c :: L.eraseIdx k = L') : Mg w0 w L' := by
  subst hL
  exact h.perm (qgh L k c hk)
theorem here_rc {w : World} {so : Option Addr} {cs : List Value} (h : Rc w so cs) (hne : cs ≠ []) : ∃ b o, so = some ⟨b, o, none⟩ ∧ Here w b o cs := by
  obtain ⟨b, o, e, h2⟩ := h hne
  refine ⟨b, o, e, ?_, fun j v hj => h2 j v hj⟩
  cases cs with
  | nil => exact absurd rfl hne
  | cons c l => exact vx (h2 0 c rfl)
theorem levels1_any {w : World} {sf sn : Option Addr} {cf cn : Nat} (hF : Rc w sf (jm 0 (.slice none 0 0) (.slice none 0 0))) : Calls Tryz.prog 62 #[.agg (jm 3 (.slice sf 1 cf) (.slice sn 1 cn)).toArray] w fun e w' => ∃ g' ca', e = .returned (.tuple #[.slice (some ⟨g', 0, none⟩) 1 ca', .agg (jm 0 (.slice none 0 0) (.slice none 0 0)).toArray, .bool true]) ∧ Mg w w' [.row 34 15 (.slice (some ⟨g', 0, none⟩) 1 ca') 1 (jm 3 (.slice sf 1 cf) (.slice sn 1 cn))] := by
 obtain ⟨bf, of, hsf, hHf⟩ := here_rc hF (by unfold jm; simp)
 have hM : Mg w w ([]) := Mg.start w
 refine qz (l := [(0, .agg (jm 3 (.slice sf 1 cf) (.slice sn 1 cn)).toArray)]) Tryz.func62 rfl Tryz.ntmps62 rfl rfl ?_
 intro Q hret hnorm hP a hA
 refine wp_seq_k (fun K1 hK1 => ?_)
 refine wp_region_lit ?_
 refine jk (vs := (jm 3 (.slice sf 1 cf) (.slice sn 1 cn))) (t := 34) hA hM rfl rfl rfl (fun g => .pointer (some ⟨g, 0, none⟩)) (zg rfl rfl) (by decide) ?_
 intro g2 w3 hM a hA
 refine qa hA rfl rfl rfl (qb rfl) ?_
 intro a hA
 refine jk (vs := (jm 0 (.slice none 0 0) (.slice none 0 0))) (t := 34) hA hM rfl rfl rfl (fun g => .pointer (some ⟨g, 0, none⟩)) (zx (z := .agg (jm 0 (.slice none 0 0) (.slice none 0 0)).toArray) (by kernel_rfl) rfl) (by decide) ?_
 intro g4 w5 hM a hA
 refine qa hA rfl rfl rfl (qb rfl) ?_
 intro a hA
 refine qf ?_
 refine hK1 _ _ ?_
 refine wp_seq_k (fun K6 hK6 => ?_)
 refine wp_block ?_
 refine wp_loop_rounds 3 ?_
 refine zv ?_
 intro K7 hK7
 refine wp_seq_k (fun K8 hK8 => ?_)
 refine wp_seq_k (fun K9 hK9 => ?_)
 refine wp_region_lit ?_
 refine qa (v := .pointer (some ⟨g2, 0, none⟩)) hA rfl rfl rfl (qi JcG_fld_34_0 rfl rfl) ?_
 intro a hA
 refine qa hA rfl rfl rfl (zl hM JcG_is1_3 rfl 1 rfl rfl) ?_
 intro a hA
 refine qa (v := .bool true) hA rfl rfl rfl (qg rfl rfl (fun w => by kernel_rfl)) ?_
 intro a hA
 refine qa hA rfl rfl rfl (qe rfl) ?_
 intro a hA
 refine qa (v := .pointer (some ⟨g2, 13, none⟩)) hA rfl rfl rfl (qi JcG_fld_34_3 rfl rfl) ?_
 intro a hA
 refine qa hA rfl rfl rfl (zl hM JcG_is1_32 rfl 1 rfl rfl) ?_
 intro a hA
 refine qa (v := .int .i64 1) hA rfl rfl rfl (zb Tryz.underlying32 rfl) ?_
 intro a hA
 refine qa (v := .bool true) hA rfl rfl rfl (qg rfl rfl (fun w => by kernel_rfl)) ?_
 intro a hA
 refine qa (v := .bool true) hA rfl rfl rfl (ql rfl rfl rfl rfl) ?_
 intro a hA
 refine qa hA rfl rfl rfl (qe rfl) ?_
 intro a hA
 refine qa hA rfl rfl rfl (qe rfl) ?_
 intro a hA
 refine qa (v := .int .i64 0) hA rfl rfl rfl (zb Tryz.underlying32 rfl) ?_
 intro a hA
 refine qa (v := .bool true) hA rfl rfl rfl (qg rfl rfl (fun w => by kernel_rfl)) ?_
 intro a hA
 refine qa (v := .bool true) hA rfl rfl rfl (ql rfl rfl rfl rfl) ?_
 intro a hA
 refine qf ?_
 refine hK9 _ _ ?_
 refine wp_cond_true (hA.ev rfl) ?_
 refine wp_skip ?_
 refine hK8 _ _ ?_
 refine wp_block ?_
 refine wp_seq_k (fun K10 hK10 => ?_)
 refine wp_region_lit ?_
 refine qa hA rfl rfl rfl (qe rfl) ?_
 intro a hA
 refine qa hA rfl rfl rfl (ja hM JcG_isS_34 rfl 1 rfl (cs := (jm 3 (.slice sf 1 cf) (.slice sn 1 cn))) rfl rfl) ?_
 intro a hA
 refine ks (e := 34) (sz := 15) (m := 1) (vs := (jm 3 (.slice sf 1 cf) (.slice sn 1 cn))) hA hM rfl rfl rfl (zt rfl (by kernel_rfl)) rfl rfl (.inl (by decide)) ?_
 intro g11 w12 hM a hA
 replace hM := hM.nilRow (qw (by simp) (qw (by simp) (qw (by simp) (qy zd)))) 34 15
 refine kd (e := 34) (sz := 15) (k := 0) (q := 0) (m := 1) (xs := []) (news := (jm 3 (.slice sf 1 cf) (.slice sn 1 cn))) (L' := fun v13 => (.row 34 15 (v13) (0 + 1) ([] ++ (jm 3 (.slice sf 1 cf) (.slice sn 1 cn))) :: .row 34 15 (.slice (some ⟨g11, 0, none⟩) 1 1) 1 ((jm 3 (.slice sf 1 cf) (.slice sn 1 cn))) :: .obj g4 (.cells (jm 0 (.slice none 0 0) (.slice none 0 0)).toArray 34) :: .obj g2 (.cells (jm 3 (.slice sf 1 cf) (.slice sn 1 cn)).toArray 34) :: [])) hA rfl rfl rfl (qch (z := .agg (jm 0 (.slice none 0 0) (.slice none 0 0)).toArray) (sz := 15) (by_ := 272) Tryz.underlying32 (by kernel_rfl) rfl rfl rfl hM 0 rfl rfl rfl rfl (kw (hM.has 1 rfl)) (by intro u hu; simp only [jm, List.mem_cons, List.not_mem_nil, or_false] at hu; rcases hu with rfl | rfl | rfl | rfl | rfl | rfl | rfl | rfl | rfl | rfl | rfl | rfl | rfl | rfl | rfl <;> rfl) (by decide)) (fun _ => rfl) ?_
 intro v13 w14 hM a hA
 obtain ⟨g15, ca16, rfl⟩ := row_open (hM.has 0 rfl) (by decide)
 replace hM : Mg w w14 (.row 34 15 (.slice (some ⟨g15, 0, none⟩) 1 ca16) 1 ((jm 3 (.slice sf 1 cf) (.slice sn 1 cn))) :: .row 34 15 (.slice (some ⟨g11, 0, none⟩) 1 1) 1 ((jm 3 (.slice sf 1 cf) (.slice sn 1 cn))) :: .obj g4 (.cells (jm 0 (.slice none 0 0) (.slice none 0 0)).toArray 34) :: .obj g2 (.cells (jm 3 (.slice sf 1 cf) (.slice sn 1 cn)).toArray 34) :: []) := hM
 refine qa hA rfl rfl rfl (qb rfl) ?_
 intro a hA
 refine qf ?_
 refine hK10 _ _ ?_
 refine wp_region_lit ?_
 refine qa (v := .pointer (some ⟨g2, 13, none⟩)) hA rfl rfl rfl (qi JcG_fld_34_3 rfl rfl) ?_
 intro a hA
 refine qa hA rfl rfl rfl (zl hM JcG_is1_32 rfl 3 rfl rfl) ?_
 intro a hA
 refine qa (v := .pointer (some ⟨bf, of + 0 * 15, none⟩)) hA rfl rfl rfl (zh (k := 0) Tryz.underlying32 (by kernel_rfl) rfl rfl rfl hsf (by omega)) ?_
 intro a hA
 refine qa hA rfl rfl rfl (jg hM hHf JcG_isS_34 rfl rfl) ?_
 intro a hA
 refine jb (us := (jm 0 (.slice none 0 0) (.slice none 0 0))) (L' := (.row 34 15 (.slice (some ⟨g15, 0, none⟩) 1 ca16) 1 ((jm 3 (.slice sf 1 cf) (.slice sn 1 cn))) :: .row 34 15 (.slice (some ⟨g11, 0, none⟩) 1 1) 1 ((jm 3 (.slice sf 1 cf) (.slice sn 1 cn))) :: .obj g4 (.cells (jm 0 (.slice none 0 0) (.slice none 0 0)).toArray 34) :: .obj g2 (.cells (jm 0 (.slice none 0 0) (.slice none 0 0)).toArray 34) :: [])) hA hM rfl rfl (zu rfl rfl rfl (by kernel_rfl) hM 3 rfl rfl rfl) 3 rfl rfl rfl ?_
 intro w17 hM
 refine qf ?_
 refine hK7 _ _ ?_
 refine zv ?_
 intro K18 hK18
 refine wp_seq_k (fun K19 hK19 => ?_)
 refine wp_seq_k (fun K20 hK20 => ?_)
 refine wp_region_lit ?_
 refine qa (v := .pointer (some ⟨g2, 0, none⟩)) hA rfl rfl rfl (qi JcG_fld_34_0 rfl rfl) ?_
 intro a hA
 refine qa hA rfl rfl rfl (zl hM JcG_is1_3 rfl 3 rfl rfl) ?_
 intro a hA
 refine qa (v := .bool false) hA rfl rfl rfl (qg rfl rfl (fun w => by kernel_rfl)) ?_
 intro a hA
 refine qa hA rfl rfl rfl (qe rfl) ?_
 intro a hA
 refine qj hA rfl rfl rfl ?_
 intro a hA
 refine qj hA rfl rfl rfl ?_
 intro a hA
 refine qj hA rfl rfl rfl ?_
 intro a hA
 refine qj hA rfl rfl rfl ?_
 intro a hA
 refine qa (v := .bool false) hA rfl rfl rfl (ql rfl rfl rfl rfl) ?_
 intro a hA
 refine qa hA rfl rfl rfl (qe rfl) ?_
 intro a hA
 refine qj hA rfl rfl rfl ?_
 intro a hA
 refine qj hA rfl rfl rfl ?_
 intro a hA
 refine qj hA rfl rfl rfl ?_
 intro a hA
 refine qa (v := .bool false) hA rfl rfl rfl (ql rfl rfl rfl rfl) ?_
 intro a hA
 refine qf ?_
 refine hK20 _ _ ?_
 refine wp_cond_false (hA.ev rfl) ?_
 refine wp_exit ?_
 refine hK6 _ _ ?_
 refine wp_seq_k (fun K21 hK21 => ?_)
 refine vd (S := fun w1 => Mg w w1 (.obj g2 (.cells (jm 0 (.slice none 0 0) (.slice none 0 0)).toArray 34) :: [])) (by kernel_rfl) ?_
 replace hM := hM.drew
 refine zf hA 0 rfl rfl rfl rfl hP (hM.sub (cN (cN (cN (cC (List.nil_sublist _)))))) (fun w1 hM => qe rfl) ?_
 intro a hA
 refine zf hA 1 rfl rfl rfl rfl hP (hM.sub (cN (cN (cN (cC (List.nil_sublist _)))))) (fun w1 hM => ja hM JcG_isS_34 rfl 0 rfl (cs := (jm 0 (.slice none 0 0) (.slice none 0 0))) rfl rfl) ?_
 intro a hA
 refine zf (v := .pointer (some ⟨g2, 0, none⟩)) hA 2 rfl rfl rfl rfl hP (hM.sub (cN (cN (cN (cC (List.nil_sublist _)))))) (fun w1 hM => qi JcG_fld_34_0 rfl rfl) ?_
 intro a hA
 refine zf hA 3 rfl rfl rfl rfl hP (hM.sub (cN (cN (cN (cC (List.nil_sublist _)))))) (fun w1 hM => zl hM JcG_is1_3 rfl 0 rfl rfl) ?_
 intro a hA
 refine zf (v := .bool true) hA 4 rfl rfl rfl rfl hP (hM.sub (cN (cN (cN (cC (List.nil_sublist _)))))) (fun w1 hM => qg rfl rfl (fun w => by kernel_rfl)) ?_
 intro a hA
 refine zf hA 5 rfl rfl rfl rfl hP (hM.sub (cN (cN (cN (cC (List.nil_sublist _)))))) (fun w1 hM => qe rfl) ?_
 intro a hA
 refine zf (v := .pointer (some ⟨g2, 13, none⟩)) hA 6 rfl rfl rfl rfl hP (hM.sub (cN (cN (cN (cC (List.nil_sublist _)))))) (fun w1 hM => qi JcG_fld_34_3 rfl rfl) ?_
 intro a hA
 refine zf hA 7 rfl rfl rfl rfl hP (hM.sub (cN (cN (cN (cC (List.nil_sublist _)))))) (fun w1 hM => zl hM JcG_is1_32 rfl 0 rfl rfl) ?_
 intro a hA
 refine zf (v := .int .i64 0) hA 8 rfl rfl rfl rfl hP (hM.sub (cN (cN (cN (cC (List.nil_sublist _)))))) (fun w1 hM => zb Tryz.underlying32 rfl) ?_
 intro a hA
 refine zf (v := .bool true) hA 9 rfl rfl rfl rfl hP (hM.sub (cN (cN (cN (cC (List.nil_sublist _)))))) (fun w1 hM => qg rfl rfl (fun w => by kernel_rfl)) ?_
 intro a hA
 refine zf (v := .bool true) hA 10 rfl rfl rfl rfl hP (hM.sub (cN (cN (cN (cC (List.nil_sublist _)))))) (fun w1 hM => ql rfl rfl rfl rfl) ?_
 intro a hA
 refine zf hA 11 rfl rfl rfl rfl hP (hM.sub (cN (cN (cN (cC (List.nil_sublist _)))))) (fun w1 hM => qb rfl) ?_
 intro a hA
 refine xn (by kernel_rfl) (g_store (us := (jm 0 (.slice none 0 0) (.slice none 0 0))) (L' := (.row 34 15 (.slice (some ⟨g15, 0, none⟩) 1 ca16) 1 ((jm 3 (.slice sf 1 cf) (.slice sn 1 cn))) :: .row 34 15 (.slice (some ⟨g11, 0, none⟩) 1 1) 1 ((jm 3 (.slice sf 1 cf) (.slice sn 1 cn))) :: .obj g4 (.cells (jm 0 (.slice none 0 0) (.slice none 0 0)).toArray 34) :: .obj g2 (.cells (jm 0 (.slice none 0 0) (.slice none 0 0)).toArray 34) :: [])) hA hM 12 rfl rfl rfl (zu rfl rfl rfl (by kernel_rfl) hM 2 rfl rfl rfl) 2 rfl rfl rfl ?_)
 intro w22 hM
 refine ⟨(hM.sub (cN (cN (cN (cC (List.nil_sublist _)))))), ?_⟩
 refine zf hA 13 rfl rfl rfl rfl hP (hM.sub (cN (cN (cN (cC (List.nil_sublist _)))))) (fun w1 hM => qb rfl) ?_
 intro a hA
 refine xp (by kernel_rfl) ?_
 refine hK21 _ _ ?_
 refine wp_ret ?_
 refine hret _ _ ?_
 refine za (v := .tuple #[.slice (some ⟨g15, 0, none⟩) 1 ca16, .agg (jm 0 (.slice none 0 0) (.slice none 0 0)).toArray, .bool true]) hA rfl (.cons (qk rfl) (.cons (qah hM JcG_isS_34 rfl 2 rfl (cs := [.int .i64 0, .slice none 0 0, .int .i64 0, .int .i64 0, .bool false, .slice none 0 0, .slice none 0 0, .bool false, .slice none 0 0, .slice none 0 0, .string (⟨#[]⟩), .slice none 0 0, .slice none 0 0, .slice none 0 0, .slice none 0 0]) rfl rfl) (.cons (qk rfl) .nil))) rfl ?_
 replace hM := hM.sub (cC (cN (cN (cN (.refl _)))))
 exact ⟨_, _, rfl, hM⟩
theorem outer3_any {w : World} {sf sn : Option Addr} {cf cn : Nat} : Calls Tryz.prog 83 #[.agg (jm 3 (.slice sf 1 cf) (.slice sn 1 cn)).toArray] w fun e w' => e = .returned (.bool true) ∧ Below w.heap.size w w' := by
 have hM : Mg w w ([]) := Mg.start w
 refine qz (l := [(0, .agg (jm 3 (.slice sf 1 cf) (.slice sn 1 cn)).toArray)]) Tryz.func83 rfl Tryz.ntmps83 rfl rfl ?_
 intro Q hret hnorm hP a hA
 refine wp_seq_k (fun K1 hK1 => ?_)
 refine wp_region_lit ?_
 refine jk (vs := (jm 3 (.slice sf 1 cf) (.slice sn 1 cn))) (t := 34) hA hM rfl rfl rfl (fun g => .pointer (some ⟨g, 0, none⟩)) (zg rfl rfl) (by decide) ?_
 intro g2 w3 hM a hA
 refine qa hA rfl rfl rfl (qb rfl) ?_
 intro a hA
 refine qf ?_
 refine hK1 _ _ ?_
 refine wp_seq_k (fun K4 hK4 => ?_)
 refine wp_seq_k (fun K5 hK5 => ?_)
 refine wp_region_lit ?_
 refine qa (v := .pointer (some ⟨g2, 0, none⟩)) hA rfl rfl rfl (qi JcG_fld_34_0 rfl rfl) ?_
 intro a hA
 refine qa hA rfl rfl rfl (zl hM JcG_is1_3 rfl 0 rfl rfl) ?_
 intro a hA
 refine qf ?_
 refine hK5 _ _ ?_
 refine wp_block ?_
 refine wp_seq_k (fun K6 hK6 => ?_)
 refine wp_seq_k (fun K7 hK7 => ?_)
 refine wp_region_lit ?_
 refine qa (v := .bool false) hA rfl rfl rfl (qg rfl rfl (fun w => by kernel_rfl)) ?_
 intro a hA
 refine qa hA rfl rfl rfl (qb rfl) ?_
 intro a hA
 refine qf ?_
 refine hK7 _ _ ?_
 refine wp_cond_false (hA.ev rfl) ?_
 refine wp_region_lit ?_
 refine qa (v := .bool false) hA rfl rfl rfl (qg rfl rfl (fun w => by kernel_rfl)) ?_
 intro a hA
 refine qa hA rfl rfl rfl (qb rfl) ?_
 intro a hA
 refine qf ?_
 refine hK6 _ _ ?_
 refine wp_cond_false (hA.ev rfl) ?_
 refine wp_seq_k (fun K8 hK8 => ?_)
 refine wp_region_lit ?_
 refine qa (v := .bool true) hA rfl rfl rfl (qg rfl rfl (fun w => by kernel_rfl)) ?_
 intro a hA
 refine qa hA rfl rfl rfl (qb rfl) ?_
 intro a hA
 refine qf ?_
 refine hK8 _ _ ?_
 refine wp_cond_true (hA.ev rfl) ?_
 refine wp_seq_k (fun K9 hK9 => ?_)
 refine wp_region_lit ?_
 refine qa (v := .pointer (some ⟨g2, 14, none⟩)) hA rfl rfl rfl (qi JcG_fld_34_4 rfl rfl) ?_
 intro a hA
 refine qa hA rfl rfl rfl (zl hM JcG_is1_31 rfl 0 rfl rfl) ?_
 intro a hA
 refine qa (v := .int .i64 1) hA rfl rfl rfl (zb Tryz.underlying31 rfl) ?_
 intro a hA
 refine qa (v := .bool true) hA rfl rfl rfl (qg rfl rfl (fun w => by kernel_rfl)) ?_
 intro a hA
 refine qa hA rfl rfl rfl (qb rfl) ?_
 intro a hA
 refine qf ?_
 refine hK9 _ _ ?_
 refine wp_ret ?_
 refine hret _ _ ?_
 refine za (v := .bool true) hA rfl (.cons (qk rfl) .nil) rfl ?_
 exact ⟨rfl, hM.bel⟩
theorem qcc {w : World} {so : Option Addr} {ca : Nat} {x y : ByteArray} (hR : Rc w so [.string x, .string y]) : Calls Tryz.prog 23 #[.slice so 1 ca] w fun e w' => ∃ g, e = .returned (.tuple #[.agg #[.slice so 1 ca, .map (some g)], .int .i64 0]) ∧ Mg w w' [.obj g (qej [⟨x, .int .i64 0, 0⟩] 1)] := by
 obtain ⟨br, or_, hsr, hHr⟩ := here_rc hR (by simp)
 have hM : Mg w w ([]) := Mg.start w
 refine qz (l := [(0, .slice so 1 ca)]) Tryz.func23 rfl Tryz.ntmps23 rfl rfl ?_
 intro Q hret hnorm hP a hA
 refine wp_seq_k (fun K1 hK1 => ?_)
 refine wp_region_lit ?_
 refine jk (vs := [.slice none 0 0, .map none]) (t := 66) hA hM rfl rfl rfl (fun g => .pointer (some ⟨g, 0, none⟩)) (zx (z := .agg #[.slice none 0 0, .map none]) (by kernel_rfl) rfl) (by decide) ?_
 intro g2 w3 hM a hA
 refine qa hA rfl rfl rfl (qb rfl) ?_
 intro a hA
 refine qf ?_
 refine hK1 _ _ ?_
 refine wp_seq_k (fun K4 hK4 => ?_)
 refine wp_region_lit ?_
 refine s_makeMapS hA hM rfl rfl rfl rfl ?_
 intro g5 w6 hM a hA
 refine qa hA rfl rfl rfl (qb rfl) ?_
 intro a hA
 refine qf ?_
 refine hK4 _ _ ?_
 refine wp_seq_k (fun K7 hK7 => ?_)
 refine wp_seq_k (fun K8 hK8 => ?_)
 refine wp_region_lit ?_
 refine qa hA rfl rfl rfl (qe rfl) ?_
 intro a hA
 refine qa (v := .int .i64 1) hA rfl rfl rfl (zb Tryz.underlying39 rfl) ?_
 intro a hA
 refine qa hA rfl rfl rfl (qe rfl) ?_
 intro a hA
 refine qf ?_
 refine hK8 _ _ ?_
 refine wp_block ?_
 refine wp_loop_rounds 3 ?_
 refine zv ?_
 intro K9 hK9
 refine wp_seq_k (fun K10 hK10 => ?_)
 refine wp_region_lit ?_
 refine qa (v := .bool true) hA rfl rfl rfl (qg rfl rfl (fun w => by kernel_rfl)) ?_
 intro a hA
 refine qf ?_
 refine hK10 _ _ ?_
 refine wp_seq_k (fun K11 hK11 => ?_)
 refine wp_cond_true (hA.ev rfl) ?_
 refine wp_skip ?_
 refine hK11 _ _ ?_
 refine wp_seq_k (fun K12 hK12 => ?_)
 refine wp_block ?_
 refine wp_seq_k (fun K13 hK13 => ?_)
 refine wp_region_lit ?_
 refine qa hA rfl rfl rfl (qe rfl) ?_
 intro a hA
 refine qa (v := .pointer (some ⟨br, or_ + 0 * 2, none⟩)) hA rfl rfl rfl (zh (k := 0) Tryz.underlying39 (by kernel_rfl) rfl rfl rfl hsr (by omega)) ?_
 intro a hA
 refine qa hA rfl rfl rfl (jg hM hHr JcG_isS_81 rfl rfl) ?_
 intro a hA
 refine jk (vs := [.string (⟨#[]⟩), .string (⟨#[]⟩)]) (t := 81) hA hM rfl rfl rfl (fun g => .pointer (some ⟨g, 0, none⟩)) (zx (z := .agg #[.string (⟨#[]⟩), .string (⟨#[]⟩)]) (by kernel_rfl) rfl) (by decide) ?_
 intro g14 w15 hM a hA
 refine qa hA rfl rfl rfl (qb rfl) ?_
 intro a hA
 refine jb (us := [.string x, .string y]) (L' := (.obj g14 (.cells #[.string x, .string y] 81) :: .obj g5 (qej ([]) 0) :: .obj g2 (.cells #[.slice none 0 0, .map none] 66) :: [])) hA hM rfl rfl (zu rfl rfl rfl (by kernel_rfl) hM 0 rfl rfl rfl) 0 rfl rfl rfl ?_
 intro w16 hM
 refine qf ?_
 refine hK13 _ _ ?_
 refine wp_region_lit ?_
 refine qa hA rfl rfl rfl (qe rfl) ?_
 intro a hA
 refine qa (v := .pointer (some ⟨g14, 0, none⟩)) hA rfl rfl rfl (qi JcG_fld_81_0 rfl rfl) ?_
 intro a hA
 refine qa hA rfl rfl rfl (zl hM JcG_is1_9 rfl 0 rfl rfl) ?_
 intro a hA
 refine qa hA rfl rfl rfl (qe rfl) ?_
 intro a hA
 refine s_setObjS (L' := (.obj g14 (.cells #[.string x, .string y] 81) :: .obj g5 (qej ([⟨x, .int .i64 0, 0⟩]) 1) :: .obj g2 (.cells #[.slice none 0 0, .map none] 66) :: [])) hA hM rfl rfl (sets_newS hM Tryz.underlying64 Tryz.underlying9 rfl rfl rfl 1 rfl rfl) 1 rfl (qlh _ _) rfl ?_
 intro w17 hM
 refine qf ?_
 refine hK12 _ _ ?_
 refine wp_region_lit ?_
 refine qa (v := .int .i64 1) hA rfl rfl rfl (qg rfl rfl (fun w => by kernel_rfl)) ?_
 intro a hA
 refine qa hA rfl rfl rfl (qe rfl) ?_
 intro a hA
 refine qf ?_
 refine hK9 _ _ ?_
 refine zv ?_
 intro K18 hK18
 refine wp_seq_k (fun K19 hK19 => ?_)
 refine wp_region_lit ?_
 refine qa (v := .bool false) hA rfl rfl rfl (qg rfl rfl (fun w => by kernel_rfl)) ?_
 intro a hA
 refine qf ?_
 refine hK19 _ _ ?_
 refine wp_seq_k (fun K20 hK20 => ?_)
 refine wp_cond_false (hA.ev rfl) ?_
 refine wp_exit ?_
 refine hK7 _ _ ?_
 refine wp_seq_k (fun K21 hK21 => ?_)
 refine wp_seq_k (fun K22 hK22 => ?_)
 refine wp_region_lit ?_
 refine qa hA rfl rfl rfl (qe rfl) ?_
 intro a hA
 refine qa (v := .int .i64 1) hA rfl rfl rfl (does_lenM (hM.obj 1 rfl) Tryz.underlying64 rfl) ?_
 intro a hA
 refine qa hA rfl rfl rfl (qe rfl) ?_
 intro a hA
 refine qa (v := .int .i64 1) hA rfl rfl rfl (zb Tryz.underlying39 rfl) ?_
 intro a hA
 refine qa (v := .bool false) hA rfl rfl rfl (qg rfl rfl (fun w => by kernel_rfl)) ?_
 intro a hA
 refine qf ?_
 refine hK22 _ _ ?_
 refine wp_cond_false (hA.ev rfl) ?_
 refine wp_skip ?_
 refine hK21 _ _ ?_
 refine wp_seq_k (fun K23 hK23 => ?_)
 refine wp_region_lit ?_
 refine qa hA rfl rfl rfl (qe rfl) ?_
 intro a hA
 refine qa hA rfl rfl rfl (qe rfl) ?_
 intro a hA
 refine qa (v := .agg #[.slice so 1 ca, .map (some g5)]) hA rfl rfl rfl (xr rfl (fun w => by kernel_rfl)) ?_
 intro a hA
 refine jb (us := [.slice so 1 ca, .map (some g5)]) (L' := (.obj g14 (.cells #[.string x, .string y] 81) :: .obj g5 (qej ([⟨x, .int .i64 0, 0⟩]) 1) :: .obj g2 (.cells #[.slice so 1 ca, .map (some g5)] 66) :: [])) hA hM rfl rfl (zu rfl rfl rfl (by kernel_rfl) hM 2 rfl rfl rfl) 2 rfl rfl rfl ?_
 intro w24 hM
 refine qa hA rfl rfl rfl (qb rfl) ?_
 intro a hA
 refine qf ?_
 refine hK23 _ _ ?_
 refine wp_ret ?_
 refine hret _ _ ?_
 refine za (v := .tuple #[.agg #[.slice so 1 ca, .map (some g5)], .int .i64 0]) hA rfl (.cons (qah hM JcG_isS_66 rfl 2 rfl (cs := [.slice so 1 ca, .map (some g5)]) rfl rfl) (.cons (qk rfl) .nil)) rfl ?_
 replace hM := hM.sub (cN (cC (cN (.refl _))))
 exact ⟨_, rfl, hM⟩
theorem fl1_any {w : World} {so : Option Addr} {ca : Nat} {x y : ByteArray} (hR : Rc w so [.string x, .string y]) : Calls Tryz.prog 108 #[.slice so 1 ca] w fun e w' => ∃ g ca', e = .returned (.slice (some ⟨g, 0, none⟩) 1 ca') ∧ Mg w w' [.row 81 2 (.slice (some ⟨g, 0, none⟩) 1 ca') 1 [Value.string x, .string y]] := by
 have hM : Mg w w ([]) := Mg.start w
 refine qz (l := [(0, .slice so 1 ca)]) Tryz.func108 rfl Tryz.ntmps108 rfl rfl ?_
 intro Q hret hnorm hP a hA
 refine wp_seq_k (fun K1 hK1 => ?_)
 refine wp_region_lit ?_
 refine qa hA rfl rfl rfl (qb rfl) ?_
 intro a hA
 refine qf ?_
 refine hK1 _ _ ?_
 refine wp_seq_k (fun K2 hK2 => ?_)
 refine wp_region_lit ?_
 refine qa hA rfl rfl rfl (qe rfl) ?_
 intro a hA
 replace hM := hM.nilRow (qy zd) 81 2
 refine kd (e := 81) (sz := 2) (k := 0) (q := 0) (m := 1) (xs := []) (news := [Value.string x, .string y]) (L' := fun v3 => (.row 81 2 (v3) (0 + 1) ([] ++ [Value.string x, .string y]) :: [])) hA rfl rfl rfl (qch (z := .agg #[.string ⟨#[]⟩, .string ⟨#[]⟩]) (sz := 2) (by_ := 32) Tryz.underlying39 (by kernel_rfl) rfl rfl rfl hM 0 rfl rfl rfl rfl (hR.below hM.bel) (by intro u hu; simp only [jm, List.mem_cons, List.not_mem_nil, or_false] at hu; rcases hu with rfl | rfl <;> rfl) (by decide)) (fun _ => rfl) ?_
 intro v3 w4 hM a hA
 obtain ⟨g5, ca6, rfl⟩ := row_open (hM.has 0 rfl) (by decide)
 replace hM : Mg w w4 (.row 81 2 (.slice (some ⟨g5, 0, none⟩) 1 ca6) 1 ([Value.string x, .string y]) :: []) := hM
 refine qa hA rfl rfl rfl (qb rfl) ?_
 intro a hA
 refine qf ?_
 refine hK2 _ _ ?_
 refine wp_ret ?_
 refine hret _ _ ?_
 refine za (v := .slice (some ⟨g5, 0, none⟩) 1 ca6) hA rfl (.cons (qk rfl) .nil) rfl ?_
 exact ⟨_, _, rfl, hM⟩
theorem prefixed1_any {w : World} {so : Option Addr} {ca : Nat} {x y : ByteArray} (hR : Rc w so [.string x, .string y]) {p : ByteArray} {gm : Nat} (hp : p.size + x.size ≤ 140737488355327) : Calls Tryz.prog 106 #[.agg #[.slice so 1 ca, .map (some gm)], .string p] w fun e w' => ∃ g ca', e = .returned (.slice (some ⟨g, 0, none⟩) 1 ca') ∧ Mg w w' [.row 81 2 (.slice (some ⟨g, 0, none⟩) 1 ca') 1 [Value.string ((p ++ x)), .string y]] := by
 have hM : Mg w w ([]) := Mg.start w
 refine qz (l := [(0, .agg #[.slice so 1 ca, .map (some gm)]), (1, .string p)]) Tryz.func106 rfl Tryz.ntmps106 rfl rfl ?_
 intro Q hret hnorm hP a hA
 refine wp_seq_k (fun K1 hK1 => ?_)
 refine wp_region_lit ?_
 refine jk (vs := [.slice so 1 ca, .map (some gm)]) (t := 66) hA hM rfl rfl rfl (fun g => .pointer (some ⟨g, 0, none⟩)) (zg rfl rfl) (by decide) ?_
 intro g2 w3 hM a hA
 refine qa hA rfl rfl rfl (qb rfl) ?_
 intro a hA
 refine qf ?_
 refine hK1 _ _ ?_
 refine wp_seq_k (fun K4 hK4 => ?_)
 refine wp_region_lit ?_
 refine qa (v := .pointer (some ⟨g2, 0, none⟩)) hA rfl rfl rfl (qi JcG_fld_66_0 rfl rfl) ?_
 intro a hA
 refine qa hA rfl rfl rfl (zl hM JcG_is1_39 rfl 0 rfl rfl) ?_
 intro a hA
 refine qm hA rfl rfl rfl (qh rfl rfl (fun w => by kernel_rfl)) (fl1_any (hR.below hM.bel)) ?_
 rintro _ w8 ⟨g5, ca6, rfl, hM7⟩
 replace hM : Mg w w8 (.row 81 2 (.slice (some ⟨g5, 0, none⟩) 1 ca6) 1 ([Value.string x, .string y]) :: .obj g2 (.cells #[.slice so 1 ca, .map (some gm)] 66) :: []) := (hM.both hM7 (qw (by simp) (qy zd)) (qw (by simp) (qy zd)))
 refine ⟨_, rfl, ?_⟩
 intro a hA
 refine qa hA rfl rfl rfl (qb rfl) ?_
 intro a hA
 refine qf ?_
 refine hK4 _ _ ?_
 refine wp_seq_k (fun K9 hK9 => ?_)
 refine wp_seq_k (fun K10 hK10 => ?_)
 refine wp_region_lit ?_
 refine qa hA rfl rfl rfl (qe rfl) ?_
 intro a hA
 refine qa (v := .int .i64 1) hA rfl rfl rfl (zb Tryz.underlying39 rfl) ?_
 intro a hA
 refine qa hA rfl rfl rfl (qe rfl) ?_
 intro a hA
 refine qf ?_
 refine hK10 _ _ ?_
 refine wp_block ?_
 refine wp_loop_rounds 3 ?_
 refine zv ?_
 intro K11 hK11
 refine wp_seq_k (fun K12 hK12 => ?_)
 refine wp_region_lit ?_
 refine qa (v := .bool true) hA rfl rfl rfl (qg rfl rfl (fun w => by kernel_rfl)) ?_
 intro a hA
 refine qf ?_
 refine hK12 _ _ ?_
 refine wp_seq_k (fun K13 hK13 => ?_)
 refine wp_cond_true (hA.ev rfl) ?_
 refine wp_skip ?_
 refine hK13 _ _ ?_
 refine wp_seq_k (fun K14 hK14 => ?_)
 refine wp_block ?_
 refine wp_seq_k (fun K15 hK15 => ?_)
 refine wp_region_lit ?_
 refine qa hA rfl rfl rfl (qe rfl) ?_
 intro a hA
 refine qa hA rfl rfl rfl (qb rfl) ?_
 intro a hA
 refine qf ?_
 refine hK15 _ _ ?_
 refine wp_region_lit ?_
 refine qa hA rfl rfl rfl (qe rfl) ?_
 intro a hA
 refine qa hA rfl rfl rfl (qe rfl) ?_
 intro a hA
 refine qa hA rfl rfl rfl (qe rfl) ?_
 intro a hA
 refine qa hA rfl rfl rfl (qe rfl) ?_
 intro a hA
 refine qa hA rfl rfl rfl (qe rfl) ?_
 intro a hA
 refine qa (v := .pointer (some ⟨g5, 0, none⟩)) hA rfl rfl rfl (vi (sz := 2) (k := 0) Tryz.underlying39 (by kernel_rfl) rfl rfl rfl Nat.zero_lt_one) ?_
 intro a hA
 refine qa (v := .pointer (some ⟨g5, 0, none⟩)) hA rfl rfl rfl (qi JcG_fld_81_0 rfl rfl) ?_
 intro a hA
 refine qa hA rfl rfl rfl (m_loadE hM 0 rfl rfl JcG_is1_9 rfl) ?_
 intro a hA
 refine qa (v := .string (p ++ x)) hA rfl rfl rfl (qg rfl rfl (bin_addS (by first | omega | assumption))) ?_
 intro a hA
 refine qa (v := .pointer (some ⟨g5, 0, none⟩)) hA rfl rfl rfl (vi (sz := 2) (k := 0) Tryz.underlying39 (by kernel_rfl) rfl rfl rfl Nat.zero_lt_one) ?_
 intro a hA
 refine qa (v := .pointer (some ⟨g5, 0, none⟩)) hA rfl rfl rfl (qi JcG_fld_81_0 rfl rfl) ?_
 intro a hA
 refine s_storeE (us := []) (L' := (.row 81 2 (.slice (some ⟨g5, 0, none⟩) 1 ca6) 1 ([Value.string (p ++ x), .string y]) :: .obj g2 (.cells #[.slice so 1 ca, .map (some gm)] 66) :: [])) hA hM rfl rfl (m_storeE (cs := [.string (p ++ x)]) rfl rfl rfl (by kernel_rfl) hM 0 rfl (Nat.le_of_ble_eq_true rfl) rfl) 0 rfl rfl ?_
 intro w16 hM
 refine qf ?_
 refine hK14 _ _ ?_
 refine wp_region_lit ?_
 refine qa (v := .int .i64 1) hA rfl rfl rfl (qg rfl rfl (fun w => by kernel_rfl)) ?_
 intro a hA
 refine qa hA rfl rfl rfl (qe rfl) ?_
 intro a hA
 refine qf ?_
 refine hK11 _ _ ?_
 refine zv ?_
 intro K17 hK17
 refine wp_seq_k (fun K18 hK18 => ?_)
 refine wp_region_lit ?_
 refine qa (v := .bool false) hA rfl rfl rfl (qg rfl rfl (fun w => by kernel_rfl)) ?_
 intro a hA
 refine qf ?_
 refine hK18 _ _ ?_
 refine wp_seq_k (fun K19 hK19 => ?_)
 refine wp_cond_false (hA.ev rfl) ?_
 refine wp_exit ?_
 refine hK9 _ _ ?_
 refine wp_seq_k (fun K20 hK20 => ?_)
 refine wp_region_lit ?_
 refine qa hA rfl rfl rfl (qe rfl) ?_
 intro a hA
 refine qa hA rfl rfl rfl (qb rfl) ?_
 intro a hA
 refine qf ?_
 refine hK20 _ _ ?_
 refine wp_ret ?_
 refine hret _ _ ?_
 refine za (v := .slice (some ⟨g5, 0, none⟩) 1 ca6) hA rfl (.cons (qk rfl) .nil) rfl ?_
 replace hM := hM.sub (cC (cN (.refl _)))
 exact ⟨_, _, rfl, hM⟩
theorem through3_any {w : World} {so : Option Addr} {ca : Nat} {x y : ByteArray} (hR : Rc w so [.string x, .string y]) {p : ByteArray} {gm : Nat} {sf sn : Option Addr} {cf cn : Nat} (hN : Rc w sn [.string p]) (hp : p.size + x.size ≤ 140737488355327) : Calls Tryz.prog 64 #[.agg #[.slice so 1 ca, .map (some gm)], .agg (jm 3 (.slice sf 1 cf) (.slice sn 1 cn)).toArray] w fun e w' => ∃ g ca' g2, e = .returned (.tuple #[.agg #[.slice (some ⟨g, 0, none⟩) 1 ca', .map (some g2)], .int .i64 0]) ∧ Mg w w' [.row 81 2 (.slice (some ⟨g, 0, none⟩) 1 ca') 1 [Value.string ((p ++ x)), .string y]] := by
 have hM : Mg w w ([]) := Mg.start w
 refine qz (l := [(0, .agg #[.slice so 1 ca, .map (some gm)]), (1, .agg (jm 3 (.slice sf 1 cf) (.slice sn 1 cn)).toArray)]) Tryz.func64 rfl Tryz.ntmps64 rfl rfl ?_
 intro Q hret hnorm hP a hA
 refine wp_seq_k (fun K1 hK1 => ?_)
 refine wp_region_lit ?_
 refine jk (vs := [.slice so 1 ca, .map (some gm)]) (t := 66) hA hM rfl rfl rfl (fun g => .pointer (some ⟨g, 0, none⟩)) (zg rfl rfl) (by decide) ?_
 intro g2 w3 hM a hA
 refine jk (vs := (jm 3 (.slice sf 1 cf) (.slice sn 1 cn))) (t := 34) hA hM rfl rfl rfl (fun g => .pointer (some ⟨g, 0, none⟩)) (zg rfl rfl) (by decide) ?_
 intro g4 w5 hM a hA
 refine jk (vs := [.slice none 0 0, .map none]) (t := 66) hA hM rfl rfl rfl (fun g => .pointer (some ⟨g, 0, none⟩)) (zx (z := .agg #[.slice none 0 0, .map none]) (by kernel_rfl) rfl) (by decide) ?_
 intro g6 w7 hM a hA
 refine qa hA rfl rfl rfl (qb rfl) ?_
 intro a hA
 refine qf ?_
 refine hK1 _ _ ?_
 refine wp_seq_k (fun K8 hK8 => ?_)
 refine wp_seq_k (fun K9 hK9 => ?_)
 refine wp_region_lit ?_
 refine qa hA rfl rfl rfl (ja hM JcG_isS_34 rfl 1 rfl (cs := (jm 3 (.slice sf 1 cf) (.slice sn 1 cn))) rfl rfl) ?_
 intro a hA
 refine qm hA rfl rfl rfl (qh rfl rfl (fun w => by kernel_rfl)) (outer3_any) ?_
 rintro _ w10 ⟨rfl, hb3⟩
 replace hM := hM.call hb3
 refine ⟨_, rfl, ?_⟩
 intro a hA
 refine qa (v := .bool false) hA rfl rfl rfl (qp rfl qt) ?_
 intro a hA
 refine qf ?_
 refine hK9 _ _ ?_
 refine wp_cond_false (hA.ev rfl) ?_
 refine wp_skip ?_
 refine hK8 _ _ ?_
 refine wp_seq_k (fun K11 hK11 => ?_)
 refine wp_region_lit ?_
 refine qa hA rfl rfl rfl (qb rfl) ?_
 intro a hA
 refine qf ?_
 refine hK11 _ _ ?_
 refine wp_seq_k (fun K12 hK12 => ?_)
 refine wp_region_lit ?_
 refine qa hA rfl rfl rfl (qb rfl) ?_
 intro a hA
 refine qf ?_
 refine hK12 _ _ ?_
 refine wp_seq_k (fun K13 hK13 => ?_)
 refine wp_seq_k (fun K14 hK14 => ?_)
 refine wp_region_lit ?_
 refine qa (v := .pointer (some ⟨g4, 0, none⟩)) hA rfl rfl rfl (qi JcG_fld_34_0 rfl rfl) ?_
 intro a hA
 refine qa hA rfl rfl rfl (zl hM JcG_is1_3 rfl 1 rfl rfl) ?_
 intro a hA
 refine qf ?_
 refine hK14 _ _ ?_
 refine wp_block ?_
 refine wp_seq_k (fun K15 hK15 => ?_)
 refine wp_region_lit ?_
 refine qa (v := .bool false) hA rfl rfl rfl (qg rfl rfl (fun w => by kernel_rfl)) ?_
 intro a hA
 refine qa hA rfl rfl rfl (qb rfl) ?_
 intro a hA
 refine qf ?_
 refine hK15 _ _ ?_
 refine wp_cond_false (hA.ev rfl) ?_
 refine wp_seq_k (fun K16 hK16 => ?_)
 refine wp_region_lit ?_
 refine qa (v := .bool false) hA rfl rfl rfl (qg rfl rfl (fun w => by kernel_rfl)) ?_
 intro a hA
 refine qa hA rfl rfl rfl (qb rfl) ?_
 intro a hA
 refine qf ?_
 refine hK16 _ _ ?_
 refine wp_cond_false (hA.ev rfl) ?_
 refine wp_seq_k (fun K17 hK17 => ?_)
 refine wp_region_lit ?_
 refine qa (v := .bool true) hA rfl rfl rfl (qg rfl rfl (fun w => by kernel_rfl)) ?_
 intro a hA
 refine qa hA rfl rfl rfl (qb rfl) ?_
 intro a hA
 refine qf ?_
 refine hK17 _ _ ?_
 refine wp_cond_true (hA.ev rfl) ?_
 refine vd (S := fun w1 => Mg w w1 (.obj g4 (.cells (jm 3 (.slice sf 1 cf) (.slice sn 1 cn)).toArray 34) :: .obj g2 (.cells #[.slice so 1 ca, .map (some gm)] 66) :: [])) (by kernel_rfl) ?_
 replace hM := hM.drew
 refine zf hA 0 rfl rfl rfl rfl hP (hM.sub (cN (cC (cC (List.nil_sublist _))))) (fun w1 hM => ja hM JcG_isS_66 rfl 1 rfl (cs := [.slice so 1 ca, .map (some gm)]) rfl rfl) ?_
 intro a hA
 refine zf (v := .pointer (some ⟨g4, 14, none⟩)) hA 1 rfl rfl rfl rfl hP (hM.sub (cN (cC (cC (List.nil_sublist _))))) (fun w1 hM => qi JcG_fld_34_4 rfl rfl) ?_
 intro a hA
 refine zf hA 2 rfl rfl rfl rfl hP (hM.sub (cN (cC (cC (List.nil_sublist _))))) (fun w1 hM => zl hM JcG_is1_31 rfl 0 rfl rfl) ?_
 intro a hA
 obtain ⟨bx18, ox19, ux20, hs21, hc22, hi23⟩ := hN.at1 (i := 0) (by (show 0 < 1); omega)
 obtain rfl : .string p = ux20 := by simpa using hi23
 refine zf (v := .pointer (some ⟨bx18, ox19 + 0, none⟩)) hA 3 rfl rfl rfl rfl hP (hM.sub (cN (cC (cC (List.nil_sublist _))))) (fun w1 hM => zi (k := 0) Tryz.underlying31 (by kernel_rfl) rfl rfl (by first | rfl | omega) hs21 (by omega)) ?_
 intro a hA
 refine zf hA 4 rfl rfl rfl rfl hP (hM.sub (cN (cC (cC (List.nil_sublist _))))) (fun w1 hM => js hM hc22 JcG_is1_9 rfl) ?_
 intro a hA
 refine xn (by kernel_rfl) (vb hA 5 rfl rfl rfl rfl (qh rfl rfl (fun w => by kernel_rfl)) (prefixed1_any (hR.below hM.bel) hp) ?_)
 rintro _ w27 ⟨g24, ca25, rfl, hM26⟩
 replace hM : Mg w w27 (.row 81 2 (.slice (some ⟨g24, 0, none⟩) 1 ca25) 1 ([Value.string ((p ++ x)), .string y]) :: .obj g6 (.cells #[.slice none 0 0, .map none] 66) :: .obj g4 (.cells (jm 3 (.slice sf 1 cf) (.slice sn 1 cn)).toArray 34) :: .obj g2 (.cells #[.slice so 1 ca, .map (some gm)] 66) :: []) := (hM.both hM26 (qw (by simp) (qw (by simp) (qw (by simp) (qy zd)))) (qw (by simp) (qy zd)))
 refine ⟨_, rfl, (hM.sub (cN (cN (cC (cC (List.nil_sublist _)))))), ?_⟩
 intro a hA
 refine zf hA 6 rfl rfl rfl rfl hP (hM.sub (cN (cN (cC (cC (List.nil_sublist _)))))) (fun w1 hM => qb rfl) ?_
 intro a hA
 refine xp (by kernel_rfl) ?_
 refine hK13 _ _ ?_
 refine wp_seq_k (fun K28 hK28 => ?_)
 refine wp_seq_k (fun K29 hK29 => ?_)
 refine wp_region_lit ?_
 refine qa hA rfl rfl rfl (qe rfl) ?_
 intro a hA
 refine qa (v := .bool false) hA rfl rfl rfl (qg rfl rfl (fun w => by kernel_rfl)) ?_
 intro a hA
 refine qf ?_
 refine hK29 _ _ ?_
 refine wp_cond_false (hA.ev rfl) ?_
 refine wp_skip ?_
 refine hK28 _ _ ?_
 refine wp_seq_k (fun K30 hK30 => ?_)
 refine wp_region_lit ?_
 refine qa hA rfl rfl rfl (qe rfl) ?_
 intro a hA
 refine qm hA rfl rfl rfl (qh rfl rfl (fun w => by kernel_rfl)) (qcc (kw (hM.has 0 rfl))) ?_
 rintro _ w33 ⟨g31, rfl, hM32⟩
 replace hM : Mg w w33 (.obj g31 (qej ([⟨(p ++ x), .int .i64 0, 0⟩]) 1) :: .row 81 2 (.slice (some ⟨g24, 0, none⟩) 1 ca25) 1 ([Value.string ((p ++ x)), .string y]) :: .obj g6 (.cells #[.slice none 0 0, .map none] 66) :: .obj g4 (.cells (jm 3 (.slice sf 1 cf) (.slice sn 1 cn)).toArray 34) :: .obj g2 (.cells #[.slice so 1 ca, .map (some gm)] 66) :: []) := (hM.both hM32 (qw (by simp) (qw (by simp) (qw (by simp) (qw (by simp) (qy zd))))) (qw (by simp) (qy zd)))
 refine ⟨_, rfl, ?_⟩
 intro a hA
 refine qa (v := .agg #[.slice (some ⟨g24, 0, none⟩) 1 ca25, .map (some g31)]) hA rfl rfl rfl (qn (vs := [.agg #[.slice (some ⟨g24, 0, none⟩) 1 ca25, .map (some g31)], .int .i64 0]) rfl rfl) ?_
 intro a hA
 refine qa (v := .int .i64 0) hA rfl rfl rfl (qn (vs := [.agg #[.slice (some ⟨g24, 0, none⟩) 1 ca25, .map (some g31)], .int .i64 0]) rfl rfl) ?_
 intro a hA
 refine jb (us := [.slice (some ⟨g24, 0, none⟩) 1 ca25, .map (some g31)]) (L' := (.obj g31 (qej ([⟨(p ++ x), .int .i64 0, 0⟩]) 1) :: .row 81 2 (.slice (some ⟨g24, 0, none⟩) 1 ca25) 1 ([Value.string ((p ++ x)), .string y]) :: .obj g6 (.cells #[.slice (some ⟨g24, 0, none⟩) 1 ca25, .map (some g31)] 66) :: .obj g4 (.cells (jm 3 (.slice sf 1 cf) (.slice sn 1 cn)).toArray 34) :: .obj g2 (.cells #[.slice so 1 ca, .map (some gm)] 66) :: [])) hA hM rfl rfl (zu rfl rfl rfl (by kernel_rfl) hM 2 rfl rfl rfl) 2 rfl rfl rfl ?_
 intro w34 hM
 refine qa hA rfl rfl rfl (qb rfl) ?_
 intro a hA
 refine qf ?_
 refine hK30 _ _ ?_
 refine wp_ret ?_
 refine hret _ _ ?_
 refine za (v := .tuple #[.agg #[.slice (some ⟨g24, 0, none⟩) 1 ca25, .map (some g31)], .int .i64 0]) hA rfl (.cons (qah hM JcG_isS_66 rfl 2 rfl (cs := [.slice (some ⟨g24, 0, none⟩) 1 ca25, .map (some g31)]) rfl rfl) (.cons (qk rfl) .nil)) rfl ?_
 replace hM := hM.sub (cN (cC (cN (cN (cN (.refl _))))))
 exact ⟨_, _, _, rfl, hM⟩
theorem qli {w : World} {s : ByteArray} (hs : s.size ≤ 281474976710656) : Calls Tryz.prog 109 #[.string s] w fun e w' => e = .returned (.string s) ∧ Below w.heap.size w w' := by
 have hM : Mg w w ([]) := Mg.start w
 refine qz (l := [(0, .string s)]) Tryz.func109 rfl Tryz.ntmps109 rfl rfl ?_
 intro Q hret hnorm hP a hA
 refine wp_seq_k (fun K1 hK1 => ?_)
 refine wp_region_lit ?_
 refine qa hA rfl rfl rfl (qb rfl) ?_
 intro a hA
 refine qf ?_
 refine hK1 _ _ ?_
 refine wp_seq_k (fun K2 hK2 => ?_)
 refine wp_region_lit ?_
 refine qa hA rfl rfl rfl (qe rfl) ?_
 intro a hA
 refine qm hA rfl rfl rfl (qh rfl rfl (fun w => by kernel_rfl)) (Tryz.stringslite_Clone s _ hs) ?_
 rintro _ w3 ⟨rfl, hb1⟩
 replace hM := hM.call hb1
 refine ⟨_, rfl, ?_⟩
 intro a hA
 refine qa hA rfl rfl rfl (qb rfl) ?_
 intro a hA
 refine qf ?_
 refine hK2 _ _ ?_
 refine wp_ret ?_
 refine hret _ _ ?_
 refine za (v := .string s) hA rfl (.cons (qk rfl) .nil) rfl ?_
 exact ⟨rfl, hM.bel⟩
theorem fresh1_any {w : World} {so : Option Addr} {ca : Nat} {x y : ByteArray} (hR : Rc w so [.string x, .string y]) (hx : x.size ≤ 281474976710656) (hy : y.size ≤ 281474976710656) : Calls Tryz.prog 65 #[.slice so 1 ca] w fun e w' => ∃ g ca', e = .returned (.slice (some ⟨g, 0, none⟩) 1 ca') ∧ Mg w w' [.row 81 2 (.slice (some ⟨g, 0, none⟩) 1 ca') 1 [Value.string x, .string y]] := by
 have hM : Mg w w ([]) := Mg.start w
 refine qz (l := [(0, .slice so 1 ca)]) Tryz.func65 rfl Tryz.ntmps65 rfl rfl ?_
 intro Q hret hnorm hP a hA
 refine wp_seq_k (fun K1 hK1 => ?_)
 refine wp_region_lit ?_
 refine qa hA rfl rfl rfl (qb rfl) ?_
 intro a hA
 refine qf ?_
 refine hK1 _ _ ?_
 refine wp_seq_k (fun K2 hK2 => ?_)
 refine wp_region_lit ?_
 refine qa hA rfl rfl rfl (qe rfl) ?_
 intro a hA
 refine qm hA rfl rfl rfl (qh rfl rfl (fun w => by kernel_rfl)) (fl1_any (hR.below hM.bel)) ?_
 rintro _ w6 ⟨g3, ca4, rfl, hM5⟩
 replace hM : Mg w w6 (.row 81 2 (.slice (some ⟨g3, 0, none⟩) 1 ca4) 1 ([Value.string x, .string y]) :: []) := (hM.both hM5 (qy zd) (qw (by simp) (qy zd)))
 refine ⟨_, rfl, ?_⟩
 intro a hA
 refine qa hA rfl rfl rfl (qb rfl) ?_
 intro a hA
 refine qf ?_
 refine hK2 _ _ ?_
 refine wp_seq_k (fun K7 hK7 => ?_)
 refine wp_seq_k (fun K8 hK8 => ?_)
 refine wp_region_lit ?_
 refine qa hA rfl rfl rfl (qe rfl) ?_
 intro a hA
 refine qa (v := .int .i64 1) hA rfl rfl rfl (zb Tryz.underlying39 rfl) ?_
 intro a hA
 refine qa hA rfl rfl rfl (qe rfl) ?_
 intro a hA
 refine qf ?_
 refine hK8 _ _ ?_
 refine wp_block ?_
 refine wp_loop_rounds 3 ?_
 refine zv ?_
 intro K9 hK9
 refine wp_seq_k (fun K10 hK10 => ?_)
 refine wp_region_lit ?_
 refine qa (v := .bool true) hA rfl rfl rfl (qg rfl rfl (fun w => by kernel_rfl)) ?_
 intro a hA
 refine qf ?_
 refine hK10 _ _ ?_
 refine wp_seq_k (fun K11 hK11 => ?_)
 refine wp_cond_true (hA.ev rfl) ?_
 refine wp_skip ?_
 refine hK11 _ _ ?_
 refine wp_seq_k (fun K12 hK12 => ?_)
 refine wp_block ?_
 refine wp_seq_k (fun K13 hK13 => ?_)
 refine wp_region_lit ?_
 refine qa hA rfl rfl rfl (qe rfl) ?_
 intro a hA
 refine qa (v := .pointer (some ⟨g3, 0, none⟩)) hA rfl rfl rfl (vi (sz := 2) (k := 0) Tryz.underlying39 (by kernel_rfl) rfl rfl rfl Nat.zero_lt_one) ?_
 intro a hA
 refine qa hA rfl rfl rfl (m_loadES hM 0 rfl JcG_isS_81 (cs := [.string x, .string y]) rfl rfl rfl) ?_
 intro a hA
 refine jk (vs := [.string (⟨#[]⟩), .string (⟨#[]⟩)]) (t := 81) hA hM rfl rfl rfl (fun g => .pointer (some ⟨g, 0, none⟩)) (zx (z := .agg #[.string (⟨#[]⟩), .string (⟨#[]⟩)]) (by kernel_rfl) rfl) (by decide) ?_
 intro g14 w15 hM a hA
 refine qa hA rfl rfl rfl (qb rfl) ?_
 intro a hA
 refine jb (us := [.string x, .string y]) (L' := (.obj g14 (.cells #[.string x, .string y] 81) :: .row 81 2 (.slice (some ⟨g3, 0, none⟩) 1 ca4) 1 ([Value.string x, .string y]) :: [])) hA hM rfl rfl (zu rfl rfl rfl (by kernel_rfl) hM 0 rfl rfl rfl) 0 rfl rfl rfl ?_
 intro w16 hM
 refine qf ?_
 refine hK13 _ _ ?_
 refine vd (S := fun w1 => Mg w w1 (.obj g14 (.cells #[.string x, .string y] 81) :: [])) (by kernel_rfl) ?_
 replace hM := hM.drew
 refine zf hA 0 rfl rfl rfl rfl hP (hM.sub (cC (cN (List.nil_sublist _)))) (fun w1 hM => qe rfl) ?_
 intro a hA
 refine zf hA 1 rfl rfl rfl rfl hP (hM.sub (cC (cN (List.nil_sublist _)))) (fun w1 hM => qe rfl) ?_
 intro a hA
 refine zf (v := .pointer (some ⟨g14, 0, none⟩)) hA 2 rfl rfl rfl rfl hP (hM.sub (cC (cN (List.nil_sublist _)))) (fun w1 hM => qi JcG_fld_81_0 rfl rfl) ?_
 intro a hA
 refine zf hA 3 rfl rfl rfl rfl hP (hM.sub (cC (cN (List.nil_sublist _)))) (fun w1 hM => zl hM JcG_is1_9 rfl 0 rfl rfl) ?_
 intro a hA
 refine zf (v := .pointer (some ⟨g14, 1, none⟩)) hA 5 rfl rfl rfl rfl hP (hM.sub (cC (cN (List.nil_sublist _)))) (fun w1 hM => qi JcG_fld_81_1 rfl rfl) ?_
 intro a hA
 refine zf hA 6 rfl rfl rfl rfl hP (hM.sub (cC (cN (List.nil_sublist _)))) (fun w1 hM => zl hM JcG_is1_9 rfl 0 rfl rfl) ?_
 intro a hA
 refine xn (by kernel_rfl) (vb hA 4 rfl rfl rfl rfl (qh rfl rfl (fun w => by kernel_rfl)) (qli (by first | exact hx | exact hy)) ?_)
 rintro _ w18 ⟨rfl, hb17⟩
 replace hM := hM.call hb17
 refine ⟨_, rfl, (hM.sub (cC (cN (List.nil_sublist _)))), ?_⟩
 intro a hA
 refine xn (by kernel_rfl) (vb hA 7 rfl rfl rfl rfl (qh rfl rfl (fun w => by kernel_rfl)) (qli (by first | exact hx | exact hy)) ?_)
 rintro _ w20 ⟨rfl, hb19⟩
 replace hM := hM.call hb19
 refine ⟨_, rfl, (hM.sub (cC (cN (List.nil_sublist _)))), ?_⟩
 intro a hA
 refine zf (v := .agg #[.string x, .string y]) hA 8 rfl rfl rfl rfl hP (hM.sub (cC (cN (List.nil_sublist _)))) (fun w1 hM => xr rfl (fun w => by kernel_rfl)) ?_
 intro a hA
 refine zf (v := .pointer (some ⟨g3, 0, none⟩)) hA 9 rfl rfl rfl rfl hP (hM.sub (cC (cN (List.nil_sublist _)))) (fun w1 hM => vi (sz := 2) (k := 0) Tryz.underlying39 (by kernel_rfl) rfl rfl rfl Nat.zero_lt_one) ?_
 intro a hA
 refine xn (by kernel_rfl) (g_storeE (us := []) (L' := (.obj g14 (.cells #[.string x, .string y] 81) :: .row 81 2 (.slice (some ⟨g3, 0, none⟩) 1 ca4) 1 ([Value.string x, .string y]) :: [])) hA hM 10 rfl rfl rfl (m_storeE (cs := [.string x, .string y]) rfl rfl rfl (by kernel_rfl) hM 1 rfl (Nat.le_of_ble_eq_true rfl) rfl) 1 rfl rfl ?_)
 intro w21 hM
 refine ⟨(hM.sub (cC (cN (List.nil_sublist _)))), ?_⟩
 refine xp (by kernel_rfl) ?_
 refine hK12 _ _ ?_
 refine wp_region_lit ?_
 refine qa (v := .int .i64 1) hA rfl rfl rfl (qg rfl rfl (fun w => by kernel_rfl)) ?_
 intro a hA
 refine qa hA rfl rfl rfl (qe rfl) ?_
 intro a hA
 refine qf ?_
 refine hK9 _ _ ?_
 refine zv ?_
 intro K22 hK22
 refine wp_seq_k (fun K23 hK23 => ?_)
 refine wp_region_lit ?_
 refine qa (v := .bool false) hA rfl rfl rfl (qg rfl rfl (fun w => by kernel_rfl)) ?_
 intro a hA
 refine qf ?_
 refine hK23 _ _ ?_
 refine wp_seq_k (fun K24 hK24 => ?_)
 refine wp_cond_false (hA.ev rfl) ?_
 refine wp_exit ?_
 refine hK7 _ _ ?_
 refine wp_seq_k (fun K25 hK25 => ?_)
 refine wp_region_lit ?_
 refine qa hA rfl rfl rfl (qe rfl) ?_
 intro a hA
 refine qa hA rfl rfl rfl (qb rfl) ?_
 intro a hA
 refine qf ?_
 refine hK25 _ _ ?_
 refine wp_ret ?_
 refine hret _ _ ?_
 refine za (v := .slice (some ⟨g3, 0, none⟩) 1 ca4) hA rfl (.cons (qk rfl) .nil) rfl ?_
 replace hM := hM.sub (cN (cC (.refl _)))
 exact ⟨_, _, rfl, hM⟩
end Go.Proofs.YtoopkbedjbnhhaaGreatDoor.G
namespace Go.Proofs.YtoopkbedjbnhhaaGreatDoor.G
open Go.RowKit
section
variable {F : Fence} {m : Nat} {P : Program} {w0 w w' : World} {L : List Ck} {l : List (Nat × Value)} {ops : List Oper} {Q : Exit → Act → World → Prop} {a : Act} {n : Nat} {o : Oper} {rest : List Oper} {d : Nat} {v : Value}
def Sd (a : Act) (n : Nat) (l : List (Nat × Value)) : Prop := Sl { a with defers := [] } n l
theorem qfi (hnd : ∀ c, o.op ≠ .defer c) (r : Option Nat) (ρ : Operand → Value) : o.semAt r ρ = execOp ρ o := by
  cases r with
  | none => rfl
  | some k => exact Oper.semAt_some k _ _ hnd
theorem vh (hF : ∀ f, F.fn f) (hA : Sd a n l) (hg : jt l ops o = true) (hdst : o.dst = some d) (hd : Nat.blt d n = true) (hnd : ∀ c, o.op ≠ .defer c) (he : Does P l o w v w')
    (hk : ∀ a', Sd a' n ((d, v) :: l) → a'.defers = a.defers → wpListIn F m P ops.toArray Q rest a' w') : wpListIn F m P ops.toArray Q (o :: rest) a w := by
  unfold wpListIn
  rw [if_pos (show Region.wanted o (yielded ops.toArray a.tmps) = true from hA.wanted hg)]
  refine ⟨fun f _ => hF f, ?_⟩
  rw [qfi hnd, he a.eval (fun x u hx => hA.ev hx), Oper.uponIn_value, hdst]
  exact hk _ (hA.put hd v) rfl
theorem i_set (hF : ∀ f, F.fn f) (hA : Sd a n l) (hg : jt l ops o = true) (hdst : o.dst = none) (hnd : ∀ c, o.op ≠ .defer c) (he : Sets P l o w w')
    (hk : wpListIn F m P ops.toArray Q rest a w') : wpListIn F m P ops.toArray Q (o :: rest) a w := by
  unfold wpListIn
  rw [if_pos (show Region.wanted o (yielded ops.toArray a.tmps) = true from hA.wanted hg)]
  refine ⟨fun f _ => hF f, ?_⟩
  rw [qfi hnd, he a.eval (fun x u hx => hA.ev hx), Oper.uponIn_skip, hdst]
  exact hk
theorem i_loop {c : Code} (I : Nat → Act → World → Prop) (N : Nat) (h0 : I N a w) (round : ∀ k a w, I k a w → c.wpIn F m P (Exit.then (fun a' w' => ∃ j, k = j + 1 ∧ I j a' w') Q) a w) : (Code.loop c).wpIn F m P Q a w := by
  have key : ∀ k a w, I k a w → Code.roundsIn F m P c Q (k + 1) a w := by
    intro k
    induction k with
    | zero =>
      intro a w h
      refine wpIn_mono (round 0 a w h) (fun e a' w' hq => ?_)
      cases e with
      | normal => obtain ⟨j, hj, _⟩ := hq; omega
      | _ => exact hq
    | succ k ih =>
      intro a w h
      refine wpIn_mono (round (k + 1) a w h) (fun e a' w' hq => ?_)
      cases e with
      | normal =>
        obtain ⟨j, hj, hI⟩ := hq
        obtain rfl : k = j := by omega
        exact ih a' w' hI
      | _ => exact hq
  exact wpIn_loop_rounds (N + 1) (key N a w h0)
theorem i_yield (hF : ∀ f, F.fn f) (hd0 : F.depth = none) (hA : Sd a n l) (hg : jt l ops o = true) (hdst : o.dst = some d) (hd : Nat.blt d n = true) (hnd : ∀ c, o.op ≠ .defer c) {k : Nat} {vs : List Value} (he : ∀ ρ : Operand → Value, (∀ x u, ev l x = some u → ρ x = u) → (execOp ρ o).run P w = (Instr.yield k vs.toArray).run P w) {R : Bool → World → Prop} (hy : YieldAt F (m - 1) P k vs.toArray w fun e w' => ∃ b, e = .returned (.bool b) ∧ R b w')
    (hk : ∀ b w', R b w' → ∀ a', Sd a' n ((d, .bool b) :: l) → a'.defers = a.defers → wpListIn F m P ops.toArray Q rest a' w') : wpListIn F m P ops.toArray Q (o :: rest) a w := by
  obtain ⟨fn, tmps, assign, body, h1, h2⟩ := hy
  unfold wpListIn
  rw [if_pos (show Region.wanted o (yielded ops.toArray a.tmps) = true from hA.wanted hg)]
  refine ⟨fun f _ => hF f, ?_⟩
  rw [qfi hnd, he a.eval (fun x u hx => hA.ev hx), h1, Oper.uponIn_round]
  refine ⟨(fun h => by rw [hd0] at h; cases h), h2.mono ?_⟩
  rintro _ w' ⟨b, rfl, h⟩
  rw [hdst]
  exact hk b w' h _ (hA.put hd (.bool b)) rfl
theorem calls_yield {x : Operand} {k : Nat} {args : List Operand} {ts : Array TypeId} {vs : List Value} {dst : Option Tmp} {ty : TypeId} {pos : String} {after : Array Edge} {guard : Option (Nat × Bool)} (hx : ev l x = some (.func (.yield k) #[] #[])) (ha : evs l args = some vs) :
    ∀ ρ : Operand → Value, (∀ x u, ev l x = some u → ρ x = u) → (execOp ρ ⟨dst, .call ⟨.value x, args.toArray, ts⟩, ty, pos, after, guard⟩).run P w = (Instr.yield k vs.toArray).run P w := fun ρ h => by
  have e := evs_map h args vs ha
  simp [execOp, resolve, invoke, h x _ hx, Deferred.ofValue, e]
theorem Sd.sl (h : Sd a n l) (hd : a.defers = []) : Sl a n l := ⟨h.size, h.holds, hd⟩
theorem Sd.ev (h : Sd a n l) {x : Operand} {v : Value} (hx : Go.Proofs.YtoopkbedjbnhhaaGreatDoor.G.ev l x = some v) : a.eval x = v := Sl.ev h hx
theorem Sd.keep (h : Sd a n l) (l' : List (Nat × Value)) (hs : AllIn l l') : Sd a n l' := Sl.keep h l' hs
theorem i_walk {f : FuncId} {fn : Func} {c : Code} {args : List Value} {Z : Ending → World → Prop} (hf : P.funcs[f]? = some fn) (hb : fn.body = some c) (hF : F.fn f) (hn : fn.ntmps = n) (hl : Nat.ble args.length n = true) (hs : (args.zipIdx.map fun p => (p.2, p.1)) = l) (hro : F.round = none)
    (h : ∀ Q : Exit → Act → World → Prop, (∀ a w, bodyPost P fn Z .ret a w → Q .ret a w) → (∀ a w, bodyPost P fn Z .ret a w → Q .normal a w) → ∀ a, Sd a n l → a.defers = [] → c.wpIn F m P Q a w) : CallsIn F m P f args.toArray w Z := by
  subst hs
  refine callsIn_of_wp hf hb hF (h _ (fun _ _ h => h) (fun _ _ h => h) _ ?_ rfl) hro
  rw [hn]
  exact Sl.enter (Nat.le_of_ble_eq_true hl)
theorem i_walkM {f : FuncId} {fn : Func} {c : Code} {args : List Value} {Z : Ending → World → Prop} (hf : P.funcs[f]? = some fn) (hb : fn.body = some c) (hF : F.fn f) (hn : fn.ntmps = n) (hl : Nat.ble args.length n = true) (hs : (args.zipIdx.map fun p => (p.2, p.1)) = l) (hro : F.round = none)
    (h : ∀ Q : Exit → Act → World → Prop, (∀ a w, bodyPostM F m P fn Z .ret a w → Q .ret a w) → ∀ a, Sd a n l → a.defers = [] → c.wpIn F m P Q a w) : CallsIn F m P f args.toArray w Z := by
  subst hs
  refine callsIn_of_wp_marks hf hb hF (h _ (fun _ _ h => h) _ ?_ rfl) hro
  rw [hn]
  exact Sl.enter (Nat.le_of_ble_eq_true hl)
theorem yy {x y : Code} (h : ∀ K : Act → World → Prop, (∀ a w, y.wpIn F m P Q a w → K a w) → x.wpIn F m P (Exit.then K Q) a w) : (Code.seq x y).wpIn F m P Q a w := wpIn_seq (h _ (fun _ _ h => h))
theorem i_new (hF : ∀ f, F.fn f) (hA : Sd a n l) (hM : Mg w0 w L) (hg : jt l ops o = true) (hdst : o.dst = some d) (hd : Nat.blt d n = true) (hnd : ∀ c, o.op ≠ .defer c) {vs : List Value} {t : TypeId} (val : Nat → Value) (he : Does P l o w (val w.heap.size) (w.alloc (.cells vs.toArray t))) (ht : t ≠ BY)
    (hk : ∀ g w', Mg w0 w' (.obj g (.cells vs.toArray t) :: L) → w.heap.size ≤ g → g < w'.heap.size → Below w.heap.size w w' → KeepsOthers w w' → ∀ a', Sd a' n ((d, val g) :: l) → a'.defers = a.defers → wpListIn F m P ops.toArray Q rest a' w') : wpListIn F m P ops.toArray Q (o :: rest) a w :=
  vh hF hA hg hdst hd hnd he (hk _ _ (hM.addObj _ (ux ht)) (Nat.le_refl _) (by simp) ((Below.refl _ w).alloc (Nat.le_refl _) _) (KeepsOthers.alloc _ _))
end
theorem kk (g : Nat) : ∀ (cs : List Value) (w : World) (o : Nat), KeepsOthers w (w.setCells g o cs)
  | [], w, o => KeepsOthers.refl w
  | c :: cs, w, o => (KeepsOthers.setCell w ⟨g, o, none⟩ c).trans (kk g cs _ _)
theorem kept_calm {w w' : World} {row : Option Nat} (hg : w.grownBy w' row) (hr : ∀ r, row = some r → ∃ o : Obj, w.heap[r]? = some o ∧ o.isCells = false) : Kept (fun _ => True) w w' := ⟨hg.size, fun b i v _ hc => by
  by_cases e : row = some b
  · obtain ⟨o, ho, hn⟩ := hr b e
    unfold World.cell? at hc
    simp only [ho] at hc
    cases o <;> simp_all [Obj.isCells]
  · exact hg.cell hc (fun k => e k.symm)⟩
theorem Here.kept {w w' : World} {b o : Nat} {cs : List Value} (h : Here w b o cs) (hk : Kept (fun _ => True) w w') : Here w' b o cs := ⟨Nat.lt_of_lt_of_le h.1 hk.1, fun j v hj => hk.2 _ _ _ trivial (h.2 j v hj)⟩
end Go.Proofs.YtoopkbedjbnhhaaGreatDoor.G
namespace Go.Proofs.YtoopkbedjbnhhaaGreatDoor.G
open Go.RowKit
theorem qlj : Is1 Tryz.prog 32 := ⟨⟨_, Tryz.underlying32, rfl⟩, by kernel_rfl⟩
theorem qfj : IsS Tryz.prog 34 15 := ⟨⟨_, Tryz.underlying34⟩, by kernel_rfl⟩
theorem f_isS_bset : IsS Tryz.prog 66 2 := ⟨⟨_, Tryz.underlying66⟩, by kernel_rfl⟩
theorem yu : Is1 Tryz.prog 35 := ⟨⟨_, Tryz.underlying35, rfl⟩, by kernel_rfl⟩
theorem qma : Is1 Tryz.prog 39 := ⟨⟨_, Tryz.underlying39, rfl⟩, by kernel_rfl⟩
theorem back_impA {w : World} {so : Option Addr} {k ca : Nat} : Calls Tryz.prog 63 #[.slice so k ca] w fun e w' => e = .returned (.func (.func 103) #[] #[.pointer (some ⟨w.heap.size, 0, none⟩)]) ∧ w' = w.alloc (.cells #[.slice so k ca] 32) := by
  refine qz (l := [(0, .slice so k ca)]) Tryz.func63 rfl Tryz.ntmps63 rfl rfl ?_
  intro Q hret hnorm hP a hA
  refine wp_seq_k (fun K1 hK1 => ?_)
  refine wp_region_lit ?_
  refine qa (v := .pointer (some ⟨w.heap.size, 0, none⟩)) (w' := w.alloc (.cells #[.slice so k ca] 32)) hA rfl rfl rfl (zg (vs := [.slice so k ca]) rfl rfl) fun a hA => ?_
  refine qa hA rfl rfl rfl (qb rfl) fun a hA => ?_
  refine qf (hK1 _ _ (wp_seq_k (fun K2 hK2 => wp_region_lit ?_)))
  refine qa hA rfl rfl rfl (ji rfl) fun a hA => ?_
  refine qa hA rfl rfl rfl (qb rfl) fun a hA => ?_
  refine qf (hK2 _ _ (wp_ret (hret _ _ ?_)))
  exact za (rs := [.tmp 2]) hA rfl (.cons (qk rfl) .nil) rfl ⟨rfl, rfl⟩
def KpI (Bs go : Nat) (W W' : World) : Prop := W.heap.size ≤ W'.heap.size ∧ ∀ b, b = Bs ∨ b = go → ∀ i v, W.cell? ⟨b, i, none⟩ = some v → W'.cell? ⟨b, i, none⟩ = some v
theorem KpI.refl (Bs go : Nat) (W : World) : KpI Bs go W W := ⟨Nat.le_refl _, fun _ _ _ _ h => h⟩
theorem KpI.trans {Bs go : Nat} {A B C : World} (h : KpI Bs go A B) (k : KpI Bs go B C) : KpI Bs go A C := ⟨Nat.le_trans h.1 k.1, fun b hb i v hv => k.2 b hb i v (h.2 b hb i v hv)⟩
set_option maxRecDepth 100000 in
theorem back_impS {w0 : World} {Bs go : Nat} {ca : Nat} {cs : List Value} (hcs : cs.length = 15) (hBs : w0.cell? ⟨Bs, 0, none⟩ = some (.slice (some ⟨go, 0, none⟩) 1 ca)) (hR : ∀ p u, cs[p]? = some u → w0.cell? ⟨go, p, none⟩ = some u) (n : Nat) :
    SeqStopsK Fence.wide n Tryz.prog 103 #[.pointer (some ⟨Bs, 0, none⟩)] (fun _ : Unit => #[.int .i64 0, .agg cs.toArray]) (KpI Bs go) (fun ys => ys = [()]) (fun _ => True) 1 w0 := by
  intro l J Jx W hW hJ hJx hY h0
  have hF : ∀ f, Fence.wide.fn f := fun _ => trivial
  rw [List.append_toArray]
  refine i_walk (l := [(0, .func (.yield l) #[] #[]), (1, .pointer (some ⟨Bs, 0, none⟩))]) Tryz.func103 rfl trivial rfl rfl rfl rfl ?_
  intro Q hret hnorm a hA hdf
  have hc : W.cell? ⟨Bs, 0, none⟩ = some (.slice (some ⟨go, 0, none⟩) 1 ca) := (hW.cell (p := ⟨Bs, 0, none⟩) (vx hBs)).trans hBs
  have hr : ∀ p u, cs[p]? = some u → W.cell? ⟨go, p, none⟩ = some u := fun p u hp => (hW.cell (p := ⟨go, p, none⟩) (vx (hR p u hp))).trans (hR p u hp)
  refine yy fun K1 hK1 => wpIn_region_lit ?_
  refine vh (v := .slice (some ⟨go, 0, none⟩) 1 ca) hF hA rfl rfl rfl (by intro c h; cases h) (jn rfl (xa qlj hc)) fun a hA h2 => ?_
  refine vh (v := .int .i64 1) hF hA rfl rfl rfl (by intro c h; cases h) (zb Tryz.underlying32 rfl) fun a hA h3 => ?_
  refine vh (v := .int .i64 0) hF hA rfl rfl rfl (by intro c h; cases h) (qg rfl rfl (fun w => by kernel_rfl)) fun a hA h4 => ?_
  refine vh (v := .int .i64 0) hF hA rfl rfl rfl (by intro c h; cases h) (qb rfl) fun a hA h5 => ?_
  refine wpListIn_nil (hK1 _ _ (wpIn_block ?_))
  refine i_loop (fun k a W' => k ≤ 1 ∧ Sd a 19 [(0, .func (.yield l) #[] #[]), (1, .pointer (some ⟨Bs, 0, none⟩)), (3, .int .i64 ((k : Int) - 1))] ∧ a.defers = [] ∧ KpI Bs go W W' ∧ J (List.replicate (1 - k) ()) W') 1 ⟨Nat.le_refl _, hA.keep _ ⟨rfl, rfl, rfl, trivial⟩, by rw [h5, h4, h3, h2, hdf], KpI.refl _ _ _, by simpa using h0⟩ ?_
  rintro k a W' ⟨hk, hA, hd, hKp, hJp⟩
  have hc' := hKp.2 _ (.inl rfl) _ _ hc
  refine yy fun K2 hK2 => yy fun K3 hK3 => wpIn_region_lit ?_
  refine vh (v := .int .i64 ((k : Int) - 1)) hF hA rfl rfl rfl (by intro c h; cases h) (qe rfl) fun a hA h2 => ?_
  refine vh (v := .bool (decide ((0 : Int) ≤ (k : Int) - 1))) hF hA rfl rfl rfl (by intro c h; cases h) (qg rfl rfl ju) fun a hA h3 => ?_
  refine wpListIn_nil (hK3 _ _ ?_)
  refine wpIn_cond_split (t := decide ((0 : Int) ≤ (k : Int) - 1)) (hA.ev rfl) (fun hq => ?_) (fun hq => ?_)
  · have hq' := of_decide_eq_true hq
    obtain rfl : k = 1 := by omega
    refine wpIn_skip (hK2 _ _ (yy fun K4 hK4 => wpIn_block (yy fun K5 hK5 => wpIn_region_lit ?_)))
    refine vh (v := .func (.yield l) #[] #[]) hF hA rfl rfl rfl (by intro c h; cases h) (qe rfl) fun a hA h4 => ?_
    refine vh (v := .int .i64 0) hF hA rfl rfl rfl (by intro c h; cases h) (qe rfl) fun a hA h5 => ?_
    refine vh (v := .slice (some ⟨go, 0, none⟩) 1 ca) hF hA rfl rfl rfl (by intro c h; cases h) (jn rfl (xa qlj hc')) fun a hA h6 => ?_
    refine vh (v := .int .i64 0) hF hA rfl rfl rfl (by intro c h; cases h) (qe rfl) fun a hA h7 => ?_
    refine vh (v := .pointer (some ⟨go, 0, none⟩)) hF hA rfl rfl rfl (by intro c h; cases h) (vi (sz := 15) (k := 0) Tryz.underlying32 (by kernel_rfl) rfl rfl rfl Nat.zero_lt_one) fun a hA h8 => ?_
    refine vh (v := .agg cs.toArray) hF hA rfl rfl rfl (by intro c h; cases h) (jn rfl (kl qfj _ hcs (fun j v hj => by have := hKp.2 _ (.inr rfl) _ _ (hr j v hj); simpa using this))) fun a hA h9 => ?_
    refine i_yield (k := l) (vs := [.int .i64 0, .agg cs.toArray]) (R := fun b W2 => (b = true ∧ J [()] W2 ∧ KpI Bs go W' W2) ∨ (b = false ∧ Jx [()] W2)) hF rfl hA rfl rfl rfl (by intro c h; cases h) (calls_yield rfl rfl) ?_ ?_
    · have := hY [] () W' hJp (by decide)
      obtain ⟨fn, tmps, assign, body, e1, e2⟩ := this
      refine ⟨fn, tmps, assign, body, e1, e2.mono ?_⟩
      rintro e W2 (⟨rfl, h1, h2⟩ | ⟨rfl, h1⟩)
      · exact ⟨true, rfl, .inl ⟨rfl, h1, h2⟩⟩
      · exact ⟨false, rfl, .inr ⟨rfl, h1⟩⟩
    · rintro b W2 hR2 a hA h10
      refine vh (v := .bool (!b)) hF hA rfl rfl rfl (by intro c h; cases h) (qp rfl qt) fun a hA h11 => ?_
      refine wpListIn_nil (hK5 _ _ ?_)
      have hdd : a.defers = [] := by rw [h11, h10, h9, h8, h7, h6, h5, h4, h3, h2, hd]
      rcases hR2 with ⟨rfl, hJ2, hK2'⟩ | ⟨rfl, hJx2⟩
      · refine wpIn_cond_false (hA.ev rfl) (wpIn_skip (hK4 _ _ (wpIn_region_lit ?_)))
        refine vh (v := .int .i64 0) hF hA rfl rfl rfl (by intro c h; cases h) (qe rfl) fun a hA g1 => ?_
        refine vh (v := .int .i64 (-1)) hF hA rfl rfl rfl (by intro c h; cases h) (qg rfl rfl (fun w => by kernel_rfl)) fun a hA g2 => ?_
        refine vh (v := .int .i64 (-1)) hF hA rfl rfl rfl (by intro c h; cases h) (qb rfl) fun a hA g3 => ?_
        refine wpListIn_nil ?_
        exact ⟨0, rfl, Nat.zero_le _, hA.keep _ ⟨rfl, rfl, rfl, trivial⟩, by rw [g3, g2, g1, hdd], hKp.trans hK2', hJ2⟩
      · refine wpIn_cond_true (hA.ev rfl) (wpIn_ret ?_)
        refine hret _ _ ?_
        exact za (rs := []) (vs := []) (v := .tuple #[]) (hA.sl hdd) rfl .nil rfl ⟨⟨_, rfl⟩, .inr ⟨_, trivial, hJx2⟩⟩
  · have hq' := of_decide_eq_false hq
    refine wpIn_exit ?_
    obtain rfl : k = 0 := by omega
    refine hnorm _ _ ?_
    exact za (rs := []) (vs := []) (v := .tuple #[]) (hA.sl (by rw [h3, h2, hd])) rfl .nil rfl ⟨⟨_, rfl⟩, .inl ⟨_, rfl, hJp⟩⟩
end Go.Proofs.YtoopkbedjbnhhaaGreatDoor.G
namespace Go.Proofs.YtoopkbedjbnhhaaGreatDoor.G
open Go.RowKit
section
variable {F : Fence} {m : Nat} {P : Program} {w0 w w' : World} {L : List Ck} {l : List (Nat × Value)} {ops : List Oper} {Q : Exit → Act → World → Prop} {a : Act} {n : Nat} {o : Oper} {rest : List Oper} {d : Nat} {v : Value}
theorem qib (hF : ∀ f, F.fn f) (hd0 : F.depth = none) (hA : Sd a n l) (hg : jt l ops o = true) (hdst : o.dst = some d) (hd : Nat.blt d n = true) (hnd : ∀ c, o.op ≠ .defer c) {f : FuncId} {vs : List Value} (he : Enters P l o w f vs) {R : Value → World → Prop} (hc : CallsIn F (m - 1) P f vs.toArray w fun e w' => ∃ v, e = .returned v ∧ R v w')
    (hk : ∀ v w', R v w' → ∀ a', Sd a' n ((d, v) :: l) → a'.defers = a.defers → wpListIn F m P ops.toArray Q rest a' w') : wpListIn F m P ops.toArray Q (o :: rest) a w := by
  unfold wpListIn
  rw [if_pos (show Region.wanted o (yielded ops.toArray a.tmps) = true from hA.wanted hg)]
  refine ⟨fun f _ => hF f, ?_⟩
  rw [qfi hnd, he a.eval (fun x u hx => hA.ev hx), Oper.uponIn_enter]
  refine ⟨(fun h => by rw [hd0] at h; cases h), hc.mono ?_⟩
  rintro _ w' ⟨v, rfl, h⟩
  rw [hdst]
  exact hk v w' h _ (hA.put hd v) rfl
theorem uu {i : Nat} {K : Act → World → Prop} (hF : ∀ f, F.fn f) (hro : F.round = none) (hA : Sd a n l) (hi : ops[i]? = some o) (hg : jt l ops o = true) (hdst : o.dst = some d) (hd : Nat.blt d n = true) (hnd : ∀ c, o.op ≠ .defer c) (he : Does P l o w v w')
    (hk : ∀ a', Sd a' n ((d, v) :: l) → a'.defers = a.defers → K a' w') : wpOpIn F m P ops.toArray Q i K a w := by
  unfold wpOpIn
  simp only [List.getElem?_toArray, hi]
  rw [if_pos (show Region.wanted o (yielded ops.toArray a.tmps) = true from hA.wanted hg)]
  unfold Oper.wpIn
  refine ⟨fun f _ => hF f, ?_⟩
  rw [qfi hnd, he a.eval (fun x u hx => hA.ev hx), Oper.uponIn_value, hdst]
  exact hk _ (hA.put hd v) rfl
theorem io_callX {i : Nat} {K : Act → World → Prop} (hF : ∀ f, F.fn f) (hro : F.round = none) (hd0 : F.depth = none) (hA : Sd a n l) (hi : ops[i]? = some o) (hg : jt l ops o = true) (hdst : o.dst = some d) (hd : Nat.blt d n = true) (hnd : ∀ c, o.op ≠ .defer c) {f : FuncId} {vs : List Value} (he : Enters P l o w f vs) {R : Value → World → Prop} (hc : CallsIn F (m - 1) P f vs.toArray w fun e w' => ∃ v, e = .returned v ∧ R v w')
    (hk : ∀ v w', R v w' → ∀ a', Sd a' n ((d, v) :: l) → a'.defers = a.defers → K a' w') : wpOpIn F m P ops.toArray Q i K a w := by
  unfold wpOpIn
  simp only [List.getElem?_toArray, hi]
  rw [if_pos (show Region.wanted o (yielded ops.toArray a.tmps) = true from hA.wanted hg)]
  unfold Oper.wpIn
  refine ⟨fun f _ => hF f, ?_⟩
  rw [qfi hnd, he a.eval (fun x u hx => hA.ev hx), Oper.uponIn_enter]
  refine ⟨(fun h => by rw [hd0] at h; cases h), hc.mono ?_⟩
  rintro _ w' ⟨v, rfl, h⟩
  rw [hdst]
  exact hk v w' h _ (hA.put hd v) rfl
end
noncomputable def kh : List Oper := match Tryz.f30.body with | some (.seq _ (.seq _ (.seq _ (.seq _ (.seq _ (.seq (.region _ o _) _)))))) => o.toList | _ => []
set_option maxRecDepth 100000 in
theorem tail_any {Q : Exit → Act → World → Prop} {Wd : World} {gF gE gq cq : Nat} {ds : List Deferred} {RR : Nat → Nat → World → Prop} (hcF : Wd.cell? ⟨gF, 0, none⟩ = some (.slice (some ⟨gq, 0, none⟩) 1 cq)) (hcE : Wd.cell? ⟨gE, 0, none⟩ = some (.int .i64 0)) (hRE : ∀ gr cr W5, RR gr cr W5 → W5.cell? ⟨gE, 0, none⟩ = some (.int .i64 0))
    (hcall : CallsIn Fence.wide 4 Tryz.prog 65 [Value.slice (some ⟨gq, 0, none⟩) 1 cq].toArray Wd fun e w' => ∃ v, e = .returned v ∧ ∃ gr cr, v = .slice (some ⟨gr, 0, none⟩) 1 cr ∧ RR gr cr w')
    (hQ : ∀ gr cr W5, RR gr cr W5 → ∀ a, Sd a 42 [(4, .slice (some ⟨gr, 0, none⟩) 1 cr), (5, .int .i64 0)] → a.defers = ds → Q .normal a W5) : ∀ a, Sd a 42 [(9, .pointer (some ⟨gF, 0, none⟩)), (10, .pointer (some ⟨gE, 0, none⟩))] → a.defers = ds → wpAnyIn Fence.wide 5 Tryz.prog .any kh.toArray Q 6 #[false, false, false, false, false, false] a Wd := by
  have hF : ∀ f, Fence.wide.fn f := fun _ => trivial
  have s42 : ∀ (gr cr : Nat) (W5 : World), RR gr cr W5 → ∀ a, Sd a 42 [(9, .pointer (some ⟨gF, 0, none⟩)), (10, .pointer (some ⟨gE, 0, none⟩)), (38, .pointer (some ⟨gF, 0, none⟩)), (39, .slice (some ⟨gq, 0, none⟩) 1 cq), (40, .slice (some ⟨gr, 0, none⟩) 1 cr), (4, .slice (some ⟨gr, 0, none⟩) 1 cr), (41, .int .i64 0), (5, .int .i64 0)] → a.defers = ds → wpAnyIn Fence.wide 5 Tryz.prog .any kh.toArray Q 0 #[true, true, true, true, true, true] a W5 := by
    intro gr cr W5 hRR a hA hd
    exact wpAnyIn_done (by kernel_rfl) (hQ gr cr W5 hRR a (hA.keep _ ⟨rfl, rfl, trivial⟩) hd) _
  have s41 : ∀ (gr cr : Nat) (W5 : World), RR gr cr W5 → ∀ a, Sd a 42 [(9, .pointer (some ⟨gF, 0, none⟩)), (10, .pointer (some ⟨gE, 0, none⟩)), (38, .pointer (some ⟨gF, 0, none⟩)), (39, .slice (some ⟨gq, 0, none⟩) 1 cq), (40, .slice (some ⟨gr, 0, none⟩) 1 cr), (4, .slice (some ⟨gr, 0, none⟩) 1 cr), (41, .int .i64 0)] → a.defers = ds → wpAnyIn Fence.wide 5 Tryz.prog .any kh.toArray Q 1 #[true, true, true, true, true, false] a W5 := by
    intro gr cr W5 hRR a hA hd
    refine wpAnyIn_all (rs := [5]) (by kernel_rfl) (by simp) ?_
    intro i hi
    simp only [List.mem_cons, List.not_mem_nil, or_false] at hi
    subst hi
    exact uu hF rfl hA rfl rfl rfl rfl (by intro c h; cases h) (qb rfl) (fun a hA h2 => s42 gr cr W5 hRR a (hA.keep _ (by repeat' constructor)) (h2.trans hd))
  have s40 : ∀ (gr cr : Nat) (W5 : World), RR gr cr W5 → ∀ a, Sd a 42 [(9, .pointer (some ⟨gF, 0, none⟩)), (10, .pointer (some ⟨gE, 0, none⟩)), (38, .pointer (some ⟨gF, 0, none⟩)), (39, .slice (some ⟨gq, 0, none⟩) 1 cq), (40, .slice (some ⟨gr, 0, none⟩) 1 cr), (4, .slice (some ⟨gr, 0, none⟩) 1 cr)] → a.defers = ds → wpAnyIn Fence.wide 5 Tryz.prog .any kh.toArray Q 2 #[true, true, true, false, true, false] a W5 := by
    intro gr cr W5 hRR a hA hd
    refine wpAnyIn_all (rs := [3]) (by kernel_rfl) (by simp) ?_
    intro i hi
    simp only [List.mem_cons, List.not_mem_nil, or_false] at hi
    subst hi
    exact uu (v := .int .i64 0) hF rfl hA rfl rfl rfl rfl (by intro c h; cases h) (jn rfl (xa yu (hRE _ _ _ hRR))) (fun a hA h2 => s41 gr cr W5 hRR a (hA.keep _ (by repeat' constructor)) (h2.trans hd))
  have s31 : ∀ (gr cr : Nat) (W5 : World), RR gr cr W5 → ∀ a, Sd a 42 [(9, .pointer (some ⟨gF, 0, none⟩)), (10, .pointer (some ⟨gE, 0, none⟩)), (38, .pointer (some ⟨gF, 0, none⟩)), (39, .slice (some ⟨gq, 0, none⟩) 1 cq), (40, .slice (some ⟨gr, 0, none⟩) 1 cr), (41, .int .i64 0)] → a.defers = ds → wpAnyIn Fence.wide 5 Tryz.prog .any kh.toArray Q 2 #[true, true, true, true, false, false] a W5 := by
    intro gr cr W5 hRR a hA hd
    refine wpAnyIn_all (rs := [4]) (by kernel_rfl) (by simp) ?_
    intro i hi
    simp only [List.mem_cons, List.not_mem_nil, or_false] at hi
    subst hi
    exact uu hF rfl hA rfl rfl rfl rfl (by intro c h; cases h) (qb rfl) (fun a hA h2 => s41 gr cr W5 hRR a (hA.keep _ (by repeat' constructor)) (h2.trans hd))
  have s30 : ∀ (gr cr : Nat) (W5 : World), RR gr cr W5 → ∀ a, Sd a 42 [(9, .pointer (some ⟨gF, 0, none⟩)), (10, .pointer (some ⟨gE, 0, none⟩)), (38, .pointer (some ⟨gF, 0, none⟩)), (39, .slice (some ⟨gq, 0, none⟩) 1 cq), (40, .slice (some ⟨gr, 0, none⟩) 1 cr)] → a.defers = ds → wpAnyIn Fence.wide 5 Tryz.prog .any kh.toArray Q 3 #[true, true, true, false, false, false] a W5 := by
    intro gr cr W5 hRR a hA hd
    refine wpAnyIn_all (rs := [3, 4]) (by kernel_rfl) (by simp) ?_
    intro i hi
    simp only [List.mem_cons, List.not_mem_nil, or_false] at hi
    rcases hi with rfl | rfl
    · exact uu (v := .int .i64 0) hF rfl hA rfl rfl rfl rfl (by intro c h; cases h) (jn rfl (xa yu (hRE _ _ _ hRR))) (fun a hA h2 => s31 gr cr W5 hRR a (hA.keep _ (by repeat' constructor)) (h2.trans hd))
    · exact uu hF rfl hA rfl rfl rfl rfl (by intro c h; cases h) (qb rfl) (fun a hA h2 => s40 gr cr W5 hRR a (hA.keep _ (by repeat' constructor)) (h2.trans hd))
  have s21 : ∀ a, Sd a 42 [(9, .pointer (some ⟨gF, 0, none⟩)), (10, .pointer (some ⟨gE, 0, none⟩)), (38, .pointer (some ⟨gF, 0, none⟩)), (39, .slice (some ⟨gq, 0, none⟩) 1 cq), (41, .int .i64 0)] → a.defers = ds → wpAnyIn Fence.wide 5 Tryz.prog .any kh.toArray Q 3 #[true, true, false, true, false, false] a Wd := by
    intro a hA hd
    refine wpAnyIn_all (rs := [2]) (by kernel_rfl) (by simp) ?_
    intro i hi
    simp only [List.mem_cons, List.not_mem_nil, or_false] at hi
    subst hi
    refine io_callX hF rfl rfl hA rfl rfl rfl rfl (by intro c h; cases h) (qh rfl rfl (fun w => by kernel_rfl)) (R := fun v W5 => ∃ gr cr, v = .slice (some ⟨gr, 0, none⟩) 1 cr ∧ RR gr cr W5) hcall ?_
    rintro _ W5 ⟨gr, cr, rfl, hRR⟩ a hA h2
    exact s31 gr cr W5 hRR a (hA.keep _ (by repeat' constructor)) (h2.trans hd)
  have s20 : ∀ a, Sd a 42 [(9, .pointer (some ⟨gF, 0, none⟩)), (10, .pointer (some ⟨gE, 0, none⟩)), (38, .pointer (some ⟨gF, 0, none⟩)), (39, .slice (some ⟨gq, 0, none⟩) 1 cq)] → a.defers = ds → wpAnyIn Fence.wide 5 Tryz.prog .any kh.toArray Q 4 #[true, true, false, false, false, false] a Wd := by
    intro a hA hd
    refine wpAnyIn_all (rs := [2, 3]) (by kernel_rfl) (by simp) ?_
    intro i hi
    simp only [List.mem_cons, List.not_mem_nil, or_false] at hi
    rcases hi with rfl | rfl
    · refine io_callX hF rfl rfl hA rfl rfl rfl rfl (by intro c h; cases h) (qh rfl rfl (fun w => by kernel_rfl)) (R := fun v W5 => ∃ gr cr, v = .slice (some ⟨gr, 0, none⟩) 1 cr ∧ RR gr cr W5) hcall ?_
      rintro _ W5 ⟨gr, cr, rfl, hRR⟩ a hA h2
      exact s30 gr cr W5 hRR a (hA.keep _ ⟨rfl, rfl, rfl, rfl, rfl, trivial⟩) (h2.trans hd)
    · exact uu (v := .int .i64 0) hF rfl hA rfl rfl rfl rfl (by intro c h; cases h) (jn rfl (xa yu hcE)) (fun a hA h2 => s21 a (hA.keep _ ⟨rfl, rfl, rfl, rfl, rfl, trivial⟩) (h2.trans hd))
  have s11 : ∀ a, Sd a 42 [(9, .pointer (some ⟨gF, 0, none⟩)), (10, .pointer (some ⟨gE, 0, none⟩)), (38, .pointer (some ⟨gF, 0, none⟩)), (41, .int .i64 0)] → a.defers = ds → wpAnyIn Fence.wide 5 Tryz.prog .any kh.toArray Q 4 #[true, false, false, true, false, false] a Wd := by
    intro a hA hd
    refine wpAnyIn_all (rs := [1]) (by kernel_rfl) (by simp) ?_
    intro i hi
    simp only [List.mem_cons, List.not_mem_nil, or_false] at hi
    subst hi
    exact uu (v := .slice (some ⟨gq, 0, none⟩) 1 cq) hF rfl hA rfl rfl rfl rfl (by intro c h; cases h) (jn rfl (xa qma hcF)) (fun a hA h2 => s21 a (hA.keep _ ⟨rfl, rfl, rfl, rfl, rfl, trivial⟩) (h2.trans hd))
  have s10 : ∀ a, Sd a 42 [(9, .pointer (some ⟨gF, 0, none⟩)), (10, .pointer (some ⟨gE, 0, none⟩)), (38, .pointer (some ⟨gF, 0, none⟩))] → a.defers = ds → wpAnyIn Fence.wide 5 Tryz.prog .any kh.toArray Q 5 #[true, false, false, false, false, false] a Wd := by
    intro a hA hd
    refine wpAnyIn_all (rs := [1, 3]) (by kernel_rfl) (by simp) ?_
    intro i hi
    simp only [List.mem_cons, List.not_mem_nil, or_false] at hi
    rcases hi with rfl | rfl
    · exact uu (v := .slice (some ⟨gq, 0, none⟩) 1 cq) hF rfl hA rfl rfl rfl rfl (by intro c h; cases h) (jn rfl (xa qma hcF)) (fun a hA h2 => s20 a (hA.keep _ ⟨rfl, rfl, rfl, rfl, trivial⟩) (h2.trans hd))
    · exact uu (v := .int .i64 0) hF rfl hA rfl rfl rfl rfl (by intro c h; cases h) (jn rfl (xa yu hcE)) (fun a hA h2 => s11 a (hA.keep _ ⟨rfl, rfl, rfl, rfl, trivial⟩) (h2.trans hd))
  have s01 : ∀ a, Sd a 42 [(9, .pointer (some ⟨gF, 0, none⟩)), (10, .pointer (some ⟨gE, 0, none⟩)), (41, .int .i64 0)] → a.defers = ds → wpAnyIn Fence.wide 5 Tryz.prog .any kh.toArray Q 5 #[false, false, false, true, false, false] a Wd := by
    intro a hA hd
    refine wpAnyIn_all (rs := [0]) (by kernel_rfl) (by simp) ?_
    intro i hi
    simp only [List.mem_cons, List.not_mem_nil, or_false] at hi
    subst hi
    exact uu (v := .pointer (some ⟨gF, 0, none⟩)) hF rfl hA rfl rfl rfl rfl (by intro c h; cases h) (qi (show FieldAt Tryz.prog 66 0 0 from ⟨_, _, Tryz.underlying66, rfl, rfl, by kernel_rfl⟩) rfl rfl) (fun a hA h2 => s11 a (hA.keep _ ⟨rfl, rfl, rfl, rfl, trivial⟩) (h2.trans hd))
  have s00 : ∀ a, Sd a 42 [(9, .pointer (some ⟨gF, 0, none⟩)), (10, .pointer (some ⟨gE, 0, none⟩))] → a.defers = ds → wpAnyIn Fence.wide 5 Tryz.prog .any kh.toArray Q 6 #[false, false, false, false, false, false] a Wd := by
    intro a hA hd
    refine wpAnyIn_all (rs := [0, 3]) (by kernel_rfl) (by simp) ?_
    intro i hi
    simp only [List.mem_cons, List.not_mem_nil, or_false] at hi
    rcases hi with rfl | rfl
    · exact uu (v := .pointer (some ⟨gF, 0, none⟩)) hF rfl hA rfl rfl rfl rfl (by intro c h; cases h) (qi (show FieldAt Tryz.prog 66 0 0 from ⟨_, _, Tryz.underlying66, rfl, rfl, by kernel_rfl⟩) rfl rfl) (fun a hA h2 => s10 a (hA.keep _ ⟨rfl, rfl, rfl, trivial⟩) (h2.trans hd))
    · exact uu (v := .int .i64 0) hF rfl hA rfl rfl rfl rfl (by intro c h; cases h) (jn rfl (xa yu hcE)) (fun a hA h2 => s01 a (hA.keep _ ⟨rfl, rfl, rfl, trivial⟩) (h2.trans hd))
  exact s00
theorem Mg.calmJ {w0 w w' : World} {L : List Ck} {row : Option Nat} (h : Mg w0 w L) (hg : w.grownBy w' row) (hr : ∀ r, row = some r → w0.heap.size ≤ r ∧ ∃ o : Obj, w.heap[r]? = some o ∧ o.isCells = false) (hL : ∀ c ∈ L, (∃ g vs t, c = .obj g (.cells vs t)) ∨ ∃ e sz v n xs, c = .row e sz v n xs) : Mg w0 w' L := by
  have key : ∀ (g : Nat) (o : Obj), w.heap[g]? = some o → o.isCells = true → w'.heap[g]? = some o := fun g o ho hc => (hg.block g (Array.getElem?_eq_some_iff.1 ho).1 (fun e => by
    obtain ⟨_, o2, h2, h3⟩ := hr g e.symm
    rw [ho] at h2
    cases h2
    rw [hc] at h3
    cases h3)).trans ho
  refine ⟨h.bel.grown hg h.bel.size (fun k e => (hr k e).1), fun c hc => ?_, h.dis⟩
  rcases hL c hc with ⟨g, vs, t, rfl⟩ | ⟨e, sz, v, n, xs, rfl⟩
  · have h2 := h.all _ hc
    exact ⟨h2.1, key _ _ h2.2 rfl⟩
  · have h2 : w.ownsRow w0.heap.size e sz v n xs := h.all _ hc
    refine ⟨h2.1, ?_⟩
    rcases h2.2 with ⟨e1, e2⟩ | ⟨g, cap, cur, e1, hB, hc2, h3⟩
    · exact .inl ⟨e1, e2⟩
    · exact .inr ⟨g, cap, cur, e1, hB, key _ _ hc2 rfl, h3⟩

def NmI (w : World) (gF gE : Nat) (so : Option Addr) (ca gm : Nat) (x y p : ByteArray) : List Unit → World → Prop
  | [], W => Mg w W [.obj gE (.cells #[.int .i64 0] 35), .obj gF (.cells #[.slice so 1 ca, .map (some gm)] 66)]
  | _ :: _, W => ∃ gq cq g2, Mg w W [.obj gE (.cells #[.int .i64 0] 35), .obj gF (.cells #[.slice (some ⟨gq, 0, none⟩) 1 cq, .map (some g2)] 66), .row 81 2 (.slice (some ⟨gq, 0, none⟩) 1 cq) 1 [.string (p ++ x), .string y]]
theorem nmI_own (w : World) (gF gE : Nat) (so : Option Addr) (ca gm : Nat) (x y p : ByteArray) (B : Nat) (hB : w.heap.size ≤ B) : OwnFrom B (NmI w gF gE so ca gm x y p) := by
  rintro pre W W' row h hg hrow
  cases pre with
  | nil =>
    refine Mg.calmJ h hg (fun r e => ⟨Nat.le_trans hB (hrow r e).1, (hrow r e).2⟩) (fun c hc => ?_)
    simp only [List.mem_cons, List.not_mem_nil, or_false] at hc
    rcases hc with rfl | rfl <;> exact .inl ⟨_, _, _, rfl⟩
  | cons u us =>
    obtain ⟨gq, cq, g2, h⟩ := h
    refine ⟨gq, cq, g2, Mg.calmJ h hg (fun r e => ⟨Nat.le_trans hB (hrow r e).1, (hrow r e).2⟩) (fun c hc => ?_)⟩
    simp only [List.mem_cons, List.not_mem_nil, or_false] at hc
    rcases hc with rfl | rfl | rfl
    · exact .inl ⟨_, _, _, rfl⟩
    · exact .inl ⟨_, _, _, rfl⟩
    · exact .inr ⟨_, _, _, _, _, rfl⟩
set_option maxRecDepth 100000 in
theorem names1_any {w : World} {so sf sn : Option Addr} {ca cf cn : Nat} {x y p : ByteArray} (hR : Rc w so [.string x, .string y]) (hFs : Rc w sf (jm 0 (.slice none 0 0) (.slice none 0 0))) (hN : Rc w sn [.string p]) (hp : p.size + x.size ≤ 140737488355327) (hpx : (p ++ x).size ≤ 281474976710656) (hy : y.size ≤ 281474976710656) : Calls Tryz.prog 30 #[.agg (jm 3 (.slice sf 1 cf) (.slice sn 1 cn)).toArray, .slice so 1 ca] w fun e w' => ∃ g c2, e = .returned (.tuple #[.slice (some ⟨g, 0, none⟩) 1 c2, .int .i64 0]) ∧ Mg w w' [.row 81 2 (.slice (some ⟨g, 0, none⟩) 1 c2) 1 [.string (p ++ x), .string y]] := by
  refine (callsIn_wide (n := 5)).1 ?_
  have hF : ∀ f, Fence.wide.fn f := fun _ => trivial
  refine i_walkM (l := [(0, .agg (jm 3 (.slice sf 1 cf) (.slice sn 1 cn)).toArray), (1, .slice so 1 ca)]) Tryz.func30 rfl trivial rfl rfl rfl rfl ?_
  intro Q hret a hA hdf
  have hM : Mg w w [] := Mg.start w
  refine yy fun K1 hK1 => wpIn_region_lit ?_
  refine i_new (vs := jm 3 (.slice sf 1 cf) (.slice sn 1 cn)) (t := 34) hF hA hM rfl rfl rfl (by intro c h; cases h) (fun g => .pointer (some ⟨g, 0, none⟩)) (zg rfl rfl) (by decide) ?_
  intro g2 W1 hM _ _ _ _ a hA h1
  refine vh hF hA rfl rfl rfl (by intro c h; cases h) (qb rfl) fun a hA h2 => ?_
  refine vh hF hA rfl rfl rfl (by intro c h; cases h) (qb rfl) fun a hA h3 => ?_
  refine wpListIn_nil (hK1 _ _ (yy fun K2 hK2 => wpIn_region_lit ?_))
  refine vh (v := .agg (jm 3 (.slice sf 1 cf) (.slice sn 1 cn)).toArray) hF hA rfl rfl rfl (by intro c h; cases h) (ja hM qfj rfl 0 rfl (cs := jm 3 (.slice sf 1 cf) (.slice sn 1 cn)) rfl rfl) fun a hA h4 => ?_
  refine qib (R := fun v W => ∃ g' c', v = .tuple #[.slice (some ⟨g', 0, none⟩) 1 c', .agg (jm 0 (.slice none 0 0) (.slice none 0 0)).toArray, .bool true] ∧ Mg W1 W [.row 34 15 (.slice (some ⟨g', 0, none⟩) 1 c') 1 (jm 3 (.slice sf 1 cf) (.slice sn 1 cn))]) hF rfl hA rfl rfl rfl (by intro c h; cases h) (qh rfl rfl (fun w => by kernel_rfl)) (callsIn_wide.2 ((levels1_any (hFs.below hM.bel)).mono (fun e w' h => by obtain ⟨g', c', h1, h2⟩ := h; exact ⟨_, h1, g', c', rfl, h2⟩))) ?_
  rintro _ W2 ⟨go, co, rfl, hM2⟩ a hA h5
  have hgo := (Ck.lt (hM2.has 0 rfl) go rfl).2
  replace hM : Mg w W2 [.row 34 15 (.slice (some ⟨go, 0, none⟩) 1 co) 1 (jm 3 (.slice sf 1 cf) (.slice sn 1 cn)), .obj g2 (.cells (jm 3 (.slice sf 1 cf) (.slice sn 1 cn)).toArray 34)] := hM.both hM2 (qw (by simp) (qy zd)) (qw (by simp) (qy zd))
  refine vh hF hA rfl rfl rfl (by intro c h; cases h) (qe rfl) fun a hA h6 => ?_
  refine vh hF hA rfl rfl rfl (by intro c h; cases h) (qn (vs := [.slice (some ⟨go, 0, none⟩) 1 co, .agg (jm 0 (.slice none 0 0) (.slice none 0 0)).toArray, .bool true]) rfl rfl) fun a hA h7 => ?_
  refine vh hF hA rfl rfl rfl (by intro c h; cases h) (qn (vs := [.slice (some ⟨go, 0, none⟩) 1 co, .agg (jm 0 (.slice none 0 0) (.slice none 0 0)).toArray, .bool true]) rfl rfl) fun a hA h8 => ?_
  refine vh hF hA rfl rfl rfl (by intro c h; cases h) (qn (vs := [.slice (some ⟨go, 0, none⟩) 1 co, .agg (jm 0 (.slice none 0 0) (.slice none 0 0)).toArray, .bool true]) rfl rfl) fun a hA h9 => ?_
  refine i_new (vs := jm 0 (.slice none 0 0) (.slice none 0 0)) (t := 34) hF hA hM rfl rfl rfl (by intro c h; cases h) (fun g => .pointer (some ⟨g, 0, none⟩)) (zx (z := .agg (jm 0 (.slice none 0 0) (.slice none 0 0)).toArray) (by kernel_rfl) rfl) (by decide) ?_
  intro g7 W3 hM hg7 _ _ _ a hA h10
  refine vh hF hA rfl rfl rfl (by intro c h; cases h) (qb rfl) fun a hA h11 => ?_
  refine i_set (w' := W3.setCells g7 0 [.int .i64 0, .slice none 0 0, .int .i64 0, .int .i64 0, .bool false, .slice none 0 0, .slice none 0 0, .bool false, .slice none 0 0, .slice none 0 0, .string ⟨#[]⟩, .slice none 0 0, .slice none 0 0, .slice none 0 0, .slice none 0 0]) hF hA rfl rfl (by intro c h; cases h) (zu rfl rfl rfl (by kernel_rfl) hM 0 rfl rfl rfl) ?_
  have hM' : Mg w (W3.setCells g7 0 [.int .i64 0, .slice none 0 0, .int .i64 0, .int .i64 0, .bool false, .slice none 0 0, .slice none 0 0, .bool false, .slice none 0 0, .slice none 0 0, .string ⟨#[]⟩, .slice none 0 0, .slice none 0 0, .slice none 0 0, .slice none 0 0]) [.obj g7 (.cells (jm 0 (.slice none 0 0) (.slice none 0 0)).toArray 34), .row 34 15 (.slice (some ⟨go, 0, none⟩) 1 co) 1 (jm 3 (.slice sf 1 cf) (.slice sn 1 cn)), .obj g2 (.cells (jm 3 (.slice sf 1 cf) (.slice sn 1 cn)).toArray 34)] := Mg.puts [.int .i64 0, .slice none 0 0, .int .i64 0, .int .i64 0, .bool false, .slice none 0 0, .slice none 0 0, .bool false, .slice none 0 0, .slice none 0 0, .string ⟨#[]⟩, .slice none 0 0, .slice none 0 0, .slice none 0 0, .slice none 0 0] W3 _ [.int .i64 0, .slice none 0 0, .int .i64 0, .int .i64 0, .bool false, .slice none 0 0, .slice none 0 0, .bool false, .slice none 0 0, .slice none 0 0, .string ⟨#[]⟩, .slice none 0 0, .slice none 0 0, .slice none 0 0, .slice none 0 0] 0 hM 0 rfl
  have hz' := (kk g7 [.int .i64 0, .slice none 0 0, .int .i64 0, .int .i64 0, .bool false, .slice none 0 0, .slice none 0 0, .bool false, .slice none 0 0, .slice none 0 0, .string ⟨#[]⟩, .slice none 0 0, .slice none 0 0, .slice none 0 0, .slice none 0 0] W3 0).size
  revert hM' hz'
  generalize W3.setCells g7 0 [.int .i64 0, .slice none 0 0, .int .i64 0, .int .i64 0, .bool false, .slice none 0 0, .slice none 0 0, .bool false, .slice none 0 0, .slice none 0 0, .string ⟨#[]⟩, .slice none 0 0, .slice none 0 0, .slice none 0 0, .slice none 0 0] = W4
  intro hM' hzW4
  clear hM
  have hM := hM'
  clear hM'
  refine vh hF hA rfl rfl rfl (by intro c h; cases h) (qb rfl) fun a hA h12 => ?_
  refine wpListIn_nil (hK2 _ _ (yy fun K3 hK3 => yy fun K4 hK4 => wpIn_region_lit ?_))
  refine vh hF hA rfl rfl rfl (by intro c h; cases h) (qe rfl) fun a hA h13 => ?_
  refine vh (v := .bool false) hF hA rfl rfl rfl (by intro c h; cases h) (qp rfl qt) fun a hA h14 => ?_
  refine wpListIn_nil (hK4 _ _ (wpIn_cond_false (hA.ev rfl) (wpIn_skip (hK3 _ _ (yy fun K5 hK5 => wpIn_region_lit ?_)))))
  refine vh hF hA rfl rfl rfl (by intro c h; cases h) (qe rfl) fun a hA h15 => ?_
  refine qib (R := fun v W => ∃ g, v = .tuple #[.agg #[.slice so 1 ca, .map (some g)], .int .i64 0] ∧ Mg W4 W [.obj g (qej [⟨x, .int .i64 0, 0⟩] 1)]) hF rfl hA rfl rfl rfl (by intro c h; cases h) (qh rfl rfl (fun w => by kernel_rfl)) (callsIn_wide.2 ((qcc (hR.below hM.bel)).mono (fun e w' h => by obtain ⟨g, h1, h2⟩ := h; exact ⟨_, h1, g, rfl, h2⟩))) ?_
  rintro _ W5 ⟨gm, rfl, hM5⟩ a hA h16
  have hs5 := hM5.bel.size
  replace hM := hM.call hM5.bel
  refine vh hF hA rfl rfl rfl (by intro c h; cases h) (qe rfl) fun a hA h17 => ?_
  refine vh hF hA rfl rfl rfl (by intro c h; cases h) (qn (vs := [.agg #[.slice so 1 ca, .map (some gm)], .int .i64 0]) rfl rfl) fun a hA h18 => ?_
  refine vh hF hA rfl rfl rfl (by intro c h; cases h) (qn (vs := [.agg #[.slice so 1 ca, .map (some gm)], .int .i64 0]) rfl rfl) fun a hA h19 => ?_
  refine i_new (vs := [.slice none 0 0, .map none]) (t := 66) hF hA hM rfl rfl rfl (by intro c h; cases h) (fun g => .pointer (some ⟨g, 0, none⟩)) (zx (z := .agg #[.slice none 0 0, .map none]) (by kernel_rfl) rfl) (by decide) ?_
  intro gF W6 hM hgF hgF' _ _ a hA h20
  refine i_new (vs := [.int .i64 0]) (t := 35) hF hA hM rfl rfl rfl (by intro c h; cases h) (fun g => .pointer (some ⟨g, 0, none⟩)) (zx (z := .int .i64 0) (by kernel_rfl) rfl) (by decide) ?_
  intro gE W7 hM hgE hgE' _ _ a hA h21
  replace hM : Mg w W7 [.obj gE (.cells #[.int .i64 0] 35), .obj gF (.cells #[.slice none 0 0, .map none] 66), .row 34 15 (.slice (some ⟨go, 0, none⟩) 1 co) 1 (jm 3 (.slice sf 1 cf) (.slice sn 1 cn))] := hM.sub (cC (cC (cN (cC (List.nil_sublist _)))))
  refine i_set (w' := W7.setCells gF 0 [.slice so 1 ca, .map (some gm)]) hF hA rfl rfl (by intro c h; cases h) (zu rfl rfl rfl (by kernel_rfl) hM 1 rfl rfl rfl) ?_
  have hM' : Mg w (W7.setCells gF 0 [.slice so 1 ca, .map (some gm)]) [.obj gE (.cells #[.int .i64 0] 35), .obj gF (.cells #[.slice so 1 ca, .map (some gm)] 66), .row 34 15 (.slice (some ⟨go, 0, none⟩) 1 co) 1 (jm 3 (.slice sf 1 cf) (.slice sn 1 cn))] := Mg.puts [.slice so 1 ca, .map (some gm)] W7 _ [.slice none 0 0, .map none] 0 hM 1 rfl
  have hz' := (kk gF [.slice so 1 ca, .map (some gm)] W7 0).size
  revert hM' hz'
  generalize W7.setCells gF 0 [.slice so 1 ca, .map (some gm)] = W7b
  intro hM' hzW7b
  clear hM
  have hM := hM'
  clear hM'
  refine i_set (w' := W7b.setCells gE 0 [.int .i64 0]) hF hA rfl rfl (by intro c h; cases h) (zu rfl rfl rfl (by kernel_rfl) hM 0 rfl rfl rfl) ?_
  have hM' : Mg w (W7b.setCells gE 0 [.int .i64 0]) [.obj gE (.cells #[.int .i64 0] 35), .obj gF (.cells #[.slice so 1 ca, .map (some gm)] 66), .row 34 15 (.slice (some ⟨go, 0, none⟩) 1 co) 1 (jm 3 (.slice sf 1 cf) (.slice sn 1 cn))] := Mg.puts [.int .i64 0] W7b _ [.int .i64 0] 0 hM 0 rfl
  have hz' := (kk gE [.int .i64 0] W7b 0).size
  revert hM' hz'
  generalize W7b.setCells gE 0 [.int .i64 0] = W8
  intro hM' hzW8
  clear hM
  have hM := hM'
  clear hM'
  refine wpListIn_nil (hK5 _ _ (yy fun K6 hK6 => yy fun K7 hK7 => wpIn_region_lit ?_))
  refine vh hF hA rfl rfl rfl (by intro c h; cases h) (qe rfl) fun a hA h22 => ?_
  refine qib (R := fun v W => v = .func (.func 103) #[] #[.pointer (some ⟨W8.heap.size, 0, none⟩)] ∧ W = W8.alloc (.cells #[.slice (some ⟨go, 0, none⟩) 1 co] 32)) hF rfl hA rfl rfl rfl (by intro c h; cases h) (qh rfl rfl (fun w => by kernel_rfl)) (callsIn_wide.2 (back_impA.mono (fun e w' h => ⟨_, h.1, rfl, h.2⟩))) ?_
  rintro _ W9 ⟨rfl, hW9⟩ a hA h23
  refine wpListIn_nil (hK7 _ _ (wpIn_block ?_))
  have hB9 : Below W8.heap.size W8 W9 := hW9 ▸ (Below.refl _ W8).alloc (Nat.le_refl _) _
  have hs9 : W9.heap.size = W8.heap.size + 1 := by rw [hW9]; simp
  have hc9 : W9.cell? ⟨W8.heap.size, 0, none⟩ = some (.slice (some ⟨go, 0, none⟩) 1 co) := by
    rw [hW9, cell_of_row _ _ _ _ _ _ (heap_alloc_new W8 _)]; rfl
  replace hM := hM.call hB9
  have hr9 : ∀ q u, (jm 3 (.slice sf 1 cf) (.slice sn 1 cn))[q]? = some u → W9.cell? ⟨go, q, none⟩ = some u := by
    obtain ⟨b, o, e, h⟩ := kw (hM.has 2 rfl) (by unfold jm; simp)
    cases e
    intro q u hq
    have := h q u hq
    rwa [Nat.zero_add] at this
  have hsw := hM.bel.size
  have hI0 : NmI w gF gE so ca gm x y p [] W9 := hM.sub (cC (cC (cN (List.nil_sublist _))))
  have hs4 := (hM5.bel.size)
  refine wpIn_rangeFunc_ownH (F := Fence.wide) rfl (by decide) (gf := 103) (lb := #[.pointer (some ⟨W8.heap.size, 0, none⟩)]) (hA.ev rfl) trivial (fun us w => by kernel_rfl)
    (back_impS (w0 := W9) (go := go) (ca := co) (cs := jm 3 (.slice sf 1 cf) (.slice sn 1 cn)) rfl hc9 hr9 _) KpI.trans ?hkb (Below.refl _ _) (fun _ => rfl)
    (NmI w gF gE so ca gm x y p) (fun _ _ _ => False) (nmI_own w gF gE so ca gm x y p _ (by omega)) (fun _ _ _ _ _ hs _ _ => hs)
    hI0
    (fun _ a' W => ∃ Bx, Sd a' 42 [(9, .pointer (some ⟨gF, 0, none⟩)), (10, .pointer (some ⟨gE, 0, none⟩)), (12, .pointer (some ⟨Bx, 0, none⟩))] ∧ Here W Bx 0 (jm 3 (.slice sf 1 cf) (.slice sn 1 cn)))
    (fun _ a' _ X Y row hs hg hr => by obtain ⟨Bx, h1, h2⟩ := hs; exact ⟨Bx, h1, h2.kept (kept_calm hg (fun r e => (hr r e).2))⟩)
    ?assign ?body ?done ?stop
  case hkb =>
    intro W l o o' hl1 hl2 hl3 _
    refine ⟨(grownBy_putObj' W l o').size, fun b hb i v hv => (grownBy_putObj' W l o').cell hv (fun e => ?_)⟩
    have e' : b = l := Option.some.inj e
    subst e'
    unfold World.cell? at hv
    simp only [hl2] at hv
    cases o <;> simp_all [Obj.isCells]
  case assign =>
    rintro l pre u W K hMz hK
    have hA1 : Sd { tmps := (a.tmps.setIfInBounds 28 (.int .i64 0)).setIfInBounds 29 (.agg (jm 3 (.slice sf 1 cf) (.slice sn 1 cn)).toArray), defers := [] } 42 _ := Sl.put (Sl.put hA (d := 28) rfl (.int .i64 0)) (d := 29) rfl (.agg (jm 3 (.slice sf 1 cf) (.slice sn 1 cn)).toArray)
    have hF2 : ∀ f, (Fence.wide.inRound l).fn f := fun _ => trivial
    simp only [List.zip_toArray, List.zip_cons_cons, List.zip_nil_left, List.zip_nil_right, List.foldl_toArray', List.foldl_toArray, List.foldl_cons, List.foldl_nil]
    refine wpIn_region_lit ?_
    refine i_new (a := { tmps := (a.tmps.setIfInBounds 28 (.int .i64 0)).setIfInBounds 29 (.agg (jm 3 (.slice sf 1 cf) (.slice sn 1 cn)).toArray), defers := [] }) (w0 := W) (L := []) (vs := jm 0 (.slice none 0 0) (.slice none 0 0)) (t := 34) hF2 hA1 (Mg.start W) rfl rfl rfl (by intro c h; cases h) (fun g => .pointer (some ⟨g, 0, none⟩)) (zx (z := .agg (jm 0 (.slice none 0 0) (.slice none 0 0)).toArray) (by kernel_rfl) rfl) (by decide) ?_
    intro Bx X6 hM6 hBx hBx' hB6 hK6 a6 hA6 _
    refine i_set (w' := X6.setCells Bx 0 (jm 3 (.slice sf 1 cf) (.slice sn 1 cn))) hF2 hA6 rfl rfl (by intro c h; cases h) (zu rfl rfl rfl (by kernel_rfl) hM6 0 rfl rfl rfl) ?_
    have hM7 : Mg W (X6.setCells Bx 0 (jm 3 (.slice sf 1 cf) (.slice sn 1 cn))) [.obj Bx (.cells (jm 3 (.slice sf 1 cf) (.slice sn 1 cn)).toArray 34)] := Mg.puts (jm 3 (.slice sf 1 cf) (.slice sn 1 cn)) X6 _ (jm 0 (.slice none 0 0) (.slice none 0 0)) 0 hM6 0 rfl
    have hks := hK6.trans (kk Bx (jm 3 (.slice sf 1 cf) (.slice sn 1 cn)) X6 0)
    revert hM7 hks
    generalize X6.setCells Bx 0 (jm 3 (.slice sf 1 cf) (.slice sn 1 cn)) = X7
    intro hM7 hks
    have hI7 : NmI w gF gE so ca gm x y p pre X7 := by
      cases pre with
      | nil => exact Mg.call hMz hM7.bel
      | cons _ _ => obtain ⟨gq, cq, gz, h⟩ := hMz; exact ⟨gq, cq, gz, h.call hM7.bel⟩
    refine wpListIn_nil (hK _ _ (hks.from _) ⟨hM7.bel.size, fun b _ i v hv => (hM7.bel.cell (p := ⟨b, i, none⟩) (vx hv)).trans hv⟩ hI7 ⟨Bx, hA6.keep _ ⟨rfl, rfl, rfl, trivial⟩, (Array.getElem?_eq_some_iff.1 (hM7.obj 0 rfl)).1, fun j v hj => by rw [Nat.zero_add]; exact hM7.cell 0 rfl j hj⟩)
  case body =>
    rintro l pre u a' W hl1 _ hMz ⟨Bx, hA, hH⟩ hlen
    obtain rfl : pre = [] := List.length_eq_zero_iff.1 (by omega)
    have hF2 : ∀ f, (Fence.wide.inRound l).fn f := fun _ => trivial
    have hMz' : Mg w W [.obj gE (.cells #[.int .i64 0] 35), .obj gF (.cells #[.slice so 1 ca, .map (some gm)] 66)] := hMz
    refine wpIn_block (yy fun K8 hK8 => yy fun K9 hK9 => wpIn_region_lit ?_)
    refine vh (v := .int .i64 0) hF2 hA rfl rfl rfl (by intro c h; cases h) (zl hMz' yu rfl 0 rfl rfl) fun a hA h6 => ?_
    refine vh (v := .bool false) hF2 hA rfl rfl rfl (by intro c h; cases h) (qg rfl rfl (fun w => by kernel_rfl)) fun a hA h7 => ?_
    refine wpListIn_nil (hK9 _ _ (wpIn_cond_false (hA.ev rfl) (wpIn_skip (hK8 _ _ (wpIn_region_lit ?_)))))
    refine vh (v := .agg #[.slice so 1 ca, .map (some gm)]) hF2 hA rfl rfl rfl (by intro c h; cases h) (ja hMz' f_isS_bset rfl 1 rfl (cs := [.slice so 1 ca, .map (some gm)]) rfl rfl) fun a hA h8 => ?_
    refine vh (v := .agg (jm 3 (.slice sf 1 cf) (.slice sn 1 cn)).toArray) hF2 hA rfl rfl rfl (by intro c h; cases h) (jn rfl (kl qfj _ rfl (fun j v hj => by have := hH.2 j v hj; rwa [Nat.zero_add] at this ⊢))) fun a hA h9 => ?_
    refine qib (R := fun v X => ∃ gq cq gz, v = .tuple #[.agg #[.slice (some ⟨gq, 0, none⟩) 1 cq, .map (some gz)], .int .i64 0] ∧ Mg W X [.row 81 2 (.slice (some ⟨gq, 0, none⟩) 1 cq) 1 [.string (p ++ x), .string y]]) hF2 rfl hA rfl rfl rfl (by intro c h; cases h) (qh rfl rfl (fun w => by kernel_rfl)) ((callsIn_wide.2 ((through3_any (hR.below hMz'.bel) (hN.below hMz'.bel) hp).mono (fun e w' h => by obtain ⟨gq, cq, gz, h1, h2⟩ := h; exact ⟨_, h1, gq, cq, gz, rfl, h2⟩))).inRound l) ?_
    rintro _ X1 ⟨gq, cq, gz, rfl, hM1⟩ a hA h10
    have hM2 : Mg w X1 [.row 81 2 (.slice (some ⟨gq, 0, none⟩) 1 cq) 1 [.string (p ++ x), .string y], .obj gE (.cells #[.int .i64 0] 35), .obj gF (.cells #[.slice so 1 ca, .map (some gm)] 66)] := hMz'.both hM1 (qw (by simp) (qw (by simp) (qy zd))) (qw (by simp) (qy zd))
    refine vh hF2 hA rfl rfl rfl (by intro c h; cases h) (qe rfl) fun a hA h11 => ?_
    refine vh hF2 hA rfl rfl rfl (by intro c h; cases h) (qn (vs := [.agg #[.slice (some ⟨gq, 0, none⟩) 1 cq, .map (some gz)], .int .i64 0]) rfl rfl) fun a hA h12 => ?_
    refine vh hF2 hA rfl rfl rfl (by intro c h; cases h) (qn (vs := [.agg #[.slice (some ⟨gq, 0, none⟩) 1 cq, .map (some gz)], .int .i64 0]) rfl rfl) fun a hA h13 => ?_
    refine i_set (w' := X1.setCells gF 0 [.slice (some ⟨gq, 0, none⟩) 1 cq, .map (some gz)]) hF2 hA rfl rfl (by intro c h; cases h) (zu rfl rfl rfl (by kernel_rfl) hM2 2 rfl rfl rfl) ?_
    have hM3 : Mg w (X1.setCells gF 0 [.slice (some ⟨gq, 0, none⟩) 1 cq, .map (some gz)]) [.row 81 2 (.slice (some ⟨gq, 0, none⟩) 1 cq) 1 [.string (p ++ x), .string y], .obj gE (.cells #[.int .i64 0] 35), .obj gF (.cells #[.slice (some ⟨gq, 0, none⟩) 1 cq, .map (some gz)] 66)] := Mg.puts [.slice (some ⟨gq, 0, none⟩) 1 cq, .map (some gz)] X1 _ [.slice so 1 ca, .map (some gm)] 0 hM2 2 rfl
    have hk3 := kk gF [.slice (some ⟨gq, 0, none⟩) 1 cq, .map (some gz)] X1 0
    have hp3 : Kept (· ≠ gF) X1 (X1.setCells gF 0 [.slice (some ⟨gq, 0, none⟩) 1 cq, .map (some gz)]) := kept_set _ _ _ _
    revert hM3 hk3 hp3
    generalize X1.setCells gF 0 [.slice (some ⟨gq, 0, none⟩) 1 cq, .map (some gz)] = X3
    intro hM3 hk3 hp3
    refine i_set (w' := X3.setCells gE 0 [.int .i64 0]) hF2 hA rfl rfl (by intro c h; cases h) (zu rfl rfl rfl (by kernel_rfl) hM3 1 rfl rfl rfl) ?_
    have hM4 : Mg w (X3.setCells gE 0 [.int .i64 0]) [.row 81 2 (.slice (some ⟨gq, 0, none⟩) 1 cq) 1 [.string (p ++ x), .string y], .obj gE (.cells #[.int .i64 0] 35), .obj gF (.cells #[.slice (some ⟨gq, 0, none⟩) 1 cq, .map (some gz)] 66)] := Mg.puts [.int .i64 0] X3 _ [.int .i64 0] 0 hM3 1 rfl
    have hk4 := kk gE [.int .i64 0] X3 0
    have hp4 : Kept (· ≠ gE) X3 (X3.setCells gE 0 [.int .i64 0]) := kept_set _ _ _ _
    revert hM4 hk4 hp4
    generalize X3.setCells gE 0 [.int .i64 0] = X4
    intro hM4 hk4 hp4
    have hkc : KeepsOthers W X1 := ⟨hM1.bel.size, fun k o hk _ => (hM1.bel.block k (Array.getElem?_eq_some_iff.1 hk).1).trans hk⟩
    refine wpListIn_nil ⟨((hkc.trans hk3).trans hk4).from _, ⟨Nat.le_trans hM1.bel.size (Nat.le_trans hk3.size hk4.size), fun b hb i v hv => ?_⟩, gq, cq, gz, ?_⟩
    · have h1 := (hM1.bel.cell (p := ⟨b, i, none⟩) (vx hv)).trans hv
      refine hp4.2 _ _ _ ?_ (hp3.2 _ _ _ ?_ h1) <;> rcases hb with rfl | rfl <;> omega
    · exact (hM4.bringJ 1 rfl rfl).bringJ 2 rfl rfl |>.bringJ 1 rfl rfl
  case done =>
    rintro D xs W hD1 hS hMz hDf
    subst hS
    obtain ⟨gq, cq, gz, hMq⟩ := hMz
    have hA2 : Sd { a with defers := { target := .collected D, args := #[] } :: a.defers } 42 _ := hA
    revert hA2
    generalize hae : ({ a with defers := { target := .collected D, args := #[] } :: a.defers } : Act) = a2
    intro hA2
    have had : a2.defers = [{ target := .collected D, args := #[] }] := by rw [← hae]; show _ :: a.defers = _; rw [h23, h22, h21, h20, h19, h18, h17, h16, h15, h14, h13, h12, h11, h10, h9, h8, h7, h6, h5, h4, h3, h2, h1, hdf]
    have hMd := hMq.drew
    refine hK6 _ _ (yy fun K9 hK9 => wpIn_region_any (by kernel_rfl) ?_)
    have hcF : W.drew.cell? ⟨gF, 0, none⟩ = some (.slice (some ⟨gq, 0, none⟩) 1 cq) := hMd.cell 1 rfl 0 rfl
    have hcE : W.drew.cell? ⟨gE, 0, none⟩ = some (.int .i64 0) := hMd.cell 0 rfl 0 rfl
    refine tail_any (Wd := W.drew) (gF := gF) (gE := gE) (gq := gq) (cq := cq) (ds := [{ target := .collected D, args := #[] }]) (RR := fun gr cr W5 => Mg W.drew W5 [.row 81 2 (.slice (some ⟨gr, 0, none⟩) 1 cr) 1 [.string (p ++ x), .string y]]) hcF hcE (fun gr cr W5 h => (h.bel.cell (p := ⟨gE, 0, none⟩) (vx hcE)).trans hcE) (callsIn_wide.2 ((fresh1_any (kw (hMd.has 2 rfl)) hpx hy).mono (fun e w' h => by obtain ⟨g, c, h1, h2⟩ := h; exact ⟨_, h1, g, c, rfl, h2⟩))) ?_ a2 (hA2.keep _ ⟨rfl, rfl, trivial⟩) had
    intro gr cr W5 hM5' a5 hA5 hd5
    refine hK9 _ _ (wpIn_ret (hret _ _ ?_))
    have hD5 : W5.heap[D]? = some (.deferred (some [])) := (hM5'.bel.block D (Array.getElem?_eq_some_iff.1 hDf).1).trans hDf
    have hgr := grownBy_putObj' W5 D (.deferred none)
    have hMw : Mg w W5 [.row 81 2 (.slice (some ⟨gr, 0, none⟩) 1 cr) 1 [.string (p ++ x), .string y]] := (hMd.both hM5' (qw (by simp) (qw (by simp) (qw (by simp) (qy zd)))) (qw (by simp) (qy zd))).sub (cC (List.nil_sublist _))
    have hM6 := Mg.calmJ hMw hgr (fun r e => by cases e; exact ⟨by omega, _, hD5, rfl⟩) (fun c hc => by simp only [List.mem_cons, List.not_mem_nil, or_false] at hc; subst hc; exact .inr ⟨_, _, _, _, _, rfl⟩)
    show LeavesInM _ _ _ _ _ _ a5.defers .returning _
    rw [hd5]
    refine ⟨by simp, .inl ⟨D, _, rfl, run_takeDeferred hD5, ?_⟩⟩
    have hfin : (fun (e : Ending) (w' : World) => ∃ g c2, e = .returned (.tuple #[.slice (some ⟨g, 0, none⟩) 1 c2, .int .i64 0]) ∧ Mg w w' [.row 81 2 (.slice (some ⟨g, 0, none⟩) 1 c2) 1 [.string (p ++ x), .string y]]) (.returned (.tuple #[.slice (some ⟨gr, 0, none⟩) 1 cr, .int .i64 0])) (W5.putObj D (.deferred none)) := ⟨gr, cr, rfl, hM6⟩
    exact (za (P := Tryz.prog) (fn := Tryz.f30) (Z := (fun (e : Ending) (w' : World) => ∃ g c2, e = .returned (.tuple #[.slice (some ⟨g, 0, none⟩) 1 c2, .int .i64 0]) ∧ Mg w w' [.row 81 2 (.slice (some ⟨g, 0, none⟩) 1 c2) 1 [.string (p ++ x), .string y]])) (v := .tuple #[.slice (some ⟨gr, 0, none⟩) 1 cr, .int .i64 0]) (rs := [.tmp 4, .tmp 5]) (vs := [.slice (some ⟨gr, 0, none⟩) 1 cr, .int .i64 0]) hA5 rfl (.cons (qk rfl) (.cons (qk rfl) .nil)) rfl hfin).2
  case stop =>
    rintro D c pre W _ _ h _
    exact h.elim
end Go.Proofs.YtoopkbedjbnhhaaGreatDoor.G
namespace Go.Proofs.YtoopkbedjbnhhaaGreatDoor.G
open Go.RowKit
set_option maxRecDepth 100000
theorem JcI_isS_81 : IsS Tryz.prog 81 2 := ⟨⟨_, Tryz.underlying81⟩, by kernel_rfl⟩
theorem awake_any {w : World} : Calls Tryz.prog 10 #[] w fun e w' => e = .returned (.bool true) ∧ Below w.heap.size w w' := by
 have hM : Mg w w ([]) := Mg.start w
 refine qz (l := []) Tryz.func10 rfl Tryz.ntmps10 rfl rfl ?_
 intro Q hret hnorm hP a hA
 refine wp_seq_k (fun K1 hK1 => ?_)
 refine wp_region_lit ?_
 refine qa hA rfl rfl rfl (qb rfl) ?_
 intro a hA
 refine qf ?_
 refine hK1 _ _ ?_
 refine wp_seq_k (fun K2 hK2 => ?_)
 refine wp_region_lit ?_
 refine ks (e := 9) (sz := 1) (m := 1) (vs := [Value.string (⟨#[112, 58]⟩)]) hA hM rfl rfl rfl (zt rfl (by kernel_rfl)) rfl rfl (.inl (by decide)) ?_
 intro g3 w4 hM a hA
 refine qa (v := .agg (jm 0 (.slice none 0 0) (.slice none 0 0)).toArray) hA rfl rfl rfl (xr rfl (fun w => by kernel_rfl)) ?_
 intro a hA
 refine ks (e := 34) (sz := 15) (m := 1) (vs := (jm 0 (.slice none 0 0) (.slice none 0 0))) hA hM rfl rfl rfl (zt rfl (by kernel_rfl)) rfl rfl (.inl (by decide)) ?_
 intro g5 w6 hM a hA
 refine qa (v := .agg #[.int .i64 3, .slice none 0 0, .int .i64 0, .int .i64 0, .bool false, .slice none 0 0, .slice none 0 0, .bool false, .slice none 0 0, .slice none 0 0, .string (⟨#[]⟩), .slice none 0 0, .slice none 0 0, .slice (some ⟨g5, 0, none⟩) 1 1, .slice (some ⟨g3, 0, none⟩) 1 1]) hA rfl rfl rfl (xr rfl (fun w => by kernel_rfl)) ?_
 intro a hA
 refine qa (v := .agg #[.string (⟨#[120]⟩), .string (⟨#[121]⟩)]) hA rfl rfl rfl (xr rfl (fun w => by kernel_rfl)) ?_
 intro a hA
 refine ks (e := 81) (sz := 2) (m := 1) (vs := [Value.string (⟨#[120]⟩), .string (⟨#[121]⟩)]) hA hM rfl rfl rfl (zt rfl (by kernel_rfl)) rfl rfl (.inl (by decide)) ?_
 intro g7 w8 hM a hA
 refine qm hA rfl rfl rfl (qh rfl rfl (fun w => by kernel_rfl)) (names1_any (x := ⟨#[120]⟩) (y := ⟨#[121]⟩) (p := ⟨#[112, 58]⟩) (kw (hM.has 0 rfl)) (kw (hM.has 1 rfl)) (kw (hM.has 2 rfl)) (by decide) (by decide) (by decide)) ?_
 rintro _ w12 ⟨g9, ca10, rfl, hM11⟩
 replace hM : Mg w w12 (.row 81 2 (.slice (some ⟨g9, 0, none⟩) 1 ca10) 1 ([Value.string ((⟨#[112, 58]⟩ ++ ⟨#[120]⟩)), .string (⟨#[121]⟩)]) :: .row 81 2 (.slice (some ⟨g7, 0, none⟩) 1 1) 1 ([Value.string (⟨#[120]⟩), .string (⟨#[121]⟩)]) :: .row 34 15 (.slice (some ⟨g5, 0, none⟩) 1 1) 1 ((jm 0 (.slice none 0 0) (.slice none 0 0))) :: .row 9 1 (.slice (some ⟨g3, 0, none⟩) 1 1) 1 ([Value.string (⟨#[112, 58]⟩)]) :: []) := (hM.both hM11 (qw (by simp) (qw (by simp) (qw (by simp) (qy zd)))) (qw (by simp) (qy zd)))
 refine ⟨_, rfl, ?_⟩
 intro a hA
 refine qa hA rfl rfl rfl (qe rfl) ?_
 intro a hA
 refine qa (v := .slice (some ⟨g9, 0, none⟩) 1 ca10) hA rfl rfl rfl (qn (vs := [.slice (some ⟨g9, 0, none⟩) 1 ca10, .int .i64 0]) rfl rfl) ?_
 intro a hA
 refine qa (v := .int .i64 0) hA rfl rfl rfl (qn (vs := [.slice (some ⟨g9, 0, none⟩) 1 ca10, .int .i64 0]) rfl rfl) ?_
 intro a hA
 refine qa hA rfl rfl rfl (qb rfl) ?_
 intro a hA
 refine qa hA rfl rfl rfl (qb rfl) ?_
 intro a hA
 refine qf ?_
 refine hK2 _ _ ?_
 refine wp_seq_k (fun K13 hK13 => ?_)
 refine wp_region_lit ?_
 refine qa hA rfl rfl rfl (qe rfl) ?_
 intro a hA
 refine qa (v := .bool true) hA rfl rfl rfl (qg rfl rfl (fun w => by kernel_rfl)) ?_
 intro a hA
 refine qa hA rfl rfl rfl (qe rfl) ?_
 intro a hA
 refine qa hA rfl rfl rfl (qe rfl) ?_
 intro a hA
 refine qa (v := .int .i64 1) hA rfl rfl rfl (zb Tryz.underlying39 rfl) ?_
 intro a hA
 refine qa (v := .bool true) hA rfl rfl rfl (qg rfl rfl (fun w => by kernel_rfl)) ?_
 intro a hA
 refine qa (v := .bool true) hA rfl rfl rfl (ql rfl rfl rfl rfl) ?_
 intro a hA
 refine qa hA rfl rfl rfl (qe rfl) ?_
 intro a hA
 refine qa hA rfl rfl rfl (qe rfl) ?_
 intro a hA
 refine qa (v := .pointer (some ⟨g9, 0, none⟩)) hA rfl rfl rfl (vi (sz := 2) (k := 0) Tryz.underlying39 (by kernel_rfl) rfl rfl rfl Nat.zero_lt_one) ?_
 intro a hA
 refine qa hA rfl rfl rfl (m_loadES hM 0 rfl JcI_isS_81 (cs := [.string ((⟨#[112, 58]⟩ ++ ⟨#[120]⟩)), .string (⟨#[121]⟩)]) rfl rfl rfl) ?_
 intro a hA
 refine qa (v := .agg #[.string (⟨#[112, 58, 120]⟩), .string (⟨#[121]⟩)]) hA rfl rfl rfl (xr rfl (fun w => by kernel_rfl)) ?_
 intro a hA
 refine qa (v := .bool true) hA rfl rfl rfl (qg rfl rfl (fun w => by kernel_rfl)) ?_
 intro a hA
 refine qa (v := .bool true) hA rfl rfl rfl (ql rfl rfl rfl rfl) ?_
 intro a hA
 refine qa hA rfl rfl rfl (qb rfl) ?_
 intro a hA
 refine qf ?_
 refine hK13 _ _ ?_
 refine wp_ret ?_
 refine hret _ _ ?_
 refine za (v := .bool true) hA rfl (.cons (qk rfl) .nil) rfl ?_
 exact ⟨rfl, hM.bel⟩
end Go.Proofs.YtoopkbedjbnhhaaGreatDoor.G
namespace Go.Proofs.YtoopkbedjbnhhaaGreatDoor.G
open Go.RowKit
set_option maxRecDepth 100000
theorem JcP_isS_30 : IsS Tryz.prog 30 11 := ⟨⟨_, Tryz.underlying30⟩, by kernel_rfl⟩
theorem rversion_any {w : World} {n : Nat} {t : Dt} {l : List Int} {sv : Option Addr} {cv : Nat} (ht : t.rd w) (hb : t.tr.bulk ≤ n) (hn : n ≤ 4000000) (hv : Rc w sv (izC l)) (hll : l.length ≤ 2000000) : Calls Tryz.prog 14 #[.slice sv l.length cv, .agg (t.d.cells t.ts.length).toArray] w fun e w' => e = .returned (.tuple #[.bool (qeg n l t.tr).1, .int .i64 (qeg n l t.tr).2]) ∧ Below w.heap.size w w' := by
 have hM : Mg w w ([]) := Mg.start w
 refine qz (l := [(0, .slice sv l.length cv), (1, .agg (t.d.cells t.ts.length).toArray)]) Tryz.func14 rfl Tryz.ntmps14 rfl rfl ?_
 intro Q hret hnorm hP a hA
 refine wp_seq_k (fun K1 hK1 => ?_)
 refine wp_region_lit ?_
 refine jk (vs := (t.d.cells t.ts.length)) (t := 30) hA hM rfl rfl rfl (fun g => .pointer (some ⟨g, 0, none⟩)) (zg rfl rfl) (by decide) ?_
 intro g2 w3 hM a hA
 refine qa hA rfl rfl rfl (qb rfl) ?_
 intro a hA
 refine qa hA rfl rfl rfl (qb rfl) ?_
 intro a hA
 refine qf ?_
 refine hK1 _ _ ?_
 refine wp_seq_k (fun K4 hK4 => ?_)
 refine wp_seq_k (fun K5 hK5 => ?_)
 refine wp_region_lit ?_
 refine qa hA rfl rfl rfl (ja hM JcP_isS_30 rfl 0 rfl (cs := (t.d.cells t.ts.length)) rfl rfl) ?_
 intro a hA
 rcases Bool.eq_false_or_eq_true (ve zp t.tr) with hb6 | hb6
 · refine qm hA rfl rfl rfl (qh rfl rfl (fun w => by kernel_rfl)) ((hb6 ▸ rsound_any (t := t) (Dt.keep hM.bel _ ht) (by omega))) ?_
   rintro _ w8 ⟨rfl, hb7⟩
   replace hM := hM.call hb7
   refine ⟨_, rfl, ?_⟩
   intro a hA
   refine qa (v := .bool false) hA rfl rfl rfl (qp rfl qt) ?_
   intro a hA
   refine qf ?_
   refine hK5 _ _ ?_
   refine wp_cond_false (hA.ev rfl) ?_
   refine wp_skip ?_
   refine hK4 _ _ ?_
   refine wp_seq_k (fun K9 hK9 => ?_)
   refine wp_seq_k (fun K10 hK10 => ?_)
   refine wp_region_lit ?_
   refine qa hA rfl rfl rfl (ja hM JcP_isS_30 rfl 0 rfl (cs := (t.d.cells t.ts.length)) rfl rfl) ?_
   intro a hA
   rcases Bool.eq_false_or_eq_true ((jj n t.tr).isSome) with hb11 | hb11
   · refine qm hA rfl rfl rfl (qh rfl rfl (fun w => by kernel_rfl)) (qlg n hn hM.bel ht (ug hb6) hb hb11) ?_
     rintro _ w13 ⟨rfl, hb12⟩
     replace hM := hM.call hb12
     refine ⟨_, rfl, ?_⟩
     intro a hA
     refine qa (v := .bool false) hA rfl rfl rfl (qp rfl qt) ?_
     intro a hA
     refine qf ?_
     refine hK10 _ _ ?_
     refine wp_cond_false (hA.ev rfl) ?_
     refine wp_skip ?_
     refine hK9 _ _ ?_
     refine wp_seq_k (fun K14 hK14 => ?_)
     refine wp_seq_k (fun K15 hK15 => ?_)
     refine wp_region_lit ?_
     refine qa hA rfl rfl rfl (qe rfl) ?_
     intro a hA
     rcases Bool.eq_false_or_eq_true (l.any vf) with hb16 | hb16
     · refine qm hA rfl rfl rfl (qh rfl rfl (fun w => by kernel_rfl)) ((show Calls Tryz.prog 40 #[.slice sv l.length cv] _ (fun e w' => e = .returned (.bool false) ∧ Below _ _ w') from (by have h9 := rgood_any (cv := cv) (hv.below hM.bel) hll; rw [hb16] at h9; exact h9))) ?_
       rintro _ w18 ⟨rfl, hb17⟩
       replace hM := hM.call hb17
       refine ⟨_, rfl, ?_⟩
       intro a hA
       refine qa (v := .bool true) hA rfl rfl rfl (qp rfl qt) ?_
       intro a hA
       refine qf ?_
       refine hK15 _ _ ?_
       refine wp_cond_true (hA.ev rfl) ?_
       refine wp_seq_k (fun K19 hK19 => ?_)
       refine wp_region_lit ?_
       refine qa hA rfl rfl rfl (qb rfl) ?_
       intro a hA
       refine qa hA rfl rfl rfl (qb rfl) ?_
       intro a hA
       refine qf ?_
       refine hK19 _ _ ?_
       refine wp_ret ?_
       refine hret _ _ ?_
       refine za (v := .tuple #[.bool false, .int .i64 1]) hA rfl (.cons (qk rfl) (.cons (qk rfl) .nil)) rfl ?_
       obtain ⟨p9, hp9⟩ := Option.isSome_iff_exists.1 hb11
       exact ⟨by rw [ver_arg hb6 hp9 hb16], hM.bel⟩
     · refine qm hA rfl rfl rfl (qh rfl rfl (fun w => by kernel_rfl)) ((show Calls Tryz.prog 40 #[.slice sv l.length cv] _ (fun e w' => e = .returned (.bool true) ∧ Below _ _ w') from (by have h9 := rgood_any (cv := cv) (hv.below hM.bel) hll; rw [hb16] at h9; exact h9))) ?_
       rintro _ w21 ⟨rfl, hb20⟩
       replace hM := hM.call hb20
       refine ⟨_, rfl, ?_⟩
       intro a hA
       refine qa (v := .bool false) hA rfl rfl rfl (qp rfl qt) ?_
       intro a hA
       refine qf ?_
       refine hK15 _ _ ?_
       refine wp_cond_false (hA.ev rfl) ?_
       refine wp_skip ?_
       refine hK14 _ _ ?_
       refine wp_seq_k (fun K22 hK22 => ?_)
       refine wp_region_lit ?_
       refine qa hA rfl rfl rfl (qe rfl) ?_
       intro a hA
       refine qa hA rfl rfl rfl (ja hM JcP_isS_30 rfl 0 rfl (cs := (t.d.cells t.ts.length)) rfl rfl) ?_
       intro a hA
       refine qm hA rfl rfl rfl (qh rfl rfl (fun w => by kernel_rfl)) (rfits_all n hn hM.bel ht (ug hb6) hb hv hll hb11 rfl) ?_
       rintro _ w24 ⟨rfl, hb23⟩
       replace hM := hM.call hb23
       refine ⟨_, rfl, ?_⟩
       intro a hA
       refine qa hA rfl rfl rfl (qb rfl) ?_
       intro a hA
       refine qa hA rfl rfl rfl (qb rfl) ?_
       intro a hA
       refine qf ?_
       refine hK22 _ _ ?_
       refine wp_ret ?_
       refine hret _ _ ?_
       refine za (v := .tuple #[.bool (vF (jj n t.tr) l), .int .i64 0]) hA rfl (.cons (qk rfl) (.cons (qk rfl) .nil)) rfl ?_
       obtain ⟨p9, hp9⟩ := Option.isSome_iff_exists.1 hb11
       exact ⟨by rw [ver_ok hb6 hp9 hb16, hp9]; rfl, hM.bel⟩
   · refine qm hA rfl rfl rfl (qh rfl rfl (fun w => by kernel_rfl)) (qlg n hn hM.bel ht (ug hb6) hb hb11) ?_
     rintro _ w26 ⟨rfl, hb25⟩
     replace hM := hM.call hb25
     refine ⟨_, rfl, ?_⟩
     intro a hA
     refine qa (v := .bool true) hA rfl rfl rfl (qp rfl qt) ?_
     intro a hA
     refine qf ?_
     refine hK10 _ _ ?_
     refine wp_cond_true (hA.ev rfl) ?_
     refine wp_seq_k (fun K27 hK27 => ?_)
     refine wp_region_lit ?_
     refine qa hA rfl rfl rfl (qb rfl) ?_
     intro a hA
     refine qa hA rfl rfl rfl (qb rfl) ?_
     intro a hA
     refine qf ?_
     refine hK27 _ _ ?_
     refine wp_ret ?_
     refine hret _ _ ?_
     refine za (v := .tuple #[.bool false, .int .i64 12]) hA rfl (.cons (qk rfl) (.cons (qk rfl) .nil)) rfl ?_
     exact ⟨by rw [ver_forms hb6 (vm hb11)], hM.bel⟩
 · refine qm hA rfl rfl rfl (qh rfl rfl (fun w => by kernel_rfl)) ((hb6 ▸ rsound_any (t := t) (Dt.keep hM.bel _ ht) (by omega))) ?_
   rintro _ w29 ⟨rfl, hb28⟩
   replace hM := hM.call hb28
   refine ⟨_, rfl, ?_⟩
   intro a hA
   refine qa (v := .bool true) hA rfl rfl rfl (qp rfl qt) ?_
   intro a hA
   refine qf ?_
   refine hK5 _ _ ?_
   refine wp_cond_true (hA.ev rfl) ?_
   refine wp_seq_k (fun K30 hK30 => ?_)
   refine wp_region_lit ?_
   refine qa hA rfl rfl rfl (qb rfl) ?_
   intro a hA
   refine qa hA rfl rfl rfl (qb rfl) ?_
   intro a hA
   refine qf ?_
   refine hK30 _ _ ?_
   refine wp_ret ?_
   refine hret _ _ ?_
   refine za (v := .tuple #[.bool false, .int .i64 2]) hA rfl (.cons (qk rfl) (.cons (qk rfl) .nil)) rfl ?_
   exact ⟨by rw [ver_form hb6], hM.bel⟩
theorem version_ex {w : World} {n : Nat} {t : Dt} {l : List Int} {sv : Option Addr} {cv : Nat} (ht : t.rd w) (hb : t.tr.bulk ≤ n) (hn : n ≤ 4000000) (hv : Rc w sv (izC l)) (hll : l.length ≤ 2000000) (hT8 : Tabs8 w) : Calls Tryz.prog 13 #[.slice sv l.length cv, .agg (t.d.cells t.ts.length).toArray] w fun e w' => ∃ b k, qeg n l t.tr = (b, k) ∧ e = .returned (.tuple #[.bool b, .int .i64 k]) ∧ Below w.heap.size w w' :=
  (version_any ht hT8 hb hn hv hll).mono fun e w' h => ⟨_, _, rfl, h.1, h.2⟩
theorem rversion_is {w : World} {n : Nat} {t : Dt} {l : List Int} {sv : Option Addr} {cv : Nat} (ht : t.rd w) (hb : t.tr.bulk ≤ n) (hn : n ≤ 4000000) (hv : Rc w sv (izC l)) (hll : l.length ≤ 2000000) {b : Bool} {k : Int} (h : qeg n l t.tr = (b, k)) : Calls Tryz.prog 14 #[.slice sv l.length cv, .agg (t.d.cells t.ts.length).toArray] w fun e w' => e = .returned (.tuple #[.bool b, .int .i64 k]) ∧ Below w.heap.size w w' := by
  have h9 := rversion_any (cv := cv) ht hb hn hv hll
  rw [h] at h9
  exact h9
theorem versions_any {w : World} {l : List Int} {sv : Option Addr} {cv : Nat} {t : Dt} (hv : Rc w sv (izC l)) (hll : l.length ≤ 2000000) (ht : t.rd w) (hT8 : Tabs8 w) (hb : t.tr.bulk ≤ 1048576) : Calls Tryz.prog 4 #[.slice sv l.length cv, .agg (t.d.cells t.ts.length).toArray] w fun e w' => e = .returned (.bool true) ∧ Below w.heap.size w w' := by
 have hM : Mg w w ([]) := Mg.start w
 refine qz (l := [(0, .slice sv l.length cv), (1, .agg (t.d.cells t.ts.length).toArray)]) Tryz.func4 rfl Tryz.ntmps4 rfl rfl ?_
 intro Q hret hnorm hP a hA
 refine wp_seq_k (fun K1 hK1 => ?_)
 refine wp_region_lit ?_
 refine jk (vs := (t.d.cells t.ts.length)) (t := 30) hA hM rfl rfl rfl (fun g => .pointer (some ⟨g, 0, none⟩)) (zg rfl rfl) (by decide) ?_
 intro g2 w3 hM a hA
 refine qa hA rfl rfl rfl (qb rfl) ?_
 intro a hA
 refine qf ?_
 refine hK1 _ _ ?_
 refine wp_seq_k (fun K4 hK4 => ?_)
 refine wp_region_lit ?_
 refine qa hA rfl rfl rfl (qe rfl) ?_
 intro a hA
 refine qa hA rfl rfl rfl (ja hM JcP_isS_30 rfl 0 rfl (cs := (t.d.cells t.ts.length)) rfl rfl) ?_
 intro a hA
 refine qm hA rfl rfl rfl (qh rfl rfl (fun w => by kernel_rfl)) (version_ex (n := 1048576) (cv := cv) (Dt.keep hM.bel _ ht) hb (by decide) (hv.below hM.bel) hll (hT8.below hM.bel)) ?_
 rintro _ w6 ⟨b9, k9, hver, rfl, hb5⟩
 replace hM := hM.call hb5
 refine ⟨_, rfl, ?_⟩
 intro a hA
 refine qa hA rfl rfl rfl (qe rfl) ?_
 intro a hA
 refine qa (v := .bool b9) hA rfl rfl rfl (qn (vs := [.bool b9, .int .i64 k9]) rfl rfl) ?_
 intro a hA
 refine qa (v := .int .i64 k9) hA rfl rfl rfl (qn (vs := [.bool b9, .int .i64 k9]) rfl rfl) ?_
 intro a hA
 refine qa hA rfl rfl rfl (qb rfl) ?_
 intro a hA
 refine qa hA rfl rfl rfl (qb rfl) ?_
 intro a hA
 refine qf ?_
 refine hK4 _ _ ?_
 refine wp_seq_k (fun K7 hK7 => ?_)
 refine wp_region_lit ?_
 refine qa hA rfl rfl rfl (qe rfl) ?_
 intro a hA
 refine qa hA rfl rfl rfl (ja hM JcP_isS_30 rfl 0 rfl (cs := (t.d.cells t.ts.length)) rfl rfl) ?_
 intro a hA
 refine qm hA rfl rfl rfl (qh rfl rfl (fun w => by kernel_rfl)) (rversion_is (n := 1048576) (cv := cv) (Dt.keep hM.bel _ ht) hb (by decide) (hv.below hM.bel) hll hver) ?_
 rintro _ w9 ⟨rfl, hb8⟩
 replace hM := hM.call hb8
 refine ⟨_, rfl, ?_⟩
 intro a hA
 refine qa hA rfl rfl rfl (qe rfl) ?_
 intro a hA
 refine qa (v := .bool b9) hA rfl rfl rfl (qn (vs := [.bool b9, .int .i64 k9]) rfl rfl) ?_
 intro a hA
 refine qa (v := .int .i64 k9) hA rfl rfl rfl (qn (vs := [.bool b9, .int .i64 k9]) rfl rfl) ?_
 intro a hA
 refine qa hA rfl rfl rfl (qb rfl) ?_
 intro a hA
 refine qa hA rfl rfl rfl (qb rfl) ?_
 intro a hA
 refine qf ?_
 refine hK7 _ _ ?_
 refine wp_seq_k (fun K10 hK10 => ?_)
 refine wp_region_lit ?_
 refine qm hA rfl rfl rfl (qh rfl rfl (fun w => by kernel_rfl)) (awake_any) ?_
 rintro _ w12 ⟨rfl, hb11⟩
 replace hM := hM.call hb11
 refine ⟨_, rfl, ?_⟩
 intro a hA
 refine qa hA rfl rfl rfl (qe rfl) ?_
 intro a hA
 refine qa hA rfl rfl rfl (qe rfl) ?_
 intro a hA
 refine qa hA rfl rfl rfl (qe rfl) ?_
 intro a hA
 refine qa (v := .bool true) hA rfl rfl rfl (qg rfl rfl (fun w => ((bin_eqlB Tryz.underlying4) w).trans (by rw [show ((b9 == b9)) = true from (by simp)]))) ?_
 intro a hA
 refine qa (v := .bool true) hA rfl rfl rfl (ql rfl rfl rfl rfl) ?_
 intro a hA
 refine qa hA rfl rfl rfl (qe rfl) ?_
 intro a hA
 refine qa hA rfl rfl rfl (qe rfl) ?_
 intro a hA
 refine qa hA rfl rfl rfl (qe rfl) ?_
 intro a hA
 refine qa (v := .bool true) hA rfl rfl rfl (qg rfl rfl (fun w => (qx w).trans (by rw [show ((k9 == k9)) = true from (by simp)]))) ?_
 intro a hA
 refine qa (v := .bool true) hA rfl rfl rfl (ql rfl rfl rfl rfl) ?_
 intro a hA
 refine qa hA rfl rfl rfl (qb rfl) ?_
 intro a hA
 refine qf ?_
 refine hK10 _ _ ?_
 refine wp_ret ?_
 refine hret _ _ ?_
 refine za (v := .bool true) hA rfl (.cons (qk rfl) .nil) rfl ?_
 exact ⟨rfl, hM.bel⟩
end Go.Proofs.YtoopkbedjbnhhaaGreatDoor.G
namespace Go.Proofs.YtoopkbedjbnhhaaGreatDoor

section
variable {H : Type}
theorem bulk_pos (d : DataW H) : 0 < Rows.uptoBulk d := by
  unfold Rows.uptoBulk
  split <;> omega
theorem bulk_len : ∀ l : List (DataW H), l.length ≤ Rows.uptoBulkAll l
  | [] => by simp
  | d :: l => by
    have h1 := bulk_pos d
    have h2 := bulk_len l
    simp only [Rows.uptoBulkAll, List.length_cons]
    omega
theorem qmb (xs ys : List (DataW H)) : xs.length ≤ Rows.uptoBulk (.slice xs ys) := by
  have := bulk_len xs
  simp only [Rows.uptoBulk]
  omega
theorem bulk_in {d : DataW H} : ∀ {l : List (DataW H)}, d ∈ l → Rows.uptoBulk d ≤ Rows.uptoBulkAll l
  | c :: l, h => by
    simp only [Rows.uptoBulkAll]
    rcases List.mem_cons.1 h with rfl | h
    · omega
    · have := bulk_in h
      omega
theorem bulk_at {l : List (DataW H)} (hk : Rows.uptoSmall H l = true) {j : Nat} {d : DataW H} (hd : l[j]? = some d) : Rows.uptoBulk d ≤ 1048576 :=
  Nat.le_trans (bulk_in (List.mem_of_getElem? hd)) (of_decide_eq_true hk)
end
end Go.Proofs.YtoopkbedjbnhhaaGreatDoor
namespace Go.Proofs.YtoopkbedjbnhhaaGreatDoor.G
open Go.ChangeShapes Go.WideShapes Go.ChangeAt Go.RowKit Go.Joins Go.Deep
set_option maxRecDepth 100000

section
variable {H : Type} {enc : TypeId × Value → H} {W : World}
end
end Go.Proofs.YtoopkbedjbnhhaaGreatDoor.G
namespace Go.Proofs.YtoopkbedjbnhhaaGreatDoor.G
open Go.ChangeShapes Go.WideShapes Go.ChangeAt Go.RowKit Go.Joins Go.Deep
set_option maxRecDepth 100000

theorem bytes_row {w : World} {x : Addr} {len cap : Nat} {zs : List Int} (hl : len ≤ cap) (hz : zs.length = cap)
    (hc : ∀ i, i < zs.length → w.cell? (x.add i) = some (.int .u8 (zs.getD i 0))) (hw : ∀ n ∈ zs, (Lit.int .u8 n).wf = true) :
    ∃ l : List UInt8, l.length = len ∧ Rb w (some x) l := by
  have hbd : ∀ n ∈ zs, 0 ≤ n ∧ n < 256 := by
    intro n hn
    have := bounds_u8 (hw n hn)
    omega
  refine ⟨(zs.take len).map b8, by rw [List.length_map, List.length_take]; omega, ⟨fun hne => ?_⟩⟩
  have hlen : ((zs.take len).map b8).length = len := by rw [List.length_map, List.length_take]; omega
  have h0 : 0 < len := by
    apply Classical.byContradiction
    intro h
    have : len = 0 := by omega
    subst this
    simp at hne
  obtain ⟨b, off, spot⟩ := x
  have hspot : spot = none := by
    have := hc 0 (by omega)
    simp only [World.cell?, Addr.add] at this
    split at this
    · cases spot with
      | none => rfl
      | some s => simp at this
    · cases this
  subst hspot
  have hcj : ∀ j, j < len → w.cell? ⟨b, off + j, none⟩ = some (.int .u8 (((((zs.take len).map b8).getD j 0).toNat : Nat) : Int)) := by
    intro j hj
    have h1 := hc j (by omega)
    rw [Addr.add_lit] at h1
    rw [h1]
    have hjz : j < zs.length := by omega
    have h2 := hbd zs[j] (List.getElem_mem hjz)
    have e1 : zs.getD j 0 = zs[j] := by simp [hjz]
    have e2 : ((zs.take len).map b8).getD j 0 = b8 zs[j] := by simp [List.getD_eq_getElem?_getD, hj, hjz]
    rw [e1, e2, b8_val h2.1 h2.2]
  refine ⟨b, off, rfl, ?_, fun j hj => hcj j (by omega)⟩
  have := hcj 0 h0
  apply Classical.byContradiction
  intro h
  simp [World.cell?, Array.getElem?_eq_none (Nat.le_of_not_lt h)] at this
section
variable {H : Type} {enc : TypeId × Value → H} {W : World}
end
theorem Rb.take {w : World} {so : Option Addr} {l : List UInt8} (h : Rb w so l) (n : Nat) : Rb w so (l.take n) := by
  refine ⟨fun hne => ?_⟩
  obtain ⟨b, off, h1, h2, h3⟩ := h.pos (fun k => hne (by rw [k]; simp))
  refine ⟨b, off, h1, h2, fun j hj => ?_⟩
  rw [List.length_take] at hj
  rw [h3 j (by omega), List.getD_eq_getElem?_getD, List.getD_eq_getElem?_getD, List.getElem?_take_of_lt (by omega)]
section
variable {P : Program} {w : World} {l : List (Nat × Value)} {dst : Option Tmp} {ty : TypeId} {pos : String} {after : Array Edge} {guard : Option (Nat × Bool)}
end
end Go.Proofs.YtoopkbedjbnhhaaGreatDoor.G
namespace Go.Proofs.YtoopkbedjbnhhaaGreatDoor.G
open Go.ChangeShapes Go.WideShapes Go.ChangeAt Go.RowKit Go.Joins Go.Deep
set_option maxRecDepth 100000

def Nu.cells (y : Nu) : List Value := [.bool y.q.b1, .slice y.o1 y.q.t1.length y.c1, .slice y.o2 y.q.q1.length y.c2, .bool y.q.b2, .slice y.o3 y.q.t2.length y.c3, .slice y.o4 y.q.q2.length y.c4]
theorem cellD_lt {w : World} {b o : Nat} {v : Value} (h : w.cell? ⟨b, o, none⟩ = some v) : b < w.heap.size := by
  apply Classical.byContradiction
  intro k
  simp [World.cell?, Array.getElem?_eq_none (Nat.le_of_not_lt k)] at h
section
variable {H : Type} {enc : TypeId × Value → H} {W : World}
theorem qmc (l : List (DataW H)) : Rows.uptoBulk (.agg l) = Rows.uptoBulkAll l + 1 := by simp only [Rows.uptoBulk]
theorem trodU_bytes {fuel : Nat} {v : Value} {x : DataW H × List MemPlace} (h : DataW.trod enc Tryz.prog W 0 (fun _ => true) true fuel 27 [v] = some x) : ∃ so cap l, v = .slice so (l : List UInt8).length cap ∧ Rb W so l ∧ l.length ≤ cap ∧ cap ≤ 9223372036854775807 ∧ l.length ≤ Rows.uptoBulk x.1 := by
  rcases open_ints Tryz.underlying27 Tryz.underlying5 (by kernel_rfl) h with ⟨hcs, _⟩ | ⟨x, l, c, zs, hcs, _, hl, hm, hz, hx, hcell, hwz⟩
  · simp only [List.cons.injEq, and_true] at hcs
    subst hcs
    exact ⟨none, 0, [], rfl, ⟨fun k => absurd rfl k⟩, Nat.le_refl _, by decide, Nat.zero_le _⟩
  · simp only [List.cons.injEq, and_true] at hcs
    subst hcs
    obtain ⟨us, e, ha⟩ := bytes_row hl (by simpa using hz) hcell hwz
    subst e
    subst hx
    refine ⟨_, _, us, rfl, ha, hl, hm, ?_⟩
    simp only [if_true] at hz
    refine Nat.le_trans ?_ (qmb _ _)
    simp only [lits, List.length_map, List.length_take, List.length_drop]
    omega
theorem qgi {fuel : Nat} {v : Value} {x : DataW H × List MemPlace} (h : DataW.trod enc Tryz.prog W 0 (fun _ => true) true fuel 22 [v] = some x) : ∃ ao c l, v = .slice ao (l : List Nat).length c ∧ Arg W ao c l ∧ l.length ≤ Rows.uptoBulk x.1 := by
  rcases open_ints Tryz.underlying22 Tryz.underlying161 (by kernel_rfl) h with ⟨hcs, _⟩ | ⟨x, l, c, zs, hcs, _, hl, hm, hz, hx, hcell, hwz⟩
  · cases hcs
    exact ⟨none, 0, [], rfl, arg_nil W, Nat.zero_le _⟩
  · cases hcs
    obtain ⟨us, e, ha⟩ := arg_row hl hm (by simpa using hz) hcell hwz
    subst e
    subst hx
    refine ⟨_, _, us, rfl, ha, ?_⟩
    simp only [if_true] at hz
    refine Nat.le_trans ?_ (qmb _ _)
    simp only [lits, List.length_map, List.length_take, List.length_drop]
    omega
theorem trodU_rat {fuel : Nat} {v0 v1 v2 : Value} {x : DataW H × List MemPlace} (h : DataW.trod enc Tryz.prog W 0 (fun _ => true) true fuel 24 [v0, v1, v2] = some x) : ∃ b o1 c1 l1 o2 c2 l2, v0 = .bool b ∧ v1 = .slice o1 (l1 : List Nat).length c1 ∧ v2 = .slice o2 (l2 : List Nat).length c2 ∧ Arg W o1 c1 l1 ∧ Arg W o2 c2 l2 ∧ l1.length + l2.length ≤ Rows.uptoBulk x.1 := by
  obtain ⟨y0, y1, y2, n, hx, _, h0, h1, h2⟩ := trod_struct3 Tryz.underlying24 h
  have e0 : Tryz.prog.cellsOf 4 = 1 := by kernel_rfl
  have e1 : Tryz.prog.cellsOf 22 = 1 := by kernel_rfl
  simp only [e0, e1, List.drop_zero, List.take_succ_cons, List.take_zero, List.drop_succ_cons] at h0 h1 h2
  obtain ⟨b, rfl⟩ := trod_bool h0
  obtain ⟨o1, c1, l1, rfl, a1, k1⟩ := qgi h1
  obtain ⟨o2, c2, l2, rfl, a2, k2⟩ := qgi h2
  refine ⟨b, o1, c1, l1, o2, c2, l2, rfl, rfl, rfl, a1, a2, ?_⟩
  rw [hx, qmc]
  simp only [Rows.uptoBulkAll]
  omega
theorem trodU_num {fuel : Nat} {cs : List Value} {x : DataW H × List MemPlace} (hl : cs.length = 6) (h : DataW.trod enc Tryz.prog W 0 (fun _ => true) true fuel 26 cs = some x) :
    ∃ y : Nu, cs = y.cells ∧ y.nm W ∧ LenQ y.q ∧ y.q.t1.length + y.q.q1.length + (y.q.t2.length + y.q.q2.length) ≤ Rows.uptoBulk x.1 := by
  match cs, hl with
  | [v0, v1, v2, v3, v4, v5], _ =>
    obtain ⟨y0, y1, n, hx, _, h0, h1⟩ := trod_struct2 Tryz.underlying26 h
    have e : Tryz.prog.cellsOf 24 = 3 := by kernel_rfl
    simp only [e, List.drop_zero, List.take_succ_cons, List.take_zero, List.drop_succ_cons] at h0 h1
    obtain ⟨b1, o1, c1, l1, o2, c2, l2, rfl, rfl, rfl, a1, a2, k1⟩ := trodU_rat h0
    obtain ⟨b2, o3, c3, l3, o4, c4, l4, rfl, rfl, rfl, a3, a4, k2⟩ := trodU_rat h1
    refine ⟨⟨⟨b1, l1, l2, b2, l3, l4⟩, o1, c1, o2, c2, o3, c3, o4, c4⟩, rfl, ⟨⟨a1.rd, a1.nil, a1.caps⟩, ⟨a2.rd, a2.nil, a2.caps⟩, ⟨a3.rd, a3.nil, a3.caps⟩, ⟨a4.rd, a4.nil, a4.caps⟩⟩, ⟨a1.len, a2.len, a3.len, a4.len⟩, ?_⟩
    rw [hx, qmc]
    simp only [Rows.uptoBulkAll]
    omega
def OpenD (H : Type) (enc : TypeId × Value → H) (W : World) (fuel : Nat) : Prop := ∀ (cs : List Value) (x : DataW H × List MemPlace), DataW.trod enc Tryz.prog W 0 (fun _ => true) true fuel 30 cs = some x → ∃ t : Dt, cs = t.cells ∧ t.rd W ∧ t.tr.bulk ≤ Rows.uptoBulk x.1
theorem trodU_data {fuel : Nat} {v : Value} {x : DataW H × List MemPlace} (ih : ∀ n, n < fuel → OpenD H enc W n) (h : DataW.trod enc Tryz.prog W 0 (fun _ => true) true fuel 28 [v] = some x) :
    ∃ lo lc ts, v = .slice lo (ts : List Dt).length lc ∧ ts.length ≤ lc ∧ lc ≤ 9223372036854775807 ∧ Rt W lo ts ∧ (∀ t ∈ ts, t.rd W) ∧ Tr.bulks (ts.map Dt.tr) ≤ Rows.uptoBulk x.1 := by
  rcases DataW.trod_slice Tryz.underlying28 h with ⟨hcs, _⟩ | ⟨a, len, cap, elems, rest, n, hf, hcs, hx, _, hl, hm, hlen, hel, _, _⟩
  · simp only [List.cons.injEq, and_true] at hcs
    subst hcs
    exact ⟨none, 0, [], rfl, Nat.le_refl _, by decide, fun k => absurd rfl k, fun _ k => by simp at k, Nat.zero_le _⟩
  · simp only [List.cons.injEq, and_true] at hcs
    subst hcs
    rw [show Tryz.prog.cellsOf 30 = 11 from by kernel_rfl] at hel
    have each : ∀ i, ∃ t : Dt, i < len → t.rd W ∧ (∀ j v, t.cells[j]? = some v → W.cell? ((a.add (i * 11)).add j) = some v) ∧ ∃ y, elems[i]? = some y ∧ t.tr.bulk ≤ Rows.uptoBulk y.1 := by
      intro i
      by_cases hi : i < len
      · have h1 := hel i hi
        rw [List.getElem?_eq_getElem (by omega)] at h1
        obtain ⟨cs, h2, h3⟩ := Option.bind_eq_some_iff.1 h1
        obtain ⟨_, hlc, hcell⟩ := World.cells?_some h2
        obtain ⟨t, rfl, hr, hb⟩ := ih n (by omega) cs _ h3
        exact ⟨t, fun _ => ⟨hr, fun j v hj => by rw [hcell j (by have := (List.getElem?_eq_some_iff.1 hj).1; rw [hlc] at this; exact this)]; exact hj, _, List.getElem?_eq_getElem (by omega), hb⟩⟩
      · exact ⟨.mk ⟨0, 0, ⟨⟨false, [], [], false, [], []⟩, none, 0, none, 0, none, 0, none, 0⟩, ⟨#[]⟩, none, 0, [], none, 0⟩ [], fun k => absurd k hi⟩
    obtain ⟨F, hF⟩ := Classical.skolem.1 each
    have hget : ∀ (j : Nat) (q : Dt), ((List.range len).map F)[j]? = some q → j < len ∧ q = F j := by
      intro j q hq
      rw [List.getElem?_map] at hq
      obtain ⟨y, h1, h2⟩ := Option.map_eq_some_iff.1 hq
      obtain ⟨h3, h4⟩ := List.getElem?_eq_some_iff.1 h1
      rw [List.length_range] at h3
      rw [List.getElem_range] at h4
      subst h4
      exact ⟨h3, h2.symm⟩
    refine ⟨some a, cap, (List.range len).map F, by simp, by simpa using hl, hm, fun hne => ?_, fun t ht => ?_, ?_⟩
    · have hn : 0 < len := by
        apply Classical.byContradiction
        intro k
        exact hne (by rw [show len = 0 from by omega]; rfl)
      obtain ⟨b, off, spot⟩ := a
      have h0 := (hF 0 hn).2.1 0 _ rfl
      have hspot : spot = none := by simpa [Addr.add] using World.cell?_spot h0
      subst hspot
      refine ⟨b, off, rfl, fun i t hi => ?_⟩
      obtain ⟨hlt, rfl⟩ := hget i t hi
      have hat : ∀ j v, (F i).cells[j]? = some v → W.cell? ⟨b, off + i * 11 + j, none⟩ = some v := fun j v hj => by
        have := (hF i hlt).2.1 j v hj
        rwa [Addr.add_lit, Addr.add_lit] at this
      exact ⟨cellD_lt (hat 0 _ rfl), hat⟩
    · obtain ⟨j, hj⟩ := List.mem_iff_getElem?.1 ht
      obtain ⟨h1, rfl⟩ := hget j t hj
      exact (hF j h1).1
    · rw [hx]
      have key : ∀ m, m ≤ len → Tr.bulks (((List.range m).map F).map Dt.tr) ≤ Rows.uptoBulkAll ((elems.map (·.1)).take m) := by
        intro m
        induction m with
        | zero => intro _; simp [Tr.bulks]
        | succ m ih2 =>
          intro hm2
          have hs : ∀ (l : List Tr) (t : Tr), Tr.bulks (l ++ [t]) = Tr.bulks l + t.bulk := by
            intro l t
            induction l with
            | nil => simp [Tr.bulks]
            | cons u l ih3 => simp only [List.cons_append, Tr.bulks, ih3]; omega
          have hu : ∀ (l : List (DataW H)) (d : DataW H), Rows.uptoBulkAll (l ++ [d]) = Rows.uptoBulkAll l + Rows.uptoBulk d := by
            intro l d
            induction l with
            | nil => simp [Rows.uptoBulkAll]
            | cons u l ih3 => simp only [List.cons_append, Rows.uptoBulkAll, ih3]; omega
          obtain ⟨_, _, y, hy, hb⟩ := hF m (by omega)
          have := ih2 (by omega)
          rw [List.range_succ, List.map_append, List.map_append, List.take_add_one, List.getElem?_map, hy]
          simp only [List.map_cons, List.map_nil, Option.map_some, Option.toList_some]
          rw [hs, hu]
          omega
      have h1 := key len (Nat.le_refl _)
      rw [List.take_of_length_le (by rw [List.length_map]; omega)] at h1
      simp only [Rows.uptoBulk]
      omega
theorem open_dt : ∀ fuel, OpenD H enc W fuel := by
  intro fuel
  induction fuel using Nat.strongRecOn with
  | ind fuel ih =>
    intro cs x h
    obtain ⟨xs, n, hfu, hx, hl, hxl, hf⟩ := DataW.trod_struct Tryz.underlying30 h
    rw [show Tryz.prog.cellsOf 30 = 11 from by kernel_rfl] at hl
    match cs, hl with
    | [v0, v1, v2, v3, v4, v5, v6, v7, v8, v9, v10], _ =>
      match xs, hxl with
      | [x0, x1, x2, x3, x4, x5], _ =>
        have g0 := hf 0 _ rfl
        have g1 := hf 1 _ rfl
        have g2 := hf 2 _ rfl
        have g3 := hf 3 _ rfl
        have g4 := hf 4 _ rfl
        have g5 := hf 5 _ rfl
        have c1 : Tryz.prog.cellsOf 3 = 1 := by kernel_rfl
        have c2 : Tryz.prog.cellsOf 26 = 6 := by kernel_rfl
        have c3 : Tryz.prog.cellsOf 9 = 1 := by kernel_rfl
        have c4 : Tryz.prog.cellsOf 27 = 1 := by kernel_rfl
        have c5 : Tryz.prog.cellsOf 28 = 1 := by kernel_rfl
        simp only [c1, c2, c3, c4, c5, List.drop_zero, List.take_succ_cons, List.take_zero, List.drop_succ_cons, List.getElem?_cons_zero, List.getElem?_cons_succ] at g0 g1 g2 g3 g4 g5
        obtain ⟨k, e0, _, w0⟩ := DataW.trod_int Tryz.underlying3 g0
        obtain ⟨m, e1, _, w1⟩ := DataW.trod_int Tryz.underlying3 g1
        obtain ⟨y, e2, hy, hq, b2⟩ := trodU_num rfl g2
        obtain ⟨s, e3, hs, hsm⟩ := DataW.trod_string Tryz.underlying9 g3
        obtain ⟨ro, rc, rl, e4, hr, hrc, hrm, b4⟩ := trodU_bytes g4
        obtain ⟨lo, lc, ts, e5, hlc, hlm, hrt, hrd, b5⟩ := trodU_data (fun n' hn' => ih n' (by omega)) g5
        have bk := bounds_i64 w0
        have bm := bounds_i64 w1
        refine ⟨.mk ⟨k, m, y, s, ro, rc, rl, lo, lc⟩ ts, ?_, ?_, ?_⟩
        · injection e0 with f0
          injection e1 with f1
          injection e3 with f3
          injection e2 with e20 g
          injection g with e21 g
          injection g with e22 g
          injection g with e23 g
          injection g with e24 g
          injection g with e25 g
          subst f0 f1 f3 e4 e5 e20 e21 e22 e23 e24 e25
          rfl
        · rw [Dt.rd_iff]
          exact ⟨⟨hy, hq, hr, hrc, hrm, bk.1, bk.2, bm.1, bm.2, hsm⟩, hlc, hlm, hrt, hrd⟩
        · rw [Dt.tr_mk, qai, hx, qmc]
          have h3 : Rows.uptoBulk x3.1 = s.size + 1 := by
            rw [hs]
            rw [show Rows.uptoBulk (DataW.lit (H := H) (.string s.data.toList)) = s.data.toList.length + 1 from by simp only [Rows.uptoBulk], Array.length_toList]
            rfl
          simp only [List.map_cons, List.map_nil, Rows.uptoBulkAll]
          have := bulk_pos x0.1
          omega
theorem open_datum {base : Nat} {v : Value} {d : DataW H} {p : List MemPlace} (hv : Value.okWide Tryz.prog W .any base 30 v) (h : DataW.Trod enc Tryz.prog W 0 (fun _ => true) true 30 v d p) :
    ∃ t : Dt, v = .agg t.cells.toArray ∧ t.rd W ∧ t.tr.bulk ≤ Rows.uptoBulk d := by
  obtain ⟨cs, rfl, hsz⟩ := okWide_struct Tryz.underlying30 hv
  obtain ⟨fuel, hf⟩ := h
  obtain ⟨t, e, hr, hb⟩ := open_dt fuel _ _ hf
  refine ⟨t, ?_, hr, hb⟩
  rw [← e]
  rfl
end
end Go.Proofs.YtoopkbedjbnhhaaGreatDoor.G
namespace Go.Proofs.YtoopkbedjbnhhaaGreatDoor.G
open Go.ChangeShapes Go.WideShapes Go.ChangeAt Go.RowKit Go.Joins Go.Deep
set_option maxRecDepth 100000
theorem row_ofI {w : World} {x : Addr} {vs : List Value} (hc : ∀ (i : Nat) v, vs[i]? = some v → w.cell? (x.add i) = some v) : Rc w (some x) vs := by
  intro hne
  obtain ⟨v, h0⟩ : ∃ v, vs[0]? = some v := by
    cases vs with
    | nil => exact absurd rfl hne
    | cons v t => exact ⟨v, rfl⟩
  obtain ⟨b, off, spot⟩ := x
  have hspot : spot = none := by
    have h2 := hc 0 v h0
    simp only [World.cell?, Addr.add] at h2
    split at h2
    · cases spot with
      | none => rfl
      | some s => simp at h2
    · cases h2
  subst hspot
  refine ⟨b, off, rfl, fun p u hp => ?_⟩
  have h2 := hc p u hp
  rw [Addr.add_lit] at h2
  exact h2
section
variable {H : Type} {enc : TypeId × Value → H} {W : World}
theorem trodU_ints {fuel : Nat} {v : Value} {y : DataW H × List MemPlace} (hf : DataW.trod enc Tryz.prog W 0 (fun _ => true) true fuel 38 [v] = some y) :
    ∃ so cap l, v = .slice so (l : List Int).length cap ∧ Rc W so (G.izC l) ∧ l.length ≤ Rows.uptoBulk y.1 := by
  rcases DataW.trod_slice Tryz.underlying38 hf with ⟨hcs, _⟩ | ⟨x, len, cap, elems, rest, m, _, hcs, hx, _, hl, hm, hlen, hel, _, _⟩
  · simp at hcs
    subst hcs
    exact ⟨none, 0, [], rfl, fun h => absurd rfl h, Nat.zero_le _⟩
  · simp at hcs
    subst hcs
    subst hx
    have each : ∀ i, ∃ z : Int, i < len → W.cell? (x.add i) = some (.int .i64 z) := by
      intro i
      by_cases hi : i < len
      · have hE := hel i hi
        rw [show Tryz.prog.cellsOf 3 = 1 by kernel_rfl, Nat.mul_one] at hE
        rw [List.getElem?_eq_getElem (by omega), Option.bind_eq_some_iff] at hE
        obtain ⟨c1, hc1, hy1⟩ := hE
        obtain ⟨z, rfl, _⟩ := DataW.trod_int Tryz.underlying3 hy1
        exact ⟨z, fun _ => cell_of_cells?_one hc1⟩
      · exact ⟨0, fun k => absurd k hi⟩
    obtain ⟨F, hF⟩ := Classical.skolem.1 each
    refine ⟨some x, cap, (List.range len).map F, by simp, row_ofI fun i v hi => ?_, ?_⟩
    · have hlt := (List.getElem?_eq_some_iff.1 hi).1
      simp only [G.izC, List.length_map, List.length_range] at hlt
      simp only [G.izC, List.map_map, List.getElem?_map, List.getElem?_range hlt, Option.map_some, Function.comp, Option.some.injEq] at hi
      rw [← hi]
      exact hF i hlt
    · refine Nat.le_trans ?_ (qmb _ _)
      simp only [List.length_map, List.length_range]
      omega
theorem open_intsI {base : Nat} {v : Value} {d : DataW H} {p : List MemPlace} (hv : Value.okWide Tryz.prog W .any base 38 v) (h : DataW.Trod enc Tryz.prog W 0 (fun _ => true) true 38 v d p) :
    ∃ so cap l, v = .slice so (l : List Int).length cap ∧ Rc W so (G.izC l) ∧ l.length ≤ Rows.uptoBulk d := by
  obtain ⟨a, n, c, rfl⟩ := okWide_slice Tryz.underlying38 hv
  obtain ⟨fuel, hf⟩ := h
  obtain ⟨so, cap, l, e, hr, hb⟩ := trodU_ints hf
  exact ⟨so, cap, l, e, hr, hb⟩
end
end Go.Proofs.YtoopkbedjbnhhaaGreatDoor.G
