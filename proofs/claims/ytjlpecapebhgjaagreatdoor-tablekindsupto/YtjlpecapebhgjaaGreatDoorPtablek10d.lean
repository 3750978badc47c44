/- Walks of divMod and DivMod. A walk of DivMod where both answers fit. Numbers that come in as arguments. -/
import Derived.Test.YtjlpecapebhgjaaGreatDoorPtablek10c
import Derived.Test.YtjlpecapebhgjaaGreatDoorArgs
import Derived.WalkKit
import Derived.ProofKit
import Derived.OpenShut
import Derived.ChangeOld
import Derived.Lib.SmallJoins
import Derived.Deep.Strs
namespace Go.Proofs.YtjlpecapebhgjaaGreatDoor
open Go.RowKit
set_option linter.unusedVariables false
set_option linter.unusedSimpArgs false
set_option maxRecDepth 100000
theorem ExQ_is1_31 : Is1 Tryz.prog 31 := ⟨⟨_, Tryz.underlying31, rfl⟩, by kernel_rfl⟩
theorem ExQ_is1_4 : Is1 Tryz.prog 4 := ⟨⟨_, Tryz.underlying4, rfl⟩, by kernel_rfl⟩
theorem ExQ_fld_163_0 : FieldAt Tryz.prog 163 0 0 := ⟨_, _, Tryz.underlying163, rfl, rfl, by kernel_rfl⟩
theorem ExQ_fld_163_1 : FieldAt Tryz.prog 163 1 1 := ⟨_, _, Tryz.underlying163, rfl, rfl, by kernel_rfl⟩
theorem ExQ_fld_165_0 : FieldAt Tryz.prog 165 0 0 := ⟨_, _, Tryz.underlying165, rfl, rfl, by kernel_rfl⟩
theorem ExQ_fld_165_2 : FieldAt Tryz.prog 165 2 4 := ⟨_, _, Tryz.underlying165, rfl, rfl, by kernel_rfl⟩
theorem ExQ_isS_163 : IsS Tryz.prog 163 2 := ⟨⟨_, Tryz.underlying163⟩, by kernel_rfl⟩
theorem ExQ_isS_165 : IsS Tryz.prog 165 5 := ⟨⟨_, Tryz.underlying165⟩, by kernel_rfl⟩
theorem zag {w : World} {x1 y1 x2 y2 : Int} {d1 d2 : Nat} {a1 a2 a3 : Option Addr} {ac1 ac2 ac3 : Nat} (ha1 : Sc w a1 ac1 (words x1.natAbs)) (ha2 : Sc w a2 ac2 (words y1.natAbs)) (ha3 : Sc w a3 ac3 (words d1)) {u1 u2 u3 : Option Addr} {uc1 uc2 uc3 : Nat} (hu1 : Sc w u1 uc1 (words x2.natAbs)) (hu2 : Sc w u2 uc2 (words y2.natAbs)) (hu3 : Sc w u3 uc3 (words d2)) (la1 : (words x1.natAbs).length ≤ 10000) (la2 : (words y1.natAbs).length ≤ 10000) (la3 : (words d1).length ≤ 10000) (lu1 : (words x2.natAbs).length ≤ 10000) (lu2 : (words y2.natAbs).length ≤ 10000) (lu3 : (words d2).length ≤ 10000) (h1 : d1 ≠ 0) (h2 : x2 ≠ 0) : Calls Tryz.prog 144 #[.agg #[.bool (rb x1), .slice a1 (words x1.natAbs).length ac1, .bool (rb y1), .slice a2 (words y1.natAbs).length ac2, .slice a3 (words d1).length ac3], .agg #[.bool (rb x2), .slice u1 (words x2.natAbs).length uc1, .bool (rb y2), .slice u2 (words y2.natAbs).length uc2, .slice u3 (words d2).length uc3]] w (AnsRR w (dmT x1 x2 d1 d2) 1 ((dmR x1 x2 d1 d2 : Nat) : Int) (d1 * d2)) := by
 have k1 := ke la1 (kf lu3)
 have k2 := words_mul_length lu1 la3
 have V : St w w [] [(u3, words d2), (u2, words y2.natAbs), (u1, words x2.natAbs), (a3, words d1), (a2, words y1.natAbs), (a1, words x1.natAbs)] [] := ((((((St.start w).addR ha1.rd).addR ha2.rd).addR ha3.rd).addR hu1.rd).addR hu2.rd).addR hu3.rd
 refine za (l := [(0, .agg #[.bool ((rb x1)), .slice a1 ((words x1.natAbs).length) ac1, .bool ((rb y1)), .slice a2 ((words y1.natAbs).length) ac2, .slice a3 ((words d1).length) ac3]), (1, .agg #[.bool ((rb x2)), .slice u1 ((words x2.natAbs).length) uc1, .bool ((rb y2)), .slice u2 ((words y2.natAbs).length) uc2, .slice u3 ((words d2).length) uc3])]) Tryz.func144 rfl Tryz.ntmps144 rfl rfl ?_
 intro Q hret hnorm hP a A
 refine wsk fun K1 hK1 => wrl (zn A V rfl rfl rfl pg (zb rfl rfl) rfl ?_)
 intro g2 w3 V a A
 refine zn A V rfl rfl rfl pg (zb rfl rfl) rfl ?_
 intro g4 w5 V a A
 refine zn (vs := [.bool false, .slice none 0 0, .bool false, .slice none 0 0, .slice none 0 0]) (t := 165) A V rfl rfl rfl pg (qi (z := .agg #[.bool false, .slice none 0 0, .bool false, .slice none 0 0, .slice none 0 0]) (by kernel_rfl) rfl) rfl ?_
 intro g6 w7 V a A
 refine zn (vs := [.bool false, .slice none 0 0, .bool false, .slice none 0 0, .slice none 0 0]) (t := 165) A V rfl rfl rfl pg (qi (z := .agg #[.bool false, .slice none 0 0, .bool false, .slice none 0 0, .slice none 0 0]) (by kernel_rfl) rfl) rfl ?_
 intro g8 w9 V a A
 refine qa (hK1 _ _ (wsk fun K10 hK10 => ?_))
 have hJ41 : ∀ a w1, (∃ (J32g : Nat) (J33 : Option Addr) (J34 : Nat) (J35 : Option Addr) (J36 : Nat), Sl a 41 [(0, .agg #[.bool ((rb x1)), .slice a1 ((words x1.natAbs).length) ac1, .bool ((rb y1)), .slice a2 ((words y1.natAbs).length) ac2, .slice a3 ((words d1).length) ac3]), (1, .agg #[.bool ((rb x2)), .slice u1 ((words x2.natAbs).length) uc1, .bool ((rb y2)), .slice u2 ((words y2.natAbs).length) uc2, .slice u3 ((words d2).length) uc3]), (2, .pointer (some ⟨g2, 0, none⟩)), (3, .pointer (some ⟨g4, 0, none⟩)), (4, .pointer (some ⟨g6, 0, none⟩)), (5, .pointer (some ⟨g8, 0, none⟩)), (6, .pointer (some ⟨J32g, 0, none⟩)), (7, .slice J33 ((words (dmR x1 x2 d1 d2)).length) J34)] ∧ St w w1 [(J32g, [.bool ((rb (x1 * ((d2 : Nat) : Int) / ((x2.natAbs * d1 : Nat) : Int)))), .slice J35 ((words (x1 * ((d2 : Nat) : Int) / ((x2.natAbs * d1 : Nat) : Int)).natAbs).length) J36]), (g8, [.bool false, .slice none 0 0, .bool false, .slice none 0 0, .slice none 0 0]), (g6, [.bool false, .slice none 0 0, .bool false, .slice none 0 0, .slice none 0 0]), (g4, [.bool ((rb x2)), .slice u1 ((words x2.natAbs).length) uc1, .bool ((rb y2)), .slice u2 ((words y2.natAbs).length) uc2, .slice u3 ((words d2).length) uc3]), (g2, [.bool ((rb x1)), .slice a1 ((words x1.natAbs).length) ac1, .bool ((rb y1)), .slice a2 ((words y1.natAbs).length) ac2, .slice a3 ((words d1).length) ac3])] [(J33, words (dmR x1 x2 d1 d2)), (J35, words (x1 * ((d2 : Nat) : Int) / ((x2.natAbs * d1 : Nat) : Int)).natAbs), (u3, words d2), (u2, words y2.natAbs), (u1, words x2.natAbs), (a3, words d1), (a2, words y1.natAbs), (a1, words x1.natAbs)] [] ∧ (J33 = none → J34 = 0) ∧ (words (dmR x1 x2 d1 d2) : List Nat).length ≤ J34 ∧ (J35 = none → J36 = 0) ∧ (words (x1 * ((d2 : Nat) : Int) / ((x2.natAbs * d1 : Nat) : Int)).natAbs : List Nat).length ≤ J36) → K10 a w1 := by
  clear A V
  rintro a w42 ⟨J32g, J33, J34, J35, J36, A, V, hn37, hc38, hn39, hc40⟩
  refine hK10 _ _ (wsk fun K43 hK43 => wsk fun K44 hK44 => wrl (sdo (v := .pointer (some ⟨g4, 0, none⟩)) A (qb ExQ_fld_165_0 rfl rfl) λa A↦?_))
  refine sdo (v := .pointer (some ⟨g4, 0, none⟩)) A (qb ExQ_fld_163_0 rfl rfl) λa A↦?_
  refine sdo A (qw V ExQ_is1_4 rfl 3 rfl rfl) λa A↦?_
  refine qa (hK44 _ _ ?_)
  refine wp_cond_split (t := (rb x2)) (A.ev rfl) (fun hc45 => ?_) (fun hc45 => ?_)
  ·
   refine wrl (sdo A (zd V ExQ_isS_163 rfl 0 rfl (cs := [.bool ((rb (x1 * ((d2 : Nat) : Int) / ((x2.natAbs * d1 : Nat) : Int)))), .slice J35 ((words (x1 * ((d2 : Nat) : Int) / ((x2.natAbs * d1 : Nat) : Int)).natAbs).length) J36]) rfl rfl) λa A↦?_)
   refine sct A (ef rfl rfl) (qpe ⟨(V.rd 1 rfl), hn39, hc40⟩) ?_
   rintro _ w50 ⟨zo46, zc47, rfl, hs48, hb49⟩
   replace V := V.call hb49
   replace V := V.addR hs48.rd
   refine ⟨_, rfl, ?_⟩
   intro a A
   refine jk (us := [.bool ((rb (-(x1 * ((d2 : Nat) : Int) / ((x2.natAbs * d1 : Nat) : Int))))), .slice zo46 ((words (-(x1 * ((d2 : Nat) : Int) / ((x2.natAbs * d1 : Nat) : Int))).natAbs).length) zc47]) A V rfl rfl (qj rfl rfl rfl (by kernel_rfl) V 0 rfl rfl rfl) 0 rfl rfl rfl rfl ?_
   intro w51 V
   refine qa (hK43 _ _ (wsk fun K52 hK52 => je (S := fun w1 => St w w1 [(J32g, [.bool ((rb (-(x1 * ((d2 : Nat) : Int) / ((x2.natAbs * d1 : Nat) : Int))))), .slice zo46 ((words (-(x1 * ((d2 : Nat) : Int) / ((x2.natAbs * d1 : Nat) : Int))).natAbs).length) zc47]), (g8, [.bool false, .slice none 0 0, .bool false, .slice none 0 0, .slice none 0 0]), (g4, [.bool ((rb x2)), .slice u1 ((words x2.natAbs).length) uc1, .bool ((rb y2)), .slice u2 ((words y2.natAbs).length) uc2, .slice u3 ((words d2).length) uc3]), (g2, [.bool ((rb x1)), .slice a1 ((words x1.natAbs).length) ac1, .bool ((rb y1)), .slice a2 ((words y1.natAbs).length) ac2, .slice a3 ((words d1).length) ac3])] [(zo46, words (-(x1 * ((d2 : Nat) : Int) / ((x2.natAbs * d1 : Nat) : Int))).natAbs), (J33, words (dmR x1 x2 d1 d2)), (J35, words (x1 * ((d2 : Nat) : Int) / ((x2.natAbs * d1 : Nat) : Int)).natAbs), (u3, words d2), (u2, words y2.natAbs), (u1, words x2.natAbs), (a3, words d1), (a2, words y1.natAbs), (a1, words x1.natAbs)] []) (by kernel_rfl) ?_))
   replace V := V.drew
   refine qe A 0 rfl rfl rfl rfl hP (V.partD (cc (cc (cn (cc (cc .slnil))))) 0 rfl (.refl _)) (fun w1 V => zd V ExQ_isS_163 rfl 0 rfl (cs := [.bool ((rb (-(x1 * ((d2 : Nat) : Int) / ((x2.natAbs * d1 : Nat) : Int))))), .slice zo46 ((words (-(x1 * ((d2 : Nat) : Int) / ((x2.natAbs * d1 : Nat) : Int))).natAbs).length) zc47]) rfl rfl) λa A↦?_
   refine qf (by kernel_rfl) (qm A 1 rfl rfl rfl rfl (qg  rfl rfl (fun w => by kernel_rfl)) (wof_any 1 _ (by decide)) ?_)
   rintro _ w57 ⟨ro53, rc54, rfl, ho55, hb56⟩
   replace V := V.call hb56
   replace V := V.addR ho55.rd
   refine ⟨_, rfl, (V.partD (cc (cc (cn (cc (cc .slnil))))) 1 rfl (.refl _)), ?_⟩
   intro a A
   refine qe (v := .agg #[.bool ((rb (-(x1 * ((d2 : Nat) : Int) / ((x2.natAbs * d1 : Nat) : Int))))), .slice zo46 ((words (-(x1 * ((d2 : Nat) : Int) / ((x2.natAbs * d1 : Nat) : Int))).natAbs).length) zc47, .bool false, .slice none 0 0, .slice ro53 ((words 1).length) rc54]) A 2 rfl rfl rfl rfl hP (V.partD (cc (cc (cn (cc (cc .slnil))))) 1 rfl (.refl _)) (fun w1 V => zg rfl (fun w => by kernel_rfl)) λa A↦?_
   refine qf (by kernel_rfl) (qn (us := [.bool ((rb (-(x1 * ((d2 : Nat) : Int) / ((x2.natAbs * d1 : Nat) : Int))))), .slice zo46 ((words (-(x1 * ((d2 : Nat) : Int) / ((x2.natAbs * d1 : Nat) : Int))).natAbs).length) zc47, .bool false, .slice none 0 0, .slice ro53 ((words 1).length) rc54]) A V 3 rfl rfl rfl (qj rfl rfl rfl (by kernel_rfl) V 2 rfl rfl rfl) 2 rfl rfl rfl rfl ?_)
   intro w58 V
   refine ⟨(V.partD (cc (cc (cn (cc (cc .slnil))))) 1 rfl (.refl _)), ?_⟩
   refine qy (by kernel_rfl) ?_
   refine hK52 _ _ (wsk fun K59 hK59 => je (S := fun w1 => St w w1 [(J32g, [.bool ((rb (-(x1 * ((d2 : Nat) : Int) / ((x2.natAbs * d1 : Nat) : Int))))), .slice zo46 ((words (-(x1 * ((d2 : Nat) : Int) / ((x2.natAbs * d1 : Nat) : Int))).natAbs).length) zc47]), (g6, [.bool ((rb (-(x1 * ((d2 : Nat) : Int) / ((x2.natAbs * d1 : Nat) : Int))))), .slice zo46 ((words (-(x1 * ((d2 : Nat) : Int) / ((x2.natAbs * d1 : Nat) : Int))).natAbs).length) zc47, .bool false, .slice none 0 0, .slice ro53 ((words 1).length) rc54]), (g4, [.bool ((rb x2)), .slice u1 ((words x2.natAbs).length) uc1, .bool ((rb y2)), .slice u2 ((words y2.natAbs).length) uc2, .slice u3 ((words d2).length) uc3]), (g2, [.bool ((rb x1)), .slice a1 ((words x1.natAbs).length) ac1, .bool ((rb y1)), .slice a2 ((words y1.natAbs).length) ac2, .slice a3 ((words d1).length) ac3])] [(ro53, words 1), (zo46, words (-(x1 * ((d2 : Nat) : Int) / ((x2.natAbs * d1 : Nat) : Int))).natAbs), (J33, words (dmR x1 x2 d1 d2)), (J35, words (x1 * ((d2 : Nat) : Int) / ((x2.natAbs * d1 : Nat) : Int)).natAbs), (u3, words d2), (u2, words y2.natAbs), (u1, words x2.natAbs), (a3, words d1), (a2, words y1.natAbs), (a1, words x1.natAbs)] []) (by kernel_rfl) ?_)
   replace V := V.drew
   refine qe A 0 rfl rfl rfl rfl hP (V.partD (cc (cn (cc (cc (cc .slnil))))) 0 rfl (.refl _)) (fun w1 V => qz rfl) λa A↦?_
   refine qe (v := .pointer (some ⟨g2, 4, none⟩)) A 2 rfl rfl rfl rfl hP (V.partD (cc (cn (cc (cc (cc .slnil))))) 0 rfl (.refl _)) (fun w1 V => qb ExQ_fld_165_2 rfl rfl) λa A↦?_
   refine qe A 3 rfl rfl rfl rfl hP (V.partD (cc (cn (cc (cc (cc .slnil))))) 0 rfl (.refl _)) (fun w1 V => qw V ExQ_is1_31 rfl 3 rfl rfl) λa A↦?_
   refine qe (v := .pointer (some ⟨g4, 4, none⟩)) A 4 rfl rfl rfl rfl hP (V.partD (cc (cn (cc (cc (cc .slnil))))) 0 rfl (.refl _)) (fun w1 V => qb ExQ_fld_165_2 rfl rfl) λa A↦?_
   refine qe A 5 rfl rfl rfl rfl hP (V.partD (cc (cn (cc (cc (cc .slnil))))) 0 rfl (.refl _)) (fun w1 V => qw V ExQ_is1_31 rfl 2 rfl rfl) λa A↦?_
   refine qf (by kernel_rfl) (qm A 1 rfl rfl rfl rfl (qg  rfl rfl (fun w => by kernel_rfl)) (jq (b := false) (n := dmR x1 x2 d1 d2) (z := ((dmR x1 x2 d1 d2 : Nat) : Int)) ⟨(V.rd 2 rfl), hn37, hc38⟩ rfl) ?_)
   rintro _ w64 ⟨zo60, zc61, rfl, hs62, hb63⟩
   replace V := V.call hb63
   replace V := V.addR hs62.rd
   refine ⟨_, rfl, (V.partD (cc (cn (cc (cc (cc .slnil))))) 1 rfl (.refl _)), ?_⟩
   intro a A
   refine qf (by kernel_rfl) (qm A 6 rfl rfl rfl rfl (qg  rfl rfl (fun w => by kernel_rfl)) (product_any _ _ (V.rd 8 rfl) (V.rd 5 rfl) (by omega) (by omega)) ?_)
   rintro _ w69 ⟨ro65, rc66, rfl, ho67, hb68⟩
   replace V := V.call hb68
   replace V := V.addR ho67.rd
   refine ⟨_, rfl, (V.partD (cc (cn (cc (cc (cc .slnil))))) 2 rfl (.refl _)), ?_⟩
   intro a A
   refine qe (v := .agg #[.bool ((rb (((dmR x1 x2 d1 d2 : Nat) : Int)))), .slice zo60 ((words (((dmR x1 x2 d1 d2 : Nat) : Int)).natAbs).length) zc61, .bool false, .slice none 0 0, .slice ro65 ((words (d1 * d2)).length) rc66]) A 7 rfl rfl rfl rfl hP (V.partD (cc (cn (cc (cc (cc .slnil))))) 2 rfl (.refl _)) (fun w1 V => zg rfl (fun w => by kernel_rfl)) λa A↦?_
   refine qf (by kernel_rfl) (qn (us := [.bool ((rb (((dmR x1 x2 d1 d2 : Nat) : Int)))), .slice zo60 ((words (((dmR x1 x2 d1 d2 : Nat) : Int)).natAbs).length) zc61, .bool false, .slice none 0 0, .slice ro65 ((words (d1 * d2)).length) rc66]) A V 8 rfl rfl rfl (qj rfl rfl rfl (by kernel_rfl) V 1 rfl rfl rfl) 1 rfl rfl rfl rfl ?_)
   intro w70 V
   refine ⟨(V.partD (cc (cn (cc (cc (cc .slnil))))) 2 rfl (.refl _)), ?_⟩
   refine qy (by kernel_rfl) ?_
   refine hK59 _ _ (wsk fun K71 hK71 => je (S := fun w1 => St w w1 [(J32g, [.bool ((rb (-(x1 * ((d2 : Nat) : Int) / ((x2.natAbs * d1 : Nat) : Int))))), .slice zo46 ((words (-(x1 * ((d2 : Nat) : Int) / ((x2.natAbs * d1 : Nat) : Int))).natAbs).length) zc47]), (g8, [.bool ((rb (((dmR x1 x2 d1 d2 : Nat) : Int)))), .slice zo60 ((words (((dmR x1 x2 d1 d2 : Nat) : Int)).natAbs).length) zc61, .bool false, .slice none 0 0, .slice ro65 ((words (d1 * d2)).length) rc66]), (g6, [.bool ((rb (-(x1 * ((d2 : Nat) : Int) / ((x2.natAbs * d1 : Nat) : Int))))), .slice zo46 ((words (-(x1 * ((d2 : Nat) : Int) / ((x2.natAbs * d1 : Nat) : Int))).natAbs).length) zc47, .bool false, .slice none 0 0, .slice ro53 ((words 1).length) rc54]), (g4, [.bool ((rb x2)), .slice u1 ((words x2.natAbs).length) uc1, .bool ((rb y2)), .slice u2 ((words y2.natAbs).length) uc2, .slice u3 ((words d2).length) uc3]), (g2, [.bool ((rb x1)), .slice a1 ((words x1.natAbs).length) ac1, .bool ((rb y1)), .slice a2 ((words y1.natAbs).length) ac2, .slice a3 ((words d1).length) ac3])] [(ro65, words (d1 * d2)), (zo60, words (((dmR x1 x2 d1 d2 : Nat) : Int)).natAbs), (ro53, words 1), (zo46, words (-(x1 * ((d2 : Nat) : Int) / ((x2.natAbs * d1 : Nat) : Int))).natAbs), (J33, words (dmR x1 x2 d1 d2)), (J35, words (x1 * ((d2 : Nat) : Int) / ((x2.natAbs * d1 : Nat) : Int)).natAbs), (u3, words d2), (u2, words y2.natAbs), (u1, words x2.natAbs), (a3, words d1), (a2, words y1.natAbs), (a1, words x1.natAbs)] []) (by kernel_rfl) ?_)
   replace V := V.drew
   refine qe A 0 rfl rfl rfl rfl hP V (fun w1 V => zd V ExQ_isS_165 rfl 2 rfl (cs := [.bool ((rb (-(x1 * ((d2 : Nat) : Int) / ((x2.natAbs * d1 : Nat) : Int))))), .slice zo46 ((words (-(x1 * ((d2 : Nat) : Int) / ((x2.natAbs * d1 : Nat) : Int))).natAbs).length) zc47, .bool false, .slice none 0 0, .slice ro53 ((words 1).length) rc54]) rfl rfl) λa A↦?_
   refine qe A 1 rfl rfl rfl rfl hP V (fun w1 V => zd V ExQ_isS_165 rfl 1 rfl (cs := [.bool ((rb (((dmR x1 x2 d1 d2 : Nat) : Int)))), .slice zo60 ((words (((dmR x1 x2 d1 d2 : Nat) : Int)).natAbs).length) zc61, .bool false, .slice none 0 0, .slice ro65 ((words (d1 * d2)).length) rc66]) rfl rfl) λa A↦?_
   refine qf (by kernel_rfl) (qn (us := [.bool ((rb (-(x1 * ((d2 : Nat) : Int) / ((x2.natAbs * d1 : Nat) : Int))))), .slice zo46 ((words (-(x1 * ((d2 : Nat) : Int) / ((x2.natAbs * d1 : Nat) : Int))).natAbs).length) zc47, .bool false, .slice none 0 0, .slice ro53 ((words 1).length) rc54]) A V 2 rfl rfl rfl (qj rfl rfl rfl (by kernel_rfl) V 2 rfl rfl rfl) 2 rfl rfl rfl rfl ?_)
   intro w72 V
   refine ⟨V, ?_⟩
   refine qf (by kernel_rfl) (qn (us := [.bool ((rb (((dmR x1 x2 d1 d2 : Nat) : Int)))), .slice zo60 ((words (((dmR x1 x2 d1 d2 : Nat) : Int)).natAbs).length) zc61, .bool false, .slice none 0 0, .slice ro65 ((words (d1 * d2)).length) rc66]) A V 3 rfl rfl rfl (qj rfl rfl rfl (by kernel_rfl) V 1 rfl rfl rfl) 1 rfl rfl rfl rfl ?_)
   intro w73 V
   refine ⟨V, ?_⟩
   refine qy (by kernel_rfl) ?_
   refine hK71 _ _ (wp_ret (hret _ _ (en2 A rfl (jj V ExQ_isS_165 rfl 2 rfl (cs := [.bool ((rb (-(x1 * ((d2 : Nat) : Int) / ((x2.natAbs * d1 : Nat) : Int))))), .slice zo46 ((words (-(x1 * ((d2 : Nat) : Int) / ((x2.natAbs * d1 : Nat) : Int))).natAbs).length) zc47, .bool false, .slice none 0 0, .slice ro53 ((words 1).length) rc54]) rfl rfl) (jj V ExQ_isS_165 rfl 1 rfl (cs := [.bool ((rb (((dmR x1 x2 d1 d2 : Nat) : Int)))), .slice zo60 ((words (((dmR x1 x2 d1 d2 : Nat) : Int)).natAbs).length) zc61, .bool false, .slice none 0 0, .slice ro65 ((words (d1 * d2)).length) rc66]) rfl rfl) ?_)))
   rw [show dmT x1 x2 d1 d2 = -(x1 * ((d2 : Nat) : Int) / ((x2.natAbs * d1 : Nat) : Int)) from if_pos hc45]
   exact ⟨zo46, zc47, ro53, rc54, zo60, zc61, ro65, rc66, rfl, ⟨(V.rd 3 rfl), hs48.nil, hs48.cap⟩, ⟨(V.rd 2 rfl), ho55.nocap, ho55.caps⟩, ⟨(V.rd 1 rfl), hs62.nil, hs62.cap⟩, ⟨(V.rd 0 rfl), ho67.nocap, ho67.caps⟩, V.bel⟩
  ·
   refine wp_skip (hK43 _ _ (wsk fun K74 hK74 => je (S := fun w1 => St w w1 [(J32g, [.bool ((rb (x1 * ((d2 : Nat) : Int) / ((x2.natAbs * d1 : Nat) : Int)))), .slice J35 ((words (x1 * ((d2 : Nat) : Int) / ((x2.natAbs * d1 : Nat) : Int)).natAbs).length) J36]), (g8, [.bool false, .slice none 0 0, .bool false, .slice none 0 0, .slice none 0 0]), (g4, [.bool ((rb x2)), .slice u1 ((words x2.natAbs).length) uc1, .bool ((rb y2)), .slice u2 ((words y2.natAbs).length) uc2, .slice u3 ((words d2).length) uc3]), (g2, [.bool ((rb x1)), .slice a1 ((words x1.natAbs).length) ac1, .bool ((rb y1)), .slice a2 ((words y1.natAbs).length) ac2, .slice a3 ((words d1).length) ac3])] [(J33, words (dmR x1 x2 d1 d2)), (J35, words (x1 * ((d2 : Nat) : Int) / ((x2.natAbs * d1 : Nat) : Int)).natAbs), (u3, words d2), (u2, words y2.natAbs), (u1, words x2.natAbs), (a3, words d1), (a2, words y1.natAbs), (a1, words x1.natAbs)] []) (by kernel_rfl) ?_))
   replace V := V.drew
   refine qe A 0 rfl rfl rfl rfl hP (V.partD (cc (cc (cn (cc (cc .slnil))))) 0 rfl (.refl _)) (fun w1 V => zd V ExQ_isS_163 rfl 0 rfl (cs := [.bool ((rb (x1 * ((d2 : Nat) : Int) / ((x2.natAbs * d1 : Nat) : Int)))), .slice J35 ((words (x1 * ((d2 : Nat) : Int) / ((x2.natAbs * d1 : Nat) : Int)).natAbs).length) J36]) rfl rfl) λa A↦?_
   refine qf (by kernel_rfl) (qm A 1 rfl rfl rfl rfl (qg  rfl rfl (fun w => by kernel_rfl)) (wof_any 1 _ (by decide)) ?_)
   rintro _ w79 ⟨ro75, rc76, rfl, ho77, hb78⟩
   replace V := V.call hb78
   replace V := V.addR ho77.rd
   refine ⟨_, rfl, (V.partD (cc (cc (cn (cc (cc .slnil))))) 1 rfl (.refl _)), ?_⟩
   intro a A
   refine qe (v := .agg #[.bool ((rb (x1 * ((d2 : Nat) : Int) / ((x2.natAbs * d1 : Nat) : Int)))), .slice J35 ((words (x1 * ((d2 : Nat) : Int) / ((x2.natAbs * d1 : Nat) : Int)).natAbs).length) J36, .bool false, .slice none 0 0, .slice ro75 ((words 1).length) rc76]) A 2 rfl rfl rfl rfl hP (V.partD (cc (cc (cn (cc (cc .slnil))))) 1 rfl (.refl _)) (fun w1 V => zg rfl (fun w => by kernel_rfl)) λa A↦?_
   refine qf (by kernel_rfl) (qn (us := [.bool ((rb (x1 * ((d2 : Nat) : Int) / ((x2.natAbs * d1 : Nat) : Int)))), .slice J35 ((words (x1 * ((d2 : Nat) : Int) / ((x2.natAbs * d1 : Nat) : Int)).natAbs).length) J36, .bool false, .slice none 0 0, .slice ro75 ((words 1).length) rc76]) A V 3 rfl rfl rfl (qj rfl rfl rfl (by kernel_rfl) V 2 rfl rfl rfl) 2 rfl rfl rfl rfl ?_)
   intro w80 V
   refine ⟨(V.partD (cc (cc (cn (cc (cc .slnil))))) 1 rfl (.refl _)), ?_⟩
   refine qy (by kernel_rfl) ?_
   refine hK74 _ _ (wsk fun K81 hK81 => je (S := fun w1 => St w w1 [(J32g, [.bool ((rb (x1 * ((d2 : Nat) : Int) / ((x2.natAbs * d1 : Nat) : Int)))), .slice J35 ((words (x1 * ((d2 : Nat) : Int) / ((x2.natAbs * d1 : Nat) : Int)).natAbs).length) J36]), (g6, [.bool ((rb (x1 * ((d2 : Nat) : Int) / ((x2.natAbs * d1 : Nat) : Int)))), .slice J35 ((words (x1 * ((d2 : Nat) : Int) / ((x2.natAbs * d1 : Nat) : Int)).natAbs).length) J36, .bool false, .slice none 0 0, .slice ro75 ((words 1).length) rc76]), (g4, [.bool ((rb x2)), .slice u1 ((words x2.natAbs).length) uc1, .bool ((rb y2)), .slice u2 ((words y2.natAbs).length) uc2, .slice u3 ((words d2).length) uc3]), (g2, [.bool ((rb x1)), .slice a1 ((words x1.natAbs).length) ac1, .bool ((rb y1)), .slice a2 ((words y1.natAbs).length) ac2, .slice a3 ((words d1).length) ac3])] [(ro75, words 1), (J33, words (dmR x1 x2 d1 d2)), (J35, words (x1 * ((d2 : Nat) : Int) / ((x2.natAbs * d1 : Nat) : Int)).natAbs), (u3, words d2), (u2, words y2.natAbs), (u1, words x2.natAbs), (a3, words d1), (a2, words y1.natAbs), (a1, words x1.natAbs)] []) (by kernel_rfl) ?_)
   replace V := V.drew
   refine qe A 0 rfl rfl rfl rfl hP (V.partD (cc (cn (cc (cc (cc .slnil))))) 0 rfl (.refl _)) (fun w1 V => qz rfl) λa A↦?_
   refine qe (v := .pointer (some ⟨g2, 4, none⟩)) A 2 rfl rfl rfl rfl hP (V.partD (cc (cn (cc (cc (cc .slnil))))) 0 rfl (.refl _)) (fun w1 V => qb ExQ_fld_165_2 rfl rfl) λa A↦?_
   refine qe A 3 rfl rfl rfl rfl hP (V.partD (cc (cn (cc (cc (cc .slnil))))) 0 rfl (.refl _)) (fun w1 V => qw V ExQ_is1_31 rfl 3 rfl rfl) λa A↦?_
   refine qe (v := .pointer (some ⟨g4, 4, none⟩)) A 4 rfl rfl rfl rfl hP (V.partD (cc (cn (cc (cc (cc .slnil))))) 0 rfl (.refl _)) (fun w1 V => qb ExQ_fld_165_2 rfl rfl) λa A↦?_
   refine qe A 5 rfl rfl rfl rfl hP (V.partD (cc (cn (cc (cc (cc .slnil))))) 0 rfl (.refl _)) (fun w1 V => qw V ExQ_is1_31 rfl 2 rfl rfl) λa A↦?_
   refine qf (by kernel_rfl) (qm A 1 rfl rfl rfl rfl (qg  rfl rfl (fun w => by kernel_rfl)) (jq (b := false) (n := dmR x1 x2 d1 d2) (z := ((dmR x1 x2 d1 d2 : Nat) : Int)) ⟨(V.rd 1 rfl), hn37, hc38⟩ rfl) ?_)
   rintro _ w86 ⟨zo82, zc83, rfl, hs84, hb85⟩
   replace V := V.call hb85
   replace V := V.addR hs84.rd
   refine ⟨_, rfl, (V.partD (cc (cn (cc (cc (cc .slnil))))) 1 rfl (.refl _)), ?_⟩
   intro a A
   refine qf (by kernel_rfl) (qm A 6 rfl rfl rfl rfl (qg  rfl rfl (fun w => by kernel_rfl)) (product_any _ _ (V.rd 7 rfl) (V.rd 4 rfl) (by omega) (by omega)) ?_)
   rintro _ w91 ⟨ro87, rc88, rfl, ho89, hb90⟩
   replace V := V.call hb90
   replace V := V.addR ho89.rd
   refine ⟨_, rfl, (V.partD (cc (cn (cc (cc (cc .slnil))))) 2 rfl (.refl _)), ?_⟩
   intro a A
   refine qe (v := .agg #[.bool ((rb (((dmR x1 x2 d1 d2 : Nat) : Int)))), .slice zo82 ((words (((dmR x1 x2 d1 d2 : Nat) : Int)).natAbs).length) zc83, .bool false, .slice none 0 0, .slice ro87 ((words (d1 * d2)).length) rc88]) A 7 rfl rfl rfl rfl hP (V.partD (cc (cn (cc (cc (cc .slnil))))) 2 rfl (.refl _)) (fun w1 V => zg rfl (fun w => by kernel_rfl)) λa A↦?_
   refine qf (by kernel_rfl) (qn (us := [.bool ((rb (((dmR x1 x2 d1 d2 : Nat) : Int)))), .slice zo82 ((words (((dmR x1 x2 d1 d2 : Nat) : Int)).natAbs).length) zc83, .bool false, .slice none 0 0, .slice ro87 ((words (d1 * d2)).length) rc88]) A V 8 rfl rfl rfl (qj rfl rfl rfl (by kernel_rfl) V 1 rfl rfl rfl) 1 rfl rfl rfl rfl ?_)
   intro w92 V
   refine ⟨(V.partD (cc (cn (cc (cc (cc .slnil))))) 2 rfl (.refl _)), ?_⟩
   refine qy (by kernel_rfl) ?_
   refine hK81 _ _ (wsk fun K93 hK93 => je (S := fun w1 => St w w1 [(J32g, [.bool ((rb (x1 * ((d2 : Nat) : Int) / ((x2.natAbs * d1 : Nat) : Int)))), .slice J35 ((words (x1 * ((d2 : Nat) : Int) / ((x2.natAbs * d1 : Nat) : Int)).natAbs).length) J36]), (g8, [.bool ((rb (((dmR x1 x2 d1 d2 : Nat) : Int)))), .slice zo82 ((words (((dmR x1 x2 d1 d2 : Nat) : Int)).natAbs).length) zc83, .bool false, .slice none 0 0, .slice ro87 ((words (d1 * d2)).length) rc88]), (g6, [.bool ((rb (x1 * ((d2 : Nat) : Int) / ((x2.natAbs * d1 : Nat) : Int)))), .slice J35 ((words (x1 * ((d2 : Nat) : Int) / ((x2.natAbs * d1 : Nat) : Int)).natAbs).length) J36, .bool false, .slice none 0 0, .slice ro75 ((words 1).length) rc76]), (g4, [.bool ((rb x2)), .slice u1 ((words x2.natAbs).length) uc1, .bool ((rb y2)), .slice u2 ((words y2.natAbs).length) uc2, .slice u3 ((words d2).length) uc3]), (g2, [.bool ((rb x1)), .slice a1 ((words x1.natAbs).length) ac1, .bool ((rb y1)), .slice a2 ((words y1.natAbs).length) ac2, .slice a3 ((words d1).length) ac3])] [(ro87, words (d1 * d2)), (zo82, words (((dmR x1 x2 d1 d2 : Nat) : Int)).natAbs), (ro75, words 1), (J33, words (dmR x1 x2 d1 d2)), (J35, words (x1 * ((d2 : Nat) : Int) / ((x2.natAbs * d1 : Nat) : Int)).natAbs), (u3, words d2), (u2, words y2.natAbs), (u1, words x2.natAbs), (a3, words d1), (a2, words y1.natAbs), (a1, words x1.natAbs)] []) (by kernel_rfl) ?_)
   replace V := V.drew
   refine qe A 0 rfl rfl rfl rfl hP V (fun w1 V => zd V ExQ_isS_165 rfl 2 rfl (cs := [.bool ((rb (x1 * ((d2 : Nat) : Int) / ((x2.natAbs * d1 : Nat) : Int)))), .slice J35 ((words (x1 * ((d2 : Nat) : Int) / ((x2.natAbs * d1 : Nat) : Int)).natAbs).length) J36, .bool false, .slice none 0 0, .slice ro75 ((words 1).length) rc76]) rfl rfl) λa A↦?_
   refine qe A 1 rfl rfl rfl rfl hP V (fun w1 V => zd V ExQ_isS_165 rfl 1 rfl (cs := [.bool ((rb (((dmR x1 x2 d1 d2 : Nat) : Int)))), .slice zo82 ((words (((dmR x1 x2 d1 d2 : Nat) : Int)).natAbs).length) zc83, .bool false, .slice none 0 0, .slice ro87 ((words (d1 * d2)).length) rc88]) rfl rfl) λa A↦?_
   refine qf (by kernel_rfl) (qn (us := [.bool ((rb (x1 * ((d2 : Nat) : Int) / ((x2.natAbs * d1 : Nat) : Int)))), .slice J35 ((words (x1 * ((d2 : Nat) : Int) / ((x2.natAbs * d1 : Nat) : Int)).natAbs).length) J36, .bool false, .slice none 0 0, .slice ro75 ((words 1).length) rc76]) A V 2 rfl rfl rfl (qj rfl rfl rfl (by kernel_rfl) V 2 rfl rfl rfl) 2 rfl rfl rfl rfl ?_)
   intro w94 V
   refine ⟨V, ?_⟩
   refine qf (by kernel_rfl) (qn (us := [.bool ((rb (((dmR x1 x2 d1 d2 : Nat) : Int)))), .slice zo82 ((words (((dmR x1 x2 d1 d2 : Nat) : Int)).natAbs).length) zc83, .bool false, .slice none 0 0, .slice ro87 ((words (d1 * d2)).length) rc88]) A V 3 rfl rfl rfl (qj rfl rfl rfl (by kernel_rfl) V 1 rfl rfl rfl) 1 rfl rfl rfl rfl ?_)
   intro w95 V
   refine ⟨V, ?_⟩
   refine qy (by kernel_rfl) ?_
   refine hK93 _ _ (wp_ret (hret _ _ (en2 A rfl (jj V ExQ_isS_165 rfl 2 rfl (cs := [.bool ((rb (x1 * ((d2 : Nat) : Int) / ((x2.natAbs * d1 : Nat) : Int)))), .slice J35 ((words (x1 * ((d2 : Nat) : Int) / ((x2.natAbs * d1 : Nat) : Int)).natAbs).length) J36, .bool false, .slice none 0 0, .slice ro75 ((words 1).length) rc76]) rfl rfl) (jj V ExQ_isS_165 rfl 1 rfl (cs := [.bool ((rb (((dmR x1 x2 d1 d2 : Nat) : Int)))), .slice zo82 ((words (((dmR x1 x2 d1 d2 : Nat) : Int)).natAbs).length) zc83, .bool false, .slice none 0 0, .slice ro87 ((words (d1 * d2)).length) rc88]) rfl rfl) ?_)))
   rw [show dmT x1 x2 d1 d2 = x1 * ((d2 : Nat) : Int) / ((x2.natAbs * d1 : Nat) : Int) from if_neg (by rw [hc45]; decide)]
   exact ⟨J35, J36, ro75, rc76, zo82, zc83, ro87, rc88, rfl, ⟨(V.rd 4 rfl), hn39, hc40⟩, ⟨(V.rd 2 rfl), ho77.nocap, ho77.caps⟩, ⟨(V.rd 1 rfl), hs84.nil, hs84.cap⟩, ⟨(V.rd 0 rfl), ho89.nocap, ho89.caps⟩, V.bel⟩
 refine je (S := fun w1 => St w w1 [(g8, [.bool false, .slice none 0 0, .bool false, .slice none 0 0, .slice none 0 0]), (g6, [.bool false, .slice none 0 0, .bool false, .slice none 0 0, .slice none 0 0]), (g4, [.bool ((rb x2)), .slice u1 ((words x2.natAbs).length) uc1, .bool ((rb y2)), .slice u2 ((words y2.natAbs).length) uc2, .slice u3 ((words d2).length) uc3]), (g2, [.bool ((rb x1)), .slice a1 ((words x1.natAbs).length) ac1, .bool ((rb y1)), .slice a2 ((words y1.natAbs).length) ac2, .slice a3 ((words d1).length) ac3])] [(u3, words d2), (u2, words y2.natAbs), (u1, words x2.natAbs), (a3, words d1), (a2, words y1.natAbs), (a1, words x1.natAbs)] []) (by kernel_rfl) ?_
 replace V := V.drew
 refine qe (v := .pointer (some ⟨g2, 0, none⟩)) A 0 rfl rfl rfl rfl hP V (fun w1 V => qb ExQ_fld_165_0 rfl rfl) λa A↦?_
 refine qe A 1 rfl rfl rfl rfl hP V (fun w1 V => zd V ExQ_isS_163 rfl 3 rfl (cs := [.bool ((rb x1)), .slice a1 ((words x1.natAbs).length) ac1]) rfl rfl) λa A↦?_
 refine qe (v := .pointer (some ⟨g4, 4, none⟩)) A 2 rfl rfl rfl rfl hP V (fun w1 V => qb ExQ_fld_165_2 rfl rfl) λa A↦?_
 refine qe A 3 rfl rfl rfl rfl hP V (fun w1 V => qw V ExQ_is1_31 rfl 2 rfl rfl) λa A↦?_
 refine qe (v := .pointer (some ⟨g4, 0, none⟩)) A 5 rfl rfl rfl rfl hP V (fun w1 V => qb ExQ_fld_165_0 rfl rfl) λa A↦?_
 refine qe (v := .pointer (some ⟨g4, 1, none⟩)) A 6 rfl rfl rfl rfl hP V (fun w1 V => qb ExQ_fld_163_1 rfl rfl) λa A↦?_
 refine qe A 7 rfl rfl rfl rfl hP V (fun w1 V => qw V ExQ_is1_31 rfl 2 rfl rfl) λa A↦?_
 refine qe (v := .pointer (some ⟨g2, 4, none⟩)) A 8 rfl rfl rfl rfl hP V (fun w1 V => qb ExQ_fld_165_2 rfl rfl) λa A↦?_
 refine qe A 9 rfl rfl rfl rfl hP V (fun w1 V => qw V ExQ_is1_31 rfl 3 rfl rfl) λa A↦?_
 refine zk (rs := [4, 15]) (by kernel_rfl) (by simp) ⟨?_, ?_, trivial⟩
 ·
  refine qm A 4 rfl rfl rfl rfl (qg  rfl rfl (fun w => by kernel_rfl)) (kh ⟨(V.rd 5 rfl), ha1.nil, ha1.cap⟩ ⟨(V.rd 0 rfl), hu3.nil, hu3.cap⟩ (by omega) (by omega)) ?_
  rintro _ w100 ⟨zo96, zc97, rfl, hs98, hb99⟩
  replace V := V.call hb99
  replace V := V.addR hs98.rd
  refine ⟨_, rfl, (V.partD (.refl _) 1 rfl (.refl _)), ?_⟩
  intro a A
  refine zk (rs := [10, 15]) (by kernel_rfl) (by simp) ⟨?_, ?_, trivial⟩
  ·
   refine qm A 10 rfl rfl rfl rfl (qg  rfl rfl (fun w => by kernel_rfl)) (product_any _ _ (V.rd 3 rfl) (V.rd 4 rfl) (by omega) (by omega)) ?_
   rintro _ w105 ⟨ro101, rc102, rfl, ho103, hb104⟩
   replace V := V.call hb104
   replace V := V.addR ho103.rd
   refine ⟨_, rfl, (V.partD (.refl _) 2 rfl (.refl _)), ?_⟩
   intro a A
   refine zk (rs := [11, 15]) (by kernel_rfl) (by simp) ⟨?_, ?_, trivial⟩
   ·
    refine qm A 11 rfl rfl rfl rfl (qg  rfl rfl (fun w => by kernel_rfl)) (qea ⟨(V.rd 1 rfl), hs98.nil, hs98.cap⟩ ⟨(V.rd 0 rfl), ho103.nocap, ho103.caps⟩ (by omega) (by omega) (Nat.mul_ne_zero (by omega) h1)) ?_
    rintro _ w113 ⟨zo106, zc107, uo108, uc109, rfl, hs110, ht111, hb112⟩
    replace V := V.call hb112
    replace V := V.addR hs110.rd
    replace V := V.addR ht111.rd
    refine ⟨_, rfl, (V.partD (.refl _) 4 rfl (.refl _)), ?_⟩
    intro a A
    refine qe A 12 rfl rfl rfl rfl hP (V.partD (.refl _) 4 rfl (.refl _)) (fun w1 V => qz rfl) λa A↦?_
    refine qe (v := .agg #[.bool ((rb (x1 * ((d2 : Nat) : Int) / ((x2.natAbs * d1 : Nat) : Int)))), .slice zo106 ((words (x1 * ((d2 : Nat) : Int) / ((x2.natAbs * d1 : Nat) : Int)).natAbs).length) zc107]) A 13 rfl rfl rfl rfl hP (V.partD (.refl _) 4 rfl (.refl _)) (fun w1 V => qh (vs := [.agg #[.bool ((rb (x1 * ((d2 : Nat) : Int) / ((x2.natAbs * d1 : Nat) : Int)))), .slice zo106 ((words (x1 * ((d2 : Nat) : Int) / ((x2.natAbs * d1 : Nat) : Int)).natAbs).length) zc107], .slice uo108 ((words (dmR x1 x2 d1 d2)).length) uc109]) rfl rfl) λa A↦?_
    refine qe (v := .slice uo108 ((words (dmR x1 x2 d1 d2)).length) uc109) A 14 rfl rfl rfl rfl hP (V.partD (.refl _) 4 rfl (.refl _)) (fun w1 V => qh (vs := [.agg #[.bool ((rb (x1 * ((d2 : Nat) : Int) / ((x2.natAbs * d1 : Nat) : Int)))), .slice zo106 ((words (x1 * ((d2 : Nat) : Int) / ((x2.natAbs * d1 : Nat) : Int)).natAbs).length) zc107], .slice uo108 ((words (dmR x1 x2 d1 d2)).length) uc109]) rfl rfl) λa A↦?_
    refine qf (by kernel_rfl) (zt (vs := [.bool false, .slice none 0 0]) (t := 163) A V 15 rfl rfl rfl rfl pg (qi (z := .agg #[.bool false, .slice none 0 0]) (by kernel_rfl) rfl) rfl ?_)
    intro g114 w115 V
    refine ⟨(V.partD (cn (cc (cc (cc (cc .slnil))))) 4 rfl (.refl _)), ?_⟩
    intro a A
    refine qf (by kernel_rfl) (qn (us := [.bool ((rb (x1 * ((d2 : Nat) : Int) / ((x2.natAbs * d1 : Nat) : Int)))), .slice zo106 ((words (x1 * ((d2 : Nat) : Int) / ((x2.natAbs * d1 : Nat) : Int)).natAbs).length) zc107]) A V 16 rfl rfl rfl (qj rfl rfl rfl (by kernel_rfl) V 0 rfl rfl rfl) 0 rfl rfl rfl rfl ?_)
    intro w116 V
    refine ⟨(V.partD (cn (cc (cc (cc (cc .slnil))))) 4 rfl (.refl _)), ?_⟩
    refine qe A 17 rfl rfl rfl rfl hP (V.partD (cn (cc (cc (cc (cc .slnil))))) 4 rfl (.refl _)) (fun w1 V => zh rfl) λa A↦?_
    refine qy (by kernel_rfl) ?_
    refine hJ41 _ _ ⟨g114, uo108, uc109, zo106, zc107, A.keep _ (by repeat' constructor), (St.pickRL V ⟨⟨0, rfl⟩, ⟨⟨1, rfl⟩, ⟨⟨4, rfl⟩, ⟨⟨5, rfl⟩, ⟨⟨6, rfl⟩, ⟨⟨7, rfl⟩, ⟨⟨8, rfl⟩, ⟨⟨9, rfl⟩, trivial⟩⟩⟩⟩⟩⟩⟩⟩ [0, 1, 2, 3, 4] rfl (by decide)), ht111.nil, ht111.cap, hs110.nil, hs110.cap⟩
   ·
    refine zt (vs := [.bool false, .slice none 0 0]) (t := 163) A V 15 rfl rfl rfl rfl pg (qi (z := .agg #[.bool false, .slice none 0 0]) (by kernel_rfl) rfl) rfl ?_
    intro g117 w118 V
    refine ⟨(V.partD (cn (cc (cc (cc (cc .slnil))))) 2 rfl (.refl _)), ?_⟩
    intro a A
    refine qf (by kernel_rfl) (qm A 11 rfl rfl rfl rfl (qg  rfl rfl (fun w => by kernel_rfl)) (qea ⟨(V.rd 1 rfl), hs98.nil, hs98.cap⟩ ⟨(V.rd 0 rfl), ho103.nocap, ho103.caps⟩ (by omega) (by omega) (Nat.mul_ne_zero (by omega) h1)) ?_)
    rintro _ w126 ⟨zo119, zc120, uo121, uc122, rfl, hs123, ht124, hb125⟩
    replace V := V.call hb125
    replace V := V.addR hs123.rd
    replace V := V.addR ht124.rd
    refine ⟨_, rfl, (V.partD (cn (cc (cc (cc (cc .slnil))))) 4 rfl (.refl _)), ?_⟩
    intro a A
    refine qe A 12 rfl rfl rfl rfl hP (V.partD (cn (cc (cc (cc (cc .slnil))))) 4 rfl (.refl _)) (fun w1 V => qz rfl) λa A↦?_
    refine qe (v := .agg #[.bool ((rb (x1 * ((d2 : Nat) : Int) / ((x2.natAbs * d1 : Nat) : Int)))), .slice zo119 ((words (x1 * ((d2 : Nat) : Int) / ((x2.natAbs * d1 : Nat) : Int)).natAbs).length) zc120]) A 13 rfl rfl rfl rfl hP (V.partD (cn (cc (cc (cc (cc .slnil))))) 4 rfl (.refl _)) (fun w1 V => qh (vs := [.agg #[.bool ((rb (x1 * ((d2 : Nat) : Int) / ((x2.natAbs * d1 : Nat) : Int)))), .slice zo119 ((words (x1 * ((d2 : Nat) : Int) / ((x2.natAbs * d1 : Nat) : Int)).natAbs).length) zc120], .slice uo121 ((words (dmR x1 x2 d1 d2)).length) uc122]) rfl rfl) λa A↦?_
    refine qe (v := .slice uo121 ((words (dmR x1 x2 d1 d2)).length) uc122) A 14 rfl rfl rfl rfl hP (V.partD (cn (cc (cc (cc (cc .slnil))))) 4 rfl (.refl _)) (fun w1 V => qh (vs := [.agg #[.bool ((rb (x1 * ((d2 : Nat) : Int) / ((x2.natAbs * d1 : Nat) : Int)))), .slice zo119 ((words (x1 * ((d2 : Nat) : Int) / ((x2.natAbs * d1 : Nat) : Int)).natAbs).length) zc120], .slice uo121 ((words (dmR x1 x2 d1 d2)).length) uc122]) rfl rfl) λa A↦?_
    refine qf (by kernel_rfl) (qn (us := [.bool ((rb (x1 * ((d2 : Nat) : Int) / ((x2.natAbs * d1 : Nat) : Int)))), .slice zo119 ((words (x1 * ((d2 : Nat) : Int) / ((x2.natAbs * d1 : Nat) : Int)).natAbs).length) zc120]) A V 16 rfl rfl rfl (qj rfl rfl rfl (by kernel_rfl) V 0 rfl rfl rfl) 0 rfl rfl rfl rfl ?_)
    intro w127 V
    refine ⟨(V.partD (cn (cc (cc (cc (cc .slnil))))) 4 rfl (.refl _)), ?_⟩
    refine qe A 17 rfl rfl rfl rfl hP (V.partD (cn (cc (cc (cc (cc .slnil))))) 4 rfl (.refl _)) (fun w1 V => zh rfl) λa A↦?_
    refine qy (by kernel_rfl) ?_
    refine hJ41 _ _ ⟨g117, uo121, uc122, zo119, zc120, A.keep _ (by repeat' constructor), (St.pickRL V ⟨⟨0, rfl⟩, ⟨⟨1, rfl⟩, ⟨⟨4, rfl⟩, ⟨⟨5, rfl⟩, ⟨⟨6, rfl⟩, ⟨⟨7, rfl⟩, ⟨⟨8, rfl⟩, ⟨⟨9, rfl⟩, trivial⟩⟩⟩⟩⟩⟩⟩⟩ [0, 1, 2, 3, 4] rfl (by decide)), ht124.nil, ht124.cap, hs123.nil, hs123.cap⟩
  ·
   refine zt (vs := [.bool false, .slice none 0 0]) (t := 163) A V 15 rfl rfl rfl rfl pg (qi (z := .agg #[.bool false, .slice none 0 0]) (by kernel_rfl) rfl) rfl ?_
   intro g128 w129 V
   refine ⟨(V.partD (cn (cc (cc (cc (cc .slnil))))) 1 rfl (.refl _)), ?_⟩
   intro a A
   refine qf (by kernel_rfl) (qm A 10 rfl rfl rfl rfl (qg  rfl rfl (fun w => by kernel_rfl)) (product_any _ _ (V.rd 3 rfl) (V.rd 4 rfl) (by omega) (by omega)) ?_)
   rintro _ w134 ⟨ro130, rc131, rfl, ho132, hb133⟩
   replace V := V.call hb133
   replace V := V.addR ho132.rd
   refine ⟨_, rfl, (V.partD (cn (cc (cc (cc (cc .slnil))))) 2 rfl (.refl _)), ?_⟩
   intro a A
   refine qf (by kernel_rfl) (qm A 11 rfl rfl rfl rfl (qg  rfl rfl (fun w => by kernel_rfl)) (qea ⟨(V.rd 1 rfl), hs98.nil, hs98.cap⟩ ⟨(V.rd 0 rfl), ho132.nocap, ho132.caps⟩ (by omega) (by omega) (Nat.mul_ne_zero (by omega) h1)) ?_)
   rintro _ w142 ⟨zo135, zc136, uo137, uc138, rfl, hs139, ht140, hb141⟩
   replace V := V.call hb141
   replace V := V.addR hs139.rd
   replace V := V.addR ht140.rd
   refine ⟨_, rfl, (V.partD (cn (cc (cc (cc (cc .slnil))))) 4 rfl (.refl _)), ?_⟩
   intro a A
   refine qe A 12 rfl rfl rfl rfl hP (V.partD (cn (cc (cc (cc (cc .slnil))))) 4 rfl (.refl _)) (fun w1 V => qz rfl) λa A↦?_
   refine qe (v := .agg #[.bool ((rb (x1 * ((d2 : Nat) : Int) / ((x2.natAbs * d1 : Nat) : Int)))), .slice zo135 ((words (x1 * ((d2 : Nat) : Int) / ((x2.natAbs * d1 : Nat) : Int)).natAbs).length) zc136]) A 13 rfl rfl rfl rfl hP (V.partD (cn (cc (cc (cc (cc .slnil))))) 4 rfl (.refl _)) (fun w1 V => qh (vs := [.agg #[.bool ((rb (x1 * ((d2 : Nat) : Int) / ((x2.natAbs * d1 : Nat) : Int)))), .slice zo135 ((words (x1 * ((d2 : Nat) : Int) / ((x2.natAbs * d1 : Nat) : Int)).natAbs).length) zc136], .slice uo137 ((words (dmR x1 x2 d1 d2)).length) uc138]) rfl rfl) λa A↦?_
   refine qe (v := .slice uo137 ((words (dmR x1 x2 d1 d2)).length) uc138) A 14 rfl rfl rfl rfl hP (V.partD (cn (cc (cc (cc (cc .slnil))))) 4 rfl (.refl _)) (fun w1 V => qh (vs := [.agg #[.bool ((rb (x1 * ((d2 : Nat) : Int) / ((x2.natAbs * d1 : Nat) : Int)))), .slice zo135 ((words (x1 * ((d2 : Nat) : Int) / ((x2.natAbs * d1 : Nat) : Int)).natAbs).length) zc136], .slice uo137 ((words (dmR x1 x2 d1 d2)).length) uc138]) rfl rfl) λa A↦?_
   refine qf (by kernel_rfl) (qn (us := [.bool ((rb (x1 * ((d2 : Nat) : Int) / ((x2.natAbs * d1 : Nat) : Int)))), .slice zo135 ((words (x1 * ((d2 : Nat) : Int) / ((x2.natAbs * d1 : Nat) : Int)).natAbs).length) zc136]) A V 16 rfl rfl rfl (qj rfl rfl rfl (by kernel_rfl) V 0 rfl rfl rfl) 0 rfl rfl rfl rfl ?_)
   intro w143 V
   refine ⟨(V.partD (cn (cc (cc (cc (cc .slnil))))) 4 rfl (.refl _)), ?_⟩
   refine qe A 17 rfl rfl rfl rfl hP (V.partD (cn (cc (cc (cc (cc .slnil))))) 4 rfl (.refl _)) (fun w1 V => zh rfl) λa A↦?_
   refine qy (by kernel_rfl) ?_
   refine hJ41 _ _ ⟨g128, uo137, uc138, zo135, zc136, A.keep _ (by repeat' constructor), (St.pickRL V ⟨⟨0, rfl⟩, ⟨⟨1, rfl⟩, ⟨⟨4, rfl⟩, ⟨⟨5, rfl⟩, ⟨⟨6, rfl⟩, ⟨⟨7, rfl⟩, ⟨⟨8, rfl⟩, ⟨⟨9, rfl⟩, trivial⟩⟩⟩⟩⟩⟩⟩⟩ [0, 1, 2, 3, 4] rfl (by decide)), ht140.nil, ht140.cap, hs139.nil, hs139.cap⟩
 ·
  refine zt (vs := [.bool false, .slice none 0 0]) (t := 163) A V 15 rfl rfl rfl rfl pg (qi (z := .agg #[.bool false, .slice none 0 0]) (by kernel_rfl) rfl) rfl ?_
  intro g144 w145 V
  refine ⟨(V.partD (cn (cc (cc (cc (cc .slnil))))) 0 rfl (.refl _)), ?_⟩
  intro a A
  refine qf (by kernel_rfl) (qm A 4 rfl rfl rfl rfl (qg  rfl rfl (fun w => by kernel_rfl)) (kh ⟨(V.rd 5 rfl), ha1.nil, ha1.cap⟩ ⟨(V.rd 0 rfl), hu3.nil, hu3.cap⟩ (by omega) (by omega)) ?_)
  rintro _ w150 ⟨zo146, zc147, rfl, hs148, hb149⟩
  replace V := V.call hb149
  replace V := V.addR hs148.rd
  refine ⟨_, rfl, (V.partD (cn (cc (cc (cc (cc .slnil))))) 1 rfl (.refl _)), ?_⟩
  intro a A
  refine qf (by kernel_rfl) (qm A 10 rfl rfl rfl rfl (qg  rfl rfl (fun w => by kernel_rfl)) (product_any _ _ (V.rd 3 rfl) (V.rd 4 rfl) (by omega) (by omega)) ?_)
  rintro _ w155 ⟨ro151, rc152, rfl, ho153, hb154⟩
  replace V := V.call hb154
  replace V := V.addR ho153.rd
  refine ⟨_, rfl, (V.partD (cn (cc (cc (cc (cc .slnil))))) 2 rfl (.refl _)), ?_⟩
  intro a A
  refine qf (by kernel_rfl) (qm A 11 rfl rfl rfl rfl (qg  rfl rfl (fun w => by kernel_rfl)) (qea ⟨(V.rd 1 rfl), hs148.nil, hs148.cap⟩ ⟨(V.rd 0 rfl), ho153.nocap, ho153.caps⟩ (by omega) (by omega) (Nat.mul_ne_zero (by omega) h1)) ?_)
  rintro _ w163 ⟨zo156, zc157, uo158, uc159, rfl, hs160, ht161, hb162⟩
  replace V := V.call hb162
  replace V := V.addR hs160.rd
  replace V := V.addR ht161.rd
  refine ⟨_, rfl, (V.partD (cn (cc (cc (cc (cc .slnil))))) 4 rfl (.refl _)), ?_⟩
  intro a A
  refine qe A 12 rfl rfl rfl rfl hP (V.partD (cn (cc (cc (cc (cc .slnil))))) 4 rfl (.refl _)) (fun w1 V => qz rfl) λa A↦?_
  refine qe (v := .agg #[.bool ((rb (x1 * ((d2 : Nat) : Int) / ((x2.natAbs * d1 : Nat) : Int)))), .slice zo156 ((words (x1 * ((d2 : Nat) : Int) / ((x2.natAbs * d1 : Nat) : Int)).natAbs).length) zc157]) A 13 rfl rfl rfl rfl hP (V.partD (cn (cc (cc (cc (cc .slnil))))) 4 rfl (.refl _)) (fun w1 V => qh (vs := [.agg #[.bool ((rb (x1 * ((d2 : Nat) : Int) / ((x2.natAbs * d1 : Nat) : Int)))), .slice zo156 ((words (x1 * ((d2 : Nat) : Int) / ((x2.natAbs * d1 : Nat) : Int)).natAbs).length) zc157], .slice uo158 ((words (dmR x1 x2 d1 d2)).length) uc159]) rfl rfl) λa A↦?_
  refine qe (v := .slice uo158 ((words (dmR x1 x2 d1 d2)).length) uc159) A 14 rfl rfl rfl rfl hP (V.partD (cn (cc (cc (cc (cc .slnil))))) 4 rfl (.refl _)) (fun w1 V => qh (vs := [.agg #[.bool ((rb (x1 * ((d2 : Nat) : Int) / ((x2.natAbs * d1 : Nat) : Int)))), .slice zo156 ((words (x1 * ((d2 : Nat) : Int) / ((x2.natAbs * d1 : Nat) : Int)).natAbs).length) zc157], .slice uo158 ((words (dmR x1 x2 d1 d2)).length) uc159]) rfl rfl) λa A↦?_
  refine qf (by kernel_rfl) (qn (us := [.bool ((rb (x1 * ((d2 : Nat) : Int) / ((x2.natAbs * d1 : Nat) : Int)))), .slice zo156 ((words (x1 * ((d2 : Nat) : Int) / ((x2.natAbs * d1 : Nat) : Int)).natAbs).length) zc157]) A V 16 rfl rfl rfl (qj rfl rfl rfl (by kernel_rfl) V 0 rfl rfl rfl) 0 rfl rfl rfl rfl ?_)
  intro w164 V
  refine ⟨(V.partD (cn (cc (cc (cc (cc .slnil))))) 4 rfl (.refl _)), ?_⟩
  refine qe A 17 rfl rfl rfl rfl hP (V.partD (cn (cc (cc (cc (cc .slnil))))) 4 rfl (.refl _)) (fun w1 V => zh rfl) λa A↦?_
  refine qy (by kernel_rfl) ?_
  refine hJ41 _ _ ⟨g144, uo158, uc159, zo156, zc157, A.keep _ (by repeat' constructor), (St.pickRL V ⟨⟨0, rfl⟩, ⟨⟨1, rfl⟩, ⟨⟨4, rfl⟩, ⟨⟨5, rfl⟩, ⟨⟨6, rfl⟩, ⟨⟨7, rfl⟩, ⟨⟨8, rfl⟩, ⟨⟨9, rfl⟩, trivial⟩⟩⟩⟩⟩⟩⟩⟩ [0, 1, 2, 3, 4] rfl (by decide)), ht161.nil, ht161.cap, hs160.nil, hs160.cap⟩
theorem qlg {w : World} {x : Int} {d : Nat} {a1 a3 : Option Addr} {ac1 ac3 : Nat} (ha1 : Sc w a1 ac1 (words x.natAbs)) (ha3 : Sc w a3 ac3 (words d)) {r : Q6 × Int} (h : qjc x 0 d = r) (l1 : (words x.natAbs).length ≤ 50000) (l3 : (words d).length ≤ 50000) (hd : d ≠ 0) : Calls Tryz.prog 146 #[.agg #[.bool (rb x), .slice a1 (words x.natAbs).length ac1, .bool false, .slice none 0 0, .slice a3 (words d).length ac3]] w (AnsN w r) := by
 have e : words (Int.natAbs 0) = [] := words_zero
 have k := zdd (w := w) (x := x) (y := 0) (d := d) (a2 := none) (ac2 := 0) ha1 (by rw [e]; exact Sc.none _) ha3 h l1 (by rw [e]; decide) l3 hd
 rw [e] at k
 exact k
def rtC (z : Int) (d : Nat) (o1 : Option Addr) (c1 : Nat) (o2 : Option Addr) (c2 : Nat) : List Value := [.bool (rb z), .slice o1 (words z.natAbs).length c1, .bool false, .slice none 0 0, .slice o2 (words d).length c2]
theorem lz1 {u v : Rat} (hu : jx u) (hv : jx v) : (words (spX u v).natAbs).length ≤ 10000 := Nat.le_trans (qha hu hv) (by decide)
theorem lz2 {u v : Rat} (hu : jx u) (hv : jx v) : (words (spY u v).natAbs).length ≤ 10000 := Nat.le_trans (ztc hu hv) (by decide)
theorem lz3 {u v : Rat} (hu : jx u) (hv : jx v) : (words (spD u v)).length ≤ 10000 := Nat.le_trans (qhb hu hv) (by decide)
theorem ExY_isS_165 : IsS Tryz.prog 165 5 := ⟨⟨_, Tryz.underlying165⟩, by kernel_rfl⟩
theorem ExY_isS_35 : IsS Tryz.prog 35 6 := ⟨⟨_, Tryz.underlying35⟩, by kernel_rfl⟩
theorem jl {w : World} {x1 y1 x2 y2 : Int} {d1 d2 : Nat} {a1 a2 a3 : Option Addr} {ac1 ac2 ac3 : Nat} (ha1 : Sc w a1 ac1 (words x1.natAbs)) (ha2 : Sc w a2 ac2 (words y1.natAbs)) (ha3 : Sc w a3 ac3 (words d1)) {u1 u2 u3 : Option Addr} {uc1 uc2 uc3 : Nat} (hu1 : Sc w u1 uc1 (words x2.natAbs)) (hu2 : Sc w u2 uc2 (words y2.natAbs)) (hu3 : Sc w u3 uc3 (words d2)) (la1 : (words x1.natAbs).length ≤ 10000) (la2 : (words y1.natAbs).length ≤ 10000) (la3 : (words d1).length ≤ 10000) (lu1 : (words x2.natAbs).length ≤ 10000) (lu2 : (words y2.natAbs).length ≤ 10000) (lu3 : (words d2).length ≤ 10000) (h1 : d1 ≠ 0) (h2 : x2 ≠ 0) {T : Int} {R D : Nat} (hT : dmT x1 x2 d1 d2 = T) (hR : dmR x1 x2 d1 d2 = R) (hD : d1 * d2 = D) : Calls Tryz.prog 144 #[.agg #[.bool (rb x1), .slice a1 (words x1.natAbs).length ac1, .bool (rb y1), .slice a2 (words y1.natAbs).length ac2, .slice a3 (words d1).length ac3], .agg #[.bool (rb x2), .slice u1 (words x2.natAbs).length uc1, .bool (rb y2), .slice u2 (words y2.natAbs).length uc2, .slice u3 (words d2).length uc3]] w (AnsRR w T 1 ((R : Nat) : Int) D) := by
 subst hT hR hD
 exact zag ha1 ha2 ha3 hu1 hu2 hu3 la1 la2 la3 lu1 lu2 lu3 h1 h2
set_option maxHeartbeats 1000000 in
theorem zvh {w : World} {u v x y : Rat} {a1 a2 a3 a4 : Option Addr} {ac1 ac2 ac3 ac4 : Nat} (ha : Nm w (Q6.rat u v) a1 ac1 a2 ac2 a3 ac3 a4 ac4) {u1 u2 u3 u4 : Option Addr} {uc1 uc2 uc3 uc4 : Nat} (hb : Nm w (Q6.rat x y) u1 uc1 u2 uc2 u3 uc3 u4 uc4) (hu : jx u) (hv : jx v) (hx : jx x) (hy : jx y) (hw : xy (Q6.rat u v) (Q6.rat x y) = 0) (hz : ¬ (x = 0 ∧ y = 0)) (hx2 : spX x y ≠ 0) {T : Int} {R D : Nat} (hT : dmT (spX u v) (spX x y) (spD u v) (spD x y) = T) (hR : dmR (spX u v) (spX x y) (spD u v) (spD x y) = R) (hD : spD u v * spD x y = D) (hD0 : D ≠ 0) (n1 : (words T.natAbs).length ≤ 3000) (n2 : (words ((R : Nat) : Int).natAbs).length ≤ 3000) (n3 : (words 1).length ≤ 512) (n4 : (words D).length ≤ 3000) {z1 z2 : Q6 × Int} (e1 : qjc T 0 1 = z1) (e2 : qjc ((R : Nat) : Int) 0 D = z2) (hk1 : (z1.2 != 0) = false) (hk2 : (z2.2 != 0) = false) : Calls Tryz.prog 110 #[ys (Q6.rat u v) a1 ac1 a2 ac2 a3 ac3 a4 ac4, ys (Q6.rat x y) u1 uc1 u2 uc2 u3 uc3 u4 uc4] w (AnsNN w (z1.1, z2.1, 0)) := by
 have k1 : (words x.num.natAbs).length ≤ 512 := hx.1
 have k2 : (words y.num.natAbs).length ≤ 512 := hy.1
 have V : St w w [] [(u4, words y.den), (u3, words y.num.natAbs), (u2, words x.den), (u1, words x.num.natAbs), (a4, words v.den), (a3, words v.num.natAbs), (a2, words u.den), (a1, words u.num.natAbs)] [] := ((((((((St.start w).addR ha.s1.rd).addR ha.s2.rd).addR ha.s3.rd).addR ha.s4.rd).addR hb.s1.rd).addR hb.s2.rd).addR hb.s3.rd).addR hb.s4.rd
 refine za (l := [(0, .agg #[.bool (rb u.num), .slice a1 ((words u.num.natAbs).length) ac1, .slice a2 ((words u.den).length) ac2, .bool (rb v.num), .slice a3 ((words v.num.natAbs).length) ac3, .slice a4 ((words v.den).length) ac4]), (1, .agg #[.bool (rb x.num), .slice u1 ((words x.num.natAbs).length) uc1, .slice u2 ((words x.den).length) uc2, .bool (rb y.num), .slice u3 ((words y.num.natAbs).length) uc3, .slice u4 ((words y.den).length) uc4])]) Tryz.func110 rfl Tryz.ntmps110 rfl rfl ?_
 intro Q hret hnorm hP a H
 refine wsk fun K1 hK1 => wrl (zn H V rfl rfl rfl pg (zb rfl rfl) rfl ?_)
 intro g2 w3 V a H
 refine zn H V rfl rfl rfl pg (zb rfl rfl) rfl ?_
 intro g4 w5 V a H
 refine zn (vs := [.bool false, .slice none 0 0, .slice none 0 0, .bool false, .slice none 0 0, .slice none 0 0]) (t := 35) H V rfl rfl rfl pg (qi (z := .agg #[.bool false, .slice none 0 0, .slice none 0 0, .bool false, .slice none 0 0, .slice none 0 0]) (by kernel_rfl) rfl) rfl ?_
 intro g6 w7 V a H
 refine zn (vs := [.bool false, .slice none 0 0, .slice none 0 0, .bool false, .slice none 0 0, .slice none 0 0]) (t := 35) H V rfl rfl rfl pg (qi (z := .agg #[.bool false, .slice none 0 0, .slice none 0 0, .bool false, .slice none 0 0, .slice none 0 0]) (by kernel_rfl) rfl) rfl ?_
 intro g8 w9 V a H
 refine sda H λa H↦?_
 refine qa (hK1 _ _ (wsk fun K10 hK10 => wsk fun K11 hK11 => wrl (sdo H (zd V ExY_isS_35 rfl 3 rfl (cs := [.bool (rb u.num), .slice a1 ((words u.num.natAbs).length) ac1, .slice a2 ((words u.den).length) ac2, .bool (rb v.num), .slice a3 ((words v.num.natAbs).length) ac3, .slice a4 ((words v.den).length) ac4]) rfl rfl) λa H↦?_)))
 refine sdo H (zd V ExY_isS_35 rfl 2 rfl (cs := [.bool (rb x.num), .slice u1 ((words x.num.natAbs).length) uc1, .slice u2 ((words x.den).length) uc2, .bool (rb y.num), .slice u3 ((words y.num.natAbs).length) uc3, .slice u4 ((words y.den).length) uc4]) rfl rfl) λa H↦?_
 refine zn (vs := [.bool (rb u.num), .slice a1 ((words u.num.natAbs).length) ac1, .slice a2 ((words u.den).length) ac2, .bool (rb v.num), .slice a3 ((words v.num.natAbs).length) ac3, .slice a4 ((words v.den).length) ac4, .bool (rb x.num), .slice u1 ((words x.num.natAbs).length) uc1, .slice u2 ((words x.den).length) uc2, .bool (rb y.num), .slice u3 ((words y.num.natAbs).length) uc3, .slice u4 ((words y.den).length) uc4]) (t := 35) H V rfl rfl rfl (fun g => .slice (some ⟨g, 0, none⟩) 2 2) (jf rfl (by kernel_rfl)) rfl ?_
 intro g12 w13 V a H
 refine sct H (ef rfl rfl) (qfh (show Nm _ (Q6.rat u v) a1 ac1 a2 ac2 a3 ac3 a4 ac4 from ⟨⟨(V.rd 7 rfl), ha.s1.nil, ha.s1.cap⟩, ⟨(V.rd 6 rfl), ha.s2.nil, ha.s2.cap⟩, ⟨(V.rd 5 rfl), ha.s3.nil, ha.s3.cap⟩, ⟨(V.rd 4 rfl), ha.s4.nil, ha.s4.cap⟩⟩) (uw hu hv) (show Nm _ (Q6.rat x y) u1 uc1 u2 uc2 u3 uc3 u4 uc4 from ⟨⟨(V.rd 3 rfl), hb.s1.nil, hb.s1.cap⟩, ⟨(V.rd 2 rfl), hb.s2.nil, hb.s2.cap⟩, ⟨(V.rd 1 rfl), hb.s3.nil, hb.s3.cap⟩, ⟨(V.rd 0 rfl), hb.s4.nil, hb.s4.cap⟩⟩) (uw hx hy) (V.blk 0 rfl) hw) ?_
 rintro _ w15 ⟨rfl, hb14⟩
 replace V := V.call hb14
 refine ⟨_, rfl, ?_⟩
 intro a H
 refine sda H λa H↦?_
 refine qa (hK11 _ _ (wsk fun K16 hK16 => wrl (sdm H λa H↦?_)))
 refine sdo (v := .bool false) H (qk rfl rfl (fun w => by kernel_rfl)) λa H↦?_
 refine qa (hK16 _ _ (wp_cond_false (H.ev rfl) ?_))
 refine wp_skip (hK10 _ _ (wsk fun K17 hK17 => wsk fun K18 hK18 => wrl (sdo H (zd V ExY_isS_35 rfl 3 rfl (cs := [.bool (rb x.num), .slice u1 ((words x.num.natAbs).length) uc1, .slice u2 ((words x.den).length) uc2, .bool (rb y.num), .slice u3 ((words y.num.natAbs).length) uc3, .slice u4 ((words y.den).length) uc4]) rfl rfl) λa H↦?_)))
 refine sct H (ef rfl rfl) ((show Calls Tryz.prog 143 #[.agg #[.bool (rb x.num), .slice u1 ((words x.num.natAbs).length) uc1, .slice u2 ((words x.den).length) uc2, .bool (rb y.num), .slice u3 ((words y.num.natAbs).length) uc3, .slice u4 ((words y.den).length) uc4]] _ (fun e w' => e = .returned (.bool false) ∧ _) from (((zmc x y).trans (decide_eq_false hz)) ▸ zbc (by omega) (by omega)))) ?_
 rintro _ w20 ⟨rfl, hb19⟩
 replace V := V.call hb19
 refine ⟨_, rfl, ?_⟩
 intro a H
 refine qa (hK18 _ _ (wp_cond_false (H.ev rfl) ?_))
 refine wp_skip (hK17 _ _ (wsk fun K21 hK21 => ?_))
 have hJ72 : ∀ a w1, (∃ (J54g : Nat) (J55g : Nat) (J56 : Option Addr) (J57 : Nat) (J58 : Option Addr) (J59 : Nat) (J60 : Option Addr) (J61 : Nat) (J62 : Option Addr) (J63 : Nat), Sl a 53 [(0, .agg #[.bool (rb u.num), .slice a1 ((words u.num.natAbs).length) ac1, .slice a2 ((words u.den).length) ac2, .bool (rb v.num), .slice a3 ((words v.num.natAbs).length) ac3, .slice a4 ((words v.den).length) ac4]), (1, .agg #[.bool (rb x.num), .slice u1 ((words x.num.natAbs).length) uc1, .slice u2 ((words x.den).length) uc2, .bool (rb y.num), .slice u3 ((words y.num.natAbs).length) uc3, .slice u4 ((words y.den).length) uc4]), (2, .pointer (some ⟨g2, 0, none⟩)), (3, .pointer (some ⟨g4, 0, none⟩)), (4, .pointer (some ⟨g6, 0, none⟩)), (5, .pointer (some ⟨g8, 0, none⟩)), (6, .int .i64 0), (7, .int .i64 0), (8, .pointer (some ⟨J54g, 0, none⟩)), (9, .pointer (some ⟨J55g, 0, none⟩)), (10, .agg #[.bool (rb u.num), .slice a1 ((words u.num.natAbs).length) ac1, .slice a2 ((words u.den).length) ac2, .bool (rb v.num), .slice a3 ((words v.num.natAbs).length) ac3, .slice a4 ((words v.den).length) ac4]), (11, .agg #[.bool (rb x.num), .slice u1 ((words x.num.natAbs).length) uc1, .slice u2 ((words x.den).length) uc2, .bool (rb y.num), .slice u3 ((words y.num.natAbs).length) uc3, .slice u4 ((words y.den).length) uc4]), (12, .slice (some ⟨g12, 0, none⟩) 2 2), (13, .int .i64 0), (14, .int .i64 0), (15, .bool false), (19, .agg #[.bool (rb x.num), .slice u1 ((words x.num.natAbs).length) uc1, .slice u2 ((words x.den).length) uc2, .bool (rb y.num), .slice u3 ((words y.num.natAbs).length) uc3, .slice u4 ((words y.den).length) uc4]), (20, .bool false)] ∧ St w w1 [(J55g, (rtC ((R : Nat) : Int) D J60 J61 J62 J63)), (J54g, (rtC T 1 J56 J57 J58 J59)), (g12, [.bool (rb u.num), .slice a1 ((words u.num.natAbs).length) ac1, .slice a2 ((words u.den).length) ac2, .bool (rb v.num), .slice a3 ((words v.num.natAbs).length) ac3, .slice a4 ((words v.den).length) ac4, .bool (rb x.num), .slice u1 ((words x.num.natAbs).length) uc1, .slice u2 ((words x.den).length) uc2, .bool (rb y.num), .slice u3 ((words y.num.natAbs).length) uc3, .slice u4 ((words y.den).length) uc4]), (g8, [.bool false, .slice none 0 0, .slice none 0 0, .bool false, .slice none 0 0, .slice none 0 0]), (g6, [.bool false, .slice none 0 0, .slice none 0 0, .bool false, .slice none 0 0, .slice none 0 0]), (g4, [.bool (rb x.num), .slice u1 ((words x.num.natAbs).length) uc1, .slice u2 ((words x.den).length) uc2, .bool (rb y.num), .slice u3 ((words y.num.natAbs).length) uc3, .slice u4 ((words y.den).length) uc4]), (g2, [.bool (rb u.num), .slice a1 ((words u.num.natAbs).length) ac1, .slice a2 ((words u.den).length) ac2, .bool (rb v.num), .slice a3 ((words v.num.natAbs).length) ac3, .slice a4 ((words v.den).length) ac4])] [(J62, words D), (J60, words ((R : Nat) : Int).natAbs), (J58, words 1), (J56, words T.natAbs), (u4, words y.den), (u3, words y.num.natAbs), (u2, words x.den), (u1, words x.num.natAbs), (a4, words v.den), (a3, words v.num.natAbs), (a2, words u.den), (a1, words u.num.natAbs)] [] ∧ (J62 = none → J63 = 0) ∧ (words D : List Nat).length ≤ J63 ∧ (J60 = none → J61 = 0) ∧ (words ((R : Nat) : Int).natAbs : List Nat).length ≤ J61 ∧ (J58 = none → J59 = 0) ∧ (words 1 : List Nat).length ≤ J59 ∧ (J56 = none → J57 = 0) ∧ (words T.natAbs : List Nat).length ≤ J57) → K21 a w1 := by
  clear H V
  rintro a w73 ⟨J54g, J55g, J56, J57, J58, J59, J60, J61, J62, J63, H, V, hn64, hc65, hn66, hc67, hn68, hc69, hn70, hc71⟩
  refine hK21 _ _ (wsk fun K74 hK74 => wrl (sdo H (zd V ExY_isS_165 rfl 1 rfl (cs := (rtC T 1 J56 J57 J58 J59)) rfl rfl) λa H↦?_))
  refine sct H (ef rfl rfl) (qlg ⟨(V.rd 3 rfl), hn70, hc71⟩ ⟨(V.rd 2 rfl), hn68, hc69⟩ e1 (by omega) (by omega) (by decide)) ?_
  rintro _ w78 ⟨p75_1, p75_c1, p75_2, p75_c2, p75_3, p75_c3, p75_4, p75_c4, rfl, hn76, hb77⟩
  replace V := V.call hb77
  replace V := V.addR hn76.s1.rd
  replace V := V.addR hn76.s2.rd
  replace V := V.addR hn76.s3.rd
  replace V := V.addR hn76.s4.rd
  refine ⟨_, rfl, ?_⟩
  intro a H
  refine sdm H λa H↦?_
  iterate 2 refine sdo H (qh (vs := [.agg #[.bool z1.1.b1, .slice p75_1 z1.1.t1.length p75_c1, .slice p75_2 z1.1.q1.length p75_c2, .bool z1.1.b2, .slice p75_3 z1.1.t2.length p75_c3, .slice p75_4 z1.1.q2.length p75_c4], .int .i64 z1.2]) rfl rfl) λa H↦?_
  refine jk (us := [.bool z1.1.b1, .slice p75_1 z1.1.t1.length p75_c1, .slice p75_2 z1.1.q1.length p75_c2, .bool z1.1.b2, .slice p75_3 z1.1.t2.length p75_c3, .slice p75_4 z1.1.q2.length p75_c4]) H V rfl rfl (qj rfl rfl rfl (by kernel_rfl) V 4 rfl rfl rfl) 4 rfl rfl rfl rfl ?_
  intro w79 V
  refine sda H λa H↦?_
  refine qa (hK74 _ _ (wsk fun K80 hK80 => wsk fun K81 hK81 => wrl (sdm H λa H↦?_)))
  refine sdo (v := .bool false) H (qk rfl rfl (fun w => (jr w).trans (by rw [show ((z1.2 != 0)) = false from hk1]))) λa H↦?_
  refine qa (hK81 _ _ (wp_cond_false (H.ev rfl) ?_))
  refine wp_skip (hK80 _ _ (wsk fun K82 hK82 => wrl (sdo H (zd V ExY_isS_165 rfl 0 rfl (cs := (rtC ((R : Nat) : Int) D J60 J61 J62 J63)) rfl rfl) λa H↦?_)))
  refine sct H (ef rfl rfl) (qlg ⟨(V.rd 5 rfl), hn66, hc67⟩ ⟨(V.rd 4 rfl), hn64, hc65⟩ e2 (by omega) (by omega) hD0) ?_
  rintro _ w86 ⟨p83_1, p83_c1, p83_2, p83_c2, p83_3, p83_c3, p83_4, p83_c4, rfl, hn84, hb85⟩
  replace V := V.call hb85
  replace V := V.addR hn84.s1.rd
  replace V := V.addR hn84.s2.rd
  replace V := V.addR hn84.s3.rd
  replace V := V.addR hn84.s4.rd
  refine ⟨_, rfl, ?_⟩
  intro a H
  refine sdm H λa H↦?_
  iterate 2 refine sdo H (qh (vs := [.agg #[.bool z2.1.b1, .slice p83_1 z2.1.t1.length p83_c1, .slice p83_2 z2.1.q1.length p83_c2, .bool z2.1.b2, .slice p83_3 z2.1.t2.length p83_c3, .slice p83_4 z2.1.q2.length p83_c4], .int .i64 z2.2]) rfl rfl) λa H↦?_
  refine jk (us := [.bool z2.1.b1, .slice p83_1 z2.1.t1.length p83_c1, .slice p83_2 z2.1.q1.length p83_c2, .bool z2.1.b2, .slice p83_3 z2.1.t2.length p83_c3, .slice p83_4 z2.1.q2.length p83_c4]) H V rfl rfl (qj rfl rfl rfl (by kernel_rfl) V 3 rfl rfl rfl) 3 rfl rfl rfl rfl ?_
  intro w87 V
  refine sda H λa H↦?_
  refine qa (hK82 _ _ (wsk fun K88 hK88 => wsk fun K89 hK89 => wrl (sdm H λa H↦?_)))
  refine sdo (v := .bool false) H (qk rfl rfl (fun w => (jr w).trans (by rw [show ((z2.2 != 0)) = false from hk2]))) λa H↦?_
  refine qa (hK89 _ _ (wp_cond_false (H.ev rfl) ?_))
  refine wp_skip (hK88 _ _ (wsk fun K90 hK90 => je (S := fun w1 => St w w1 [(J55g, (rtC ((R : Nat) : Int) D J60 J61 J62 J63)), (J54g, (rtC T 1 J56 J57 J58 J59)), (g12, [.bool (rb u.num), .slice a1 ((words u.num.natAbs).length) ac1, .slice a2 ((words u.den).length) ac2, .bool (rb v.num), .slice a3 ((words v.num.natAbs).length) ac3, .slice a4 ((words v.den).length) ac4, .bool (rb x.num), .slice u1 ((words x.num.natAbs).length) uc1, .slice u2 ((words x.den).length) uc2, .bool (rb y.num), .slice u3 ((words y.num.natAbs).length) uc3, .slice u4 ((words y.den).length) uc4]), (g8, [.bool z2.1.b1, .slice p83_1 z2.1.t1.length p83_c1, .slice p83_2 z2.1.q1.length p83_c2, .bool z2.1.b2, .slice p83_3 z2.1.t2.length p83_c3, .slice p83_4 z2.1.q2.length p83_c4]), (g6, [.bool z1.1.b1, .slice p75_1 z1.1.t1.length p75_c1, .slice p75_2 z1.1.q1.length p75_c2, .bool z1.1.b2, .slice p75_3 z1.1.t2.length p75_c3, .slice p75_4 z1.1.q2.length p75_c4]), (g4, [.bool (rb x.num), .slice u1 ((words x.num.natAbs).length) uc1, .slice u2 ((words x.den).length) uc2, .bool (rb y.num), .slice u3 ((words y.num.natAbs).length) uc3, .slice u4 ((words y.den).length) uc4]), (g2, [.bool (rb u.num), .slice a1 ((words u.num.natAbs).length) ac1, .slice a2 ((words u.den).length) ac2, .bool (rb v.num), .slice a3 ((words v.num.natAbs).length) ac3, .slice a4 ((words v.den).length) ac4])] [(p83_4, z2.1.q2), (p83_3, z2.1.t2), (p83_2, z2.1.q1), (p83_1, z2.1.t1), (p75_4, z1.1.q2), (p75_3, z1.1.t2), (p75_2, z1.1.q1), (p75_1, z1.1.t1), (J62, words D), (J60, words ((R : Nat) : Int).natAbs), (J58, words 1), (J56, words T.natAbs), (u4, words y.den), (u3, words y.num.natAbs), (u2, words x.den), (u1, words x.num.natAbs), (a4, words v.den), (a3, words v.num.natAbs), (a2, words u.den), (a1, words u.num.natAbs)] []) (by kernel_rfl) ?_))
  replace V := V.drew
  refine qe H 0 rfl rfl rfl rfl hP V (fun w1 V => zd V ExY_isS_35 rfl 4 rfl (cs := [.bool z1.1.b1, .slice p75_1 z1.1.t1.length p75_c1, .slice p75_2 z1.1.q1.length p75_c2, .bool z1.1.b2, .slice p75_3 z1.1.t2.length p75_c3, .slice p75_4 z1.1.q2.length p75_c4]) rfl rfl) λa H↦?_
  refine qe H 1 rfl rfl rfl rfl hP V (fun w1 V => zd V ExY_isS_35 rfl 3 rfl (cs := [.bool z2.1.b1, .slice p83_1 z2.1.t1.length p83_c1, .slice p83_2 z2.1.q1.length p83_c2, .bool z2.1.b2, .slice p83_3 z2.1.t2.length p83_c3, .slice p83_4 z2.1.q2.length p83_c4]) rfl rfl) λa H↦?_
  refine qf (by kernel_rfl) (qn (us := [.bool z1.1.b1, .slice p75_1 z1.1.t1.length p75_c1, .slice p75_2 z1.1.q1.length p75_c2, .bool z1.1.b2, .slice p75_3 z1.1.t2.length p75_c3, .slice p75_4 z1.1.q2.length p75_c4]) H V 2 rfl rfl rfl (qj rfl rfl rfl (by kernel_rfl) V 4 rfl rfl rfl) 4 rfl rfl rfl rfl ?_)
  intro w91 V
  refine ⟨V, ?_⟩
  refine qf (by kernel_rfl) (qn (us := [.bool z2.1.b1, .slice p83_1 z2.1.t1.length p83_c1, .slice p83_2 z2.1.q1.length p83_c2, .bool z2.1.b2, .slice p83_3 z2.1.t2.length p83_c3, .slice p83_4 z2.1.q2.length p83_c4]) H V 3 rfl rfl rfl (qj rfl rfl rfl (by kernel_rfl) V 3 rfl rfl rfl) 3 rfl rfl rfl rfl ?_)
  intro w92 V
  refine ⟨V, ?_⟩
  refine qe H 4 rfl rfl rfl rfl hP V (fun w1 V => zh rfl) λa H↦?_
  refine qy (by kernel_rfl) ?_
  refine hK90 _ _ (wp_ret (hret _ _ (en3 H rfl (jj V ExY_isS_35 rfl 4 rfl (cs := [.bool z1.1.b1, .slice p75_1 z1.1.t1.length p75_c1, .slice p75_2 z1.1.q1.length p75_c2, .bool z1.1.b2, .slice p75_3 z1.1.t2.length p75_c3, .slice p75_4 z1.1.q2.length p75_c4]) rfl rfl) (jj V ExY_isS_35 rfl 3 rfl (cs := [.bool z2.1.b1, .slice p83_1 z2.1.t1.length p83_c1, .slice p83_2 z2.1.q1.length p83_c2, .bool z2.1.b2, .slice p83_3 z2.1.t2.length p83_c3, .slice p83_4 z2.1.q2.length p83_c4]) rfl rfl) (ql rfl) ?_)))
  exact ⟨p75_1, p75_c1, p75_2, p75_c2, p75_3, p75_c3, p75_4, p75_c4, p83_1, p83_c1, p83_2, p83_c2, p83_3, p83_c3, p83_4, p83_c4, rfl, ⟨⟨(V.rd 7 rfl), hn76.s1.nil, hn76.s1.cap⟩, ⟨(V.rd 6 rfl), hn76.s2.nil, hn76.s2.cap⟩, ⟨(V.rd 5 rfl), hn76.s3.nil, hn76.s3.cap⟩, ⟨(V.rd 4 rfl), hn76.s4.nil, hn76.s4.cap⟩⟩, ⟨⟨(V.rd 3 rfl), hn84.s1.nil, hn84.s1.cap⟩, ⟨(V.rd 2 rfl), hn84.s2.nil, hn84.s2.cap⟩, ⟨(V.rd 1 rfl), hn84.s3.nil, hn84.s3.cap⟩, ⟨(V.rd 0 rfl), hn84.s4.nil, hn84.s4.cap⟩⟩, V.bel⟩
 refine je (S := fun w1 => St w w1 [(g12, [.bool (rb u.num), .slice a1 ((words u.num.natAbs).length) ac1, .slice a2 ((words u.den).length) ac2, .bool (rb v.num), .slice a3 ((words v.num.natAbs).length) ac3, .slice a4 ((words v.den).length) ac4, .bool (rb x.num), .slice u1 ((words x.num.natAbs).length) uc1, .slice u2 ((words x.den).length) uc2, .bool (rb y.num), .slice u3 ((words y.num.natAbs).length) uc3, .slice u4 ((words y.den).length) uc4]), (g8, [.bool false, .slice none 0 0, .slice none 0 0, .bool false, .slice none 0 0, .slice none 0 0]), (g6, [.bool false, .slice none 0 0, .slice none 0 0, .bool false, .slice none 0 0, .slice none 0 0]), (g4, [.bool (rb x.num), .slice u1 ((words x.num.natAbs).length) uc1, .slice u2 ((words x.den).length) uc2, .bool (rb y.num), .slice u3 ((words y.num.natAbs).length) uc3, .slice u4 ((words y.den).length) uc4]), (g2, [.bool (rb u.num), .slice a1 ((words u.num.natAbs).length) ac1, .slice a2 ((words u.den).length) ac2, .bool (rb v.num), .slice a3 ((words v.num.natAbs).length) ac3, .slice a4 ((words v.den).length) ac4])] [(u4, words y.den), (u3, words y.num.natAbs), (u2, words x.den), (u1, words x.num.natAbs), (a4, words v.den), (a3, words v.num.natAbs), (a2, words u.den), (a1, words u.num.natAbs)] []) (by kernel_rfl) ?_
 replace V := V.drew
 refine qe H 0 rfl rfl rfl rfl hP V (fun w1 V => zd V ExY_isS_35 rfl 4 rfl (cs := [.bool (rb u.num), .slice a1 ((words u.num.natAbs).length) ac1, .slice a2 ((words u.den).length) ac2, .bool (rb v.num), .slice a3 ((words v.num.natAbs).length) ac3, .slice a4 ((words v.den).length) ac4]) rfl rfl) λa H↦?_
 refine qe H 2 rfl rfl rfl rfl hP V (fun w1 V => zd V ExY_isS_35 rfl 3 rfl (cs := [.bool (rb x.num), .slice u1 ((words x.num.natAbs).length) uc1, .slice u2 ((words x.den).length) uc2, .bool (rb y.num), .slice u3 ((words y.num.natAbs).length) uc3, .slice u4 ((words y.den).length) uc4]) rfl rfl) λa H↦?_
 refine zk (rs := [1, 8, 9]) (by kernel_rfl) (by simp) ⟨?_, ?_, ?_, trivial⟩
 ·
  refine qm H 1 rfl rfl rfl rfl (qg  rfl rfl (fun w => by kernel_rfl)) (zm (show Nm _ (Q6.rat u v) a1 ac1 a2 ac2 a3 ac3 a4 ac4 from ⟨⟨(V.rd 7 rfl), ha.s1.nil, ha.s1.cap⟩, ⟨(V.rd 6 rfl), ha.s2.nil, ha.s2.cap⟩, ⟨(V.rd 5 rfl), ha.s3.nil, ha.s3.cap⟩, ⟨(V.rd 4 rfl), ha.s4.nil, ha.s4.cap⟩⟩) hu hv) ?_
  rintro _ w98 ⟨p93_1, p93_c1, p93_2, p93_c2, p93_3, p93_c3, rfl, hs94, hs95, hs96, hb97⟩
  replace V := V.call hb97
  replace V := V.addR hs94.rd
  replace V := V.addR hs95.rd
  replace V := V.addR hs96.rd
  refine ⟨_, rfl, (V.partD (.refl _) 3 rfl (.refl _)), ?_⟩
  intro a H
  refine zk (rs := [3, 8, 9]) (by kernel_rfl) (by simp) ⟨?_, ?_, ?_, trivial⟩
  ·
   refine qm H 3 rfl rfl rfl rfl (qg  rfl rfl (fun w => by kernel_rfl)) (zm (show Nm _ (Q6.rat x y) u1 uc1 u2 uc2 u3 uc3 u4 uc4 from ⟨⟨(V.rd 6 rfl), hb.s1.nil, hb.s1.cap⟩, ⟨(V.rd 5 rfl), hb.s2.nil, hb.s2.cap⟩, ⟨(V.rd 4 rfl), hb.s3.nil, hb.s3.cap⟩, ⟨(V.rd 3 rfl), hb.s4.nil, hb.s4.cap⟩⟩) hx hy) ?_
   rintro _ w104 ⟨p99_1, p99_c1, p99_2, p99_c2, p99_3, p99_c3, rfl, hs100, hs101, hs102, hb103⟩
   replace V := V.call hb103
   replace V := V.addR hs100.rd
   replace V := V.addR hs101.rd
   replace V := V.addR hs102.rd
   refine ⟨_, rfl, (V.partD (.refl _) 6 rfl (.refl _)), ?_⟩
   intro a H
   refine zk (rs := [4, 8, 9]) (by kernel_rfl) (by simp) ⟨?_, ?_, ?_, trivial⟩
   ·
    refine qm H 4 rfl rfl rfl rfl (qg  rfl rfl (fun w => by kernel_rfl)) (jl ⟨(V.rd 5 rfl), hs94.nil, hs94.cap⟩ ⟨(V.rd 4 rfl), hs95.nil, hs95.cap⟩ ⟨(V.rd 3 rfl), hs96.nil, hs96.cap⟩ ⟨(V.rd 2 rfl), hs100.nil, hs100.cap⟩ ⟨(V.rd 1 rfl), hs101.nil, hs101.cap⟩ ⟨(V.rd 0 rfl), hs102.nil, hs102.cap⟩ (lz1 hu hv) (lz2 hu hv) (lz3 hu hv) (lz1 hx hy) (lz2 hx hy) (lz3 hx hy) (js u v) hx2 hT hR hD) ?_
    rintro _ w118 ⟨zo105, zc106, uo107, uc108, zo109, zc110, uo111, uc112, rfl, hs113, hs114, hs115, hs116, hb117⟩
    replace V := V.call hb117
    replace V := V.addR hs113.rd
    replace V := V.addR hs114.rd
    replace V := V.addR hs115.rd
    replace V := V.addR hs116.rd
    refine ⟨_, rfl, (V.partD (.refl _) 10 rfl (.refl _)), ?_⟩
    intro a H
    refine qe H 5 rfl rfl rfl rfl hP (V.partD (.refl _) 10 rfl (.refl _)) (fun w1 V => qz rfl) λa H↦?_
    refine qe (v := .agg (rtC T 1 zo105 zc106 uo107 uc108).toArray) H 6 rfl rfl rfl rfl hP (V.partD (.refl _) 10 rfl (.refl _)) (fun w1 V => qh (vs := [.agg (rtC T 1 zo105 zc106 uo107 uc108).toArray, .agg (rtC ((R : Nat) : Int) D zo109 zc110 uo111 uc112).toArray]) rfl rfl) λa H↦?_
    refine qe (v := .agg (rtC ((R : Nat) : Int) D zo109 zc110 uo111 uc112).toArray) H 7 rfl rfl rfl rfl hP (V.partD (.refl _) 10 rfl (.refl _)) (fun w1 V => qh (vs := [.agg (rtC T 1 zo105 zc106 uo107 uc108).toArray, .agg (rtC ((R : Nat) : Int) D zo109 zc110 uo111 uc112).toArray]) rfl rfl) λa H↦?_
    refine zk (rs := [8, 9]) (by kernel_rfl) (by simp) ⟨?_, ?_, trivial⟩
    ·
     refine zt (vs := [.bool false, .slice none 0 0, .bool false, .slice none 0 0, .slice none 0 0]) (t := 165) H V 8 rfl rfl rfl rfl pg (qi (z := .agg #[.bool false, .slice none 0 0, .bool false, .slice none 0 0, .slice none 0 0]) (by kernel_rfl) rfl) rfl ?_
     intro g119 w120 V
     refine ⟨(V.partD (cn (cc (cc (cc (cc (cc .slnil)))))) 10 rfl (.refl _)), ?_⟩
     intro a H
     refine qf (by kernel_rfl) (zt (vs := [.bool false, .slice none 0 0, .bool false, .slice none 0 0, .slice none 0 0]) (t := 165) H V 9 rfl rfl rfl rfl pg (qi (z := .agg #[.bool false, .slice none 0 0, .bool false, .slice none 0 0, .slice none 0 0]) (by kernel_rfl) rfl) rfl ?_)
     intro g121 w122 V
     refine ⟨(V.partD (cn (cn (cc (cc (cc (cc (cc .slnil))))))) 10 rfl (.refl _)), ?_⟩
     intro a H
     refine qf (by kernel_rfl) (qn (us := (rtC T 1 zo105 zc106 uo107 uc108)) H V 10 rfl rfl rfl (qj rfl rfl rfl (by kernel_rfl) V 1 rfl rfl rfl) 1 rfl rfl rfl rfl ?_)
     intro w123 V
     refine ⟨(V.partD (cn (cn (cc (cc (cc (cc (cc .slnil))))))) 10 rfl (.refl _)), ?_⟩
     refine qf (by kernel_rfl) (qn (us := (rtC ((R : Nat) : Int) D zo109 zc110 uo111 uc112)) H V 11 rfl rfl rfl (qj rfl rfl rfl (by kernel_rfl) V 0 rfl rfl rfl) 0 rfl rfl rfl rfl ?_)
     intro w124 V
     refine ⟨(V.partD (cn (cn (cc (cc (cc (cc (cc .slnil))))))) 10 rfl (.refl _)), ?_⟩
     refine qy (by kernel_rfl) ?_
     refine hJ72 _ _ ⟨g119, g121, zo105, zc106, uo107, uc108, zo109, zc110, uo111, uc112, H.keep _ (by repeat' constructor), (St.pickRL V ⟨⟨0, rfl⟩, ⟨⟨1, rfl⟩, ⟨⟨2, rfl⟩, ⟨⟨3, rfl⟩, ⟨⟨10, rfl⟩, ⟨⟨11, rfl⟩, ⟨⟨12, rfl⟩, ⟨⟨13, rfl⟩, ⟨⟨14, rfl⟩, ⟨⟨15, rfl⟩, ⟨⟨16, rfl⟩, ⟨⟨17, rfl⟩, trivial⟩⟩⟩⟩⟩⟩⟩⟩⟩⟩⟩⟩ [0, 1, 2, 3, 4, 5, 6] rfl (by decide)), hs116.nil, hs116.cap, hs115.nil, hs115.cap, hs114.nil, hs114.cap, hs113.nil, hs113.cap⟩
    ·
     refine zt (vs := [.bool false, .slice none 0 0, .bool false, .slice none 0 0, .slice none 0 0]) (t := 165) H V 9 rfl rfl rfl rfl pg (qi (z := .agg #[.bool false, .slice none 0 0, .bool false, .slice none 0 0, .slice none 0 0]) (by kernel_rfl) rfl) rfl ?_
     intro g125 w126 V
     refine ⟨(V.partD (cn (cc (cc (cc (cc (cc .slnil)))))) 10 rfl (.refl _)), ?_⟩
     intro a H
     refine qf (by kernel_rfl) (zt (vs := [.bool false, .slice none 0 0, .bool false, .slice none 0 0, .slice none 0 0]) (t := 165) H V 8 rfl rfl rfl rfl pg (qi (z := .agg #[.bool false, .slice none 0 0, .bool false, .slice none 0 0, .slice none 0 0]) (by kernel_rfl) rfl) rfl ?_)
     intro g127 w128 V
     refine ⟨(V.partD (cn (cn (cc (cc (cc (cc (cc .slnil))))))) 10 rfl (.refl _)), ?_⟩
     intro a H
     refine qf (by kernel_rfl) (qn (us := (rtC T 1 zo105 zc106 uo107 uc108)) H V 10 rfl rfl rfl (qj rfl rfl rfl (by kernel_rfl) V 0 rfl rfl rfl) 0 rfl rfl rfl rfl ?_)
     intro w129 V
     refine ⟨(V.partD (cn (cn (cc (cc (cc (cc (cc .slnil))))))) 10 rfl (.refl _)), ?_⟩
     refine qf (by kernel_rfl) (qn (us := (rtC ((R : Nat) : Int) D zo109 zc110 uo111 uc112)) H V 11 rfl rfl rfl (qj rfl rfl rfl (by kernel_rfl) V 1 rfl rfl rfl) 1 rfl rfl rfl rfl ?_)
     intro w130 V
     refine ⟨(V.partD (cn (cn (cc (cc (cc (cc (cc .slnil))))))) 10 rfl (.refl _)), ?_⟩
     refine qy (by kernel_rfl) ?_
     refine hJ72 _ _ ⟨g127, g125, zo105, zc106, uo107, uc108, zo109, zc110, uo111, uc112, H.keep _ (by repeat' constructor), (St.pickRL V ⟨⟨0, rfl⟩, ⟨⟨1, rfl⟩, ⟨⟨2, rfl⟩, ⟨⟨3, rfl⟩, ⟨⟨10, rfl⟩, ⟨⟨11, rfl⟩, ⟨⟨12, rfl⟩, ⟨⟨13, rfl⟩, ⟨⟨14, rfl⟩, ⟨⟨15, rfl⟩, ⟨⟨16, rfl⟩, ⟨⟨17, rfl⟩, trivial⟩⟩⟩⟩⟩⟩⟩⟩⟩⟩⟩⟩ [1, 0, 2, 3, 4, 5, 6] rfl (by decide)), hs116.nil, hs116.cap, hs115.nil, hs115.cap, hs114.nil, hs114.cap, hs113.nil, hs113.cap⟩
   ·
    refine zt (vs := [.bool false, .slice none 0 0, .bool false, .slice none 0 0, .slice none 0 0]) (t := 165) H V 8 rfl rfl rfl rfl pg (qi (z := .agg #[.bool false, .slice none 0 0, .bool false, .slice none 0 0, .slice none 0 0]) (by kernel_rfl) rfl) rfl ?_
    intro g131 w132 V
    refine ⟨(V.partD (cn (cc (cc (cc (cc (cc .slnil)))))) 6 rfl (.refl _)), ?_⟩
    intro a H
    refine zk (rs := [4, 9]) (by kernel_rfl) (by simp) ⟨?_, ?_, trivial⟩
    ·
     refine qm H 4 rfl rfl rfl rfl (qg  rfl rfl (fun w => by kernel_rfl)) (jl ⟨(V.rd 5 rfl), hs94.nil, hs94.cap⟩ ⟨(V.rd 4 rfl), hs95.nil, hs95.cap⟩ ⟨(V.rd 3 rfl), hs96.nil, hs96.cap⟩ ⟨(V.rd 2 rfl), hs100.nil, hs100.cap⟩ ⟨(V.rd 1 rfl), hs101.nil, hs101.cap⟩ ⟨(V.rd 0 rfl), hs102.nil, hs102.cap⟩ (lz1 hu hv) (lz2 hu hv) (lz3 hu hv) (lz1 hx hy) (lz2 hx hy) (lz3 hx hy) (js u v) hx2 hT hR hD) ?_
     rintro _ w146 ⟨zo133, zc134, uo135, uc136, zo137, zc138, uo139, uc140, rfl, hs141, hs142, hs143, hs144, hb145⟩
     replace V := V.call hb145
     replace V := V.addR hs141.rd
     replace V := V.addR hs142.rd
     replace V := V.addR hs143.rd
     replace V := V.addR hs144.rd
     refine ⟨_, rfl, (V.partD (cn (cc (cc (cc (cc (cc .slnil)))))) 10 rfl (.refl _)), ?_⟩
     intro a H
     refine qe H 5 rfl rfl rfl rfl hP (V.partD (cn (cc (cc (cc (cc (cc .slnil)))))) 10 rfl (.refl _)) (fun w1 V => qz rfl) λa H↦?_
     refine qe (v := .agg (rtC T 1 zo133 zc134 uo135 uc136).toArray) H 6 rfl rfl rfl rfl hP (V.partD (cn (cc (cc (cc (cc (cc .slnil)))))) 10 rfl (.refl _)) (fun w1 V => qh (vs := [.agg (rtC T 1 zo133 zc134 uo135 uc136).toArray, .agg (rtC ((R : Nat) : Int) D zo137 zc138 uo139 uc140).toArray]) rfl rfl) λa H↦?_
     refine qe (v := .agg (rtC ((R : Nat) : Int) D zo137 zc138 uo139 uc140).toArray) H 7 rfl rfl rfl rfl hP (V.partD (cn (cc (cc (cc (cc (cc .slnil)))))) 10 rfl (.refl _)) (fun w1 V => qh (vs := [.agg (rtC T 1 zo133 zc134 uo135 uc136).toArray, .agg (rtC ((R : Nat) : Int) D zo137 zc138 uo139 uc140).toArray]) rfl rfl) λa H↦?_
     refine qf (by kernel_rfl) (zt (vs := [.bool false, .slice none 0 0, .bool false, .slice none 0 0, .slice none 0 0]) (t := 165) H V 9 rfl rfl rfl rfl pg (qi (z := .agg #[.bool false, .slice none 0 0, .bool false, .slice none 0 0, .slice none 0 0]) (by kernel_rfl) rfl) rfl ?_)
     intro g147 w148 V
     refine ⟨(V.partD (cn (cn (cc (cc (cc (cc (cc .slnil))))))) 10 rfl (.refl _)), ?_⟩
     intro a H
     refine qf (by kernel_rfl) (qn (us := (rtC T 1 zo133 zc134 uo135 uc136)) H V 10 rfl rfl rfl (qj rfl rfl rfl (by kernel_rfl) V 1 rfl rfl rfl) 1 rfl rfl rfl rfl ?_)
     intro w149 V
     refine ⟨(V.partD (cn (cn (cc (cc (cc (cc (cc .slnil))))))) 10 rfl (.refl _)), ?_⟩
     refine qf (by kernel_rfl) (qn (us := (rtC ((R : Nat) : Int) D zo137 zc138 uo139 uc140)) H V 11 rfl rfl rfl (qj rfl rfl rfl (by kernel_rfl) V 0 rfl rfl rfl) 0 rfl rfl rfl rfl ?_)
     intro w150 V
     refine ⟨(V.partD (cn (cn (cc (cc (cc (cc (cc .slnil))))))) 10 rfl (.refl _)), ?_⟩
     refine qy (by kernel_rfl) ?_
     refine hJ72 _ _ ⟨g131, g147, zo133, zc134, uo135, uc136, zo137, zc138, uo139, uc140, H.keep _ (by repeat' constructor), (St.pickRL V ⟨⟨0, rfl⟩, ⟨⟨1, rfl⟩, ⟨⟨2, rfl⟩, ⟨⟨3, rfl⟩, ⟨⟨10, rfl⟩, ⟨⟨11, rfl⟩, ⟨⟨12, rfl⟩, ⟨⟨13, rfl⟩, ⟨⟨14, rfl⟩, ⟨⟨15, rfl⟩, ⟨⟨16, rfl⟩, ⟨⟨17, rfl⟩, trivial⟩⟩⟩⟩⟩⟩⟩⟩⟩⟩⟩⟩ [0, 1, 2, 3, 4, 5, 6] rfl (by decide)), hs144.nil, hs144.cap, hs143.nil, hs143.cap, hs142.nil, hs142.cap, hs141.nil, hs141.cap⟩
    ·
     refine zt (vs := [.bool false, .slice none 0 0, .bool false, .slice none 0 0, .slice none 0 0]) (t := 165) H V 9 rfl rfl rfl rfl pg (qi (z := .agg #[.bool false, .slice none 0 0, .bool false, .slice none 0 0, .slice none 0 0]) (by kernel_rfl) rfl) rfl ?_
     intro g151 w152 V
     refine ⟨(V.partD (cn (cn (cc (cc (cc (cc (cc .slnil))))))) 6 rfl (.refl _)), ?_⟩
     intro a H
     refine qf (by kernel_rfl) (qm H 4 rfl rfl rfl rfl (qg  rfl rfl (fun w => by kernel_rfl)) (jl ⟨(V.rd 5 rfl), hs94.nil, hs94.cap⟩ ⟨(V.rd 4 rfl), hs95.nil, hs95.cap⟩ ⟨(V.rd 3 rfl), hs96.nil, hs96.cap⟩ ⟨(V.rd 2 rfl), hs100.nil, hs100.cap⟩ ⟨(V.rd 1 rfl), hs101.nil, hs101.cap⟩ ⟨(V.rd 0 rfl), hs102.nil, hs102.cap⟩ (lz1 hu hv) (lz2 hu hv) (lz3 hu hv) (lz1 hx hy) (lz2 hx hy) (lz3 hx hy) (js u v) hx2 hT hR hD) ?_)
     rintro _ w166 ⟨zo153, zc154, uo155, uc156, zo157, zc158, uo159, uc160, rfl, hs161, hs162, hs163, hs164, hb165⟩
     replace V := V.call hb165
     replace V := V.addR hs161.rd
     replace V := V.addR hs162.rd
     replace V := V.addR hs163.rd
     replace V := V.addR hs164.rd
     refine ⟨_, rfl, (V.partD (cn (cn (cc (cc (cc (cc (cc .slnil))))))) 10 rfl (.refl _)), ?_⟩
     intro a H
     refine qe H 5 rfl rfl rfl rfl hP (V.partD (cn (cn (cc (cc (cc (cc (cc .slnil))))))) 10 rfl (.refl _)) (fun w1 V => qz rfl) λa H↦?_
     refine qe (v := .agg (rtC T 1 zo153 zc154 uo155 uc156).toArray) H 6 rfl rfl rfl rfl hP (V.partD (cn (cn (cc (cc (cc (cc (cc .slnil))))))) 10 rfl (.refl _)) (fun w1 V => qh (vs := [.agg (rtC T 1 zo153 zc154 uo155 uc156).toArray, .agg (rtC ((R : Nat) : Int) D zo157 zc158 uo159 uc160).toArray]) rfl rfl) λa H↦?_
     refine qe (v := .agg (rtC ((R : Nat) : Int) D zo157 zc158 uo159 uc160).toArray) H 7 rfl rfl rfl rfl hP (V.partD (cn (cn (cc (cc (cc (cc (cc .slnil))))))) 10 rfl (.refl _)) (fun w1 V => qh (vs := [.agg (rtC T 1 zo153 zc154 uo155 uc156).toArray, .agg (rtC ((R : Nat) : Int) D zo157 zc158 uo159 uc160).toArray]) rfl rfl) λa H↦?_
     refine qf (by kernel_rfl) (qn (us := (rtC T 1 zo153 zc154 uo155 uc156)) H V 10 rfl rfl rfl (qj rfl rfl rfl (by kernel_rfl) V 1 rfl rfl rfl) 1 rfl rfl rfl rfl ?_)
     intro w167 V
     refine ⟨(V.partD (cn (cn (cc (cc (cc (cc (cc .slnil))))))) 10 rfl (.refl _)), ?_⟩
     refine qf (by kernel_rfl) (qn (us := (rtC ((R : Nat) : Int) D zo157 zc158 uo159 uc160)) H V 11 rfl rfl rfl (qj rfl rfl rfl (by kernel_rfl) V 0 rfl rfl rfl) 0 rfl rfl rfl rfl ?_)
     intro w168 V
     refine ⟨(V.partD (cn (cn (cc (cc (cc (cc (cc .slnil))))))) 10 rfl (.refl _)), ?_⟩
     refine qy (by kernel_rfl) ?_
     refine hJ72 _ _ ⟨g131, g151, zo153, zc154, uo155, uc156, zo157, zc158, uo159, uc160, H.keep _ (by repeat' constructor), (St.pickRL V ⟨⟨0, rfl⟩, ⟨⟨1, rfl⟩, ⟨⟨2, rfl⟩, ⟨⟨3, rfl⟩, ⟨⟨10, rfl⟩, ⟨⟨11, rfl⟩, ⟨⟨12, rfl⟩, ⟨⟨13, rfl⟩, ⟨⟨14, rfl⟩, ⟨⟨15, rfl⟩, ⟨⟨16, rfl⟩, ⟨⟨17, rfl⟩, trivial⟩⟩⟩⟩⟩⟩⟩⟩⟩⟩⟩⟩ [0, 1, 2, 3, 4, 5, 6] rfl (by decide)), hs164.nil, hs164.cap, hs163.nil, hs163.cap, hs162.nil, hs162.cap, hs161.nil, hs161.cap⟩
   ·
    refine zt (vs := [.bool false, .slice none 0 0, .bool false, .slice none 0 0, .slice none 0 0]) (t := 165) H V 9 rfl rfl rfl rfl pg (qi (z := .agg #[.bool false, .slice none 0 0, .bool false, .slice none 0 0, .slice none 0 0]) (by kernel_rfl) rfl) rfl ?_
    intro g169 w170 V
    refine ⟨(V.partD (cn (cc (cc (cc (cc (cc .slnil)))))) 6 rfl (.refl _)), ?_⟩
    intro a H
    refine zk (rs := [4, 8]) (by kernel_rfl) (by simp) ⟨?_, ?_, trivial⟩
    ·
     refine qm H 4 rfl rfl rfl rfl (qg  rfl rfl (fun w => by kernel_rfl)) (jl ⟨(V.rd 5 rfl), hs94.nil, hs94.cap⟩ ⟨(V.rd 4 rfl), hs95.nil, hs95.cap⟩ ⟨(V.rd 3 rfl), hs96.nil, hs96.cap⟩ ⟨(V.rd 2 rfl), hs100.nil, hs100.cap⟩ ⟨(V.rd 1 rfl), hs101.nil, hs101.cap⟩ ⟨(V.rd 0 rfl), hs102.nil, hs102.cap⟩ (lz1 hu hv) (lz2 hu hv) (lz3 hu hv) (lz1 hx hy) (lz2 hx hy) (lz3 hx hy) (js u v) hx2 hT hR hD) ?_
     rintro _ w184 ⟨zo171, zc172, uo173, uc174, zo175, zc176, uo177, uc178, rfl, hs179, hs180, hs181, hs182, hb183⟩
     replace V := V.call hb183
     replace V := V.addR hs179.rd
     replace V := V.addR hs180.rd
     replace V := V.addR hs181.rd
     replace V := V.addR hs182.rd
     refine ⟨_, rfl, (V.partD (cn (cc (cc (cc (cc (cc .slnil)))))) 10 rfl (.refl _)), ?_⟩
     intro a H
     refine qe H 5 rfl rfl rfl rfl hP (V.partD (cn (cc (cc (cc (cc (cc .slnil)))))) 10 rfl (.refl _)) (fun w1 V => qz rfl) λa H↦?_
     refine qe (v := .agg (rtC T 1 zo171 zc172 uo173 uc174).toArray) H 6 rfl rfl rfl rfl hP (V.partD (cn (cc (cc (cc (cc (cc .slnil)))))) 10 rfl (.refl _)) (fun w1 V => qh (vs := [.agg (rtC T 1 zo171 zc172 uo173 uc174).toArray, .agg (rtC ((R : Nat) : Int) D zo175 zc176 uo177 uc178).toArray]) rfl rfl) λa H↦?_
     refine qe (v := .agg (rtC ((R : Nat) : Int) D zo175 zc176 uo177 uc178).toArray) H 7 rfl rfl rfl rfl hP (V.partD (cn (cc (cc (cc (cc (cc .slnil)))))) 10 rfl (.refl _)) (fun w1 V => qh (vs := [.agg (rtC T 1 zo171 zc172 uo173 uc174).toArray, .agg (rtC ((R : Nat) : Int) D zo175 zc176 uo177 uc178).toArray]) rfl rfl) λa H↦?_
     refine qf (by kernel_rfl) (zt (vs := [.bool false, .slice none 0 0, .bool false, .slice none 0 0, .slice none 0 0]) (t := 165) H V 8 rfl rfl rfl rfl pg (qi (z := .agg #[.bool false, .slice none 0 0, .bool false, .slice none 0 0, .slice none 0 0]) (by kernel_rfl) rfl) rfl ?_)
     intro g185 w186 V
     refine ⟨(V.partD (cn (cn (cc (cc (cc (cc (cc .slnil))))))) 10 rfl (.refl _)), ?_⟩
     intro a H
     refine qf (by kernel_rfl) (qn (us := (rtC T 1 zo171 zc172 uo173 uc174)) H V 10 rfl rfl rfl (qj rfl rfl rfl (by kernel_rfl) V 0 rfl rfl rfl) 0 rfl rfl rfl rfl ?_)
     intro w187 V
     refine ⟨(V.partD (cn (cn (cc (cc (cc (cc (cc .slnil))))))) 10 rfl (.refl _)), ?_⟩
     refine qf (by kernel_rfl) (qn (us := (rtC ((R : Nat) : Int) D zo175 zc176 uo177 uc178)) H V 11 rfl rfl rfl (qj rfl rfl rfl (by kernel_rfl) V 1 rfl rfl rfl) 1 rfl rfl rfl rfl ?_)
     intro w188 V
     refine ⟨(V.partD (cn (cn (cc (cc (cc (cc (cc .slnil))))))) 10 rfl (.refl _)), ?_⟩
     refine qy (by kernel_rfl) ?_
     refine hJ72 _ _ ⟨g185, g169, zo171, zc172, uo173, uc174, zo175, zc176, uo177, uc178, H.keep _ (by repeat' constructor), (St.pickRL V ⟨⟨0, rfl⟩, ⟨⟨1, rfl⟩, ⟨⟨2, rfl⟩, ⟨⟨3, rfl⟩, ⟨⟨10, rfl⟩, ⟨⟨11, rfl⟩, ⟨⟨12, rfl⟩, ⟨⟨13, rfl⟩, ⟨⟨14, rfl⟩, ⟨⟨15, rfl⟩, ⟨⟨16, rfl⟩, ⟨⟨17, rfl⟩, trivial⟩⟩⟩⟩⟩⟩⟩⟩⟩⟩⟩⟩ [1, 0, 2, 3, 4, 5, 6] rfl (by decide)), hs182.nil, hs182.cap, hs181.nil, hs181.cap, hs180.nil, hs180.cap, hs179.nil, hs179.cap⟩
    ·
     refine zt (vs := [.bool false, .slice none 0 0, .bool false, .slice none 0 0, .slice none 0 0]) (t := 165) H V 8 rfl rfl rfl rfl pg (qi (z := .agg #[.bool false, .slice none 0 0, .bool false, .slice none 0 0, .slice none 0 0]) (by kernel_rfl) rfl) rfl ?_
     intro g189 w190 V
     refine ⟨(V.partD (cn (cn (cc (cc (cc (cc (cc .slnil))))))) 6 rfl (.refl _)), ?_⟩
     intro a H
     refine qf (by kernel_rfl) (qm H 4 rfl rfl rfl rfl (qg  rfl rfl (fun w => by kernel_rfl)) (jl ⟨(V.rd 5 rfl), hs94.nil, hs94.cap⟩ ⟨(V.rd 4 rfl), hs95.nil, hs95.cap⟩ ⟨(V.rd 3 rfl), hs96.nil, hs96.cap⟩ ⟨(V.rd 2 rfl), hs100.nil, hs100.cap⟩ ⟨(V.rd 1 rfl), hs101.nil, hs101.cap⟩ ⟨(V.rd 0 rfl), hs102.nil, hs102.cap⟩ (lz1 hu hv) (lz2 hu hv) (lz3 hu hv) (lz1 hx hy) (lz2 hx hy) (lz3 hx hy) (js u v) hx2 hT hR hD) ?_)
     rintro _ w204 ⟨zo191, zc192, uo193, uc194, zo195, zc196, uo197, uc198, rfl, hs199, hs200, hs201, hs202, hb203⟩
     replace V := V.call hb203
     replace V := V.addR hs199.rd
     replace V := V.addR hs200.rd
     replace V := V.addR hs201.rd
     replace V := V.addR hs202.rd
     refine ⟨_, rfl, (V.partD (cn (cn (cc (cc (cc (cc (cc .slnil))))))) 10 rfl (.refl _)), ?_⟩
     intro a H
     refine qe H 5 rfl rfl rfl rfl hP (V.partD (cn (cn (cc (cc (cc (cc (cc .slnil))))))) 10 rfl (.refl _)) (fun w1 V => qz rfl) λa H↦?_
     refine qe (v := .agg (rtC T 1 zo191 zc192 uo193 uc194).toArray) H 6 rfl rfl rfl rfl hP (V.partD (cn (cn (cc (cc (cc (cc (cc .slnil))))))) 10 rfl (.refl _)) (fun w1 V => qh (vs := [.agg (rtC T 1 zo191 zc192 uo193 uc194).toArray, .agg (rtC ((R : Nat) : Int) D zo195 zc196 uo197 uc198).toArray]) rfl rfl) λa H↦?_
     refine qe (v := .agg (rtC ((R : Nat) : Int) D zo195 zc196 uo197 uc198).toArray) H 7 rfl rfl rfl rfl hP (V.partD (cn (cn (cc (cc (cc (cc (cc .slnil))))))) 10 rfl (.refl _)) (fun w1 V => qh (vs := [.agg (rtC T 1 zo191 zc192 uo193 uc194).toArray, .agg (rtC ((R : Nat) : Int) D zo195 zc196 uo197 uc198).toArray]) rfl rfl) λa H↦?_
     refine qf (by kernel_rfl) (qn (us := (rtC T 1 zo191 zc192 uo193 uc194)) H V 10 rfl rfl rfl (qj rfl rfl rfl (by kernel_rfl) V 0 rfl rfl rfl) 0 rfl rfl rfl rfl ?_)
     intro w205 V
     refine ⟨(V.partD (cn (cn (cc (cc (cc (cc (cc .slnil))))))) 10 rfl (.refl _)), ?_⟩
     refine qf (by kernel_rfl) (qn (us := (rtC ((R : Nat) : Int) D zo195 zc196 uo197 uc198)) H V 11 rfl rfl rfl (qj rfl rfl rfl (by kernel_rfl) V 1 rfl rfl rfl) 1 rfl rfl rfl rfl ?_)
     intro w206 V
     refine ⟨(V.partD (cn (cn (cc (cc (cc (cc (cc .slnil))))))) 10 rfl (.refl _)), ?_⟩
     refine qy (by kernel_rfl) ?_
     refine hJ72 _ _ ⟨g189, g169, zo191, zc192, uo193, uc194, zo195, zc196, uo197, uc198, H.keep _ (by repeat' constructor), (St.pickRL V ⟨⟨0, rfl⟩, ⟨⟨1, rfl⟩, ⟨⟨2, rfl⟩, ⟨⟨3, rfl⟩, ⟨⟨10, rfl⟩, ⟨⟨11, rfl⟩, ⟨⟨12, rfl⟩, ⟨⟨13, rfl⟩, ⟨⟨14, rfl⟩, ⟨⟨15, rfl⟩, ⟨⟨16, rfl⟩, ⟨⟨17, rfl⟩, trivial⟩⟩⟩⟩⟩⟩⟩⟩⟩⟩⟩⟩ [1, 0, 2, 3, 4, 5, 6] rfl (by decide)), hs202.nil, hs202.cap, hs201.nil, hs201.cap, hs200.nil, hs200.cap, hs199.nil, hs199.cap⟩
  ·
   refine zt (vs := [.bool false, .slice none 0 0, .bool false, .slice none 0 0, .slice none 0 0]) (t := 165) H V 8 rfl rfl rfl rfl pg (qi (z := .agg #[.bool false, .slice none 0 0, .bool false, .slice none 0 0, .slice none 0 0]) (by kernel_rfl) rfl) rfl ?_
   intro g207 w208 V
   refine ⟨(V.partD (cn (cc (cc (cc (cc (cc .slnil)))))) 3 rfl (.refl _)), ?_⟩
   intro a H
   refine zk (rs := [3, 9]) (by kernel_rfl) (by simp) ⟨?_, ?_, trivial⟩
   ·
    refine qm H 3 rfl rfl rfl rfl (qg  rfl rfl (fun w => by kernel_rfl)) (zm (show Nm _ (Q6.rat x y) u1 uc1 u2 uc2 u3 uc3 u4 uc4 from ⟨⟨(V.rd 6 rfl), hb.s1.nil, hb.s1.cap⟩, ⟨(V.rd 5 rfl), hb.s2.nil, hb.s2.cap⟩, ⟨(V.rd 4 rfl), hb.s3.nil, hb.s3.cap⟩, ⟨(V.rd 3 rfl), hb.s4.nil, hb.s4.cap⟩⟩) hx hy) ?_
    rintro _ w214 ⟨p209_1, p209_c1, p209_2, p209_c2, p209_3, p209_c3, rfl, hs210, hs211, hs212, hb213⟩
    replace V := V.call hb213
    replace V := V.addR hs210.rd
    replace V := V.addR hs211.rd
    replace V := V.addR hs212.rd
    refine ⟨_, rfl, (V.partD (cn (cc (cc (cc (cc (cc .slnil)))))) 6 rfl (.refl _)), ?_⟩
    intro a H
    refine zk (rs := [4, 9]) (by kernel_rfl) (by simp) ⟨?_, ?_, trivial⟩
    ·
     refine qm H 4 rfl rfl rfl rfl (qg  rfl rfl (fun w => by kernel_rfl)) (jl ⟨(V.rd 5 rfl), hs94.nil, hs94.cap⟩ ⟨(V.rd 4 rfl), hs95.nil, hs95.cap⟩ ⟨(V.rd 3 rfl), hs96.nil, hs96.cap⟩ ⟨(V.rd 2 rfl), hs210.nil, hs210.cap⟩ ⟨(V.rd 1 rfl), hs211.nil, hs211.cap⟩ ⟨(V.rd 0 rfl), hs212.nil, hs212.cap⟩ (lz1 hu hv) (lz2 hu hv) (lz3 hu hv) (lz1 hx hy) (lz2 hx hy) (lz3 hx hy) (js u v) hx2 hT hR hD) ?_
     rintro _ w228 ⟨zo215, zc216, uo217, uc218, zo219, zc220, uo221, uc222, rfl, hs223, hs224, hs225, hs226, hb227⟩
     replace V := V.call hb227
     replace V := V.addR hs223.rd
     replace V := V.addR hs224.rd
     replace V := V.addR hs225.rd
     replace V := V.addR hs226.rd
     refine ⟨_, rfl, (V.partD (cn (cc (cc (cc (cc (cc .slnil)))))) 10 rfl (.refl _)), ?_⟩
     intro a H
     refine qe H 5 rfl rfl rfl rfl hP (V.partD (cn (cc (cc (cc (cc (cc .slnil)))))) 10 rfl (.refl _)) (fun w1 V => qz rfl) λa H↦?_
     refine qe (v := .agg (rtC T 1 zo215 zc216 uo217 uc218).toArray) H 6 rfl rfl rfl rfl hP (V.partD (cn (cc (cc (cc (cc (cc .slnil)))))) 10 rfl (.refl _)) (fun w1 V => qh (vs := [.agg (rtC T 1 zo215 zc216 uo217 uc218).toArray, .agg (rtC ((R : Nat) : Int) D zo219 zc220 uo221 uc222).toArray]) rfl rfl) λa H↦?_
     refine qe (v := .agg (rtC ((R : Nat) : Int) D zo219 zc220 uo221 uc222).toArray) H 7 rfl rfl rfl rfl hP (V.partD (cn (cc (cc (cc (cc (cc .slnil)))))) 10 rfl (.refl _)) (fun w1 V => qh (vs := [.agg (rtC T 1 zo215 zc216 uo217 uc218).toArray, .agg (rtC ((R : Nat) : Int) D zo219 zc220 uo221 uc222).toArray]) rfl rfl) λa H↦?_
     refine qf (by kernel_rfl) (zt (vs := [.bool false, .slice none 0 0, .bool false, .slice none 0 0, .slice none 0 0]) (t := 165) H V 9 rfl rfl rfl rfl pg (qi (z := .agg #[.bool false, .slice none 0 0, .bool false, .slice none 0 0, .slice none 0 0]) (by kernel_rfl) rfl) rfl ?_)
     intro g229 w230 V
     refine ⟨(V.partD (cn (cn (cc (cc (cc (cc (cc .slnil))))))) 10 rfl (.refl _)), ?_⟩
     intro a H
     refine qf (by kernel_rfl) (qn (us := (rtC T 1 zo215 zc216 uo217 uc218)) H V 10 rfl rfl rfl (qj rfl rfl rfl (by kernel_rfl) V 1 rfl rfl rfl) 1 rfl rfl rfl rfl ?_)
     intro w231 V
     refine ⟨(V.partD (cn (cn (cc (cc (cc (cc (cc .slnil))))))) 10 rfl (.refl _)), ?_⟩
     refine qf (by kernel_rfl) (qn (us := (rtC ((R : Nat) : Int) D zo219 zc220 uo221 uc222)) H V 11 rfl rfl rfl (qj rfl rfl rfl (by kernel_rfl) V 0 rfl rfl rfl) 0 rfl rfl rfl rfl ?_)
     intro w232 V
     refine ⟨(V.partD (cn (cn (cc (cc (cc (cc (cc .slnil))))))) 10 rfl (.refl _)), ?_⟩
     refine qy (by kernel_rfl) ?_
     refine hJ72 _ _ ⟨g207, g229, zo215, zc216, uo217, uc218, zo219, zc220, uo221, uc222, H.keep _ (by repeat' constructor), (St.pickRL V ⟨⟨0, rfl⟩, ⟨⟨1, rfl⟩, ⟨⟨2, rfl⟩, ⟨⟨3, rfl⟩, ⟨⟨10, rfl⟩, ⟨⟨11, rfl⟩, ⟨⟨12, rfl⟩, ⟨⟨13, rfl⟩, ⟨⟨14, rfl⟩, ⟨⟨15, rfl⟩, ⟨⟨16, rfl⟩, ⟨⟨17, rfl⟩, trivial⟩⟩⟩⟩⟩⟩⟩⟩⟩⟩⟩⟩ [0, 1, 2, 3, 4, 5, 6] rfl (by decide)), hs226.nil, hs226.cap, hs225.nil, hs225.cap, hs224.nil, hs224.cap, hs223.nil, hs223.cap⟩
    ·
     refine zt (vs := [.bool false, .slice none 0 0, .bool false, .slice none 0 0, .slice none 0 0]) (t := 165) H V 9 rfl rfl rfl rfl pg (qi (z := .agg #[.bool false, .slice none 0 0, .bool false, .slice none 0 0, .slice none 0 0]) (by kernel_rfl) rfl) rfl ?_
     intro g233 w234 V
     refine ⟨(V.partD (cn (cn (cc (cc (cc (cc (cc .slnil))))))) 6 rfl (.refl _)), ?_⟩
     intro a H
     refine qf (by kernel_rfl) (qm H 4 rfl rfl rfl rfl (qg  rfl rfl (fun w => by kernel_rfl)) (jl ⟨(V.rd 5 rfl), hs94.nil, hs94.cap⟩ ⟨(V.rd 4 rfl), hs95.nil, hs95.cap⟩ ⟨(V.rd 3 rfl), hs96.nil, hs96.cap⟩ ⟨(V.rd 2 rfl), hs210.nil, hs210.cap⟩ ⟨(V.rd 1 rfl), hs211.nil, hs211.cap⟩ ⟨(V.rd 0 rfl), hs212.nil, hs212.cap⟩ (lz1 hu hv) (lz2 hu hv) (lz3 hu hv) (lz1 hx hy) (lz2 hx hy) (lz3 hx hy) (js u v) hx2 hT hR hD) ?_)
     rintro _ w248 ⟨zo235, zc236, uo237, uc238, zo239, zc240, uo241, uc242, rfl, hs243, hs244, hs245, hs246, hb247⟩
     replace V := V.call hb247
     replace V := V.addR hs243.rd
     replace V := V.addR hs244.rd
     replace V := V.addR hs245.rd
     replace V := V.addR hs246.rd
     refine ⟨_, rfl, (V.partD (cn (cn (cc (cc (cc (cc (cc .slnil))))))) 10 rfl (.refl _)), ?_⟩
     intro a H
     refine qe H 5 rfl rfl rfl rfl hP (V.partD (cn (cn (cc (cc (cc (cc (cc .slnil))))))) 10 rfl (.refl _)) (fun w1 V => qz rfl) λa H↦?_
     refine qe (v := .agg (rtC T 1 zo235 zc236 uo237 uc238).toArray) H 6 rfl rfl rfl rfl hP (V.partD (cn (cn (cc (cc (cc (cc (cc .slnil))))))) 10 rfl (.refl _)) (fun w1 V => qh (vs := [.agg (rtC T 1 zo235 zc236 uo237 uc238).toArray, .agg (rtC ((R : Nat) : Int) D zo239 zc240 uo241 uc242).toArray]) rfl rfl) λa H↦?_
     refine qe (v := .agg (rtC ((R : Nat) : Int) D zo239 zc240 uo241 uc242).toArray) H 7 rfl rfl rfl rfl hP (V.partD (cn (cn (cc (cc (cc (cc (cc .slnil))))))) 10 rfl (.refl _)) (fun w1 V => qh (vs := [.agg (rtC T 1 zo235 zc236 uo237 uc238).toArray, .agg (rtC ((R : Nat) : Int) D zo239 zc240 uo241 uc242).toArray]) rfl rfl) λa H↦?_
     refine qf (by kernel_rfl) (qn (us := (rtC T 1 zo235 zc236 uo237 uc238)) H V 10 rfl rfl rfl (qj rfl rfl rfl (by kernel_rfl) V 1 rfl rfl rfl) 1 rfl rfl rfl rfl ?_)
     intro w249 V
     refine ⟨(V.partD (cn (cn (cc (cc (cc (cc (cc .slnil))))))) 10 rfl (.refl _)), ?_⟩
     refine qf (by kernel_rfl) (qn (us := (rtC ((R : Nat) : Int) D zo239 zc240 uo241 uc242)) H V 11 rfl rfl rfl (qj rfl rfl rfl (by kernel_rfl) V 0 rfl rfl rfl) 0 rfl rfl rfl rfl ?_)
     intro w250 V
     refine ⟨(V.partD (cn (cn (cc (cc (cc (cc (cc .slnil))))))) 10 rfl (.refl _)), ?_⟩
     refine qy (by kernel_rfl) ?_
     refine hJ72 _ _ ⟨g207, g233, zo235, zc236, uo237, uc238, zo239, zc240, uo241, uc242, H.keep _ (by repeat' constructor), (St.pickRL V ⟨⟨0, rfl⟩, ⟨⟨1, rfl⟩, ⟨⟨2, rfl⟩, ⟨⟨3, rfl⟩, ⟨⟨10, rfl⟩, ⟨⟨11, rfl⟩, ⟨⟨12, rfl⟩, ⟨⟨13, rfl⟩, ⟨⟨14, rfl⟩, ⟨⟨15, rfl⟩, ⟨⟨16, rfl⟩, ⟨⟨17, rfl⟩, trivial⟩⟩⟩⟩⟩⟩⟩⟩⟩⟩⟩⟩ [0, 1, 2, 3, 4, 5, 6] rfl (by decide)), hs246.nil, hs246.cap, hs245.nil, hs245.cap, hs244.nil, hs244.cap, hs243.nil, hs243.cap⟩
   ·
    refine zt (vs := [.bool false, .slice none 0 0, .bool false, .slice none 0 0, .slice none 0 0]) (t := 165) H V 9 rfl rfl rfl rfl pg (qi (z := .agg #[.bool false, .slice none 0 0, .bool false, .slice none 0 0, .slice none 0 0]) (by kernel_rfl) rfl) rfl ?_
    intro g251 w252 V
    refine ⟨(V.partD (cn (cn (cc (cc (cc (cc (cc .slnil))))))) 3 rfl (.refl _)), ?_⟩
    intro a H
    refine qf (by kernel_rfl) (qm H 3 rfl rfl rfl rfl (qg  rfl rfl (fun w => by kernel_rfl)) (zm (show Nm _ (Q6.rat x y) u1 uc1 u2 uc2 u3 uc3 u4 uc4 from ⟨⟨(V.rd 6 rfl), hb.s1.nil, hb.s1.cap⟩, ⟨(V.rd 5 rfl), hb.s2.nil, hb.s2.cap⟩, ⟨(V.rd 4 rfl), hb.s3.nil, hb.s3.cap⟩, ⟨(V.rd 3 rfl), hb.s4.nil, hb.s4.cap⟩⟩) hx hy) ?_)
    rintro _ w258 ⟨p253_1, p253_c1, p253_2, p253_c2, p253_3, p253_c3, rfl, hs254, hs255, hs256, hb257⟩
    replace V := V.call hb257
    replace V := V.addR hs254.rd
    replace V := V.addR hs255.rd
    replace V := V.addR hs256.rd
    refine ⟨_, rfl, (V.partD (cn (cn (cc (cc (cc (cc (cc .slnil))))))) 6 rfl (.refl _)), ?_⟩
    intro a H
    refine qf (by kernel_rfl) (qm H 4 rfl rfl rfl rfl (qg  rfl rfl (fun w => by kernel_rfl)) (jl ⟨(V.rd 5 rfl), hs94.nil, hs94.cap⟩ ⟨(V.rd 4 rfl), hs95.nil, hs95.cap⟩ ⟨(V.rd 3 rfl), hs96.nil, hs96.cap⟩ ⟨(V.rd 2 rfl), hs254.nil, hs254.cap⟩ ⟨(V.rd 1 rfl), hs255.nil, hs255.cap⟩ ⟨(V.rd 0 rfl), hs256.nil, hs256.cap⟩ (lz1 hu hv) (lz2 hu hv) (lz3 hu hv) (lz1 hx hy) (lz2 hx hy) (lz3 hx hy) (js u v) hx2 hT hR hD) ?_)
    rintro _ w272 ⟨zo259, zc260, uo261, uc262, zo263, zc264, uo265, uc266, rfl, hs267, hs268, hs269, hs270, hb271⟩
    replace V := V.call hb271
    replace V := V.addR hs267.rd
    replace V := V.addR hs268.rd
    replace V := V.addR hs269.rd
    replace V := V.addR hs270.rd
    refine ⟨_, rfl, (V.partD (cn (cn (cc (cc (cc (cc (cc .slnil))))))) 10 rfl (.refl _)), ?_⟩
    intro a H
    refine qe H 5 rfl rfl rfl rfl hP (V.partD (cn (cn (cc (cc (cc (cc (cc .slnil))))))) 10 rfl (.refl _)) (fun w1 V => qz rfl) λa H↦?_
    refine qe (v := .agg (rtC T 1 zo259 zc260 uo261 uc262).toArray) H 6 rfl rfl rfl rfl hP (V.partD (cn (cn (cc (cc (cc (cc (cc .slnil))))))) 10 rfl (.refl _)) (fun w1 V => qh (vs := [.agg (rtC T 1 zo259 zc260 uo261 uc262).toArray, .agg (rtC ((R : Nat) : Int) D zo263 zc264 uo265 uc266).toArray]) rfl rfl) λa H↦?_
    refine qe (v := .agg (rtC ((R : Nat) : Int) D zo263 zc264 uo265 uc266).toArray) H 7 rfl rfl rfl rfl hP (V.partD (cn (cn (cc (cc (cc (cc (cc .slnil))))))) 10 rfl (.refl _)) (fun w1 V => qh (vs := [.agg (rtC T 1 zo259 zc260 uo261 uc262).toArray, .agg (rtC ((R : Nat) : Int) D zo263 zc264 uo265 uc266).toArray]) rfl rfl) λa H↦?_
    refine qf (by kernel_rfl) (qn (us := (rtC T 1 zo259 zc260 uo261 uc262)) H V 10 rfl rfl rfl (qj rfl rfl rfl (by kernel_rfl) V 1 rfl rfl rfl) 1 rfl rfl rfl rfl ?_)
    intro w273 V
    refine ⟨(V.partD (cn (cn (cc (cc (cc (cc (cc .slnil))))))) 10 rfl (.refl _)), ?_⟩
    refine qf (by kernel_rfl) (qn (us := (rtC ((R : Nat) : Int) D zo263 zc264 uo265 uc266)) H V 11 rfl rfl rfl (qj rfl rfl rfl (by kernel_rfl) V 0 rfl rfl rfl) 0 rfl rfl rfl rfl ?_)
    intro w274 V
    refine ⟨(V.partD (cn (cn (cc (cc (cc (cc (cc .slnil))))))) 10 rfl (.refl _)), ?_⟩
    refine qy (by kernel_rfl) ?_
    refine hJ72 _ _ ⟨g207, g251, zo259, zc260, uo261, uc262, zo263, zc264, uo265, uc266, H.keep _ (by repeat' constructor), (St.pickRL V ⟨⟨0, rfl⟩, ⟨⟨1, rfl⟩, ⟨⟨2, rfl⟩, ⟨⟨3, rfl⟩, ⟨⟨10, rfl⟩, ⟨⟨11, rfl⟩, ⟨⟨12, rfl⟩, ⟨⟨13, rfl⟩, ⟨⟨14, rfl⟩, ⟨⟨15, rfl⟩, ⟨⟨16, rfl⟩, ⟨⟨17, rfl⟩, trivial⟩⟩⟩⟩⟩⟩⟩⟩⟩⟩⟩⟩ [0, 1, 2, 3, 4, 5, 6] rfl (by decide)), hs270.nil, hs270.cap, hs269.nil, hs269.cap, hs268.nil, hs268.cap, hs267.nil, hs267.cap⟩
  ·
   refine zt (vs := [.bool false, .slice none 0 0, .bool false, .slice none 0 0, .slice none 0 0]) (t := 165) H V 9 rfl rfl rfl rfl pg (qi (z := .agg #[.bool false, .slice none 0 0, .bool false, .slice none 0 0, .slice none 0 0]) (by kernel_rfl) rfl) rfl ?_
   intro g275 w276 V
   refine ⟨(V.partD (cn (cc (cc (cc (cc (cc .slnil)))))) 3 rfl (.refl _)), ?_⟩
   intro a H
   refine zk (rs := [3, 8]) (by kernel_rfl) (by simp) ⟨?_, ?_, trivial⟩
   ·
    refine qm H 3 rfl rfl rfl rfl (qg  rfl rfl (fun w => by kernel_rfl)) (zm (show Nm _ (Q6.rat x y) u1 uc1 u2 uc2 u3 uc3 u4 uc4 from ⟨⟨(V.rd 6 rfl), hb.s1.nil, hb.s1.cap⟩, ⟨(V.rd 5 rfl), hb.s2.nil, hb.s2.cap⟩, ⟨(V.rd 4 rfl), hb.s3.nil, hb.s3.cap⟩, ⟨(V.rd 3 rfl), hb.s4.nil, hb.s4.cap⟩⟩) hx hy) ?_
    rintro _ w282 ⟨p277_1, p277_c1, p277_2, p277_c2, p277_3, p277_c3, rfl, hs278, hs279, hs280, hb281⟩
    replace V := V.call hb281
    replace V := V.addR hs278.rd
    replace V := V.addR hs279.rd
    replace V := V.addR hs280.rd
    refine ⟨_, rfl, (V.partD (cn (cc (cc (cc (cc (cc .slnil)))))) 6 rfl (.refl _)), ?_⟩
    intro a H
    refine zk (rs := [4, 8]) (by kernel_rfl) (by simp) ⟨?_, ?_, trivial⟩
    ·
     refine qm H 4 rfl rfl rfl rfl (qg  rfl rfl (fun w => by kernel_rfl)) (jl ⟨(V.rd 5 rfl), hs94.nil, hs94.cap⟩ ⟨(V.rd 4 rfl), hs95.nil, hs95.cap⟩ ⟨(V.rd 3 rfl), hs96.nil, hs96.cap⟩ ⟨(V.rd 2 rfl), hs278.nil, hs278.cap⟩ ⟨(V.rd 1 rfl), hs279.nil, hs279.cap⟩ ⟨(V.rd 0 rfl), hs280.nil, hs280.cap⟩ (lz1 hu hv) (lz2 hu hv) (lz3 hu hv) (lz1 hx hy) (lz2 hx hy) (lz3 hx hy) (js u v) hx2 hT hR hD) ?_
     rintro _ w296 ⟨zo283, zc284, uo285, uc286, zo287, zc288, uo289, uc290, rfl, hs291, hs292, hs293, hs294, hb295⟩
     replace V := V.call hb295
     replace V := V.addR hs291.rd
     replace V := V.addR hs292.rd
     replace V := V.addR hs293.rd
     replace V := V.addR hs294.rd
     refine ⟨_, rfl, (V.partD (cn (cc (cc (cc (cc (cc .slnil)))))) 10 rfl (.refl _)), ?_⟩
     intro a H
     refine qe H 5 rfl rfl rfl rfl hP (V.partD (cn (cc (cc (cc (cc (cc .slnil)))))) 10 rfl (.refl _)) (fun w1 V => qz rfl) λa H↦?_
     refine qe (v := .agg (rtC T 1 zo283 zc284 uo285 uc286).toArray) H 6 rfl rfl rfl rfl hP (V.partD (cn (cc (cc (cc (cc (cc .slnil)))))) 10 rfl (.refl _)) (fun w1 V => qh (vs := [.agg (rtC T 1 zo283 zc284 uo285 uc286).toArray, .agg (rtC ((R : Nat) : Int) D zo287 zc288 uo289 uc290).toArray]) rfl rfl) λa H↦?_
     refine qe (v := .agg (rtC ((R : Nat) : Int) D zo287 zc288 uo289 uc290).toArray) H 7 rfl rfl rfl rfl hP (V.partD (cn (cc (cc (cc (cc (cc .slnil)))))) 10 rfl (.refl _)) (fun w1 V => qh (vs := [.agg (rtC T 1 zo283 zc284 uo285 uc286).toArray, .agg (rtC ((R : Nat) : Int) D zo287 zc288 uo289 uc290).toArray]) rfl rfl) λa H↦?_
     refine qf (by kernel_rfl) (zt (vs := [.bool false, .slice none 0 0, .bool false, .slice none 0 0, .slice none 0 0]) (t := 165) H V 8 rfl rfl rfl rfl pg (qi (z := .agg #[.bool false, .slice none 0 0, .bool false, .slice none 0 0, .slice none 0 0]) (by kernel_rfl) rfl) rfl ?_)
     intro g297 w298 V
     refine ⟨(V.partD (cn (cn (cc (cc (cc (cc (cc .slnil))))))) 10 rfl (.refl _)), ?_⟩
     intro a H
     refine qf (by kernel_rfl) (qn (us := (rtC T 1 zo283 zc284 uo285 uc286)) H V 10 rfl rfl rfl (qj rfl rfl rfl (by kernel_rfl) V 0 rfl rfl rfl) 0 rfl rfl rfl rfl ?_)
     intro w299 V
     refine ⟨(V.partD (cn (cn (cc (cc (cc (cc (cc .slnil))))))) 10 rfl (.refl _)), ?_⟩
     refine qf (by kernel_rfl) (qn (us := (rtC ((R : Nat) : Int) D zo287 zc288 uo289 uc290)) H V 11 rfl rfl rfl (qj rfl rfl rfl (by kernel_rfl) V 1 rfl rfl rfl) 1 rfl rfl rfl rfl ?_)
     intro w300 V
     refine ⟨(V.partD (cn (cn (cc (cc (cc (cc (cc .slnil))))))) 10 rfl (.refl _)), ?_⟩
     refine qy (by kernel_rfl) ?_
     refine hJ72 _ _ ⟨g297, g275, zo283, zc284, uo285, uc286, zo287, zc288, uo289, uc290, H.keep _ (by repeat' constructor), (St.pickRL V ⟨⟨0, rfl⟩, ⟨⟨1, rfl⟩, ⟨⟨2, rfl⟩, ⟨⟨3, rfl⟩, ⟨⟨10, rfl⟩, ⟨⟨11, rfl⟩, ⟨⟨12, rfl⟩, ⟨⟨13, rfl⟩, ⟨⟨14, rfl⟩, ⟨⟨15, rfl⟩, ⟨⟨16, rfl⟩, ⟨⟨17, rfl⟩, trivial⟩⟩⟩⟩⟩⟩⟩⟩⟩⟩⟩⟩ [1, 0, 2, 3, 4, 5, 6] rfl (by decide)), hs294.nil, hs294.cap, hs293.nil, hs293.cap, hs292.nil, hs292.cap, hs291.nil, hs291.cap⟩
    ·
     refine zt (vs := [.bool false, .slice none 0 0, .bool false, .slice none 0 0, .slice none 0 0]) (t := 165) H V 8 rfl rfl rfl rfl pg (qi (z := .agg #[.bool false, .slice none 0 0, .bool false, .slice none 0 0, .slice none 0 0]) (by kernel_rfl) rfl) rfl ?_
     intro g301 w302 V
     refine ⟨(V.partD (cn (cn (cc (cc (cc (cc (cc .slnil))))))) 6 rfl (.refl _)), ?_⟩
     intro a H
     refine qf (by kernel_rfl) (qm H 4 rfl rfl rfl rfl (qg  rfl rfl (fun w => by kernel_rfl)) (jl ⟨(V.rd 5 rfl), hs94.nil, hs94.cap⟩ ⟨(V.rd 4 rfl), hs95.nil, hs95.cap⟩ ⟨(V.rd 3 rfl), hs96.nil, hs96.cap⟩ ⟨(V.rd 2 rfl), hs278.nil, hs278.cap⟩ ⟨(V.rd 1 rfl), hs279.nil, hs279.cap⟩ ⟨(V.rd 0 rfl), hs280.nil, hs280.cap⟩ (lz1 hu hv) (lz2 hu hv) (lz3 hu hv) (lz1 hx hy) (lz2 hx hy) (lz3 hx hy) (js u v) hx2 hT hR hD) ?_)
     rintro _ w316 ⟨zo303, zc304, uo305, uc306, zo307, zc308, uo309, uc310, rfl, hs311, hs312, hs313, hs314, hb315⟩
     replace V := V.call hb315
     replace V := V.addR hs311.rd
     replace V := V.addR hs312.rd
     replace V := V.addR hs313.rd
     replace V := V.addR hs314.rd
     refine ⟨_, rfl, (V.partD (cn (cn (cc (cc (cc (cc (cc .slnil))))))) 10 rfl (.refl _)), ?_⟩
     intro a H
     refine qe H 5 rfl rfl rfl rfl hP (V.partD (cn (cn (cc (cc (cc (cc (cc .slnil))))))) 10 rfl (.refl _)) (fun w1 V => qz rfl) λa H↦?_
     refine qe (v := .agg (rtC T 1 zo303 zc304 uo305 uc306).toArray) H 6 rfl rfl rfl rfl hP (V.partD (cn (cn (cc (cc (cc (cc (cc .slnil))))))) 10 rfl (.refl _)) (fun w1 V => qh (vs := [.agg (rtC T 1 zo303 zc304 uo305 uc306).toArray, .agg (rtC ((R : Nat) : Int) D zo307 zc308 uo309 uc310).toArray]) rfl rfl) λa H↦?_
     refine qe (v := .agg (rtC ((R : Nat) : Int) D zo307 zc308 uo309 uc310).toArray) H 7 rfl rfl rfl rfl hP (V.partD (cn (cn (cc (cc (cc (cc (cc .slnil))))))) 10 rfl (.refl _)) (fun w1 V => qh (vs := [.agg (rtC T 1 zo303 zc304 uo305 uc306).toArray, .agg (rtC ((R : Nat) : Int) D zo307 zc308 uo309 uc310).toArray]) rfl rfl) λa H↦?_
     refine qf (by kernel_rfl) (qn (us := (rtC T 1 zo303 zc304 uo305 uc306)) H V 10 rfl rfl rfl (qj rfl rfl rfl (by kernel_rfl) V 0 rfl rfl rfl) 0 rfl rfl rfl rfl ?_)
     intro w317 V
     refine ⟨(V.partD (cn (cn (cc (cc (cc (cc (cc .slnil))))))) 10 rfl (.refl _)), ?_⟩
     refine qf (by kernel_rfl) (qn (us := (rtC ((R : Nat) : Int) D zo307 zc308 uo309 uc310)) H V 11 rfl rfl rfl (qj rfl rfl rfl (by kernel_rfl) V 1 rfl rfl rfl) 1 rfl rfl rfl rfl ?_)
     intro w318 V
     refine ⟨(V.partD (cn (cn (cc (cc (cc (cc (cc .slnil))))))) 10 rfl (.refl _)), ?_⟩
     refine qy (by kernel_rfl) ?_
     refine hJ72 _ _ ⟨g301, g275, zo303, zc304, uo305, uc306, zo307, zc308, uo309, uc310, H.keep _ (by repeat' constructor), (St.pickRL V ⟨⟨0, rfl⟩, ⟨⟨1, rfl⟩, ⟨⟨2, rfl⟩, ⟨⟨3, rfl⟩, ⟨⟨10, rfl⟩, ⟨⟨11, rfl⟩, ⟨⟨12, rfl⟩, ⟨⟨13, rfl⟩, ⟨⟨14, rfl⟩, ⟨⟨15, rfl⟩, ⟨⟨16, rfl⟩, ⟨⟨17, rfl⟩, trivial⟩⟩⟩⟩⟩⟩⟩⟩⟩⟩⟩⟩ [1, 0, 2, 3, 4, 5, 6] rfl (by decide)), hs314.nil, hs314.cap, hs313.nil, hs313.cap, hs312.nil, hs312.cap, hs311.nil, hs311.cap⟩
   ·
    refine zt (vs := [.bool false, .slice none 0 0, .bool false, .slice none 0 0, .slice none 0 0]) (t := 165) H V 8 rfl rfl rfl rfl pg (qi (z := .agg #[.bool false, .slice none 0 0, .bool false, .slice none 0 0, .slice none 0 0]) (by kernel_rfl) rfl) rfl ?_
    intro g319 w320 V
    refine ⟨(V.partD (cn (cn (cc (cc (cc (cc (cc .slnil))))))) 3 rfl (.refl _)), ?_⟩
    intro a H
    refine qf (by kernel_rfl) (qm H 3 rfl rfl rfl rfl (qg  rfl rfl (fun w => by kernel_rfl)) (zm (show Nm _ (Q6.rat x y) u1 uc1 u2 uc2 u3 uc3 u4 uc4 from ⟨⟨(V.rd 6 rfl), hb.s1.nil, hb.s1.cap⟩, ⟨(V.rd 5 rfl), hb.s2.nil, hb.s2.cap⟩, ⟨(V.rd 4 rfl), hb.s3.nil, hb.s3.cap⟩, ⟨(V.rd 3 rfl), hb.s4.nil, hb.s4.cap⟩⟩) hx hy) ?_)
    rintro _ w326 ⟨p321_1, p321_c1, p321_2, p321_c2, p321_3, p321_c3, rfl, hs322, hs323, hs324, hb325⟩
    replace V := V.call hb325
    replace V := V.addR hs322.rd
    replace V := V.addR hs323.rd
    replace V := V.addR hs324.rd
    refine ⟨_, rfl, (V.partD (cn (cn (cc (cc (cc (cc (cc .slnil))))))) 6 rfl (.refl _)), ?_⟩
    intro a H
    refine qf (by kernel_rfl) (qm H 4 rfl rfl rfl rfl (qg  rfl rfl (fun w => by kernel_rfl)) (jl ⟨(V.rd 5 rfl), hs94.nil, hs94.cap⟩ ⟨(V.rd 4 rfl), hs95.nil, hs95.cap⟩ ⟨(V.rd 3 rfl), hs96.nil, hs96.cap⟩ ⟨(V.rd 2 rfl), hs322.nil, hs322.cap⟩ ⟨(V.rd 1 rfl), hs323.nil, hs323.cap⟩ ⟨(V.rd 0 rfl), hs324.nil, hs324.cap⟩ (lz1 hu hv) (lz2 hu hv) (lz3 hu hv) (lz1 hx hy) (lz2 hx hy) (lz3 hx hy) (js u v) hx2 hT hR hD) ?_)
    rintro _ w340 ⟨zo327, zc328, uo329, uc330, zo331, zc332, uo333, uc334, rfl, hs335, hs336, hs337, hs338, hb339⟩
    replace V := V.call hb339
    replace V := V.addR hs335.rd
    replace V := V.addR hs336.rd
    replace V := V.addR hs337.rd
    replace V := V.addR hs338.rd
    refine ⟨_, rfl, (V.partD (cn (cn (cc (cc (cc (cc (cc .slnil))))))) 10 rfl (.refl _)), ?_⟩
    intro a H
    refine qe H 5 rfl rfl rfl rfl hP (V.partD (cn (cn (cc (cc (cc (cc (cc .slnil))))))) 10 rfl (.refl _)) (fun w1 V => qz rfl) λa H↦?_
    refine qe (v := .agg (rtC T 1 zo327 zc328 uo329 uc330).toArray) H 6 rfl rfl rfl rfl hP (V.partD (cn (cn (cc (cc (cc (cc (cc .slnil))))))) 10 rfl (.refl _)) (fun w1 V => qh (vs := [.agg (rtC T 1 zo327 zc328 uo329 uc330).toArray, .agg (rtC ((R : Nat) : Int) D zo331 zc332 uo333 uc334).toArray]) rfl rfl) λa H↦?_
    refine qe (v := .agg (rtC ((R : Nat) : Int) D zo331 zc332 uo333 uc334).toArray) H 7 rfl rfl rfl rfl hP (V.partD (cn (cn (cc (cc (cc (cc (cc .slnil))))))) 10 rfl (.refl _)) (fun w1 V => qh (vs := [.agg (rtC T 1 zo327 zc328 uo329 uc330).toArray, .agg (rtC ((R : Nat) : Int) D zo331 zc332 uo333 uc334).toArray]) rfl rfl) λa H↦?_
    refine qf (by kernel_rfl) (qn (us := (rtC T 1 zo327 zc328 uo329 uc330)) H V 10 rfl rfl rfl (qj rfl rfl rfl (by kernel_rfl) V 0 rfl rfl rfl) 0 rfl rfl rfl rfl ?_)
    intro w341 V
    refine ⟨(V.partD (cn (cn (cc (cc (cc (cc (cc .slnil))))))) 10 rfl (.refl _)), ?_⟩
    refine qf (by kernel_rfl) (qn (us := (rtC ((R : Nat) : Int) D zo331 zc332 uo333 uc334)) H V 11 rfl rfl rfl (qj rfl rfl rfl (by kernel_rfl) V 1 rfl rfl rfl) 1 rfl rfl rfl rfl ?_)
    intro w342 V
    refine ⟨(V.partD (cn (cn (cc (cc (cc (cc (cc .slnil))))))) 10 rfl (.refl _)), ?_⟩
    refine qy (by kernel_rfl) ?_
    refine hJ72 _ _ ⟨g319, g275, zo327, zc328, uo329, uc330, zo331, zc332, uo333, uc334, H.keep _ (by repeat' constructor), (St.pickRL V ⟨⟨0, rfl⟩, ⟨⟨1, rfl⟩, ⟨⟨2, rfl⟩, ⟨⟨3, rfl⟩, ⟨⟨10, rfl⟩, ⟨⟨11, rfl⟩, ⟨⟨12, rfl⟩, ⟨⟨13, rfl⟩, ⟨⟨14, rfl⟩, ⟨⟨15, rfl⟩, ⟨⟨16, rfl⟩, ⟨⟨17, rfl⟩, trivial⟩⟩⟩⟩⟩⟩⟩⟩⟩⟩⟩⟩ [1, 0, 2, 3, 4, 5, 6] rfl (by decide)), hs338.nil, hs338.cap, hs337.nil, hs337.cap, hs336.nil, hs336.cap, hs335.nil, hs335.cap⟩
 ·
  refine zt (vs := [.bool false, .slice none 0 0, .bool false, .slice none 0 0, .slice none 0 0]) (t := 165) H V 8 rfl rfl rfl rfl pg (qi (z := .agg #[.bool false, .slice none 0 0, .bool false, .slice none 0 0, .slice none 0 0]) (by kernel_rfl) rfl) rfl ?_
  intro g343 w344 V
  refine ⟨(V.partD (cn (cc (cc (cc (cc (cc .slnil)))))) 0 rfl (.refl _)), ?_⟩
  intro a H
  refine zk (rs := [1, 9]) (by kernel_rfl) (by simp) ⟨?_, ?_, trivial⟩
  ·
   refine qm H 1 rfl rfl rfl rfl (qg  rfl rfl (fun w => by kernel_rfl)) (zm (show Nm _ (Q6.rat u v) a1 ac1 a2 ac2 a3 ac3 a4 ac4 from ⟨⟨(V.rd 7 rfl), ha.s1.nil, ha.s1.cap⟩, ⟨(V.rd 6 rfl), ha.s2.nil, ha.s2.cap⟩, ⟨(V.rd 5 rfl), ha.s3.nil, ha.s3.cap⟩, ⟨(V.rd 4 rfl), ha.s4.nil, ha.s4.cap⟩⟩) hu hv) ?_
   rintro _ w350 ⟨p345_1, p345_c1, p345_2, p345_c2, p345_3, p345_c3, rfl, hs346, hs347, hs348, hb349⟩
   replace V := V.call hb349
   replace V := V.addR hs346.rd
   replace V := V.addR hs347.rd
   replace V := V.addR hs348.rd
   refine ⟨_, rfl, (V.partD (cn (cc (cc (cc (cc (cc .slnil)))))) 3 rfl (.refl _)), ?_⟩
   intro a H
   refine zk (rs := [3, 9]) (by kernel_rfl) (by simp) ⟨?_, ?_, trivial⟩
   ·
    refine qm H 3 rfl rfl rfl rfl (qg  rfl rfl (fun w => by kernel_rfl)) (zm (show Nm _ (Q6.rat x y) u1 uc1 u2 uc2 u3 uc3 u4 uc4 from ⟨⟨(V.rd 6 rfl), hb.s1.nil, hb.s1.cap⟩, ⟨(V.rd 5 rfl), hb.s2.nil, hb.s2.cap⟩, ⟨(V.rd 4 rfl), hb.s3.nil, hb.s3.cap⟩, ⟨(V.rd 3 rfl), hb.s4.nil, hb.s4.cap⟩⟩) hx hy) ?_
    rintro _ w356 ⟨p351_1, p351_c1, p351_2, p351_c2, p351_3, p351_c3, rfl, hs352, hs353, hs354, hb355⟩
    replace V := V.call hb355
    replace V := V.addR hs352.rd
    replace V := V.addR hs353.rd
    replace V := V.addR hs354.rd
    refine ⟨_, rfl, (V.partD (cn (cc (cc (cc (cc (cc .slnil)))))) 6 rfl (.refl _)), ?_⟩
    intro a H
    refine zk (rs := [4, 9]) (by kernel_rfl) (by simp) ⟨?_, ?_, trivial⟩
    ·
     refine qm H 4 rfl rfl rfl rfl (qg  rfl rfl (fun w => by kernel_rfl)) (jl ⟨(V.rd 5 rfl), hs346.nil, hs346.cap⟩ ⟨(V.rd 4 rfl), hs347.nil, hs347.cap⟩ ⟨(V.rd 3 rfl), hs348.nil, hs348.cap⟩ ⟨(V.rd 2 rfl), hs352.nil, hs352.cap⟩ ⟨(V.rd 1 rfl), hs353.nil, hs353.cap⟩ ⟨(V.rd 0 rfl), hs354.nil, hs354.cap⟩ (lz1 hu hv) (lz2 hu hv) (lz3 hu hv) (lz1 hx hy) (lz2 hx hy) (lz3 hx hy) (js u v) hx2 hT hR hD) ?_
     rintro _ w370 ⟨zo357, zc358, uo359, uc360, zo361, zc362, uo363, uc364, rfl, hs365, hs366, hs367, hs368, hb369⟩
     replace V := V.call hb369
     replace V := V.addR hs365.rd
     replace V := V.addR hs366.rd
     replace V := V.addR hs367.rd
     replace V := V.addR hs368.rd
     refine ⟨_, rfl, (V.partD (cn (cc (cc (cc (cc (cc .slnil)))))) 10 rfl (.refl _)), ?_⟩
     intro a H
     refine qe H 5 rfl rfl rfl rfl hP (V.partD (cn (cc (cc (cc (cc (cc .slnil)))))) 10 rfl (.refl _)) (fun w1 V => qz rfl) λa H↦?_
     refine qe (v := .agg (rtC T 1 zo357 zc358 uo359 uc360).toArray) H 6 rfl rfl rfl rfl hP (V.partD (cn (cc (cc (cc (cc (cc .slnil)))))) 10 rfl (.refl _)) (fun w1 V => qh (vs := [.agg (rtC T 1 zo357 zc358 uo359 uc360).toArray, .agg (rtC ((R : Nat) : Int) D zo361 zc362 uo363 uc364).toArray]) rfl rfl) λa H↦?_
     refine qe (v := .agg (rtC ((R : Nat) : Int) D zo361 zc362 uo363 uc364).toArray) H 7 rfl rfl rfl rfl hP (V.partD (cn (cc (cc (cc (cc (cc .slnil)))))) 10 rfl (.refl _)) (fun w1 V => qh (vs := [.agg (rtC T 1 zo357 zc358 uo359 uc360).toArray, .agg (rtC ((R : Nat) : Int) D zo361 zc362 uo363 uc364).toArray]) rfl rfl) λa H↦?_
     refine qf (by kernel_rfl) (zt (vs := [.bool false, .slice none 0 0, .bool false, .slice none 0 0, .slice none 0 0]) (t := 165) H V 9 rfl rfl rfl rfl pg (qi (z := .agg #[.bool false, .slice none 0 0, .bool false, .slice none 0 0, .slice none 0 0]) (by kernel_rfl) rfl) rfl ?_)
     intro g371 w372 V
     refine ⟨(V.partD (cn (cn (cc (cc (cc (cc (cc .slnil))))))) 10 rfl (.refl _)), ?_⟩
     intro a H
     refine qf (by kernel_rfl) (qn (us := (rtC T 1 zo357 zc358 uo359 uc360)) H V 10 rfl rfl rfl (qj rfl rfl rfl (by kernel_rfl) V 1 rfl rfl rfl) 1 rfl rfl rfl rfl ?_)
     intro w373 V
     refine ⟨(V.partD (cn (cn (cc (cc (cc (cc (cc .slnil))))))) 10 rfl (.refl _)), ?_⟩
     refine qf (by kernel_rfl) (qn (us := (rtC ((R : Nat) : Int) D zo361 zc362 uo363 uc364)) H V 11 rfl rfl rfl (qj rfl rfl rfl (by kernel_rfl) V 0 rfl rfl rfl) 0 rfl rfl rfl rfl ?_)
     intro w374 V
     refine ⟨(V.partD (cn (cn (cc (cc (cc (cc (cc .slnil))))))) 10 rfl (.refl _)), ?_⟩
     refine qy (by kernel_rfl) ?_
     refine hJ72 _ _ ⟨g343, g371, zo357, zc358, uo359, uc360, zo361, zc362, uo363, uc364, H.keep _ (by repeat' constructor), (St.pickRL V ⟨⟨0, rfl⟩, ⟨⟨1, rfl⟩, ⟨⟨2, rfl⟩, ⟨⟨3, rfl⟩, ⟨⟨10, rfl⟩, ⟨⟨11, rfl⟩, ⟨⟨12, rfl⟩, ⟨⟨13, rfl⟩, ⟨⟨14, rfl⟩, ⟨⟨15, rfl⟩, ⟨⟨16, rfl⟩, ⟨⟨17, rfl⟩, trivial⟩⟩⟩⟩⟩⟩⟩⟩⟩⟩⟩⟩ [0, 1, 2, 3, 4, 5, 6] rfl (by decide)), hs368.nil, hs368.cap, hs367.nil, hs367.cap, hs366.nil, hs366.cap, hs365.nil, hs365.cap⟩
    ·
     refine zt (vs := [.bool false, .slice none 0 0, .bool false, .slice none 0 0, .slice none 0 0]) (t := 165) H V 9 rfl rfl rfl rfl pg (qi (z := .agg #[.bool false, .slice none 0 0, .bool false, .slice none 0 0, .slice none 0 0]) (by kernel_rfl) rfl) rfl ?_
     intro g375 w376 V
     refine ⟨(V.partD (cn (cn (cc (cc (cc (cc (cc .slnil))))))) 6 rfl (.refl _)), ?_⟩
     intro a H
     refine qf (by kernel_rfl) (qm H 4 rfl rfl rfl rfl (qg  rfl rfl (fun w => by kernel_rfl)) (jl ⟨(V.rd 5 rfl), hs346.nil, hs346.cap⟩ ⟨(V.rd 4 rfl), hs347.nil, hs347.cap⟩ ⟨(V.rd 3 rfl), hs348.nil, hs348.cap⟩ ⟨(V.rd 2 rfl), hs352.nil, hs352.cap⟩ ⟨(V.rd 1 rfl), hs353.nil, hs353.cap⟩ ⟨(V.rd 0 rfl), hs354.nil, hs354.cap⟩ (lz1 hu hv) (lz2 hu hv) (lz3 hu hv) (lz1 hx hy) (lz2 hx hy) (lz3 hx hy) (js u v) hx2 hT hR hD) ?_)
     rintro _ w390 ⟨zo377, zc378, uo379, uc380, zo381, zc382, uo383, uc384, rfl, hs385, hs386, hs387, hs388, hb389⟩
     replace V := V.call hb389
     replace V := V.addR hs385.rd
     replace V := V.addR hs386.rd
     replace V := V.addR hs387.rd
     replace V := V.addR hs388.rd
     refine ⟨_, rfl, (V.partD (cn (cn (cc (cc (cc (cc (cc .slnil))))))) 10 rfl (.refl _)), ?_⟩
     intro a H
     refine qe H 5 rfl rfl rfl rfl hP (V.partD (cn (cn (cc (cc (cc (cc (cc .slnil))))))) 10 rfl (.refl _)) (fun w1 V => qz rfl) λa H↦?_
     refine qe (v := .agg (rtC T 1 zo377 zc378 uo379 uc380).toArray) H 6 rfl rfl rfl rfl hP (V.partD (cn (cn (cc (cc (cc (cc (cc .slnil))))))) 10 rfl (.refl _)) (fun w1 V => qh (vs := [.agg (rtC T 1 zo377 zc378 uo379 uc380).toArray, .agg (rtC ((R : Nat) : Int) D zo381 zc382 uo383 uc384).toArray]) rfl rfl) λa H↦?_
     refine qe (v := .agg (rtC ((R : Nat) : Int) D zo381 zc382 uo383 uc384).toArray) H 7 rfl rfl rfl rfl hP (V.partD (cn (cn (cc (cc (cc (cc (cc .slnil))))))) 10 rfl (.refl _)) (fun w1 V => qh (vs := [.agg (rtC T 1 zo377 zc378 uo379 uc380).toArray, .agg (rtC ((R : Nat) : Int) D zo381 zc382 uo383 uc384).toArray]) rfl rfl) λa H↦?_
     refine qf (by kernel_rfl) (qn (us := (rtC T 1 zo377 zc378 uo379 uc380)) H V 10 rfl rfl rfl (qj rfl rfl rfl (by kernel_rfl) V 1 rfl rfl rfl) 1 rfl rfl rfl rfl ?_)
     intro w391 V
     refine ⟨(V.partD (cn (cn (cc (cc (cc (cc (cc .slnil))))))) 10 rfl (.refl _)), ?_⟩
     refine qf (by kernel_rfl) (qn (us := (rtC ((R : Nat) : Int) D zo381 zc382 uo383 uc384)) H V 11 rfl rfl rfl (qj rfl rfl rfl (by kernel_rfl) V 0 rfl rfl rfl) 0 rfl rfl rfl rfl ?_)
     intro w392 V
     refine ⟨(V.partD (cn (cn (cc (cc (cc (cc (cc .slnil))))))) 10 rfl (.refl _)), ?_⟩
     refine qy (by kernel_rfl) ?_
     refine hJ72 _ _ ⟨g343, g375, zo377, zc378, uo379, uc380, zo381, zc382, uo383, uc384, H.keep _ (by repeat' constructor), (St.pickRL V ⟨⟨0, rfl⟩, ⟨⟨1, rfl⟩, ⟨⟨2, rfl⟩, ⟨⟨3, rfl⟩, ⟨⟨10, rfl⟩, ⟨⟨11, rfl⟩, ⟨⟨12, rfl⟩, ⟨⟨13, rfl⟩, ⟨⟨14, rfl⟩, ⟨⟨15, rfl⟩, ⟨⟨16, rfl⟩, ⟨⟨17, rfl⟩, trivial⟩⟩⟩⟩⟩⟩⟩⟩⟩⟩⟩⟩ [0, 1, 2, 3, 4, 5, 6] rfl (by decide)), hs388.nil, hs388.cap, hs387.nil, hs387.cap, hs386.nil, hs386.cap, hs385.nil, hs385.cap⟩
   ·
    refine zt (vs := [.bool false, .slice none 0 0, .bool false, .slice none 0 0, .slice none 0 0]) (t := 165) H V 9 rfl rfl rfl rfl pg (qi (z := .agg #[.bool false, .slice none 0 0, .bool false, .slice none 0 0, .slice none 0 0]) (by kernel_rfl) rfl) rfl ?_
    intro g393 w394 V
    refine ⟨(V.partD (cn (cn (cc (cc (cc (cc (cc .slnil))))))) 3 rfl (.refl _)), ?_⟩
    intro a H
    refine qf (by kernel_rfl) (qm H 3 rfl rfl rfl rfl (qg  rfl rfl (fun w => by kernel_rfl)) (zm (show Nm _ (Q6.rat x y) u1 uc1 u2 uc2 u3 uc3 u4 uc4 from ⟨⟨(V.rd 6 rfl), hb.s1.nil, hb.s1.cap⟩, ⟨(V.rd 5 rfl), hb.s2.nil, hb.s2.cap⟩, ⟨(V.rd 4 rfl), hb.s3.nil, hb.s3.cap⟩, ⟨(V.rd 3 rfl), hb.s4.nil, hb.s4.cap⟩⟩) hx hy) ?_)
    rintro _ w400 ⟨p395_1, p395_c1, p395_2, p395_c2, p395_3, p395_c3, rfl, hs396, hs397, hs398, hb399⟩
    replace V := V.call hb399
    replace V := V.addR hs396.rd
    replace V := V.addR hs397.rd
    replace V := V.addR hs398.rd
    refine ⟨_, rfl, (V.partD (cn (cn (cc (cc (cc (cc (cc .slnil))))))) 6 rfl (.refl _)), ?_⟩
    intro a H
    refine qf (by kernel_rfl) (qm H 4 rfl rfl rfl rfl (qg  rfl rfl (fun w => by kernel_rfl)) (jl ⟨(V.rd 5 rfl), hs346.nil, hs346.cap⟩ ⟨(V.rd 4 rfl), hs347.nil, hs347.cap⟩ ⟨(V.rd 3 rfl), hs348.nil, hs348.cap⟩ ⟨(V.rd 2 rfl), hs396.nil, hs396.cap⟩ ⟨(V.rd 1 rfl), hs397.nil, hs397.cap⟩ ⟨(V.rd 0 rfl), hs398.nil, hs398.cap⟩ (lz1 hu hv) (lz2 hu hv) (lz3 hu hv) (lz1 hx hy) (lz2 hx hy) (lz3 hx hy) (js u v) hx2 hT hR hD) ?_)
    rintro _ w414 ⟨zo401, zc402, uo403, uc404, zo405, zc406, uo407, uc408, rfl, hs409, hs410, hs411, hs412, hb413⟩
    replace V := V.call hb413
    replace V := V.addR hs409.rd
    replace V := V.addR hs410.rd
    replace V := V.addR hs411.rd
    replace V := V.addR hs412.rd
    refine ⟨_, rfl, (V.partD (cn (cn (cc (cc (cc (cc (cc .slnil))))))) 10 rfl (.refl _)), ?_⟩
    intro a H
    refine qe H 5 rfl rfl rfl rfl hP (V.partD (cn (cn (cc (cc (cc (cc (cc .slnil))))))) 10 rfl (.refl _)) (fun w1 V => qz rfl) λa H↦?_
    refine qe (v := .agg (rtC T 1 zo401 zc402 uo403 uc404).toArray) H 6 rfl rfl rfl rfl hP (V.partD (cn (cn (cc (cc (cc (cc (cc .slnil))))))) 10 rfl (.refl _)) (fun w1 V => qh (vs := [.agg (rtC T 1 zo401 zc402 uo403 uc404).toArray, .agg (rtC ((R : Nat) : Int) D zo405 zc406 uo407 uc408).toArray]) rfl rfl) λa H↦?_
    refine qe (v := .agg (rtC ((R : Nat) : Int) D zo405 zc406 uo407 uc408).toArray) H 7 rfl rfl rfl rfl hP (V.partD (cn (cn (cc (cc (cc (cc (cc .slnil))))))) 10 rfl (.refl _)) (fun w1 V => qh (vs := [.agg (rtC T 1 zo401 zc402 uo403 uc404).toArray, .agg (rtC ((R : Nat) : Int) D zo405 zc406 uo407 uc408).toArray]) rfl rfl) λa H↦?_
    refine qf (by kernel_rfl) (qn (us := (rtC T 1 zo401 zc402 uo403 uc404)) H V 10 rfl rfl rfl (qj rfl rfl rfl (by kernel_rfl) V 1 rfl rfl rfl) 1 rfl rfl rfl rfl ?_)
    intro w415 V
    refine ⟨(V.partD (cn (cn (cc (cc (cc (cc (cc .slnil))))))) 10 rfl (.refl _)), ?_⟩
    refine qf (by kernel_rfl) (qn (us := (rtC ((R : Nat) : Int) D zo405 zc406 uo407 uc408)) H V 11 rfl rfl rfl (qj rfl rfl rfl (by kernel_rfl) V 0 rfl rfl rfl) 0 rfl rfl rfl rfl ?_)
    intro w416 V
    refine ⟨(V.partD (cn (cn (cc (cc (cc (cc (cc .slnil))))))) 10 rfl (.refl _)), ?_⟩
    refine qy (by kernel_rfl) ?_
    refine hJ72 _ _ ⟨g343, g393, zo401, zc402, uo403, uc404, zo405, zc406, uo407, uc408, H.keep _ (by repeat' constructor), (St.pickRL V ⟨⟨0, rfl⟩, ⟨⟨1, rfl⟩, ⟨⟨2, rfl⟩, ⟨⟨3, rfl⟩, ⟨⟨10, rfl⟩, ⟨⟨11, rfl⟩, ⟨⟨12, rfl⟩, ⟨⟨13, rfl⟩, ⟨⟨14, rfl⟩, ⟨⟨15, rfl⟩, ⟨⟨16, rfl⟩, ⟨⟨17, rfl⟩, trivial⟩⟩⟩⟩⟩⟩⟩⟩⟩⟩⟩⟩ [0, 1, 2, 3, 4, 5, 6] rfl (by decide)), hs412.nil, hs412.cap, hs411.nil, hs411.cap, hs410.nil, hs410.cap, hs409.nil, hs409.cap⟩
  ·
   refine zt (vs := [.bool false, .slice none 0 0, .bool false, .slice none 0 0, .slice none 0 0]) (t := 165) H V 9 rfl rfl rfl rfl pg (qi (z := .agg #[.bool false, .slice none 0 0, .bool false, .slice none 0 0, .slice none 0 0]) (by kernel_rfl) rfl) rfl ?_
   intro g417 w418 V
   refine ⟨(V.partD (cn (cn (cc (cc (cc (cc (cc .slnil))))))) 0 rfl (.refl _)), ?_⟩
   intro a H
   refine qf (by kernel_rfl) (qm H 1 rfl rfl rfl rfl (qg  rfl rfl (fun w => by kernel_rfl)) (zm (show Nm _ (Q6.rat u v) a1 ac1 a2 ac2 a3 ac3 a4 ac4 from ⟨⟨(V.rd 7 rfl), ha.s1.nil, ha.s1.cap⟩, ⟨(V.rd 6 rfl), ha.s2.nil, ha.s2.cap⟩, ⟨(V.rd 5 rfl), ha.s3.nil, ha.s3.cap⟩, ⟨(V.rd 4 rfl), ha.s4.nil, ha.s4.cap⟩⟩) hu hv) ?_)
   rintro _ w424 ⟨p419_1, p419_c1, p419_2, p419_c2, p419_3, p419_c3, rfl, hs420, hs421, hs422, hb423⟩
   replace V := V.call hb423
   replace V := V.addR hs420.rd
   replace V := V.addR hs421.rd
   replace V := V.addR hs422.rd
   refine ⟨_, rfl, (V.partD (cn (cn (cc (cc (cc (cc (cc .slnil))))))) 3 rfl (.refl _)), ?_⟩
   intro a H
   refine qf (by kernel_rfl) (qm H 3 rfl rfl rfl rfl (qg  rfl rfl (fun w => by kernel_rfl)) (zm (show Nm _ (Q6.rat x y) u1 uc1 u2 uc2 u3 uc3 u4 uc4 from ⟨⟨(V.rd 6 rfl), hb.s1.nil, hb.s1.cap⟩, ⟨(V.rd 5 rfl), hb.s2.nil, hb.s2.cap⟩, ⟨(V.rd 4 rfl), hb.s3.nil, hb.s3.cap⟩, ⟨(V.rd 3 rfl), hb.s4.nil, hb.s4.cap⟩⟩) hx hy) ?_)
   rintro _ w430 ⟨p425_1, p425_c1, p425_2, p425_c2, p425_3, p425_c3, rfl, hs426, hs427, hs428, hb429⟩
   replace V := V.call hb429
   replace V := V.addR hs426.rd
   replace V := V.addR hs427.rd
   replace V := V.addR hs428.rd
   refine ⟨_, rfl, (V.partD (cn (cn (cc (cc (cc (cc (cc .slnil))))))) 6 rfl (.refl _)), ?_⟩
   intro a H
   refine qf (by kernel_rfl) (qm H 4 rfl rfl rfl rfl (qg  rfl rfl (fun w => by kernel_rfl)) (jl ⟨(V.rd 5 rfl), hs420.nil, hs420.cap⟩ ⟨(V.rd 4 rfl), hs421.nil, hs421.cap⟩ ⟨(V.rd 3 rfl), hs422.nil, hs422.cap⟩ ⟨(V.rd 2 rfl), hs426.nil, hs426.cap⟩ ⟨(V.rd 1 rfl), hs427.nil, hs427.cap⟩ ⟨(V.rd 0 rfl), hs428.nil, hs428.cap⟩ (lz1 hu hv) (lz2 hu hv) (lz3 hu hv) (lz1 hx hy) (lz2 hx hy) (lz3 hx hy) (js u v) hx2 hT hR hD) ?_)
   rintro _ w444 ⟨zo431, zc432, uo433, uc434, zo435, zc436, uo437, uc438, rfl, hs439, hs440, hs441, hs442, hb443⟩
   replace V := V.call hb443
   replace V := V.addR hs439.rd
   replace V := V.addR hs440.rd
   replace V := V.addR hs441.rd
   replace V := V.addR hs442.rd
   refine ⟨_, rfl, (V.partD (cn (cn (cc (cc (cc (cc (cc .slnil))))))) 10 rfl (.refl _)), ?_⟩
   intro a H
   refine qe H 5 rfl rfl rfl rfl hP (V.partD (cn (cn (cc (cc (cc (cc (cc .slnil))))))) 10 rfl (.refl _)) (fun w1 V => qz rfl) λa H↦?_
   refine qe (v := .agg (rtC T 1 zo431 zc432 uo433 uc434).toArray) H 6 rfl rfl rfl rfl hP (V.partD (cn (cn (cc (cc (cc (cc (cc .slnil))))))) 10 rfl (.refl _)) (fun w1 V => qh (vs := [.agg (rtC T 1 zo431 zc432 uo433 uc434).toArray, .agg (rtC ((R : Nat) : Int) D zo435 zc436 uo437 uc438).toArray]) rfl rfl) λa H↦?_
   refine qe (v := .agg (rtC ((R : Nat) : Int) D zo435 zc436 uo437 uc438).toArray) H 7 rfl rfl rfl rfl hP (V.partD (cn (cn (cc (cc (cc (cc (cc .slnil))))))) 10 rfl (.refl _)) (fun w1 V => qh (vs := [.agg (rtC T 1 zo431 zc432 uo433 uc434).toArray, .agg (rtC ((R : Nat) : Int) D zo435 zc436 uo437 uc438).toArray]) rfl rfl) λa H↦?_
   refine qf (by kernel_rfl) (qn (us := (rtC T 1 zo431 zc432 uo433 uc434)) H V 10 rfl rfl rfl (qj rfl rfl rfl (by kernel_rfl) V 1 rfl rfl rfl) 1 rfl rfl rfl rfl ?_)
   intro w445 V
   refine ⟨(V.partD (cn (cn (cc (cc (cc (cc (cc .slnil))))))) 10 rfl (.refl _)), ?_⟩
   refine qf (by kernel_rfl) (qn (us := (rtC ((R : Nat) : Int) D zo435 zc436 uo437 uc438)) H V 11 rfl rfl rfl (qj rfl rfl rfl (by kernel_rfl) V 0 rfl rfl rfl) 0 rfl rfl rfl rfl ?_)
   intro w446 V
   refine ⟨(V.partD (cn (cn (cc (cc (cc (cc (cc .slnil))))))) 10 rfl (.refl _)), ?_⟩
   refine qy (by kernel_rfl) ?_
   refine hJ72 _ _ ⟨g343, g417, zo431, zc432, uo433, uc434, zo435, zc436, uo437, uc438, H.keep _ (by repeat' constructor), (St.pickRL V ⟨⟨0, rfl⟩, ⟨⟨1, rfl⟩, ⟨⟨2, rfl⟩, ⟨⟨3, rfl⟩, ⟨⟨10, rfl⟩, ⟨⟨11, rfl⟩, ⟨⟨12, rfl⟩, ⟨⟨13, rfl⟩, ⟨⟨14, rfl⟩, ⟨⟨15, rfl⟩, ⟨⟨16, rfl⟩, ⟨⟨17, rfl⟩, trivial⟩⟩⟩⟩⟩⟩⟩⟩⟩⟩⟩⟩ [0, 1, 2, 3, 4, 5, 6] rfl (by decide)), hs442.nil, hs442.cap, hs441.nil, hs441.cap, hs440.nil, hs440.cap, hs439.nil, hs439.cap⟩
 ·
  refine zt (vs := [.bool false, .slice none 0 0, .bool false, .slice none 0 0, .slice none 0 0]) (t := 165) H V 9 rfl rfl rfl rfl pg (qi (z := .agg #[.bool false, .slice none 0 0, .bool false, .slice none 0 0, .slice none 0 0]) (by kernel_rfl) rfl) rfl ?_
  intro g447 w448 V
  refine ⟨(V.partD (cn (cc (cc (cc (cc (cc .slnil)))))) 0 rfl (.refl _)), ?_⟩
  intro a H
  refine zk (rs := [1, 8]) (by kernel_rfl) (by simp) ⟨?_, ?_, trivial⟩
  ·
   refine qm H 1 rfl rfl rfl rfl (qg  rfl rfl (fun w => by kernel_rfl)) (zm (show Nm _ (Q6.rat u v) a1 ac1 a2 ac2 a3 ac3 a4 ac4 from ⟨⟨(V.rd 7 rfl), ha.s1.nil, ha.s1.cap⟩, ⟨(V.rd 6 rfl), ha.s2.nil, ha.s2.cap⟩, ⟨(V.rd 5 rfl), ha.s3.nil, ha.s3.cap⟩, ⟨(V.rd 4 rfl), ha.s4.nil, ha.s4.cap⟩⟩) hu hv) ?_
   rintro _ w454 ⟨p449_1, p449_c1, p449_2, p449_c2, p449_3, p449_c3, rfl, hs450, hs451, hs452, hb453⟩
   replace V := V.call hb453
   replace V := V.addR hs450.rd
   replace V := V.addR hs451.rd
   replace V := V.addR hs452.rd
   refine ⟨_, rfl, (V.partD (cn (cc (cc (cc (cc (cc .slnil)))))) 3 rfl (.refl _)), ?_⟩
   intro a H
   refine zk (rs := [3, 8]) (by kernel_rfl) (by simp) ⟨?_, ?_, trivial⟩
   ·
    refine qm H 3 rfl rfl rfl rfl (qg  rfl rfl (fun w => by kernel_rfl)) (zm (show Nm _ (Q6.rat x y) u1 uc1 u2 uc2 u3 uc3 u4 uc4 from ⟨⟨(V.rd 6 rfl), hb.s1.nil, hb.s1.cap⟩, ⟨(V.rd 5 rfl), hb.s2.nil, hb.s2.cap⟩, ⟨(V.rd 4 rfl), hb.s3.nil, hb.s3.cap⟩, ⟨(V.rd 3 rfl), hb.s4.nil, hb.s4.cap⟩⟩) hx hy) ?_
    rintro _ w460 ⟨p455_1, p455_c1, p455_2, p455_c2, p455_3, p455_c3, rfl, hs456, hs457, hs458, hb459⟩
    replace V := V.call hb459
    replace V := V.addR hs456.rd
    replace V := V.addR hs457.rd
    replace V := V.addR hs458.rd
    refine ⟨_, rfl, (V.partD (cn (cc (cc (cc (cc (cc .slnil)))))) 6 rfl (.refl _)), ?_⟩
    intro a H
    refine zk (rs := [4, 8]) (by kernel_rfl) (by simp) ⟨?_, ?_, trivial⟩
    ·
     refine qm H 4 rfl rfl rfl rfl (qg  rfl rfl (fun w => by kernel_rfl)) (jl ⟨(V.rd 5 rfl), hs450.nil, hs450.cap⟩ ⟨(V.rd 4 rfl), hs451.nil, hs451.cap⟩ ⟨(V.rd 3 rfl), hs452.nil, hs452.cap⟩ ⟨(V.rd 2 rfl), hs456.nil, hs456.cap⟩ ⟨(V.rd 1 rfl), hs457.nil, hs457.cap⟩ ⟨(V.rd 0 rfl), hs458.nil, hs458.cap⟩ (lz1 hu hv) (lz2 hu hv) (lz3 hu hv) (lz1 hx hy) (lz2 hx hy) (lz3 hx hy) (js u v) hx2 hT hR hD) ?_
     rintro _ w474 ⟨zo461, zc462, uo463, uc464, zo465, zc466, uo467, uc468, rfl, hs469, hs470, hs471, hs472, hb473⟩
     replace V := V.call hb473
     replace V := V.addR hs469.rd
     replace V := V.addR hs470.rd
     replace V := V.addR hs471.rd
     replace V := V.addR hs472.rd
     refine ⟨_, rfl, (V.partD (cn (cc (cc (cc (cc (cc .slnil)))))) 10 rfl (.refl _)), ?_⟩
     intro a H
     refine qe H 5 rfl rfl rfl rfl hP (V.partD (cn (cc (cc (cc (cc (cc .slnil)))))) 10 rfl (.refl _)) (fun w1 V => qz rfl) λa H↦?_
     refine qe (v := .agg (rtC T 1 zo461 zc462 uo463 uc464).toArray) H 6 rfl rfl rfl rfl hP (V.partD (cn (cc (cc (cc (cc (cc .slnil)))))) 10 rfl (.refl _)) (fun w1 V => qh (vs := [.agg (rtC T 1 zo461 zc462 uo463 uc464).toArray, .agg (rtC ((R : Nat) : Int) D zo465 zc466 uo467 uc468).toArray]) rfl rfl) λa H↦?_
     refine qe (v := .agg (rtC ((R : Nat) : Int) D zo465 zc466 uo467 uc468).toArray) H 7 rfl rfl rfl rfl hP (V.partD (cn (cc (cc (cc (cc (cc .slnil)))))) 10 rfl (.refl _)) (fun w1 V => qh (vs := [.agg (rtC T 1 zo461 zc462 uo463 uc464).toArray, .agg (rtC ((R : Nat) : Int) D zo465 zc466 uo467 uc468).toArray]) rfl rfl) λa H↦?_
     refine qf (by kernel_rfl) (zt (vs := [.bool false, .slice none 0 0, .bool false, .slice none 0 0, .slice none 0 0]) (t := 165) H V 8 rfl rfl rfl rfl pg (qi (z := .agg #[.bool false, .slice none 0 0, .bool false, .slice none 0 0, .slice none 0 0]) (by kernel_rfl) rfl) rfl ?_)
     intro g475 w476 V
     refine ⟨(V.partD (cn (cn (cc (cc (cc (cc (cc .slnil))))))) 10 rfl (.refl _)), ?_⟩
     intro a H
     refine qf (by kernel_rfl) (qn (us := (rtC T 1 zo461 zc462 uo463 uc464)) H V 10 rfl rfl rfl (qj rfl rfl rfl (by kernel_rfl) V 0 rfl rfl rfl) 0 rfl rfl rfl rfl ?_)
     intro w477 V
     refine ⟨(V.partD (cn (cn (cc (cc (cc (cc (cc .slnil))))))) 10 rfl (.refl _)), ?_⟩
     refine qf (by kernel_rfl) (qn (us := (rtC ((R : Nat) : Int) D zo465 zc466 uo467 uc468)) H V 11 rfl rfl rfl (qj rfl rfl rfl (by kernel_rfl) V 1 rfl rfl rfl) 1 rfl rfl rfl rfl ?_)
     intro w478 V
     refine ⟨(V.partD (cn (cn (cc (cc (cc (cc (cc .slnil))))))) 10 rfl (.refl _)), ?_⟩
     refine qy (by kernel_rfl) ?_
     refine hJ72 _ _ ⟨g475, g447, zo461, zc462, uo463, uc464, zo465, zc466, uo467, uc468, H.keep _ (by repeat' constructor), (St.pickRL V ⟨⟨0, rfl⟩, ⟨⟨1, rfl⟩, ⟨⟨2, rfl⟩, ⟨⟨3, rfl⟩, ⟨⟨10, rfl⟩, ⟨⟨11, rfl⟩, ⟨⟨12, rfl⟩, ⟨⟨13, rfl⟩, ⟨⟨14, rfl⟩, ⟨⟨15, rfl⟩, ⟨⟨16, rfl⟩, ⟨⟨17, rfl⟩, trivial⟩⟩⟩⟩⟩⟩⟩⟩⟩⟩⟩⟩ [1, 0, 2, 3, 4, 5, 6] rfl (by decide)), hs472.nil, hs472.cap, hs471.nil, hs471.cap, hs470.nil, hs470.cap, hs469.nil, hs469.cap⟩
    ·
     refine zt (vs := [.bool false, .slice none 0 0, .bool false, .slice none 0 0, .slice none 0 0]) (t := 165) H V 8 rfl rfl rfl rfl pg (qi (z := .agg #[.bool false, .slice none 0 0, .bool false, .slice none 0 0, .slice none 0 0]) (by kernel_rfl) rfl) rfl ?_
     intro g479 w480 V
     refine ⟨(V.partD (cn (cn (cc (cc (cc (cc (cc .slnil))))))) 6 rfl (.refl _)), ?_⟩
     intro a H
     refine qf (by kernel_rfl) (qm H 4 rfl rfl rfl rfl (qg  rfl rfl (fun w => by kernel_rfl)) (jl ⟨(V.rd 5 rfl), hs450.nil, hs450.cap⟩ ⟨(V.rd 4 rfl), hs451.nil, hs451.cap⟩ ⟨(V.rd 3 rfl), hs452.nil, hs452.cap⟩ ⟨(V.rd 2 rfl), hs456.nil, hs456.cap⟩ ⟨(V.rd 1 rfl), hs457.nil, hs457.cap⟩ ⟨(V.rd 0 rfl), hs458.nil, hs458.cap⟩ (lz1 hu hv) (lz2 hu hv) (lz3 hu hv) (lz1 hx hy) (lz2 hx hy) (lz3 hx hy) (js u v) hx2 hT hR hD) ?_)
     rintro _ w494 ⟨zo481, zc482, uo483, uc484, zo485, zc486, uo487, uc488, rfl, hs489, hs490, hs491, hs492, hb493⟩
     replace V := V.call hb493
     replace V := V.addR hs489.rd
     replace V := V.addR hs490.rd
     replace V := V.addR hs491.rd
     replace V := V.addR hs492.rd
     refine ⟨_, rfl, (V.partD (cn (cn (cc (cc (cc (cc (cc .slnil))))))) 10 rfl (.refl _)), ?_⟩
     intro a H
     refine qe H 5 rfl rfl rfl rfl hP (V.partD (cn (cn (cc (cc (cc (cc (cc .slnil))))))) 10 rfl (.refl _)) (fun w1 V => qz rfl) λa H↦?_
     refine qe (v := .agg (rtC T 1 zo481 zc482 uo483 uc484).toArray) H 6 rfl rfl rfl rfl hP (V.partD (cn (cn (cc (cc (cc (cc (cc .slnil))))))) 10 rfl (.refl _)) (fun w1 V => qh (vs := [.agg (rtC T 1 zo481 zc482 uo483 uc484).toArray, .agg (rtC ((R : Nat) : Int) D zo485 zc486 uo487 uc488).toArray]) rfl rfl) λa H↦?_
     refine qe (v := .agg (rtC ((R : Nat) : Int) D zo485 zc486 uo487 uc488).toArray) H 7 rfl rfl rfl rfl hP (V.partD (cn (cn (cc (cc (cc (cc (cc .slnil))))))) 10 rfl (.refl _)) (fun w1 V => qh (vs := [.agg (rtC T 1 zo481 zc482 uo483 uc484).toArray, .agg (rtC ((R : Nat) : Int) D zo485 zc486 uo487 uc488).toArray]) rfl rfl) λa H↦?_
     refine qf (by kernel_rfl) (qn (us := (rtC T 1 zo481 zc482 uo483 uc484)) H V 10 rfl rfl rfl (qj rfl rfl rfl (by kernel_rfl) V 0 rfl rfl rfl) 0 rfl rfl rfl rfl ?_)
     intro w495 V
     refine ⟨(V.partD (cn (cn (cc (cc (cc (cc (cc .slnil))))))) 10 rfl (.refl _)), ?_⟩
     refine qf (by kernel_rfl) (qn (us := (rtC ((R : Nat) : Int) D zo485 zc486 uo487 uc488)) H V 11 rfl rfl rfl (qj rfl rfl rfl (by kernel_rfl) V 1 rfl rfl rfl) 1 rfl rfl rfl rfl ?_)
     intro w496 V
     refine ⟨(V.partD (cn (cn (cc (cc (cc (cc (cc .slnil))))))) 10 rfl (.refl _)), ?_⟩
     refine qy (by kernel_rfl) ?_
     refine hJ72 _ _ ⟨g479, g447, zo481, zc482, uo483, uc484, zo485, zc486, uo487, uc488, H.keep _ (by repeat' constructor), (St.pickRL V ⟨⟨0, rfl⟩, ⟨⟨1, rfl⟩, ⟨⟨2, rfl⟩, ⟨⟨3, rfl⟩, ⟨⟨10, rfl⟩, ⟨⟨11, rfl⟩, ⟨⟨12, rfl⟩, ⟨⟨13, rfl⟩, ⟨⟨14, rfl⟩, ⟨⟨15, rfl⟩, ⟨⟨16, rfl⟩, ⟨⟨17, rfl⟩, trivial⟩⟩⟩⟩⟩⟩⟩⟩⟩⟩⟩⟩ [1, 0, 2, 3, 4, 5, 6] rfl (by decide)), hs492.nil, hs492.cap, hs491.nil, hs491.cap, hs490.nil, hs490.cap, hs489.nil, hs489.cap⟩
   ·
    refine zt (vs := [.bool false, .slice none 0 0, .bool false, .slice none 0 0, .slice none 0 0]) (t := 165) H V 8 rfl rfl rfl rfl pg (qi (z := .agg #[.bool false, .slice none 0 0, .bool false, .slice none 0 0, .slice none 0 0]) (by kernel_rfl) rfl) rfl ?_
    intro g497 w498 V
    refine ⟨(V.partD (cn (cn (cc (cc (cc (cc (cc .slnil))))))) 3 rfl (.refl _)), ?_⟩
    intro a H
    refine qf (by kernel_rfl) (qm H 3 rfl rfl rfl rfl (qg  rfl rfl (fun w => by kernel_rfl)) (zm (show Nm _ (Q6.rat x y) u1 uc1 u2 uc2 u3 uc3 u4 uc4 from ⟨⟨(V.rd 6 rfl), hb.s1.nil, hb.s1.cap⟩, ⟨(V.rd 5 rfl), hb.s2.nil, hb.s2.cap⟩, ⟨(V.rd 4 rfl), hb.s3.nil, hb.s3.cap⟩, ⟨(V.rd 3 rfl), hb.s4.nil, hb.s4.cap⟩⟩) hx hy) ?_)
    rintro _ w504 ⟨p499_1, p499_c1, p499_2, p499_c2, p499_3, p499_c3, rfl, hs500, hs501, hs502, hb503⟩
    replace V := V.call hb503
    replace V := V.addR hs500.rd
    replace V := V.addR hs501.rd
    replace V := V.addR hs502.rd
    refine ⟨_, rfl, (V.partD (cn (cn (cc (cc (cc (cc (cc .slnil))))))) 6 rfl (.refl _)), ?_⟩
    intro a H
    refine qf (by kernel_rfl) (qm H 4 rfl rfl rfl rfl (qg  rfl rfl (fun w => by kernel_rfl)) (jl ⟨(V.rd 5 rfl), hs450.nil, hs450.cap⟩ ⟨(V.rd 4 rfl), hs451.nil, hs451.cap⟩ ⟨(V.rd 3 rfl), hs452.nil, hs452.cap⟩ ⟨(V.rd 2 rfl), hs500.nil, hs500.cap⟩ ⟨(V.rd 1 rfl), hs501.nil, hs501.cap⟩ ⟨(V.rd 0 rfl), hs502.nil, hs502.cap⟩ (lz1 hu hv) (lz2 hu hv) (lz3 hu hv) (lz1 hx hy) (lz2 hx hy) (lz3 hx hy) (js u v) hx2 hT hR hD) ?_)
    rintro _ w518 ⟨zo505, zc506, uo507, uc508, zo509, zc510, uo511, uc512, rfl, hs513, hs514, hs515, hs516, hb517⟩
    replace V := V.call hb517
    replace V := V.addR hs513.rd
    replace V := V.addR hs514.rd
    replace V := V.addR hs515.rd
    replace V := V.addR hs516.rd
    refine ⟨_, rfl, (V.partD (cn (cn (cc (cc (cc (cc (cc .slnil))))))) 10 rfl (.refl _)), ?_⟩
    intro a H
    refine qe H 5 rfl rfl rfl rfl hP (V.partD (cn (cn (cc (cc (cc (cc (cc .slnil))))))) 10 rfl (.refl _)) (fun w1 V => qz rfl) λa H↦?_
    refine qe (v := .agg (rtC T 1 zo505 zc506 uo507 uc508).toArray) H 6 rfl rfl rfl rfl hP (V.partD (cn (cn (cc (cc (cc (cc (cc .slnil))))))) 10 rfl (.refl _)) (fun w1 V => qh (vs := [.agg (rtC T 1 zo505 zc506 uo507 uc508).toArray, .agg (rtC ((R : Nat) : Int) D zo509 zc510 uo511 uc512).toArray]) rfl rfl) λa H↦?_
    refine qe (v := .agg (rtC ((R : Nat) : Int) D zo509 zc510 uo511 uc512).toArray) H 7 rfl rfl rfl rfl hP (V.partD (cn (cn (cc (cc (cc (cc (cc .slnil))))))) 10 rfl (.refl _)) (fun w1 V => qh (vs := [.agg (rtC T 1 zo505 zc506 uo507 uc508).toArray, .agg (rtC ((R : Nat) : Int) D zo509 zc510 uo511 uc512).toArray]) rfl rfl) λa H↦?_
    refine qf (by kernel_rfl) (qn (us := (rtC T 1 zo505 zc506 uo507 uc508)) H V 10 rfl rfl rfl (qj rfl rfl rfl (by kernel_rfl) V 0 rfl rfl rfl) 0 rfl rfl rfl rfl ?_)
    intro w519 V
    refine ⟨(V.partD (cn (cn (cc (cc (cc (cc (cc .slnil))))))) 10 rfl (.refl _)), ?_⟩
    refine qf (by kernel_rfl) (qn (us := (rtC ((R : Nat) : Int) D zo509 zc510 uo511 uc512)) H V 11 rfl rfl rfl (qj rfl rfl rfl (by kernel_rfl) V 1 rfl rfl rfl) 1 rfl rfl rfl rfl ?_)
    intro w520 V
    refine ⟨(V.partD (cn (cn (cc (cc (cc (cc (cc .slnil))))))) 10 rfl (.refl _)), ?_⟩
    refine qy (by kernel_rfl) ?_
    refine hJ72 _ _ ⟨g497, g447, zo505, zc506, uo507, uc508, zo509, zc510, uo511, uc512, H.keep _ (by repeat' constructor), (St.pickRL V ⟨⟨0, rfl⟩, ⟨⟨1, rfl⟩, ⟨⟨2, rfl⟩, ⟨⟨3, rfl⟩, ⟨⟨10, rfl⟩, ⟨⟨11, rfl⟩, ⟨⟨12, rfl⟩, ⟨⟨13, rfl⟩, ⟨⟨14, rfl⟩, ⟨⟨15, rfl⟩, ⟨⟨16, rfl⟩, ⟨⟨17, rfl⟩, trivial⟩⟩⟩⟩⟩⟩⟩⟩⟩⟩⟩⟩ [1, 0, 2, 3, 4, 5, 6] rfl (by decide)), hs516.nil, hs516.cap, hs515.nil, hs515.cap, hs514.nil, hs514.cap, hs513.nil, hs513.cap⟩
  ·
   refine zt (vs := [.bool false, .slice none 0 0, .bool false, .slice none 0 0, .slice none 0 0]) (t := 165) H V 8 rfl rfl rfl rfl pg (qi (z := .agg #[.bool false, .slice none 0 0, .bool false, .slice none 0 0, .slice none 0 0]) (by kernel_rfl) rfl) rfl ?_
   intro g521 w522 V
   refine ⟨(V.partD (cn (cn (cc (cc (cc (cc (cc .slnil))))))) 0 rfl (.refl _)), ?_⟩
   intro a H
   refine qf (by kernel_rfl) (qm H 1 rfl rfl rfl rfl (qg  rfl rfl (fun w => by kernel_rfl)) (zm (show Nm _ (Q6.rat u v) a1 ac1 a2 ac2 a3 ac3 a4 ac4 from ⟨⟨(V.rd 7 rfl), ha.s1.nil, ha.s1.cap⟩, ⟨(V.rd 6 rfl), ha.s2.nil, ha.s2.cap⟩, ⟨(V.rd 5 rfl), ha.s3.nil, ha.s3.cap⟩, ⟨(V.rd 4 rfl), ha.s4.nil, ha.s4.cap⟩⟩) hu hv) ?_)
   rintro _ w528 ⟨p523_1, p523_c1, p523_2, p523_c2, p523_3, p523_c3, rfl, hs524, hs525, hs526, hb527⟩
   replace V := V.call hb527
   replace V := V.addR hs524.rd
   replace V := V.addR hs525.rd
   replace V := V.addR hs526.rd
   refine ⟨_, rfl, (V.partD (cn (cn (cc (cc (cc (cc (cc .slnil))))))) 3 rfl (.refl _)), ?_⟩
   intro a H
   refine qf (by kernel_rfl) (qm H 3 rfl rfl rfl rfl (qg  rfl rfl (fun w => by kernel_rfl)) (zm (show Nm _ (Q6.rat x y) u1 uc1 u2 uc2 u3 uc3 u4 uc4 from ⟨⟨(V.rd 6 rfl), hb.s1.nil, hb.s1.cap⟩, ⟨(V.rd 5 rfl), hb.s2.nil, hb.s2.cap⟩, ⟨(V.rd 4 rfl), hb.s3.nil, hb.s3.cap⟩, ⟨(V.rd 3 rfl), hb.s4.nil, hb.s4.cap⟩⟩) hx hy) ?_)
   rintro _ w534 ⟨p529_1, p529_c1, p529_2, p529_c2, p529_3, p529_c3, rfl, hs530, hs531, hs532, hb533⟩
   replace V := V.call hb533
   replace V := V.addR hs530.rd
   replace V := V.addR hs531.rd
   replace V := V.addR hs532.rd
   refine ⟨_, rfl, (V.partD (cn (cn (cc (cc (cc (cc (cc .slnil))))))) 6 rfl (.refl _)), ?_⟩
   intro a H
   refine qf (by kernel_rfl) (qm H 4 rfl rfl rfl rfl (qg  rfl rfl (fun w => by kernel_rfl)) (jl ⟨(V.rd 5 rfl), hs524.nil, hs524.cap⟩ ⟨(V.rd 4 rfl), hs525.nil, hs525.cap⟩ ⟨(V.rd 3 rfl), hs526.nil, hs526.cap⟩ ⟨(V.rd 2 rfl), hs530.nil, hs530.cap⟩ ⟨(V.rd 1 rfl), hs531.nil, hs531.cap⟩ ⟨(V.rd 0 rfl), hs532.nil, hs532.cap⟩ (lz1 hu hv) (lz2 hu hv) (lz3 hu hv) (lz1 hx hy) (lz2 hx hy) (lz3 hx hy) (js u v) hx2 hT hR hD) ?_)
   rintro _ w548 ⟨zo535, zc536, uo537, uc538, zo539, zc540, uo541, uc542, rfl, hs543, hs544, hs545, hs546, hb547⟩
   replace V := V.call hb547
   replace V := V.addR hs543.rd
   replace V := V.addR hs544.rd
   replace V := V.addR hs545.rd
   replace V := V.addR hs546.rd
   refine ⟨_, rfl, (V.partD (cn (cn (cc (cc (cc (cc (cc .slnil))))))) 10 rfl (.refl _)), ?_⟩
   intro a H
   refine qe H 5 rfl rfl rfl rfl hP (V.partD (cn (cn (cc (cc (cc (cc (cc .slnil))))))) 10 rfl (.refl _)) (fun w1 V => qz rfl) λa H↦?_
   refine qe (v := .agg (rtC T 1 zo535 zc536 uo537 uc538).toArray) H 6 rfl rfl rfl rfl hP (V.partD (cn (cn (cc (cc (cc (cc (cc .slnil))))))) 10 rfl (.refl _)) (fun w1 V => qh (vs := [.agg (rtC T 1 zo535 zc536 uo537 uc538).toArray, .agg (rtC ((R : Nat) : Int) D zo539 zc540 uo541 uc542).toArray]) rfl rfl) λa H↦?_
   refine qe (v := .agg (rtC ((R : Nat) : Int) D zo539 zc540 uo541 uc542).toArray) H 7 rfl rfl rfl rfl hP (V.partD (cn (cn (cc (cc (cc (cc (cc .slnil))))))) 10 rfl (.refl _)) (fun w1 V => qh (vs := [.agg (rtC T 1 zo535 zc536 uo537 uc538).toArray, .agg (rtC ((R : Nat) : Int) D zo539 zc540 uo541 uc542).toArray]) rfl rfl) λa H↦?_
   refine qf (by kernel_rfl) (qn (us := (rtC T 1 zo535 zc536 uo537 uc538)) H V 10 rfl rfl rfl (qj rfl rfl rfl (by kernel_rfl) V 0 rfl rfl rfl) 0 rfl rfl rfl rfl ?_)
   intro w549 V
   refine ⟨(V.partD (cn (cn (cc (cc (cc (cc (cc .slnil))))))) 10 rfl (.refl _)), ?_⟩
   refine qf (by kernel_rfl) (qn (us := (rtC ((R : Nat) : Int) D zo539 zc540 uo541 uc542)) H V 11 rfl rfl rfl (qj rfl rfl rfl (by kernel_rfl) V 1 rfl rfl rfl) 1 rfl rfl rfl rfl ?_)
   intro w550 V
   refine ⟨(V.partD (cn (cn (cc (cc (cc (cc (cc .slnil))))))) 10 rfl (.refl _)), ?_⟩
   refine qy (by kernel_rfl) ?_
   refine hJ72 _ _ ⟨g521, g447, zo535, zc536, uo537, uc538, zo539, zc540, uo541, uc542, H.keep _ (by repeat' constructor), (St.pickRL V ⟨⟨0, rfl⟩, ⟨⟨1, rfl⟩, ⟨⟨2, rfl⟩, ⟨⟨3, rfl⟩, ⟨⟨10, rfl⟩, ⟨⟨11, rfl⟩, ⟨⟨12, rfl⟩, ⟨⟨13, rfl⟩, ⟨⟨14, rfl⟩, ⟨⟨15, rfl⟩, ⟨⟨16, rfl⟩, ⟨⟨17, rfl⟩, trivial⟩⟩⟩⟩⟩⟩⟩⟩⟩⟩⟩⟩ [1, 0, 2, 3, 4, 5, 6] rfl (by decide)), hs546.nil, hs546.cap, hs545.nil, hs545.cap, hs544.nil, hs544.cap, hs543.nil, hs543.cap⟩
open Go.ChangeShapes Go.WideShapes Go.ChangeAt Go.RowKit Go.Joins Go.Deep
section
variable {H : Type} {enc : TypeId × Value → H} {W : World}
end
end Go.Proofs.YtjlpecapebhgjaaGreatDoor
