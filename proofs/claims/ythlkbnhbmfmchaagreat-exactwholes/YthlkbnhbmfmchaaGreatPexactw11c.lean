/- Walks of divMod and DivMod. Walks of Floor. Walks of the document's Floor. Walks of DivMod. DivMod of any numbers. -/
import Derived.Test.YthlkbnhbmfmchaaGreatPexactw11b
namespace Go.Proofs.YthlkbnhbmfmchaaGreat
open Go.RowKit
set_option linter.unusedVariables false
set_option linter.unusedSimpArgs false
set_option maxRecDepth 100000
theorem ExQ_is1_22 : Is1 Tryz.prog 22 := ⟨⟨_, Tryz.underlying22, rfl⟩, by kernel_rfl⟩
theorem ExQ_is1_4 : Is1 Tryz.prog 4 := ⟨⟨_, Tryz.underlying4, rfl⟩, by kernel_rfl⟩
theorem ExQ_fld_53_0 : FieldAt Tryz.prog 53 0 0 := ⟨_, _, Tryz.underlying53, rfl, rfl, by kernel_rfl⟩
theorem ExQ_fld_53_1 : FieldAt Tryz.prog 53 1 1 := ⟨_, _, Tryz.underlying53, rfl, rfl, by kernel_rfl⟩
theorem ExQ_fld_55_0 : FieldAt Tryz.prog 55 0 0 := ⟨_, _, Tryz.underlying55, rfl, rfl, by kernel_rfl⟩
theorem ExQ_fld_55_2 : FieldAt Tryz.prog 55 2 4 := ⟨_, _, Tryz.underlying55, rfl, rfl, by kernel_rfl⟩
theorem ExQ_isS_53 : IsS Tryz.prog 53 2 := ⟨⟨_, Tryz.underlying53⟩, by kernel_rfl⟩
theorem ExQ_isS_55 : IsS Tryz.prog 55 5 := ⟨⟨_, Tryz.underlying55⟩, by kernel_rfl⟩
theorem zdivmod_any {w : World} {x1 y1 x2 y2 : Int} {d1 d2 : Nat} {a1 a2 a3 : Option Addr} {ac1 ac2 ac3 : Nat} (ha1 : Sc w a1 ac1 (words x1.natAbs)) (ha2 : Sc w a2 ac2 (words y1.natAbs)) (ha3 : Sc w a3 ac3 (words d1)) {u1 u2 u3 : Option Addr} {uc1 uc2 uc3 : Nat} (hu1 : Sc w u1 uc1 (words x2.natAbs)) (hu2 : Sc w u2 uc2 (words y2.natAbs)) (hu3 : Sc w u3 uc3 (words d2)) (la1 : (words x1.natAbs).length ≤ 10000) (la2 : (words y1.natAbs).length ≤ 10000) (la3 : (words d1).length ≤ 10000) (lu1 : (words x2.natAbs).length ≤ 10000) (lu2 : (words y2.natAbs).length ≤ 10000) (lu3 : (words d2).length ≤ 10000) (h1 : d1 ≠ 0) (h2 : x2 ≠ 0) : Calls Tryz.prog 67 #[.agg #[.bool (rb x1), .slice a1 (words x1.natAbs).length ac1, .bool (rb y1), .slice a2 (words y1.natAbs).length ac2, .slice a3 (words d1).length ac3], .agg #[.bool (rb x2), .slice u1 (words x2.natAbs).length uc1, .bool (rb y2), .slice u2 (words y2.natAbs).length uc2, .slice u3 (words d2).length uc3]] w (AnsRR w (dmT x1 x2 d1 d2) 1 ((dmR x1 x2 d1 d2 : Nat) : Int) (d1 * d2)) := by
 have k1 := abs_mul_len la1 (nat_abs_len lu3)
 have k2 := words_mul_length lu1 la3
 have hS : St w w [] [(u3, words d2), (u2, words y2.natAbs), (u1, words x2.natAbs), (a3, words d1), (a2, words y1.natAbs), (a1, words x1.natAbs)] [] := ((((((St.start w).addR ha1.rd).addR ha2.rd).addR ha3.rd).addR hu1.rd).addR hu2.rd).addR hu3.rd
 refine walk_of (l := [(0, .agg #[.bool ((rb x1)), .slice a1 ((words x1.natAbs).length) ac1, .bool ((rb y1)), .slice a2 ((words y1.natAbs).length) ac2, .slice a3 ((words d1).length) ac3]), (1, .agg #[.bool ((rb x2)), .slice u1 ((words x2.natAbs).length) uc1, .bool ((rb y2)), .slice u2 ((words y2.natAbs).length) uc2, .slice u3 ((words d2).length) uc3])]) Tryz.func67 rfl Tryz.ntmps67 rfl rfl ?_
 intro Q hret hnorm hP a hA
 refine wp_seq_k (fun K1 hK1 => ?_)
 refine wp_region_lit ?_
 refine seq_new hA hS rfl rfl rfl (fun g => .pointer (some ⟨g, 0, none⟩)) (d_box rfl rfl) rfl ?_
 intro g2 w3 hS a hA
 refine seq_new hA hS rfl rfl rfl (fun g => .pointer (some ⟨g, 0, none⟩)) (d_box rfl rfl) rfl ?_
 intro g4 w5 hS a hA
 refine seq_new (vs := [.bool false, .slice none 0 0, .bool false, .slice none 0 0, .slice none 0 0]) (t := 55) hA hS rfl rfl rfl (fun g => .pointer (some ⟨g, 0, none⟩)) (d_alloc (z := .agg #[.bool false, .slice none 0 0, .bool false, .slice none 0 0, .slice none 0 0]) (by kernel_rfl) rfl) rfl ?_
 intro g6 w7 hS a hA
 refine seq_new (vs := [.bool false, .slice none 0 0, .bool false, .slice none 0 0, .slice none 0 0]) (t := 55) hA hS rfl rfl rfl (fun g => .pointer (some ⟨g, 0, none⟩)) (d_alloc (z := .agg #[.bool false, .slice none 0 0, .bool false, .slice none 0 0, .slice none 0 0]) (by kernel_rfl) rfl) rfl ?_
 intro g8 w9 hS a hA
 refine seq_end ?_
 refine hK1 _ _ ?_
 refine wp_seq_k (fun K10 hK10 => ?_)
 have hJ41 : ∀ a w1, (∃ (J32g : Nat) (J33 : Option Addr) (J34 : Nat) (J35 : Option Addr) (J36 : Nat), Sl a 41 [(0, .agg #[.bool ((rb x1)), .slice a1 ((words x1.natAbs).length) ac1, .bool ((rb y1)), .slice a2 ((words y1.natAbs).length) ac2, .slice a3 ((words d1).length) ac3]), (1, .agg #[.bool ((rb x2)), .slice u1 ((words x2.natAbs).length) uc1, .bool ((rb y2)), .slice u2 ((words y2.natAbs).length) uc2, .slice u3 ((words d2).length) uc3]), (2, .pointer (some ⟨g2, 0, none⟩)), (3, .pointer (some ⟨g4, 0, none⟩)), (4, .pointer (some ⟨g6, 0, none⟩)), (5, .pointer (some ⟨g8, 0, none⟩)), (6, .pointer (some ⟨J32g, 0, none⟩)), (7, .slice J33 ((words (dmR x1 x2 d1 d2)).length) J34)] ∧ St w w1 [(J32g, [.bool ((rb (x1 * ((d2 : Nat) : Int) / ((x2.natAbs * d1 : Nat) : Int)))), .slice J35 ((words (x1 * ((d2 : Nat) : Int) / ((x2.natAbs * d1 : Nat) : Int)).natAbs).length) J36]), (g8, [.bool false, .slice none 0 0, .bool false, .slice none 0 0, .slice none 0 0]), (g6, [.bool false, .slice none 0 0, .bool false, .slice none 0 0, .slice none 0 0]), (g4, [.bool ((rb x2)), .slice u1 ((words x2.natAbs).length) uc1, .bool ((rb y2)), .slice u2 ((words y2.natAbs).length) uc2, .slice u3 ((words d2).length) uc3]), (g2, [.bool ((rb x1)), .slice a1 ((words x1.natAbs).length) ac1, .bool ((rb y1)), .slice a2 ((words y1.natAbs).length) ac2, .slice a3 ((words d1).length) ac3])] [(J33, words (dmR x1 x2 d1 d2)), (J35, words (x1 * ((d2 : Nat) : Int) / ((x2.natAbs * d1 : Nat) : Int)).natAbs), (u3, words d2), (u2, words y2.natAbs), (u1, words x2.natAbs), (a3, words d1), (a2, words y1.natAbs), (a1, words x1.natAbs)] [] ∧ (J33 = none → J34 = 0) ∧ (words (dmR x1 x2 d1 d2) : List Nat).length ≤ J34 ∧ (J35 = none → J36 = 0) ∧ (words (x1 * ((d2 : Nat) : Int) / ((x2.natAbs * d1 : Nat) : Int)).natAbs : List Nat).length ≤ J36) → K10 a w1 := by
   clear hA hS
   rintro a w42 ⟨J32g, J33, J34, J35, J36, hA, hS, hn37, hc38, hn39, hc40⟩
   refine hK10 _ _ ?_
   refine wp_seq_k (fun K43 hK43 => ?_)
   refine wp_seq_k (fun K44 hK44 => ?_)
   refine wp_region_lit ?_
   refine seq_do (v := .pointer (some ⟨g4, 0, none⟩)) hA rfl rfl rfl (d_field ExQ_fld_55_0 rfl rfl) ?_
   intro a hA
   refine seq_do (v := .pointer (some ⟨g4, 0, none⟩)) hA rfl rfl rfl (d_field ExQ_fld_53_0 rfl rfl) ?_
   intro a hA
   refine seq_do hA rfl rfl rfl (d_load1 hS ExQ_is1_4 rfl 3 rfl rfl) ?_
   intro a hA
   refine seq_end ?_
   refine hK44 _ _ ?_
   refine wp_cond_split (t := (rb x2)) (hA.ev rfl) (fun hc45 => ?_) (fun hc45 => ?_)
   · refine wp_region_lit ?_
     refine seq_do hA rfl rfl rfl (d_loadS hS ExQ_isS_53 rfl 0 rfl (cs := [.bool ((rb (x1 * ((d2 : Nat) : Int) / ((x2.natAbs * d1 : Nat) : Int)))), .slice J35 ((words (x1 * ((d2 : Nat) : Int) / ((x2.natAbs * d1 : Nat) : Int)).natAbs).length) J36]) rfl rfl) ?_
     intro a hA
     refine seq_call hA rfl rfl rfl (enters_func  rfl rfl (fun w => by kernel_rfl)) (zopp_any ⟨(hS.rd 1 rfl), hn39, hc40⟩) ?_
     rintro _ w50 ⟨zo46, zc47, rfl, hs48, hb49⟩
     replace hS := hS.call hb49
     replace hS := hS.addR hs48.rd
     refine ⟨_, rfl, ?_⟩
     intro a hA
     refine seq_store (us := [.bool ((rb (-(x1 * ((d2 : Nat) : Int) / ((x2.natAbs * d1 : Nat) : Int))))), .slice zo46 ((words (-(x1 * ((d2 : Nat) : Int) / ((x2.natAbs * d1 : Nat) : Int))).natAbs).length) zc47]) hA hS rfl rfl (sets_store rfl rfl rfl (by kernel_rfl) hS 0 rfl rfl rfl) 0 rfl rfl rfl rfl ?_
     intro w51 hS
     refine seq_end ?_
     refine hK43 _ _ ?_
     refine wp_seq_k (fun K52 hK52 => ?_)
     refine wp_draw (S := fun w1 => St w w1 [(J32g, [.bool ((rb (-(x1 * ((d2 : Nat) : Int) / ((x2.natAbs * d1 : Nat) : Int))))), .slice zo46 ((words (-(x1 * ((d2 : Nat) : Int) / ((x2.natAbs * d1 : Nat) : Int))).natAbs).length) zc47]), (g8, [.bool false, .slice none 0 0, .bool false, .slice none 0 0, .slice none 0 0]), (g4, [.bool ((rb x2)), .slice u1 ((words x2.natAbs).length) uc1, .bool ((rb y2)), .slice u2 ((words y2.natAbs).length) uc2, .slice u3 ((words d2).length) uc3]), (g2, [.bool ((rb x1)), .slice a1 ((words x1.natAbs).length) ac1, .bool ((rb y1)), .slice a2 ((words y1.natAbs).length) ac2, .slice a3 ((words d1).length) ac3])] [(zo46, words (-(x1 * ((d2 : Nat) : Int) / ((x2.natAbs * d1 : Nat) : Int))).natAbs), (J33, words (dmR x1 x2 d1 d2)), (J35, words (x1 * ((d2 : Nat) : Int) / ((x2.natAbs * d1 : Nat) : Int)).natAbs), (u3, words d2), (u2, words y2.natAbs), (u1, words x2.natAbs), (a3, words d1), (a2, words y1.natAbs), (a1, words x1.natAbs)] []) (by kernel_rfl) ?_
     replace hS := hS.drew
     refine any_tk hA 0 rfl rfl rfl rfl hP (hS.partD (.cons_cons _ (.cons_cons _ (.cons _ (.cons_cons _ (.cons_cons _ .slnil))))) 0 rfl (.refl _)) (fun w1 hS => d_loadS hS ExQ_isS_53 rfl 0 rfl (cs := [.bool ((rb (-(x1 * ((d2 : Nat) : Int) / ((x2.natAbs * d1 : Nat) : Int))))), .slice zo46 ((words (-(x1 * ((d2 : Nat) : Int) / ((x2.natAbs * d1 : Nat) : Int))).natAbs).length) zc47]) rfl rfl) ?_
     intro a hA
     refine any_one (by kernel_rfl) (op_call hA 1 rfl rfl rfl rfl (enters_func  rfl rfl (fun w => by kernel_rfl)) (wof_any 1 _ (by decide)) ?_)
     rintro _ w57 ⟨ro53, rc54, rfl, ho55, hb56⟩
     replace hS := hS.call hb56
     replace hS := hS.addR ho55.rd
     refine ⟨_, rfl, (hS.partD (.cons_cons _ (.cons_cons _ (.cons _ (.cons_cons _ (.cons_cons _ .slnil))))) 1 rfl (.refl _)), ?_⟩
     intro a hA
     refine any_tk (v := .agg #[.bool ((rb (-(x1 * ((d2 : Nat) : Int) / ((x2.natAbs * d1 : Nat) : Int))))), .slice zo46 ((words (-(x1 * ((d2 : Nat) : Int) / ((x2.natAbs * d1 : Nat) : Int))).natAbs).length) zc47, .bool false, .slice none 0 0, .slice ro53 ((words 1).length) rc54]) hA 2 rfl rfl rfl rfl hP (hS.partD (.cons_cons _ (.cons_cons _ (.cons _ (.cons_cons _ (.cons_cons _ .slnil))))) 1 rfl (.refl _)) (fun w1 hS => d_build rfl (fun w => by kernel_rfl)) ?_
     intro a hA
     refine any_one (by kernel_rfl) (op_store (us := [.bool ((rb (-(x1 * ((d2 : Nat) : Int) / ((x2.natAbs * d1 : Nat) : Int))))), .slice zo46 ((words (-(x1 * ((d2 : Nat) : Int) / ((x2.natAbs * d1 : Nat) : Int))).natAbs).length) zc47, .bool false, .slice none 0 0, .slice ro53 ((words 1).length) rc54]) hA hS 3 rfl rfl rfl (sets_store rfl rfl rfl (by kernel_rfl) hS 2 rfl rfl rfl) 2 rfl rfl rfl rfl ?_)
     intro w58 hS
     refine ⟨(hS.partD (.cons_cons _ (.cons_cons _ (.cons _ (.cons_cons _ (.cons_cons _ .slnil))))) 1 rfl (.refl _)), ?_⟩
     refine any_end (by kernel_rfl) ?_
     refine hK52 _ _ ?_
     refine wp_seq_k (fun K59 hK59 => ?_)
     refine wp_draw (S := fun w1 => St w w1 [(J32g, [.bool ((rb (-(x1 * ((d2 : Nat) : Int) / ((x2.natAbs * d1 : Nat) : Int))))), .slice zo46 ((words (-(x1 * ((d2 : Nat) : Int) / ((x2.natAbs * d1 : Nat) : Int))).natAbs).length) zc47]), (g6, [.bool ((rb (-(x1 * ((d2 : Nat) : Int) / ((x2.natAbs * d1 : Nat) : Int))))), .slice zo46 ((words (-(x1 * ((d2 : Nat) : Int) / ((x2.natAbs * d1 : Nat) : Int))).natAbs).length) zc47, .bool false, .slice none 0 0, .slice ro53 ((words 1).length) rc54]), (g4, [.bool ((rb x2)), .slice u1 ((words x2.natAbs).length) uc1, .bool ((rb y2)), .slice u2 ((words y2.natAbs).length) uc2, .slice u3 ((words d2).length) uc3]), (g2, [.bool ((rb x1)), .slice a1 ((words x1.natAbs).length) ac1, .bool ((rb y1)), .slice a2 ((words y1.natAbs).length) ac2, .slice a3 ((words d1).length) ac3])] [(ro53, words 1), (zo46, words (-(x1 * ((d2 : Nat) : Int) / ((x2.natAbs * d1 : Nat) : Int))).natAbs), (J33, words (dmR x1 x2 d1 d2)), (J35, words (x1 * ((d2 : Nat) : Int) / ((x2.natAbs * d1 : Nat) : Int)).natAbs), (u3, words d2), (u2, words y2.natAbs), (u1, words x2.natAbs), (a3, words d1), (a2, words y1.natAbs), (a1, words x1.natAbs)] []) (by kernel_rfl) ?_
     replace hS := hS.drew
     refine any_tk hA 0 rfl rfl rfl rfl hP (hS.partD (.cons_cons _ (.cons _ (.cons_cons _ (.cons_cons _ (.cons_cons _ .slnil))))) 0 rfl (.refl _)) (fun w1 hS => d_move rfl) ?_
     intro a hA
     refine any_tk (v := .pointer (some ⟨g2, 4, none⟩)) hA 2 rfl rfl rfl rfl hP (hS.partD (.cons_cons _ (.cons _ (.cons_cons _ (.cons_cons _ (.cons_cons _ .slnil))))) 0 rfl (.refl _)) (fun w1 hS => d_field ExQ_fld_55_2 rfl rfl) ?_
     intro a hA
     refine any_tk hA 3 rfl rfl rfl rfl hP (hS.partD (.cons_cons _ (.cons _ (.cons_cons _ (.cons_cons _ (.cons_cons _ .slnil))))) 0 rfl (.refl _)) (fun w1 hS => d_load1 hS ExQ_is1_22 rfl 3 rfl rfl) ?_
     intro a hA
     refine any_tk (v := .pointer (some ⟨g4, 4, none⟩)) hA 4 rfl rfl rfl rfl hP (hS.partD (.cons_cons _ (.cons _ (.cons_cons _ (.cons_cons _ (.cons_cons _ .slnil))))) 0 rfl (.refl _)) (fun w1 hS => d_field ExQ_fld_55_2 rfl rfl) ?_
     intro a hA
     refine any_tk hA 5 rfl rfl rfl rfl hP (hS.partD (.cons_cons _ (.cons _ (.cons_cons _ (.cons_cons _ (.cons_cons _ .slnil))))) 0 rfl (.refl _)) (fun w1 hS => d_load1 hS ExQ_is1_22 rfl 2 rfl rfl) ?_
     intro a hA
     refine any_one (by kernel_rfl) (op_call hA 1 rfl rfl rfl rfl (enters_func  rfl rfl (fun w => by kernel_rfl)) (zsigned_any (b := false) (n := dmR x1 x2 d1 d2) (z := ((dmR x1 x2 d1 d2 : Nat) : Int)) ⟨(hS.rd 2 rfl), hn37, hc38⟩ rfl) ?_)
     rintro _ w64 ⟨zo60, zc61, rfl, hs62, hb63⟩
     replace hS := hS.call hb63
     replace hS := hS.addR hs62.rd
     refine ⟨_, rfl, (hS.partD (.cons_cons _ (.cons _ (.cons_cons _ (.cons_cons _ (.cons_cons _ .slnil))))) 1 rfl (.refl _)), ?_⟩
     intro a hA
     refine any_one (by kernel_rfl) (op_call hA 6 rfl rfl rfl rfl (enters_func  rfl rfl (fun w => by kernel_rfl)) (product_any _ _ (hS.rd 8 rfl) (hS.rd 5 rfl) (by omega) (by omega)) ?_)
     rintro _ w69 ⟨ro65, rc66, rfl, ho67, hb68⟩
     replace hS := hS.call hb68
     replace hS := hS.addR ho67.rd
     refine ⟨_, rfl, (hS.partD (.cons_cons _ (.cons _ (.cons_cons _ (.cons_cons _ (.cons_cons _ .slnil))))) 2 rfl (.refl _)), ?_⟩
     intro a hA
     refine any_tk (v := .agg #[.bool ((rb (((dmR x1 x2 d1 d2 : Nat) : Int)))), .slice zo60 ((words (((dmR x1 x2 d1 d2 : Nat) : Int)).natAbs).length) zc61, .bool false, .slice none 0 0, .slice ro65 ((words (d1 * d2)).length) rc66]) hA 7 rfl rfl rfl rfl hP (hS.partD (.cons_cons _ (.cons _ (.cons_cons _ (.cons_cons _ (.cons_cons _ .slnil))))) 2 rfl (.refl _)) (fun w1 hS => d_build rfl (fun w => by kernel_rfl)) ?_
     intro a hA
     refine any_one (by kernel_rfl) (op_store (us := [.bool ((rb (((dmR x1 x2 d1 d2 : Nat) : Int)))), .slice zo60 ((words (((dmR x1 x2 d1 d2 : Nat) : Int)).natAbs).length) zc61, .bool false, .slice none 0 0, .slice ro65 ((words (d1 * d2)).length) rc66]) hA hS 8 rfl rfl rfl (sets_store rfl rfl rfl (by kernel_rfl) hS 1 rfl rfl rfl) 1 rfl rfl rfl rfl ?_)
     intro w70 hS
     refine ⟨(hS.partD (.cons_cons _ (.cons _ (.cons_cons _ (.cons_cons _ (.cons_cons _ .slnil))))) 2 rfl (.refl _)), ?_⟩
     refine any_end (by kernel_rfl) ?_
     refine hK59 _ _ ?_
     refine wp_seq_k (fun K71 hK71 => ?_)
     refine wp_draw (S := fun w1 => St w w1 [(J32g, [.bool ((rb (-(x1 * ((d2 : Nat) : Int) / ((x2.natAbs * d1 : Nat) : Int))))), .slice zo46 ((words (-(x1 * ((d2 : Nat) : Int) / ((x2.natAbs * d1 : Nat) : Int))).natAbs).length) zc47]), (g8, [.bool ((rb (((dmR x1 x2 d1 d2 : Nat) : Int)))), .slice zo60 ((words (((dmR x1 x2 d1 d2 : Nat) : Int)).natAbs).length) zc61, .bool false, .slice none 0 0, .slice ro65 ((words (d1 * d2)).length) rc66]), (g6, [.bool ((rb (-(x1 * ((d2 : Nat) : Int) / ((x2.natAbs * d1 : Nat) : Int))))), .slice zo46 ((words (-(x1 * ((d2 : Nat) : Int) / ((x2.natAbs * d1 : Nat) : Int))).natAbs).length) zc47, .bool false, .slice none 0 0, .slice ro53 ((words 1).length) rc54]), (g4, [.bool ((rb x2)), .slice u1 ((words x2.natAbs).length) uc1, .bool ((rb y2)), .slice u2 ((words y2.natAbs).length) uc2, .slice u3 ((words d2).length) uc3]), (g2, [.bool ((rb x1)), .slice a1 ((words x1.natAbs).length) ac1, .bool ((rb y1)), .slice a2 ((words y1.natAbs).length) ac2, .slice a3 ((words d1).length) ac3])] [(ro65, words (d1 * d2)), (zo60, words (((dmR x1 x2 d1 d2 : Nat) : Int)).natAbs), (ro53, words 1), (zo46, words (-(x1 * ((d2 : Nat) : Int) / ((x2.natAbs * d1 : Nat) : Int))).natAbs), (J33, words (dmR x1 x2 d1 d2)), (J35, words (x1 * ((d2 : Nat) : Int) / ((x2.natAbs * d1 : Nat) : Int)).natAbs), (u3, words d2), (u2, words y2.natAbs), (u1, words x2.natAbs), (a3, words d1), (a2, words y1.natAbs), (a1, words x1.natAbs)] []) (by kernel_rfl) ?_
     replace hS := hS.drew
     refine any_tk hA 0 rfl rfl rfl rfl hP hS (fun w1 hS => d_loadS hS ExQ_isS_55 rfl 2 rfl (cs := [.bool ((rb (-(x1 * ((d2 : Nat) : Int) / ((x2.natAbs * d1 : Nat) : Int))))), .slice zo46 ((words (-(x1 * ((d2 : Nat) : Int) / ((x2.natAbs * d1 : Nat) : Int))).natAbs).length) zc47, .bool false, .slice none 0 0, .slice ro53 ((words 1).length) rc54]) rfl rfl) ?_
     intro a hA
     refine any_tk hA 1 rfl rfl rfl rfl hP hS (fun w1 hS => d_loadS hS ExQ_isS_55 rfl 1 rfl (cs := [.bool ((rb (((dmR x1 x2 d1 d2 : Nat) : Int)))), .slice zo60 ((words (((dmR x1 x2 d1 d2 : Nat) : Int)).natAbs).length) zc61, .bool false, .slice none 0 0, .slice ro65 ((words (d1 * d2)).length) rc66]) rfl rfl) ?_
     intro a hA
     refine any_one (by kernel_rfl) (op_store (us := [.bool ((rb (-(x1 * ((d2 : Nat) : Int) / ((x2.natAbs * d1 : Nat) : Int))))), .slice zo46 ((words (-(x1 * ((d2 : Nat) : Int) / ((x2.natAbs * d1 : Nat) : Int))).natAbs).length) zc47, .bool false, .slice none 0 0, .slice ro53 ((words 1).length) rc54]) hA hS 2 rfl rfl rfl (sets_store rfl rfl rfl (by kernel_rfl) hS 2 rfl rfl rfl) 2 rfl rfl rfl rfl ?_)
     intro w72 hS
     refine ⟨hS, ?_⟩
     refine any_one (by kernel_rfl) (op_store (us := [.bool ((rb (((dmR x1 x2 d1 d2 : Nat) : Int)))), .slice zo60 ((words (((dmR x1 x2 d1 d2 : Nat) : Int)).natAbs).length) zc61, .bool false, .slice none 0 0, .slice ro65 ((words (d1 * d2)).length) rc66]) hA hS 3 rfl rfl rfl (sets_store rfl rfl rfl (by kernel_rfl) hS 1 rfl rfl rfl) 1 rfl rfl rfl rfl ?_)
     intro w73 hS
     refine ⟨hS, ?_⟩
     refine any_end (by kernel_rfl) ?_
     refine hK71 _ _ ?_
     refine wp_ret ?_
     refine hret _ _ ?_
     refine ends (v := .tuple #[.agg #[.bool ((rb (-(x1 * ((d2 : Nat) : Int) / ((x2.natAbs * d1 : Nat) : Int))))), .slice zo46 ((words (-(x1 * ((d2 : Nat) : Int) / ((x2.natAbs * d1 : Nat) : Int))).natAbs).length) zc47, .bool false, .slice none 0 0, .slice ro53 ((words 1).length) rc54], .agg #[.bool ((rb (((dmR x1 x2 d1 d2 : Nat) : Int)))), .slice zo60 ((words (((dmR x1 x2 d1 d2 : Nat) : Int)).natAbs).length) zc61, .bool false, .slice none 0 0, .slice ro65 ((words (d1 * d2)).length) rc66]]) hA rfl (.cons (res_cell hS ExQ_isS_55 rfl 2 rfl (cs := [.bool ((rb (-(x1 * ((d2 : Nat) : Int) / ((x2.natAbs * d1 : Nat) : Int))))), .slice zo46 ((words (-(x1 * ((d2 : Nat) : Int) / ((x2.natAbs * d1 : Nat) : Int))).natAbs).length) zc47, .bool false, .slice none 0 0, .slice ro53 ((words 1).length) rc54]) rfl rfl) (.cons (res_cell hS ExQ_isS_55 rfl 1 rfl (cs := [.bool ((rb (((dmR x1 x2 d1 d2 : Nat) : Int)))), .slice zo60 ((words (((dmR x1 x2 d1 d2 : Nat) : Int)).natAbs).length) zc61, .bool false, .slice none 0 0, .slice ro65 ((words (d1 * d2)).length) rc66]) rfl rfl) .nil)) rfl ?_
     rw [show dmT x1 x2 d1 d2 = -(x1 * ((d2 : Nat) : Int) / ((x2.natAbs * d1 : Nat) : Int)) from if_pos hc45]
     exact ⟨zo46, zc47, ro53, rc54, zo60, zc61, ro65, rc66, rfl, ⟨(hS.rd 3 rfl), hs48.nil, hs48.cap⟩, ⟨(hS.rd 2 rfl), ho55.nocap, ho55.caps⟩, ⟨(hS.rd 1 rfl), hs62.nil, hs62.cap⟩, ⟨(hS.rd 0 rfl), ho67.nocap, ho67.caps⟩, hS.bel⟩
   · refine wp_skip ?_
     refine hK43 _ _ ?_
     refine wp_seq_k (fun K74 hK74 => ?_)
     refine wp_draw (S := fun w1 => St w w1 [(J32g, [.bool ((rb (x1 * ((d2 : Nat) : Int) / ((x2.natAbs * d1 : Nat) : Int)))), .slice J35 ((words (x1 * ((d2 : Nat) : Int) / ((x2.natAbs * d1 : Nat) : Int)).natAbs).length) J36]), (g8, [.bool false, .slice none 0 0, .bool false, .slice none 0 0, .slice none 0 0]), (g4, [.bool ((rb x2)), .slice u1 ((words x2.natAbs).length) uc1, .bool ((rb y2)), .slice u2 ((words y2.natAbs).length) uc2, .slice u3 ((words d2).length) uc3]), (g2, [.bool ((rb x1)), .slice a1 ((words x1.natAbs).length) ac1, .bool ((rb y1)), .slice a2 ((words y1.natAbs).length) ac2, .slice a3 ((words d1).length) ac3])] [(J33, words (dmR x1 x2 d1 d2)), (J35, words (x1 * ((d2 : Nat) : Int) / ((x2.natAbs * d1 : Nat) : Int)).natAbs), (u3, words d2), (u2, words y2.natAbs), (u1, words x2.natAbs), (a3, words d1), (a2, words y1.natAbs), (a1, words x1.natAbs)] []) (by kernel_rfl) ?_
     replace hS := hS.drew
     refine any_tk hA 0 rfl rfl rfl rfl hP (hS.partD (.cons_cons _ (.cons_cons _ (.cons _ (.cons_cons _ (.cons_cons _ .slnil))))) 0 rfl (.refl _)) (fun w1 hS => d_loadS hS ExQ_isS_53 rfl 0 rfl (cs := [.bool ((rb (x1 * ((d2 : Nat) : Int) / ((x2.natAbs * d1 : Nat) : Int)))), .slice J35 ((words (x1 * ((d2 : Nat) : Int) / ((x2.natAbs * d1 : Nat) : Int)).natAbs).length) J36]) rfl rfl) ?_
     intro a hA
     refine any_one (by kernel_rfl) (op_call hA 1 rfl rfl rfl rfl (enters_func  rfl rfl (fun w => by kernel_rfl)) (wof_any 1 _ (by decide)) ?_)
     rintro _ w79 ⟨ro75, rc76, rfl, ho77, hb78⟩
     replace hS := hS.call hb78
     replace hS := hS.addR ho77.rd
     refine ⟨_, rfl, (hS.partD (.cons_cons _ (.cons_cons _ (.cons _ (.cons_cons _ (.cons_cons _ .slnil))))) 1 rfl (.refl _)), ?_⟩
     intro a hA
     refine any_tk (v := .agg #[.bool ((rb (x1 * ((d2 : Nat) : Int) / ((x2.natAbs * d1 : Nat) : Int)))), .slice J35 ((words (x1 * ((d2 : Nat) : Int) / ((x2.natAbs * d1 : Nat) : Int)).natAbs).length) J36, .bool false, .slice none 0 0, .slice ro75 ((words 1).length) rc76]) hA 2 rfl rfl rfl rfl hP (hS.partD (.cons_cons _ (.cons_cons _ (.cons _ (.cons_cons _ (.cons_cons _ .slnil))))) 1 rfl (.refl _)) (fun w1 hS => d_build rfl (fun w => by kernel_rfl)) ?_
     intro a hA
     refine any_one (by kernel_rfl) (op_store (us := [.bool ((rb (x1 * ((d2 : Nat) : Int) / ((x2.natAbs * d1 : Nat) : Int)))), .slice J35 ((words (x1 * ((d2 : Nat) : Int) / ((x2.natAbs * d1 : Nat) : Int)).natAbs).length) J36, .bool false, .slice none 0 0, .slice ro75 ((words 1).length) rc76]) hA hS 3 rfl rfl rfl (sets_store rfl rfl rfl (by kernel_rfl) hS 2 rfl rfl rfl) 2 rfl rfl rfl rfl ?_)
     intro w80 hS
     refine ⟨(hS.partD (.cons_cons _ (.cons_cons _ (.cons _ (.cons_cons _ (.cons_cons _ .slnil))))) 1 rfl (.refl _)), ?_⟩
     refine any_end (by kernel_rfl) ?_
     refine hK74 _ _ ?_
     refine wp_seq_k (fun K81 hK81 => ?_)
     refine wp_draw (S := fun w1 => St w w1 [(J32g, [.bool ((rb (x1 * ((d2 : Nat) : Int) / ((x2.natAbs * d1 : Nat) : Int)))), .slice J35 ((words (x1 * ((d2 : Nat) : Int) / ((x2.natAbs * d1 : Nat) : Int)).natAbs).length) J36]), (g6, [.bool ((rb (x1 * ((d2 : Nat) : Int) / ((x2.natAbs * d1 : Nat) : Int)))), .slice J35 ((words (x1 * ((d2 : Nat) : Int) / ((x2.natAbs * d1 : Nat) : Int)).natAbs).length) J36, .bool false, .slice none 0 0, .slice ro75 ((words 1).length) rc76]), (g4, [.bool ((rb x2)), .slice u1 ((words x2.natAbs).length) uc1, .bool ((rb y2)), .slice u2 ((words y2.natAbs).length) uc2, .slice u3 ((words d2).length) uc3]), (g2, [.bool ((rb x1)), .slice a1 ((words x1.natAbs).length) ac1, .bool ((rb y1)), .slice a2 ((words y1.natAbs).length) ac2, .slice a3 ((words d1).length) ac3])] [(ro75, words 1), (J33, words (dmR x1 x2 d1 d2)), (J35, words (x1 * ((d2 : Nat) : Int) / ((x2.natAbs * d1 : Nat) : Int)).natAbs), (u3, words d2), (u2, words y2.natAbs), (u1, words x2.natAbs), (a3, words d1), (a2, words y1.natAbs), (a1, words x1.natAbs)] []) (by kernel_rfl) ?_
     replace hS := hS.drew
     refine any_tk hA 0 rfl rfl rfl rfl hP (hS.partD (.cons_cons _ (.cons _ (.cons_cons _ (.cons_cons _ (.cons_cons _ .slnil))))) 0 rfl (.refl _)) (fun w1 hS => d_move rfl) ?_
     intro a hA
     refine any_tk (v := .pointer (some ⟨g2, 4, none⟩)) hA 2 rfl rfl rfl rfl hP (hS.partD (.cons_cons _ (.cons _ (.cons_cons _ (.cons_cons _ (.cons_cons _ .slnil))))) 0 rfl (.refl _)) (fun w1 hS => d_field ExQ_fld_55_2 rfl rfl) ?_
     intro a hA
     refine any_tk hA 3 rfl rfl rfl rfl hP (hS.partD (.cons_cons _ (.cons _ (.cons_cons _ (.cons_cons _ (.cons_cons _ .slnil))))) 0 rfl (.refl _)) (fun w1 hS => d_load1 hS ExQ_is1_22 rfl 3 rfl rfl) ?_
     intro a hA
     refine any_tk (v := .pointer (some ⟨g4, 4, none⟩)) hA 4 rfl rfl rfl rfl hP (hS.partD (.cons_cons _ (.cons _ (.cons_cons _ (.cons_cons _ (.cons_cons _ .slnil))))) 0 rfl (.refl _)) (fun w1 hS => d_field ExQ_fld_55_2 rfl rfl) ?_
     intro a hA
     refine any_tk hA 5 rfl rfl rfl rfl hP (hS.partD (.cons_cons _ (.cons _ (.cons_cons _ (.cons_cons _ (.cons_cons _ .slnil))))) 0 rfl (.refl _)) (fun w1 hS => d_load1 hS ExQ_is1_22 rfl 2 rfl rfl) ?_
     intro a hA
     refine any_one (by kernel_rfl) (op_call hA 1 rfl rfl rfl rfl (enters_func  rfl rfl (fun w => by kernel_rfl)) (zsigned_any (b := false) (n := dmR x1 x2 d1 d2) (z := ((dmR x1 x2 d1 d2 : Nat) : Int)) ⟨(hS.rd 1 rfl), hn37, hc38⟩ rfl) ?_)
     rintro _ w86 ⟨zo82, zc83, rfl, hs84, hb85⟩
     replace hS := hS.call hb85
     replace hS := hS.addR hs84.rd
     refine ⟨_, rfl, (hS.partD (.cons_cons _ (.cons _ (.cons_cons _ (.cons_cons _ (.cons_cons _ .slnil))))) 1 rfl (.refl _)), ?_⟩
     intro a hA
     refine any_one (by kernel_rfl) (op_call hA 6 rfl rfl rfl rfl (enters_func  rfl rfl (fun w => by kernel_rfl)) (product_any _ _ (hS.rd 7 rfl) (hS.rd 4 rfl) (by omega) (by omega)) ?_)
     rintro _ w91 ⟨ro87, rc88, rfl, ho89, hb90⟩
     replace hS := hS.call hb90
     replace hS := hS.addR ho89.rd
     refine ⟨_, rfl, (hS.partD (.cons_cons _ (.cons _ (.cons_cons _ (.cons_cons _ (.cons_cons _ .slnil))))) 2 rfl (.refl _)), ?_⟩
     intro a hA
     refine any_tk (v := .agg #[.bool ((rb (((dmR x1 x2 d1 d2 : Nat) : Int)))), .slice zo82 ((words (((dmR x1 x2 d1 d2 : Nat) : Int)).natAbs).length) zc83, .bool false, .slice none 0 0, .slice ro87 ((words (d1 * d2)).length) rc88]) hA 7 rfl rfl rfl rfl hP (hS.partD (.cons_cons _ (.cons _ (.cons_cons _ (.cons_cons _ (.cons_cons _ .slnil))))) 2 rfl (.refl _)) (fun w1 hS => d_build rfl (fun w => by kernel_rfl)) ?_
     intro a hA
     refine any_one (by kernel_rfl) (op_store (us := [.bool ((rb (((dmR x1 x2 d1 d2 : Nat) : Int)))), .slice zo82 ((words (((dmR x1 x2 d1 d2 : Nat) : Int)).natAbs).length) zc83, .bool false, .slice none 0 0, .slice ro87 ((words (d1 * d2)).length) rc88]) hA hS 8 rfl rfl rfl (sets_store rfl rfl rfl (by kernel_rfl) hS 1 rfl rfl rfl) 1 rfl rfl rfl rfl ?_)
     intro w92 hS
     refine ⟨(hS.partD (.cons_cons _ (.cons _ (.cons_cons _ (.cons_cons _ (.cons_cons _ .slnil))))) 2 rfl (.refl _)), ?_⟩
     refine any_end (by kernel_rfl) ?_
     refine hK81 _ _ ?_
     refine wp_seq_k (fun K93 hK93 => ?_)
     refine wp_draw (S := fun w1 => St w w1 [(J32g, [.bool ((rb (x1 * ((d2 : Nat) : Int) / ((x2.natAbs * d1 : Nat) : Int)))), .slice J35 ((words (x1 * ((d2 : Nat) : Int) / ((x2.natAbs * d1 : Nat) : Int)).natAbs).length) J36]), (g8, [.bool ((rb (((dmR x1 x2 d1 d2 : Nat) : Int)))), .slice zo82 ((words (((dmR x1 x2 d1 d2 : Nat) : Int)).natAbs).length) zc83, .bool false, .slice none 0 0, .slice ro87 ((words (d1 * d2)).length) rc88]), (g6, [.bool ((rb (x1 * ((d2 : Nat) : Int) / ((x2.natAbs * d1 : Nat) : Int)))), .slice J35 ((words (x1 * ((d2 : Nat) : Int) / ((x2.natAbs * d1 : Nat) : Int)).natAbs).length) J36, .bool false, .slice none 0 0, .slice ro75 ((words 1).length) rc76]), (g4, [.bool ((rb x2)), .slice u1 ((words x2.natAbs).length) uc1, .bool ((rb y2)), .slice u2 ((words y2.natAbs).length) uc2, .slice u3 ((words d2).length) uc3]), (g2, [.bool ((rb x1)), .slice a1 ((words x1.natAbs).length) ac1, .bool ((rb y1)), .slice a2 ((words y1.natAbs).length) ac2, .slice a3 ((words d1).length) ac3])] [(ro87, words (d1 * d2)), (zo82, words (((dmR x1 x2 d1 d2 : Nat) : Int)).natAbs), (ro75, words 1), (J33, words (dmR x1 x2 d1 d2)), (J35, words (x1 * ((d2 : Nat) : Int) / ((x2.natAbs * d1 : Nat) : Int)).natAbs), (u3, words d2), (u2, words y2.natAbs), (u1, words x2.natAbs), (a3, words d1), (a2, words y1.natAbs), (a1, words x1.natAbs)] []) (by kernel_rfl) ?_
     replace hS := hS.drew
     refine any_tk hA 0 rfl rfl rfl rfl hP hS (fun w1 hS => d_loadS hS ExQ_isS_55 rfl 2 rfl (cs := [.bool ((rb (x1 * ((d2 : Nat) : Int) / ((x2.natAbs * d1 : Nat) : Int)))), .slice J35 ((words (x1 * ((d2 : Nat) : Int) / ((x2.natAbs * d1 : Nat) : Int)).natAbs).length) J36, .bool false, .slice none 0 0, .slice ro75 ((words 1).length) rc76]) rfl rfl) ?_
     intro a hA
     refine any_tk hA 1 rfl rfl rfl rfl hP hS (fun w1 hS => d_loadS hS ExQ_isS_55 rfl 1 rfl (cs := [.bool ((rb (((dmR x1 x2 d1 d2 : Nat) : Int)))), .slice zo82 ((words (((dmR x1 x2 d1 d2 : Nat) : Int)).natAbs).length) zc83, .bool false, .slice none 0 0, .slice ro87 ((words (d1 * d2)).length) rc88]) rfl rfl) ?_
     intro a hA
     refine any_one (by kernel_rfl) (op_store (us := [.bool ((rb (x1 * ((d2 : Nat) : Int) / ((x2.natAbs * d1 : Nat) : Int)))), .slice J35 ((words (x1 * ((d2 : Nat) : Int) / ((x2.natAbs * d1 : Nat) : Int)).natAbs).length) J36, .bool false, .slice none 0 0, .slice ro75 ((words 1).length) rc76]) hA hS 2 rfl rfl rfl (sets_store rfl rfl rfl (by kernel_rfl) hS 2 rfl rfl rfl) 2 rfl rfl rfl rfl ?_)
     intro w94 hS
     refine ⟨hS, ?_⟩
     refine any_one (by kernel_rfl) (op_store (us := [.bool ((rb (((dmR x1 x2 d1 d2 : Nat) : Int)))), .slice zo82 ((words (((dmR x1 x2 d1 d2 : Nat) : Int)).natAbs).length) zc83, .bool false, .slice none 0 0, .slice ro87 ((words (d1 * d2)).length) rc88]) hA hS 3 rfl rfl rfl (sets_store rfl rfl rfl (by kernel_rfl) hS 1 rfl rfl rfl) 1 rfl rfl rfl rfl ?_)
     intro w95 hS
     refine ⟨hS, ?_⟩
     refine any_end (by kernel_rfl) ?_
     refine hK93 _ _ ?_
     refine wp_ret ?_
     refine hret _ _ ?_
     refine ends (v := .tuple #[.agg #[.bool ((rb (x1 * ((d2 : Nat) : Int) / ((x2.natAbs * d1 : Nat) : Int)))), .slice J35 ((words (x1 * ((d2 : Nat) : Int) / ((x2.natAbs * d1 : Nat) : Int)).natAbs).length) J36, .bool false, .slice none 0 0, .slice ro75 ((words 1).length) rc76], .agg #[.bool ((rb (((dmR x1 x2 d1 d2 : Nat) : Int)))), .slice zo82 ((words (((dmR x1 x2 d1 d2 : Nat) : Int)).natAbs).length) zc83, .bool false, .slice none 0 0, .slice ro87 ((words (d1 * d2)).length) rc88]]) hA rfl (.cons (res_cell hS ExQ_isS_55 rfl 2 rfl (cs := [.bool ((rb (x1 * ((d2 : Nat) : Int) / ((x2.natAbs * d1 : Nat) : Int)))), .slice J35 ((words (x1 * ((d2 : Nat) : Int) / ((x2.natAbs * d1 : Nat) : Int)).natAbs).length) J36, .bool false, .slice none 0 0, .slice ro75 ((words 1).length) rc76]) rfl rfl) (.cons (res_cell hS ExQ_isS_55 rfl 1 rfl (cs := [.bool ((rb (((dmR x1 x2 d1 d2 : Nat) : Int)))), .slice zo82 ((words (((dmR x1 x2 d1 d2 : Nat) : Int)).natAbs).length) zc83, .bool false, .slice none 0 0, .slice ro87 ((words (d1 * d2)).length) rc88]) rfl rfl) .nil)) rfl ?_
     rw [show dmT x1 x2 d1 d2 = x1 * ((d2 : Nat) : Int) / ((x2.natAbs * d1 : Nat) : Int) from if_neg (by rw [hc45]; decide)]
     exact ⟨J35, J36, ro75, rc76, zo82, zc83, ro87, rc88, rfl, ⟨(hS.rd 4 rfl), hn39, hc40⟩, ⟨(hS.rd 2 rfl), ho77.nocap, ho77.caps⟩, ⟨(hS.rd 1 rfl), hs84.nil, hs84.cap⟩, ⟨(hS.rd 0 rfl), ho89.nocap, ho89.caps⟩, hS.bel⟩
 refine wp_draw (S := fun w1 => St w w1 [(g8, [.bool false, .slice none 0 0, .bool false, .slice none 0 0, .slice none 0 0]), (g6, [.bool false, .slice none 0 0, .bool false, .slice none 0 0, .slice none 0 0]), (g4, [.bool ((rb x2)), .slice u1 ((words x2.natAbs).length) uc1, .bool ((rb y2)), .slice u2 ((words y2.natAbs).length) uc2, .slice u3 ((words d2).length) uc3]), (g2, [.bool ((rb x1)), .slice a1 ((words x1.natAbs).length) ac1, .bool ((rb y1)), .slice a2 ((words y1.natAbs).length) ac2, .slice a3 ((words d1).length) ac3])] [(u3, words d2), (u2, words y2.natAbs), (u1, words x2.natAbs), (a3, words d1), (a2, words y1.natAbs), (a1, words x1.natAbs)] []) (by kernel_rfl) ?_
 replace hS := hS.drew
 refine any_tk (v := .pointer (some ⟨g2, 0, none⟩)) hA 0 rfl rfl rfl rfl hP hS (fun w1 hS => d_field ExQ_fld_55_0 rfl rfl) ?_
 intro a hA
 refine any_tk hA 1 rfl rfl rfl rfl hP hS (fun w1 hS => d_loadS hS ExQ_isS_53 rfl 3 rfl (cs := [.bool ((rb x1)), .slice a1 ((words x1.natAbs).length) ac1]) rfl rfl) ?_
 intro a hA
 refine any_tk (v := .pointer (some ⟨g4, 4, none⟩)) hA 2 rfl rfl rfl rfl hP hS (fun w1 hS => d_field ExQ_fld_55_2 rfl rfl) ?_
 intro a hA
 refine any_tk hA 3 rfl rfl rfl rfl hP hS (fun w1 hS => d_load1 hS ExQ_is1_22 rfl 2 rfl rfl) ?_
 intro a hA
 refine any_tk (v := .pointer (some ⟨g4, 0, none⟩)) hA 5 rfl rfl rfl rfl hP hS (fun w1 hS => d_field ExQ_fld_55_0 rfl rfl) ?_
 intro a hA
 refine any_tk (v := .pointer (some ⟨g4, 1, none⟩)) hA 6 rfl rfl rfl rfl hP hS (fun w1 hS => d_field ExQ_fld_53_1 rfl rfl) ?_
 intro a hA
 refine any_tk hA 7 rfl rfl rfl rfl hP hS (fun w1 hS => d_load1 hS ExQ_is1_22 rfl 2 rfl rfl) ?_
 intro a hA
 refine any_tk (v := .pointer (some ⟨g2, 4, none⟩)) hA 8 rfl rfl rfl rfl hP hS (fun w1 hS => d_field ExQ_fld_55_2 rfl rfl) ?_
 intro a hA
 refine any_tk hA 9 rfl rfl rfl rfl hP hS (fun w1 hS => d_load1 hS ExQ_is1_22 rfl 3 rfl rfl) ?_
 intro a hA
 refine any_many (rs := [4, 15]) (by kernel_rfl) (by simp) ⟨?_, ?_, trivial⟩
 · refine op_call hA 4 rfl rfl rfl rfl (enters_func  rfl rfl (fun w => by kernel_rfl)) (zscaled_any ⟨(hS.rd 5 rfl), ha1.nil, ha1.cap⟩ ⟨(hS.rd 0 rfl), hu3.nil, hu3.cap⟩ (by omega) (by omega)) ?_
   rintro _ w100 ⟨zo96, zc97, rfl, hs98, hb99⟩
   replace hS := hS.call hb99
   replace hS := hS.addR hs98.rd
   refine ⟨_, rfl, (hS.partD (.refl _) 1 rfl (.refl _)), ?_⟩
   intro a hA
   refine any_many (rs := [10, 15]) (by kernel_rfl) (by simp) ⟨?_, ?_, trivial⟩
   · refine op_call hA 10 rfl rfl rfl rfl (enters_func  rfl rfl (fun w => by kernel_rfl)) (product_any _ _ (hS.rd 3 rfl) (hS.rd 4 rfl) (by omega) (by omega)) ?_
     rintro _ w105 ⟨ro101, rc102, rfl, ho103, hb104⟩
     replace hS := hS.call hb104
     replace hS := hS.addR ho103.rd
     refine ⟨_, rfl, (hS.partD (.refl _) 2 rfl (.refl _)), ?_⟩
     intro a hA
     refine any_many (rs := [11, 15]) (by kernel_rfl) (by simp) ⟨?_, ?_, trivial⟩
     · refine op_call hA 11 rfl rfl rfl rfl (enters_func  rfl rfl (fun w => by kernel_rfl)) (zover_any ⟨(hS.rd 1 rfl), hs98.nil, hs98.cap⟩ ⟨(hS.rd 0 rfl), ho103.nocap, ho103.caps⟩ (by omega) (by omega) (Nat.mul_ne_zero (by omega) h1)) ?_
       rintro _ w113 ⟨zo106, zc107, uo108, uc109, rfl, hs110, ht111, hb112⟩
       replace hS := hS.call hb112
       replace hS := hS.addR hs110.rd
       replace hS := hS.addR ht111.rd
       refine ⟨_, rfl, (hS.partD (.refl _) 4 rfl (.refl _)), ?_⟩
       intro a hA
       refine any_tk hA 12 rfl rfl rfl rfl hP (hS.partD (.refl _) 4 rfl (.refl _)) (fun w1 hS => d_move rfl) ?_
       intro a hA
       refine any_tk (v := .agg #[.bool ((rb (x1 * ((d2 : Nat) : Int) / ((x2.natAbs * d1 : Nat) : Int)))), .slice zo106 ((words (x1 * ((d2 : Nat) : Int) / ((x2.natAbs * d1 : Nat) : Int)).natAbs).length) zc107]) hA 13 rfl rfl rfl rfl hP (hS.partD (.refl _) 4 rfl (.refl _)) (fun w1 hS => d_extract (vs := [.agg #[.bool ((rb (x1 * ((d2 : Nat) : Int) / ((x2.natAbs * d1 : Nat) : Int)))), .slice zo106 ((words (x1 * ((d2 : Nat) : Int) / ((x2.natAbs * d1 : Nat) : Int)).natAbs).length) zc107], .slice uo108 ((words (dmR x1 x2 d1 d2)).length) uc109]) rfl rfl) ?_
       intro a hA
       refine any_tk (v := .slice uo108 ((words (dmR x1 x2 d1 d2)).length) uc109) hA 14 rfl rfl rfl rfl hP (hS.partD (.refl _) 4 rfl (.refl _)) (fun w1 hS => d_extract (vs := [.agg #[.bool ((rb (x1 * ((d2 : Nat) : Int) / ((x2.natAbs * d1 : Nat) : Int)))), .slice zo106 ((words (x1 * ((d2 : Nat) : Int) / ((x2.natAbs * d1 : Nat) : Int)).natAbs).length) zc107], .slice uo108 ((words (dmR x1 x2 d1 d2)).length) uc109]) rfl rfl) ?_
       intro a hA
       refine any_one (by kernel_rfl) (op_new (vs := [.bool false, .slice none 0 0]) (t := 53) hA hS 15 rfl rfl rfl rfl (fun g => .pointer (some ⟨g, 0, none⟩)) (d_alloc (z := .agg #[.bool false, .slice none 0 0]) (by kernel_rfl) rfl) rfl ?_)
       intro g114 w115 hS
       refine ⟨(hS.partD (.cons _ (.cons_cons _ (.cons_cons _ (.cons_cons _ (.cons_cons _ .slnil))))) 4 rfl (.refl _)), ?_⟩
       intro a hA
       refine any_one (by kernel_rfl) (op_store (us := [.bool ((rb (x1 * ((d2 : Nat) : Int) / ((x2.natAbs * d1 : Nat) : Int)))), .slice zo106 ((words (x1 * ((d2 : Nat) : Int) / ((x2.natAbs * d1 : Nat) : Int)).natAbs).length) zc107]) hA hS 16 rfl rfl rfl (sets_store rfl rfl rfl (by kernel_rfl) hS 0 rfl rfl rfl) 0 rfl rfl rfl rfl ?_)
       intro w116 hS
       refine ⟨(hS.partD (.cons _ (.cons_cons _ (.cons_cons _ (.cons_cons _ (.cons_cons _ .slnil))))) 4 rfl (.refl _)), ?_⟩
       refine any_tk hA 17 rfl rfl rfl rfl hP (hS.partD (.cons _ (.cons_cons _ (.cons_cons _ (.cons_cons _ (.cons_cons _ .slnil))))) 4 rfl (.refl _)) (fun w1 hS => d_assign rfl) ?_
       intro a hA
       refine any_end (by kernel_rfl) ?_
       refine hJ41 _ _ ⟨g114, uo108, uc109, zo106, zc107, hA.keep _ ⟨rfl, rfl, rfl, rfl, rfl, rfl, rfl, rfl, trivial⟩, (St.pickRL hS ⟨⟨0, rfl⟩, ⟨⟨1, rfl⟩, ⟨⟨4, rfl⟩, ⟨⟨5, rfl⟩, ⟨⟨6, rfl⟩, ⟨⟨7, rfl⟩, ⟨⟨8, rfl⟩, ⟨⟨9, rfl⟩, trivial⟩⟩⟩⟩⟩⟩⟩⟩ [0, 1, 2, 3, 4] rfl (by decide)), ht111.nil, ht111.cap, hs110.nil, hs110.cap⟩
     · refine op_new (vs := [.bool false, .slice none 0 0]) (t := 53) hA hS 15 rfl rfl rfl rfl (fun g => .pointer (some ⟨g, 0, none⟩)) (d_alloc (z := .agg #[.bool false, .slice none 0 0]) (by kernel_rfl) rfl) rfl ?_
       intro g117 w118 hS
       refine ⟨(hS.partD (.cons _ (.cons_cons _ (.cons_cons _ (.cons_cons _ (.cons_cons _ .slnil))))) 2 rfl (.refl _)), ?_⟩
       intro a hA
       refine any_one (by kernel_rfl) (op_call hA 11 rfl rfl rfl rfl (enters_func  rfl rfl (fun w => by kernel_rfl)) (zover_any ⟨(hS.rd 1 rfl), hs98.nil, hs98.cap⟩ ⟨(hS.rd 0 rfl), ho103.nocap, ho103.caps⟩ (by omega) (by omega) (Nat.mul_ne_zero (by omega) h1)) ?_)
       rintro _ w126 ⟨zo119, zc120, uo121, uc122, rfl, hs123, ht124, hb125⟩
       replace hS := hS.call hb125
       replace hS := hS.addR hs123.rd
       replace hS := hS.addR ht124.rd
       refine ⟨_, rfl, (hS.partD (.cons _ (.cons_cons _ (.cons_cons _ (.cons_cons _ (.cons_cons _ .slnil))))) 4 rfl (.refl _)), ?_⟩
       intro a hA
       refine any_tk hA 12 rfl rfl rfl rfl hP (hS.partD (.cons _ (.cons_cons _ (.cons_cons _ (.cons_cons _ (.cons_cons _ .slnil))))) 4 rfl (.refl _)) (fun w1 hS => d_move rfl) ?_
       intro a hA
       refine any_tk (v := .agg #[.bool ((rb (x1 * ((d2 : Nat) : Int) / ((x2.natAbs * d1 : Nat) : Int)))), .slice zo119 ((words (x1 * ((d2 : Nat) : Int) / ((x2.natAbs * d1 : Nat) : Int)).natAbs).length) zc120]) hA 13 rfl rfl rfl rfl hP (hS.partD (.cons _ (.cons_cons _ (.cons_cons _ (.cons_cons _ (.cons_cons _ .slnil))))) 4 rfl (.refl _)) (fun w1 hS => d_extract (vs := [.agg #[.bool ((rb (x1 * ((d2 : Nat) : Int) / ((x2.natAbs * d1 : Nat) : Int)))), .slice zo119 ((words (x1 * ((d2 : Nat) : Int) / ((x2.natAbs * d1 : Nat) : Int)).natAbs).length) zc120], .slice uo121 ((words (dmR x1 x2 d1 d2)).length) uc122]) rfl rfl) ?_
       intro a hA
       refine any_tk (v := .slice uo121 ((words (dmR x1 x2 d1 d2)).length) uc122) hA 14 rfl rfl rfl rfl hP (hS.partD (.cons _ (.cons_cons _ (.cons_cons _ (.cons_cons _ (.cons_cons _ .slnil))))) 4 rfl (.refl _)) (fun w1 hS => d_extract (vs := [.agg #[.bool ((rb (x1 * ((d2 : Nat) : Int) / ((x2.natAbs * d1 : Nat) : Int)))), .slice zo119 ((words (x1 * ((d2 : Nat) : Int) / ((x2.natAbs * d1 : Nat) : Int)).natAbs).length) zc120], .slice uo121 ((words (dmR x1 x2 d1 d2)).length) uc122]) rfl rfl) ?_
       intro a hA
       refine any_one (by kernel_rfl) (op_store (us := [.bool ((rb (x1 * ((d2 : Nat) : Int) / ((x2.natAbs * d1 : Nat) : Int)))), .slice zo119 ((words (x1 * ((d2 : Nat) : Int) / ((x2.natAbs * d1 : Nat) : Int)).natAbs).length) zc120]) hA hS 16 rfl rfl rfl (sets_store rfl rfl rfl (by kernel_rfl) hS 0 rfl rfl rfl) 0 rfl rfl rfl rfl ?_)
       intro w127 hS
       refine ⟨(hS.partD (.cons _ (.cons_cons _ (.cons_cons _ (.cons_cons _ (.cons_cons _ .slnil))))) 4 rfl (.refl _)), ?_⟩
       refine any_tk hA 17 rfl rfl rfl rfl hP (hS.partD (.cons _ (.cons_cons _ (.cons_cons _ (.cons_cons _ (.cons_cons _ .slnil))))) 4 rfl (.refl _)) (fun w1 hS => d_assign rfl) ?_
       intro a hA
       refine any_end (by kernel_rfl) ?_
       refine hJ41 _ _ ⟨g117, uo121, uc122, zo119, zc120, hA.keep _ ⟨rfl, rfl, rfl, rfl, rfl, rfl, rfl, rfl, trivial⟩, (St.pickRL hS ⟨⟨0, rfl⟩, ⟨⟨1, rfl⟩, ⟨⟨4, rfl⟩, ⟨⟨5, rfl⟩, ⟨⟨6, rfl⟩, ⟨⟨7, rfl⟩, ⟨⟨8, rfl⟩, ⟨⟨9, rfl⟩, trivial⟩⟩⟩⟩⟩⟩⟩⟩ [0, 1, 2, 3, 4] rfl (by decide)), ht124.nil, ht124.cap, hs123.nil, hs123.cap⟩
   · refine op_new (vs := [.bool false, .slice none 0 0]) (t := 53) hA hS 15 rfl rfl rfl rfl (fun g => .pointer (some ⟨g, 0, none⟩)) (d_alloc (z := .agg #[.bool false, .slice none 0 0]) (by kernel_rfl) rfl) rfl ?_
     intro g128 w129 hS
     refine ⟨(hS.partD (.cons _ (.cons_cons _ (.cons_cons _ (.cons_cons _ (.cons_cons _ .slnil))))) 1 rfl (.refl _)), ?_⟩
     intro a hA
     refine any_one (by kernel_rfl) (op_call hA 10 rfl rfl rfl rfl (enters_func  rfl rfl (fun w => by kernel_rfl)) (product_any _ _ (hS.rd 3 rfl) (hS.rd 4 rfl) (by omega) (by omega)) ?_)
     rintro _ w134 ⟨ro130, rc131, rfl, ho132, hb133⟩
     replace hS := hS.call hb133
     replace hS := hS.addR ho132.rd
     refine ⟨_, rfl, (hS.partD (.cons _ (.cons_cons _ (.cons_cons _ (.cons_cons _ (.cons_cons _ .slnil))))) 2 rfl (.refl _)), ?_⟩
     intro a hA
     refine any_one (by kernel_rfl) (op_call hA 11 rfl rfl rfl rfl (enters_func  rfl rfl (fun w => by kernel_rfl)) (zover_any ⟨(hS.rd 1 rfl), hs98.nil, hs98.cap⟩ ⟨(hS.rd 0 rfl), ho132.nocap, ho132.caps⟩ (by omega) (by omega) (Nat.mul_ne_zero (by omega) h1)) ?_)
     rintro _ w142 ⟨zo135, zc136, uo137, uc138, rfl, hs139, ht140, hb141⟩
     replace hS := hS.call hb141
     replace hS := hS.addR hs139.rd
     replace hS := hS.addR ht140.rd
     refine ⟨_, rfl, (hS.partD (.cons _ (.cons_cons _ (.cons_cons _ (.cons_cons _ (.cons_cons _ .slnil))))) 4 rfl (.refl _)), ?_⟩
     intro a hA
     refine any_tk hA 12 rfl rfl rfl rfl hP (hS.partD (.cons _ (.cons_cons _ (.cons_cons _ (.cons_cons _ (.cons_cons _ .slnil))))) 4 rfl (.refl _)) (fun w1 hS => d_move rfl) ?_
     intro a hA
     refine any_tk (v := .agg #[.bool ((rb (x1 * ((d2 : Nat) : Int) / ((x2.natAbs * d1 : Nat) : Int)))), .slice zo135 ((words (x1 * ((d2 : Nat) : Int) / ((x2.natAbs * d1 : Nat) : Int)).natAbs).length) zc136]) hA 13 rfl rfl rfl rfl hP (hS.partD (.cons _ (.cons_cons _ (.cons_cons _ (.cons_cons _ (.cons_cons _ .slnil))))) 4 rfl (.refl _)) (fun w1 hS => d_extract (vs := [.agg #[.bool ((rb (x1 * ((d2 : Nat) : Int) / ((x2.natAbs * d1 : Nat) : Int)))), .slice zo135 ((words (x1 * ((d2 : Nat) : Int) / ((x2.natAbs * d1 : Nat) : Int)).natAbs).length) zc136], .slice uo137 ((words (dmR x1 x2 d1 d2)).length) uc138]) rfl rfl) ?_
     intro a hA
     refine any_tk (v := .slice uo137 ((words (dmR x1 x2 d1 d2)).length) uc138) hA 14 rfl rfl rfl rfl hP (hS.partD (.cons _ (.cons_cons _ (.cons_cons _ (.cons_cons _ (.cons_cons _ .slnil))))) 4 rfl (.refl _)) (fun w1 hS => d_extract (vs := [.agg #[.bool ((rb (x1 * ((d2 : Nat) : Int) / ((x2.natAbs * d1 : Nat) : Int)))), .slice zo135 ((words (x1 * ((d2 : Nat) : Int) / ((x2.natAbs * d1 : Nat) : Int)).natAbs).length) zc136], .slice uo137 ((words (dmR x1 x2 d1 d2)).length) uc138]) rfl rfl) ?_
     intro a hA
     refine any_one (by kernel_rfl) (op_store (us := [.bool ((rb (x1 * ((d2 : Nat) : Int) / ((x2.natAbs * d1 : Nat) : Int)))), .slice zo135 ((words (x1 * ((d2 : Nat) : Int) / ((x2.natAbs * d1 : Nat) : Int)).natAbs).length) zc136]) hA hS 16 rfl rfl rfl (sets_store rfl rfl rfl (by kernel_rfl) hS 0 rfl rfl rfl) 0 rfl rfl rfl rfl ?_)
     intro w143 hS
     refine ⟨(hS.partD (.cons _ (.cons_cons _ (.cons_cons _ (.cons_cons _ (.cons_cons _ .slnil))))) 4 rfl (.refl _)), ?_⟩
     refine any_tk hA 17 rfl rfl rfl rfl hP (hS.partD (.cons _ (.cons_cons _ (.cons_cons _ (.cons_cons _ (.cons_cons _ .slnil))))) 4 rfl (.refl _)) (fun w1 hS => d_assign rfl) ?_
     intro a hA
     refine any_end (by kernel_rfl) ?_
     refine hJ41 _ _ ⟨g128, uo137, uc138, zo135, zc136, hA.keep _ ⟨rfl, rfl, rfl, rfl, rfl, rfl, rfl, rfl, trivial⟩, (St.pickRL hS ⟨⟨0, rfl⟩, ⟨⟨1, rfl⟩, ⟨⟨4, rfl⟩, ⟨⟨5, rfl⟩, ⟨⟨6, rfl⟩, ⟨⟨7, rfl⟩, ⟨⟨8, rfl⟩, ⟨⟨9, rfl⟩, trivial⟩⟩⟩⟩⟩⟩⟩⟩ [0, 1, 2, 3, 4] rfl (by decide)), ht140.nil, ht140.cap, hs139.nil, hs139.cap⟩
 · refine op_new (vs := [.bool false, .slice none 0 0]) (t := 53) hA hS 15 rfl rfl rfl rfl (fun g => .pointer (some ⟨g, 0, none⟩)) (d_alloc (z := .agg #[.bool false, .slice none 0 0]) (by kernel_rfl) rfl) rfl ?_
   intro g144 w145 hS
   refine ⟨(hS.partD (.cons _ (.cons_cons _ (.cons_cons _ (.cons_cons _ (.cons_cons _ .slnil))))) 0 rfl (.refl _)), ?_⟩
   intro a hA
   refine any_one (by kernel_rfl) (op_call hA 4 rfl rfl rfl rfl (enters_func  rfl rfl (fun w => by kernel_rfl)) (zscaled_any ⟨(hS.rd 5 rfl), ha1.nil, ha1.cap⟩ ⟨(hS.rd 0 rfl), hu3.nil, hu3.cap⟩ (by omega) (by omega)) ?_)
   rintro _ w150 ⟨zo146, zc147, rfl, hs148, hb149⟩
   replace hS := hS.call hb149
   replace hS := hS.addR hs148.rd
   refine ⟨_, rfl, (hS.partD (.cons _ (.cons_cons _ (.cons_cons _ (.cons_cons _ (.cons_cons _ .slnil))))) 1 rfl (.refl _)), ?_⟩
   intro a hA
   refine any_one (by kernel_rfl) (op_call hA 10 rfl rfl rfl rfl (enters_func  rfl rfl (fun w => by kernel_rfl)) (product_any _ _ (hS.rd 3 rfl) (hS.rd 4 rfl) (by omega) (by omega)) ?_)
   rintro _ w155 ⟨ro151, rc152, rfl, ho153, hb154⟩
   replace hS := hS.call hb154
   replace hS := hS.addR ho153.rd
   refine ⟨_, rfl, (hS.partD (.cons _ (.cons_cons _ (.cons_cons _ (.cons_cons _ (.cons_cons _ .slnil))))) 2 rfl (.refl _)), ?_⟩
   intro a hA
   refine any_one (by kernel_rfl) (op_call hA 11 rfl rfl rfl rfl (enters_func  rfl rfl (fun w => by kernel_rfl)) (zover_any ⟨(hS.rd 1 rfl), hs148.nil, hs148.cap⟩ ⟨(hS.rd 0 rfl), ho153.nocap, ho153.caps⟩ (by omega) (by omega) (Nat.mul_ne_zero (by omega) h1)) ?_)
   rintro _ w163 ⟨zo156, zc157, uo158, uc159, rfl, hs160, ht161, hb162⟩
   replace hS := hS.call hb162
   replace hS := hS.addR hs160.rd
   replace hS := hS.addR ht161.rd
   refine ⟨_, rfl, (hS.partD (.cons _ (.cons_cons _ (.cons_cons _ (.cons_cons _ (.cons_cons _ .slnil))))) 4 rfl (.refl _)), ?_⟩
   intro a hA
   refine any_tk hA 12 rfl rfl rfl rfl hP (hS.partD (.cons _ (.cons_cons _ (.cons_cons _ (.cons_cons _ (.cons_cons _ .slnil))))) 4 rfl (.refl _)) (fun w1 hS => d_move rfl) ?_
   intro a hA
   refine any_tk (v := .agg #[.bool ((rb (x1 * ((d2 : Nat) : Int) / ((x2.natAbs * d1 : Nat) : Int)))), .slice zo156 ((words (x1 * ((d2 : Nat) : Int) / ((x2.natAbs * d1 : Nat) : Int)).natAbs).length) zc157]) hA 13 rfl rfl rfl rfl hP (hS.partD (.cons _ (.cons_cons _ (.cons_cons _ (.cons_cons _ (.cons_cons _ .slnil))))) 4 rfl (.refl _)) (fun w1 hS => d_extract (vs := [.agg #[.bool ((rb (x1 * ((d2 : Nat) : Int) / ((x2.natAbs * d1 : Nat) : Int)))), .slice zo156 ((words (x1 * ((d2 : Nat) : Int) / ((x2.natAbs * d1 : Nat) : Int)).natAbs).length) zc157], .slice uo158 ((words (dmR x1 x2 d1 d2)).length) uc159]) rfl rfl) ?_
   intro a hA
   refine any_tk (v := .slice uo158 ((words (dmR x1 x2 d1 d2)).length) uc159) hA 14 rfl rfl rfl rfl hP (hS.partD (.cons _ (.cons_cons _ (.cons_cons _ (.cons_cons _ (.cons_cons _ .slnil))))) 4 rfl (.refl _)) (fun w1 hS => d_extract (vs := [.agg #[.bool ((rb (x1 * ((d2 : Nat) : Int) / ((x2.natAbs * d1 : Nat) : Int)))), .slice zo156 ((words (x1 * ((d2 : Nat) : Int) / ((x2.natAbs * d1 : Nat) : Int)).natAbs).length) zc157], .slice uo158 ((words (dmR x1 x2 d1 d2)).length) uc159]) rfl rfl) ?_
   intro a hA
   refine any_one (by kernel_rfl) (op_store (us := [.bool ((rb (x1 * ((d2 : Nat) : Int) / ((x2.natAbs * d1 : Nat) : Int)))), .slice zo156 ((words (x1 * ((d2 : Nat) : Int) / ((x2.natAbs * d1 : Nat) : Int)).natAbs).length) zc157]) hA hS 16 rfl rfl rfl (sets_store rfl rfl rfl (by kernel_rfl) hS 0 rfl rfl rfl) 0 rfl rfl rfl rfl ?_)
   intro w164 hS
   refine ⟨(hS.partD (.cons _ (.cons_cons _ (.cons_cons _ (.cons_cons _ (.cons_cons _ .slnil))))) 4 rfl (.refl _)), ?_⟩
   refine any_tk hA 17 rfl rfl rfl rfl hP (hS.partD (.cons _ (.cons_cons _ (.cons_cons _ (.cons_cons _ (.cons_cons _ .slnil))))) 4 rfl (.refl _)) (fun w1 hS => d_assign rfl) ?_
   intro a hA
   refine any_end (by kernel_rfl) ?_
   refine hJ41 _ _ ⟨g144, uo158, uc159, zo156, zc157, hA.keep _ ⟨rfl, rfl, rfl, rfl, rfl, rfl, rfl, rfl, trivial⟩, (St.pickRL hS ⟨⟨0, rfl⟩, ⟨⟨1, rfl⟩, ⟨⟨4, rfl⟩, ⟨⟨5, rfl⟩, ⟨⟨6, rfl⟩, ⟨⟨7, rfl⟩, ⟨⟨8, rfl⟩, ⟨⟨9, rfl⟩, trivial⟩⟩⟩⟩⟩⟩⟩⟩ [0, 1, 2, 3, 4] rfl (by decide)), ht161.nil, ht161.cap, hs160.nil, hs160.cap⟩
theorem zsettle0_as {w : World} {x : Int} {d : Nat} {a1 a3 : Option Addr} {ac1 ac3 : Nat} (ha1 : Sc w a1 ac1 (words x.natAbs)) (ha3 : Sc w a3 ac3 (words d)) {r : Q6 × Int} (h : setQ x 0 d = r) (l1 : (words x.natAbs).length ≤ 50000) (l3 : (words d).length ≤ 50000) (hd : d ≠ 0) : Calls Tryz.prog 63 #[.agg #[.bool (rb x), .slice a1 (words x.natAbs).length ac1, .bool false, .slice none 0 0, .slice a3 (words d).length ac3]] w (AnsN w r) := by
  have e : words (Int.natAbs 0) = [] := words_zero
  have k := zsettle_as (w := w) (x := x) (y := 0) (d := d) (a2 := none) (ac2 := 0) ha1 (by rw [e]; exact Sc.none _) ha3 h l1 (by rw [e]; decide) l3 hd
  rw [e] at k
  exact k
end Go.Proofs.YthlkbnhbmfmchaaGreat
namespace Go.Proofs.YthlkbnhbmfmchaaGreat
open Go.RowKit
set_option linter.unusedVariables false
set_option linter.unusedSimpArgs false
set_option maxRecDepth 100000
theorem SmD_is1_22 : Is1 Tryz.prog 22 := ⟨⟨_, Tryz.underlying22, rfl⟩, by kernel_rfl⟩
theorem SmD_fld_55_0 : FieldAt Tryz.prog 55 0 0 := ⟨_, _, Tryz.underlying55, rfl, rfl, by kernel_rfl⟩
theorem SmD_fld_55_2 : FieldAt Tryz.prog 55 2 4 := ⟨_, _, Tryz.underlying55, rfl, rfl, by kernel_rfl⟩
theorem SmD_isS_26 : IsS Tryz.prog 26 6 := ⟨⟨_, Tryz.underlying26⟩, by kernel_rfl⟩
theorem SmD_isS_53 : IsS Tryz.prog 53 2 := ⟨⟨_, Tryz.underlying53⟩, by kernel_rfl⟩
theorem zover_as {w : World} {x : Int} {d : Nat} {so : Option Addr} {soc : Nat} (hso : Sc w so soc (words x.natAbs)) {uo : Option Addr} {uoc : Nat} (huo : Sc w uo uoc (words d)) (lx : (words x.natAbs).length ≤ 40000) (ld : (words d).length ≤ 40000) (hd : d ≠ 0) {T : Int} {R : Nat} (hT : x / (d : Int) = T) (hR : (x % (d : Int)).toNat = R) : Calls Tryz.prog 62 #[.agg #[.bool (rb x), .slice so (words x.natAbs).length soc], .slice uo (words d).length uoc] w (AnsQR w T R) := by
  subst hT hR
  exact zover_any hso huo lx ld hd
theorem floE_any {w : World} {q : Q6} {a1 a2 a3 a4 : Option Addr} {ac1 ac2 ac3 ac4 : Nat} (ha : Nm w q a1 ac1 a2 ac2 a3 ac3 a4 ac4) (hl : LenQ q) (hw : (wantR1 q != 0) = true) : Calls Tryz.prog 26 #[numV q a1 ac1 a2 ac2 a3 ac3 a4 ac4] w (AnsN w (Q6.zero, wantR1 q)) := by
 have hS : St w w [] [(a4, q.q2), (a3, q.t2), (a2, q.q1), (a1, q.t1)] [] := ((((St.start w).addR ha.s1.rd).addR ha.s2.rd).addR ha.s3.rd).addR ha.s4.rd
 refine walk_of (l := [(0, .agg #[.bool q.b1, .slice a1 q.t1.length ac1, .slice a2 q.q1.length ac2, .bool q.b2, .slice a3 q.t2.length ac3, .slice a4 q.q2.length ac4])]) Tryz.func26 rfl Tryz.ntmps26 rfl rfl ?_
 intro Q hret hnorm hP a hA
 refine wp_seq_k (fun K1 hK1 => ?_)
 refine wp_region_lit ?_
 refine seq_new hA hS rfl rfl rfl (fun g => .pointer (some ⟨g, 0, none⟩)) (d_box rfl rfl) rfl ?_
 intro g2 w3 hS a hA
 refine seq_new (vs := [.bool false, .slice none 0 0, .slice none 0 0, .bool false, .slice none 0 0, .slice none 0 0]) (t := 26) hA hS rfl rfl rfl (fun g => .pointer (some ⟨g, 0, none⟩)) (d_alloc (z := .agg #[.bool false, .slice none 0 0, .slice none 0 0, .bool false, .slice none 0 0, .slice none 0 0]) (by kernel_rfl) rfl) rfl ?_
 intro g4 w5 hS a hA
 refine seq_do hA rfl rfl rfl (d_assign rfl) ?_
 intro a hA
 refine seq_end ?_
 refine hK1 _ _ ?_
 refine wp_seq_k (fun K6 hK6 => ?_)
 refine wp_seq_k (fun K7 hK7 => ?_)
 refine wp_region_lit ?_
 refine seq_do hA rfl rfl rfl (d_loadS hS SmD_isS_26 rfl 1 rfl (cs := [.bool q.b1, .slice a1 q.t1.length ac1, .slice a2 q.q1.length ac2, .bool q.b2, .slice a3 q.t2.length ac3, .slice a4 q.q2.length ac4]) rfl rfl) ?_
 intro a hA
 refine seq_new (vs := [.bool q.b1, .slice a1 q.t1.length ac1, .slice a2 q.q1.length ac2, .bool q.b2, .slice a3 q.t2.length ac3, .slice a4 q.q2.length ac4]) (t := 26) hA hS rfl rfl rfl (fun g => .slice (some ⟨g, 0, none⟩) 1 1) (d_buildSlice rfl (by kernel_rfl)) rfl ?_
 intro g8 w9 hS a hA
 refine seq_call hA rfl rfl rfl (enters_func  rfl rfl (fun w => by kernel_rfl)) (wantR1_any (show Nm _ q a1 ac1 a2 ac2 a3 ac3 a4 ac4 from ⟨⟨(hS.rd 3 rfl), ha.s1.nil, ha.s1.cap⟩, ⟨(hS.rd 2 rfl), ha.s2.nil, ha.s2.cap⟩, ⟨(hS.rd 1 rfl), ha.s3.nil, ha.s3.cap⟩, ⟨(hS.rd 0 rfl), ha.s4.nil, ha.s4.cap⟩⟩) hl (hS.blk 0 rfl) rfl) ?_
 rintro _ w11 ⟨rfl, hb10⟩
 replace hS := hS.call hb10
 refine ⟨_, rfl, ?_⟩
 intro a hA
 refine seq_do hA rfl rfl rfl (d_assign rfl) ?_
 intro a hA
 refine seq_end ?_
 refine hK7 _ _ ?_
 refine wp_seq_k (fun K12 hK12 => ?_)
 refine wp_region_lit ?_
 refine seq_do hA rfl rfl rfl (d_move rfl) ?_
 intro a hA
 refine seq_do (v := .bool true) hA rfl rfl rfl (d_bin rfl rfl (fun w => (bin_neq w).trans (by rw [show ((wantR1 q != 0)) = true from hw]))) ?_
 intro a hA
 refine seq_end ?_
 refine hK12 _ _ ?_
 refine wp_cond_true (hA.ev rfl) ?_
 refine wp_seq_k (fun K13 hK13 => ?_)
 refine wp_region_lit ?_
 refine seq_do (v := .agg #[.bool false, .slice none 0 0, .slice none 0 0, .bool false, .slice none 0 0, .slice none 0 0]) hA rfl rfl rfl (d_build rfl (fun w => by kernel_rfl)) ?_
 intro a hA
 refine seq_do hA rfl rfl rfl (d_move rfl) ?_
 intro a hA
 refine seq_store (us := [.bool false, .slice none 0 0, .slice none 0 0, .bool false, .slice none 0 0, .slice none 0 0]) hA hS rfl rfl (sets_store rfl rfl rfl (by kernel_rfl) hS 1 rfl rfl rfl) 1 rfl rfl rfl rfl ?_
 intro w14 hS
 refine seq_do hA rfl rfl rfl (d_assign rfl) ?_
 intro a hA
 refine seq_end ?_
 refine hK13 _ _ ?_
 refine wp_ret ?_
 refine hret _ _ ?_
 refine ends (v := .tuple #[.agg #[.bool false, .slice none 0 0, .slice none 0 0, .bool false, .slice none 0 0, .slice none 0 0], .int .i64 (wantR1 q)]) hA rfl (.cons (res_cell hS SmD_isS_26 rfl 1 rfl (cs := [.bool false, .slice none 0 0, .slice none 0 0, .bool false, .slice none 0 0, .slice none 0 0]) rfl rfl) (.cons (res_tmp rfl) .nil)) rfl ?_
 exact ⟨none, 0, none, 0, none, 0, none, 0, rfl, ⟨(Sc.none _), (Sc.none _), (Sc.none _), (Sc.none _)⟩, hS.bel⟩
theorem floW_any {w : World} {u v : Rat} {a1 a2 a3 a4 : Option Addr} {ac1 ac2 ac3 ac4 : Nat} (ha : Nm w (Q6.rat u v) a1 ac1 a2 ac2 a3 ac3 a4 ac4) (hu : fitR u) (hv : fitR v) (hw : wantR1 (Q6.rat u v) = 0) {T : Int} {R : Nat} (hT : spX u v / ((spD u v : Nat) : Int) = T) (hR : (spX u v % ((spD u v : Nat) : Int)).toNat = R) (n1 : (words T.natAbs).length ≤ 3000) (n3 : (words 1).length ≤ 512) {z1 : Q6 × Int} (e1 : setQ T 0 1 = z1) : Calls Tryz.prog 26 #[numV (Q6.rat u v) a1 ac1 a2 ac2 a3 ac3 a4 ac4] w (AnsN w z1) := by
 have m1 := spX_len hu hv
 have m3 := spD_len hu hv
 have hS : St w w [] [(a4, words v.den), (a3, words v.num.natAbs), (a2, words u.den), (a1, words u.num.natAbs)] [] := ((((St.start w).addR ha.s1.rd).addR ha.s2.rd).addR ha.s3.rd).addR ha.s4.rd
 refine walk_of (l := [(0, .agg #[.bool (rb u.num), .slice a1 ((words u.num.natAbs).length) ac1, .slice a2 ((words u.den).length) ac2, .bool (rb v.num), .slice a3 ((words v.num.natAbs).length) ac3, .slice a4 ((words v.den).length) ac4])]) Tryz.func26 rfl Tryz.ntmps26 rfl rfl ?_
 intro Q hret hnorm hP a hA
 refine wp_seq_k (fun K1 hK1 => ?_)
 refine wp_region_lit ?_
 refine seq_new hA hS rfl rfl rfl (fun g => .pointer (some ⟨g, 0, none⟩)) (d_box rfl rfl) rfl ?_
 intro g2 w3 hS a hA
 refine seq_new (vs := [.bool false, .slice none 0 0, .slice none 0 0, .bool false, .slice none 0 0, .slice none 0 0]) (t := 26) hA hS rfl rfl rfl (fun g => .pointer (some ⟨g, 0, none⟩)) (d_alloc (z := .agg #[.bool false, .slice none 0 0, .slice none 0 0, .bool false, .slice none 0 0, .slice none 0 0]) (by kernel_rfl) rfl) rfl ?_
 intro g4 w5 hS a hA
 refine seq_do hA rfl rfl rfl (d_assign rfl) ?_
 intro a hA
 refine seq_end ?_
 refine hK1 _ _ ?_
 refine wp_seq_k (fun K6 hK6 => ?_)
 refine wp_seq_k (fun K7 hK7 => ?_)
 refine wp_region_lit ?_
 refine seq_do hA rfl rfl rfl (d_loadS hS SmD_isS_26 rfl 1 rfl (cs := [.bool (rb u.num), .slice a1 ((words u.num.natAbs).length) ac1, .slice a2 ((words u.den).length) ac2, .bool (rb v.num), .slice a3 ((words v.num.natAbs).length) ac3, .slice a4 ((words v.den).length) ac4]) rfl rfl) ?_
 intro a hA
 refine seq_new (vs := [.bool (rb u.num), .slice a1 ((words u.num.natAbs).length) ac1, .slice a2 ((words u.den).length) ac2, .bool (rb v.num), .slice a3 ((words v.num.natAbs).length) ac3, .slice a4 ((words v.den).length) ac4]) (t := 26) hA hS rfl rfl rfl (fun g => .slice (some ⟨g, 0, none⟩) 1 1) (d_buildSlice rfl (by kernel_rfl)) rfl ?_
 intro g8 w9 hS a hA
 refine seq_call hA rfl rfl rfl (enters_func  rfl rfl (fun w => by kernel_rfl)) (wantR1_any (show Nm _ (Q6.rat u v) a1 ac1 a2 ac2 a3 ac3 a4 ac4 from ⟨⟨(hS.rd 3 rfl), ha.s1.nil, ha.s1.cap⟩, ⟨(hS.rd 2 rfl), ha.s2.nil, ha.s2.cap⟩, ⟨(hS.rd 1 rfl), ha.s3.nil, ha.s3.cap⟩, ⟨(hS.rd 0 rfl), ha.s4.nil, ha.s4.cap⟩⟩) (lenQ_rat hu hv) (hS.blk 0 rfl) hw) ?_
 rintro _ w11 ⟨rfl, hb10⟩
 replace hS := hS.call hb10
 refine ⟨_, rfl, ?_⟩
 intro a hA
 refine seq_do hA rfl rfl rfl (d_assign rfl) ?_
 intro a hA
 refine seq_end ?_
 refine hK7 _ _ ?_
 refine wp_seq_k (fun K12 hK12 => ?_)
 refine wp_region_lit ?_
 refine seq_do hA rfl rfl rfl (d_move rfl) ?_
 intro a hA
 refine seq_do (v := .bool false) hA rfl rfl rfl (d_bin rfl rfl (fun w => by kernel_rfl)) ?_
 intro a hA
 refine seq_end ?_
 refine hK12 _ _ ?_
 refine wp_cond_false (hA.ev rfl) ?_
 refine wp_skip ?_
 refine hK6 _ _ ?_
 refine wp_seq_k (fun K13 hK13 => ?_)
 refine wp_region_lit ?_
 refine seq_do hA rfl rfl rfl (d_loadS hS SmD_isS_26 rfl 2 rfl (cs := [.bool (rb u.num), .slice a1 ((words u.num.natAbs).length) ac1, .slice a2 ((words u.den).length) ac2, .bool (rb v.num), .slice a3 ((words v.num.natAbs).length) ac3, .slice a4 ((words v.den).length) ac4]) rfl rfl) ?_
 intro a hA
 refine seq_call hA rfl rfl rfl (enters_func  rfl rfl (fun w => by kernel_rfl)) (zspread_any (show Nm _ (Q6.rat u v) a1 ac1 a2 ac2 a3 ac3 a4 ac4 from ⟨⟨(hS.rd 3 rfl), ha.s1.nil, ha.s1.cap⟩, ⟨(hS.rd 2 rfl), ha.s2.nil, ha.s2.cap⟩, ⟨(hS.rd 1 rfl), ha.s3.nil, ha.s3.cap⟩, ⟨(hS.rd 0 rfl), ha.s4.nil, ha.s4.cap⟩⟩) hu hv) ?_
 rintro _ w19 ⟨p14_1, p14_c1, p14_2, p14_c2, p14_3, p14_c3, rfl, hs15, hs16, hs17, hb18⟩
 replace hS := hS.call hb18
 replace hS := hS.addR hs15.rd
 replace hS := hS.addR hs16.rd
 replace hS := hS.addR hs17.rd
 refine ⟨_, rfl, ?_⟩
 intro a hA
 refine seq_new (vs := [.bool false, .slice none 0 0, .bool false, .slice none 0 0, .slice none 0 0]) (t := 55) hA hS rfl rfl rfl (fun g => .pointer (some ⟨g, 0, none⟩)) (d_alloc (z := .agg #[.bool false, .slice none 0 0, .bool false, .slice none 0 0, .slice none 0 0]) (by kernel_rfl) rfl) rfl ?_
 intro g20 w21 hS a hA
 refine seq_store (us := [.bool ((rb (spX u v))), .slice p14_1 ((words (spX u v).natAbs).length) p14_c1, .bool ((rb (spY u v))), .slice p14_2 ((words (spY u v).natAbs).length) p14_c2, .slice p14_3 ((words (spD u v)).length) p14_c3]) hA hS rfl rfl (sets_store rfl rfl rfl (by kernel_rfl) hS 0 rfl rfl rfl) 0 rfl rfl rfl rfl ?_
 intro w22 hS
 refine seq_end ?_
 refine hK13 _ _ ?_
 refine wp_seq_k (fun K23 hK23 => ?_)
 refine wp_region_lit ?_
 refine seq_do (v := .pointer (some ⟨g20, 0, none⟩)) hA rfl rfl rfl (d_field SmD_fld_55_0 rfl rfl) ?_
 intro a hA
 refine seq_do hA rfl rfl rfl (d_loadS hS SmD_isS_53 rfl 0 rfl (cs := [.bool ((rb (spX u v))), .slice p14_1 ((words (spX u v).natAbs).length) p14_c1]) rfl rfl) ?_
 intro a hA
 refine seq_do (v := .pointer (some ⟨g20, 4, none⟩)) hA rfl rfl rfl (d_field SmD_fld_55_2 rfl rfl) ?_
 intro a hA
 refine seq_do hA rfl rfl rfl (d_load1 hS SmD_is1_22 rfl 0 rfl rfl) ?_
 intro a hA
 refine seq_call hA rfl rfl rfl (enters_func  rfl rfl (fun w => by kernel_rfl)) (zover_as ⟨(hS.rd 2 rfl), hs15.nil, hs15.cap⟩ ⟨(hS.rd 0 rfl), hs17.nil, hs17.cap⟩ (by omega) (by omega) (spD_ne u v) hT hR) ?_
 rintro _ w31 ⟨zo24, zc25, uo26, uc27, rfl, hs28, ht29, hb30⟩
 replace hS := hS.call hb30
 replace hS := hS.addR hs28.rd
 replace hS := hS.addR ht29.rd
 refine ⟨_, rfl, ?_⟩
 intro a hA
 refine seq_do hA rfl rfl rfl (d_move rfl) ?_
 intro a hA
 refine seq_do (v := .agg #[.bool ((rb T)), .slice zo24 ((words T.natAbs).length) zc25]) hA rfl rfl rfl (d_extract (vs := [.agg #[.bool ((rb T)), .slice zo24 ((words T.natAbs).length) zc25], .slice uo26 ((words R).length) uc27]) rfl rfl) ?_
 intro a hA
 refine seq_do (v := .slice uo26 ((words R).length) uc27) hA rfl rfl rfl (d_extract (vs := [.agg #[.bool ((rb T)), .slice zo24 ((words T.natAbs).length) zc25], .slice uo26 ((words R).length) uc27]) rfl rfl) ?_
 intro a hA
 refine seq_new (vs := [.bool false, .slice none 0 0]) (t := 53) hA hS rfl rfl rfl (fun g => .pointer (some ⟨g, 0, none⟩)) (d_alloc (z := .agg #[.bool false, .slice none 0 0]) (by kernel_rfl) rfl) rfl ?_
 intro g32 w33 hS a hA
 refine seq_store (us := [.bool ((rb T)), .slice zo24 ((words T.natAbs).length) zc25]) hA hS rfl rfl (sets_store rfl rfl rfl (by kernel_rfl) hS 0 rfl rfl rfl) 0 rfl rfl rfl rfl ?_
 intro w34 hS
 refine seq_do hA rfl rfl rfl (d_assign rfl) ?_
 intro a hA
 refine seq_end ?_
 refine hK23 _ _ ?_
 refine wp_seq_k (fun K35 hK35 => ?_)
 refine wp_draw (S := fun w1 => St w w1 [(g32, [.bool ((rb T)), .slice zo24 ((words T.natAbs).length) zc25]), (g20, [.bool ((rb (spX u v))), .slice p14_1 ((words (spX u v).natAbs).length) p14_c1, .bool ((rb (spY u v))), .slice p14_2 ((words (spY u v).natAbs).length) p14_c2, .slice p14_3 ((words (spD u v)).length) p14_c3]), (g8, [.bool (rb u.num), .slice a1 ((words u.num.natAbs).length) ac1, .slice a2 ((words u.den).length) ac2, .bool (rb v.num), .slice a3 ((words v.num.natAbs).length) ac3, .slice a4 ((words v.den).length) ac4]), (g2, [.bool (rb u.num), .slice a1 ((words u.num.natAbs).length) ac1, .slice a2 ((words u.den).length) ac2, .bool (rb v.num), .slice a3 ((words v.num.natAbs).length) ac3, .slice a4 ((words v.den).length) ac4])] [(uo26, words R), (zo24, words T.natAbs), (p14_3, words (spD u v)), (p14_2, words (spY u v).natAbs), (p14_1, words (spX u v).natAbs), (a4, words v.den), (a3, words v.num.natAbs), (a2, words u.den), (a1, words u.num.natAbs)] []) (by kernel_rfl) ?_
 replace hS := hS.drew
 refine any_tk hA 0 rfl rfl rfl rfl hP (hS.partD (.cons_cons _ (.cons_cons _ (.cons_cons _ (.cons _ (.cons_cons _ .slnil))))) 0 rfl (.refl _)) (fun w1 hS => d_loadS hS SmD_isS_53 rfl 0 rfl (cs := [.bool ((rb T)), .slice zo24 ((words T.natAbs).length) zc25]) rfl rfl) ?_
 intro a hA
 refine any_one (by kernel_rfl) (op_call hA 1 rfl rfl rfl rfl (enters_func  rfl rfl (fun w => by kernel_rfl)) (wof_any 1 _ (by decide)) ?_)
 rintro _ w40 ⟨ro36, rc37, rfl, ho38, hb39⟩
 replace hS := hS.call hb39
 replace hS := hS.addR ho38.rd
 refine ⟨_, rfl, (hS.partD (.cons_cons _ (.cons_cons _ (.cons_cons _ (.cons _ (.cons_cons _ .slnil))))) 1 rfl (.refl _)), ?_⟩
 intro a hA
 refine any_tk (v := .agg #[.bool ((rb T)), .slice zo24 ((words T.natAbs).length) zc25, .bool false, .slice none 0 0, .slice ro36 ((words 1).length) rc37]) hA 2 rfl rfl rfl rfl hP (hS.partD (.cons_cons _ (.cons_cons _ (.cons_cons _ (.cons _ (.cons_cons _ .slnil))))) 1 rfl (.refl _)) (fun w1 hS => d_build rfl (fun w => by kernel_rfl)) ?_
 intro a hA
 refine any_one (by kernel_rfl) (op_call hA 3 rfl rfl rfl rfl (enters_func  rfl rfl (fun w => by kernel_rfl)) (zsettle0_as ⟨(hS.rd 2 rfl), hs28.nil, hs28.cap⟩ ⟨(hS.rd 0 rfl), ho38.nocap, ho38.caps⟩ e1 (by omega) (by omega) (by decide)) ?_)
 rintro _ w44 ⟨p41_1, p41_c1, p41_2, p41_c2, p41_3, p41_c3, p41_4, p41_c4, rfl, hn42, hb43⟩
 replace hS := hS.call hb43
 replace hS := hS.addR hn42.s1.rd
 replace hS := hS.addR hn42.s2.rd
 replace hS := hS.addR hn42.s3.rd
 replace hS := hS.addR hn42.s4.rd
 refine ⟨_, rfl, (hS.partD (.cons_cons _ (.cons_cons _ (.cons_cons _ (.cons _ (.cons_cons _ .slnil))))) 5 rfl (.refl _)), ?_⟩
 intro a hA
 refine any_tk (v := .agg #[.bool z1.1.b1, .slice p41_1 z1.1.t1.length p41_c1, .slice p41_2 z1.1.q1.length p41_c2, .bool z1.1.b2, .slice p41_3 z1.1.t2.length p41_c3, .slice p41_4 z1.1.q2.length p41_c4]) hA 4 rfl rfl rfl rfl hP (hS.partD (.cons_cons _ (.cons_cons _ (.cons_cons _ (.cons _ (.cons_cons _ .slnil))))) 5 rfl (.refl _)) (fun w1 hS => d_extract (vs := [.agg #[.bool z1.1.b1, .slice p41_1 z1.1.t1.length p41_c1, .slice p41_2 z1.1.q1.length p41_c2, .bool z1.1.b2, .slice p41_3 z1.1.t2.length p41_c3, .slice p41_4 z1.1.q2.length p41_c4], .int .i64 z1.2]) rfl rfl) ?_
 intro a hA
 refine any_tk (v := .int .i64 z1.2) hA 5 rfl rfl rfl rfl hP (hS.partD (.cons_cons _ (.cons_cons _ (.cons_cons _ (.cons _ (.cons_cons _ .slnil))))) 5 rfl (.refl _)) (fun w1 hS => d_extract (vs := [.agg #[.bool z1.1.b1, .slice p41_1 z1.1.t1.length p41_c1, .slice p41_2 z1.1.q1.length p41_c2, .bool z1.1.b2, .slice p41_3 z1.1.t2.length p41_c3, .slice p41_4 z1.1.q2.length p41_c4], .int .i64 z1.2]) rfl rfl) ?_
 intro a hA
 refine any_one (by kernel_rfl) (op_store (us := [.bool z1.1.b1, .slice p41_1 z1.1.t1.length p41_c1, .slice p41_2 z1.1.q1.length p41_c2, .bool z1.1.b2, .slice p41_3 z1.1.t2.length p41_c3, .slice p41_4 z1.1.q2.length p41_c4]) hA hS 6 rfl rfl rfl (sets_store rfl rfl rfl (by kernel_rfl) hS 3 rfl rfl rfl) 3 rfl rfl rfl rfl ?_)
 intro w45 hS
 refine ⟨(hS.partD (.cons_cons _ (.cons_cons _ (.cons_cons _ (.cons _ (.cons_cons _ .slnil))))) 5 rfl (.refl _)), ?_⟩
 refine any_tk hA 7 rfl rfl rfl rfl hP (hS.partD (.cons_cons _ (.cons_cons _ (.cons_cons _ (.cons _ (.cons_cons _ .slnil))))) 5 rfl (.refl _)) (fun w1 hS => d_assign rfl) ?_
 intro a hA
 refine any_end (by kernel_rfl) ?_
 refine hK35 _ _ ?_
 refine wp_ret ?_
 refine hret _ _ ?_
 refine ends (v := .tuple #[.agg #[.bool z1.1.b1, .slice p41_1 z1.1.t1.length p41_c1, .slice p41_2 z1.1.q1.length p41_c2, .bool z1.1.b2, .slice p41_3 z1.1.t2.length p41_c3, .slice p41_4 z1.1.q2.length p41_c4], .int .i64 z1.2]) hA rfl (.cons (res_cell hS SmD_isS_26 rfl 3 rfl (cs := [.bool z1.1.b1, .slice p41_1 z1.1.t1.length p41_c1, .slice p41_2 z1.1.q1.length p41_c2, .bool z1.1.b2, .slice p41_3 z1.1.t2.length p41_c3, .slice p41_4 z1.1.q2.length p41_c4]) rfl rfl) (.cons (res_tmp rfl) .nil)) rfl ?_
 exact ⟨p41_1, p41_c1, p41_2, p41_c2, p41_3, p41_c3, p41_4, p41_c4, rfl, ⟨⟨(hS.rd 3 rfl), hn42.s1.nil, hn42.s1.cap⟩, ⟨(hS.rd 2 rfl), hn42.s2.nil, hn42.s2.cap⟩, ⟨(hS.rd 1 rfl), hn42.s3.nil, hn42.s3.cap⟩, ⟨(hS.rd 0 rfl), hn42.s4.nil, hn42.s4.cap⟩⟩, hS.bel⟩
theorem floorQ_any {w : World} {q : Q6} {a1 a2 a3 a4 : Option Addr} {ac1 ac2 ac3 ac4 : Nat} (ha : Nm w q a1 ac1 a2 ac2 a3 ac3 a4 ac4) (hl : LenQ q) : Calls Tryz.prog 26 #[numV q a1 ac1 a2 ac2 a3 ac3 a4 ac4] w (AnsN w (floorQ q)) := by
  unfold floorQ
  by_cases hw : wantR1 q = 0
  · rw [if_pos hw]
    rcases sound_cases ha with h1 | ⟨u, v, rfl, hu, hv⟩
    · rw [wantR1_bad h1] at hw
      cases hw
    have h2 : (Q6.rat u v).t2.length = 0 := by
      by_cases k : (Q6.rat u v).t2.length = 0
      · exact k
      · rw [wantR1_type (soundQ_rat hu hv) k] at hw
        cases hw
    obtain rfl := real_zero h2
    rw [reQ_rat]
    have e : spX u 0 / ((spD u 0 : Nat) : Int) = floR u := by rw [spX_real, spD_real]; rfl
    refine floW_any ha hu hv hw e rfl (Nat.le_trans (floR_len hu.1) (by decide)) one_len ?_
    rw [setQ_rat _ _ (by decide), Rat.mkRat_one, Rat.zero_mkRat]
  · rw [if_neg hw]
    exact floE_any ha hl (bne_of hw)
end Go.Proofs.YthlkbnhbmfmchaaGreat
namespace Go.Proofs.YthlkbnhbmfmchaaGreat
open Go.RowKit
set_option linter.unusedVariables false
set_option linter.unusedSimpArgs false
set_option maxRecDepth 100000
theorem SmE_is1_22 : Is1 Tryz.prog 22 := ⟨⟨_, Tryz.underlying22, rfl⟩, by kernel_rfl⟩
theorem SmE_is1_4 : Is1 Tryz.prog 4 := ⟨⟨_, Tryz.underlying4, rfl⟩, by kernel_rfl⟩
theorem SmE_fld_24_0 : FieldAt Tryz.prog 24 0 0 := ⟨_, _, Tryz.underlying24, rfl, rfl, by kernel_rfl⟩
theorem SmE_fld_24_1 : FieldAt Tryz.prog 24 1 1 := ⟨_, _, Tryz.underlying24, rfl, rfl, by kernel_rfl⟩
theorem SmE_fld_24_2 : FieldAt Tryz.prog 24 2 2 := ⟨_, _, Tryz.underlying24, rfl, rfl, by kernel_rfl⟩
theorem SmE_fld_26_0 : FieldAt Tryz.prog 26 0 0 := ⟨_, _, Tryz.underlying26, rfl, rfl, by kernel_rfl⟩
theorem SmE_isS_24 : IsS Tryz.prog 24 3 := ⟨⟨_, Tryz.underlying24⟩, by kernel_rfl⟩
theorem SmE_isS_26 : IsS Tryz.prog 26 6 := ⟨⟨_, Tryz.underlying26⟩, by kernel_rfl⟩
theorem plus1_any {w : World} {ao bo : Option Addr} {x : Nat} (ca cb : Nat) (ha : Rd w ao (words x)) (hb : Rd w bo [1]) (hx : (words x).length ≤ 100000) : Calls Tryz.prog 89 #[.slice ao (words x).length ca, .slice bo 1 cb] w (Row1 w (words (x + 1))) := by
  have h := plus_any (x := x) (y := 1) ca cb ha (by rw [words_one]; exact hb) (by omega) (by rw [words_one]; decide)
  rw [words_one] at h
  exact h
theorem zneg_rb {x : Int} {d : Nat} (hd : d ≠ 0) (hb : rb x = true) : rb (x / (d : Int)) = true := by
  have h1 := of_decide_eq_true hb
  exact decide_eq_true (Int.ediv_neg_of_neg_of_pos h1 (by omega))
theorem rdownP_any {w : World} {x : Int} {d : Nat} {a1 a2 : Option Addr} {ac1 ac2 : Nat} (ha1 : Sc w a1 ac1 (words x.natAbs)) (ha2 : Sc w a2 ac2 (words d)) (lx : (words x.natAbs).length ≤ 8000) (ld : (words d).length ≤ 8000) (hd : d ≠ 0) (hb : rb x = false) : Calls Tryz.prog 65 #[.agg #[.bool false, .slice a1 (words x.natAbs).length ac1, .slice a2 (words d).length ac2]] w (AnsF w (rb (x / (d : Int))) (words (x / (d : Int)).natAbs) [1]) := by
 have k1 : (words (x.natAbs / d)).length ≤ 8000 := div_len lx
 have hS : St w w [] [(a2, words d), (a1, words x.natAbs)] [] := ((St.start w).addR ha1.rd).addR ha2.rd
 refine walk_of (l := [(0, .agg #[.bool false, .slice a1 ((words x.natAbs).length) ac1, .slice a2 ((words d).length) ac2])]) Tryz.func65 rfl Tryz.ntmps65 rfl rfl ?_
 intro Q hret hnorm hP a hA
 refine wp_seq_k (fun K1 hK1 => ?_)
 refine wp_region_lit ?_
 refine seq_new hA hS rfl rfl rfl (fun g => .pointer (some ⟨g, 0, none⟩)) (d_box rfl rfl) rfl ?_
 intro g2 w3 hS a hA
 refine seq_new (vs := [.bool false, .slice none 0 0, .slice none 0 0]) (t := 24) hA hS rfl rfl rfl (fun g => .pointer (some ⟨g, 0, none⟩)) (d_alloc (z := .agg #[.bool false, .slice none 0 0, .slice none 0 0]) (by kernel_rfl) rfl) rfl ?_
 intro g4 w5 hS a hA
 refine seq_end ?_
 refine hK1 _ _ ?_
 refine wp_seq_k (fun K6 hK6 => ?_)
 refine wp_region_lit ?_
 refine seq_do (v := .pointer (some ⟨g2, 1, none⟩)) hA rfl rfl rfl (d_field SmE_fld_24_1 rfl rfl) ?_
 intro a hA
 refine seq_do hA rfl rfl rfl (d_load1 hS SmE_is1_22 rfl 1 rfl rfl) ?_
 intro a hA
 refine seq_do (v := .pointer (some ⟨g2, 2, none⟩)) hA rfl rfl rfl (d_field SmE_fld_24_2 rfl rfl) ?_
 intro a hA
 refine seq_do hA rfl rfl rfl (d_load1 hS SmE_is1_22 rfl 1 rfl rfl) ?_
 intro a hA
 refine seq_call hA rfl rfl rfl (enters_func  rfl rfl (fun w => by kernel_rfl)) (over_any (x := x.natAbs) (y := d) _ _ (hS.rd 1 rfl) (hS.rd 0 rfl) (by omega) (by omega) hd) ?_
 rintro _ w14 ⟨ro7, rc8, uo9, uc10, rfl, ho11, hp12, hb13⟩
 replace hS := hS.call hb13
 replace hS := hS.addR ho11.rd
 replace hS := hS.addR hp12.rd
 refine ⟨_, rfl, ?_⟩
 intro a hA
 refine seq_do hA rfl rfl rfl (d_move rfl) ?_
 intro a hA
 refine seq_do (v := .slice ro7 ((words (x.natAbs / d)).length) rc8) hA rfl rfl rfl (d_extract (vs := [.slice ro7 ((words (x.natAbs / d)).length) rc8, .slice uo9 ((words (x.natAbs % d)).length) uc10]) rfl rfl) ?_
 intro a hA
 refine seq_do (v := .slice uo9 ((words (x.natAbs % d)).length) uc10) hA rfl rfl rfl (d_extract (vs := [.slice ro7 ((words (x.natAbs / d)).length) rc8, .slice uo9 ((words (x.natAbs % d)).length) uc10]) rfl rfl) ?_
 intro a hA
 refine seq_do hA rfl rfl rfl (d_assign rfl) ?_
 intro a hA
 refine seq_do hA rfl rfl rfl (d_assign rfl) ?_
 intro a hA
 refine seq_end ?_
 refine hK6 _ _ ?_
 refine wp_seq_k (fun K15 hK15 => ?_)
 refine wp_seq_k (fun K16 hK16 => ?_)
 refine wp_region_lit ?_
 refine seq_do (v := .pointer (some ⟨g2, 0, none⟩)) hA rfl rfl rfl (d_field SmE_fld_24_0 rfl rfl) ?_
 intro a hA
 refine seq_do hA rfl rfl rfl (d_load1 hS SmE_is1_4 rfl 1 rfl rfl) ?_
 intro a hA
 refine seq_do hA rfl rfl rfl (d_move rfl) ?_
 intro a hA
 refine seq_skip hA rfl rfl rfl ?_
 intro a hA
 refine seq_skip hA rfl rfl rfl ?_
 intro a hA
 refine seq_skip hA rfl rfl rfl ?_
 intro a hA
 refine seq_do (v := .bool false) hA rfl rfl rfl (d_pick rfl rfl rfl rfl) ?_
 intro a hA
 refine seq_end ?_
 refine hK16 _ _ ?_
 refine wp_cond_false (hA.ev rfl) ?_
 refine wp_skip ?_
 refine hK15 _ _ ?_
 refine wp_seq_k (fun K17 hK17 => ?_)
 refine wp_region_lit ?_
 refine seq_do (v := .pointer (some ⟨g2, 0, none⟩)) hA rfl rfl rfl (d_field SmE_fld_24_0 rfl rfl) ?_
 intro a hA
 refine seq_do hA rfl rfl rfl (d_load1 hS SmE_is1_4 rfl 1 rfl rfl) ?_
 intro a hA
 refine seq_do hA rfl rfl rfl (d_move rfl) ?_
 intro a hA
 refine seq_newU (us := [1]) (t := 66) (m := 1) hA hS rfl rfl rfl (d_buildSlice rfl (by kernel_rfl)) (by simp [Dig]) ?_
 intro g18 w19 hS a hA
 refine seq_do (v := .agg #[.bool false, .slice ro7 ((words (x.natAbs / d)).length) rc8, .slice (some ⟨g18, 0, none⟩) 1 1]) hA rfl rfl rfl (d_build rfl (fun w => by kernel_rfl)) ?_
 intro a hA
 refine seq_store (us := [.bool false, .slice ro7 ((words (x.natAbs / d)).length) rc8, .slice (some ⟨g18, 0, none⟩) 1 1]) hA hS rfl rfl (sets_store rfl rfl rfl (by kernel_rfl) hS 0 rfl rfl rfl) 0 rfl rfl rfl rfl ?_
 intro w20 hS
 refine seq_end ?_
 refine hK17 _ _ ?_
 refine wp_ret ?_
 refine hret _ _ ?_
 refine ends (v := .agg #[.bool false, .slice ro7 ((words (x.natAbs / d)).length) rc8, .slice (some ⟨g18, 0, none⟩) 1 1]) hA rfl (.cons (res_cell hS SmE_isS_24 rfl 0 rfl (cs := [.bool false, .slice ro7 ((words (x.natAbs / d)).length) rc8, .slice (some ⟨g18, 0, none⟩) 1 1]) rfl rfl) .nil) rfl ?_
 rw [show rb (x / (d : Int)) = false from by rw [(zq_pos hd hb).1]; exact rb_nat _, show (x / (d : Int)).natAbs = x.natAbs / d from by rw [(zq_pos hd hb).1, Int.natAbs_natCast]]
 exact ⟨ro7, rc8, some ⟨g18, 0, none⟩, 1, rfl, ⟨(hS.rd 2 rfl), ho11.nocap, ho11.caps⟩, ⟨(hS.rd 0 rfl), (fun h => by cases h), (Nat.le_refl _)⟩, hS.bel⟩
theorem rdownZ_any {w : World} {x : Int} {d : Nat} {a1 a2 : Option Addr} {ac1 ac2 : Nat} (ha1 : Sc w a1 ac1 (words x.natAbs)) (ha2 : Sc w a2 ac2 (words d)) (lx : (words x.natAbs).length ≤ 8000) (ld : (words d).length ≤ 8000) (hd : d ≠ 0) (hb : rb x = true) (h0 : x.natAbs % d = 0) : Calls Tryz.prog 65 #[.agg #[.bool true, .slice a1 (words x.natAbs).length ac1, .slice a2 (words d).length ac2]] w (AnsF w (rb (x / (d : Int))) (words (x / (d : Int)).natAbs) [1]) := by
 have k1 : (words (x.natAbs / d)).length ≤ 8000 := div_len lx
 have hS : St w w [] [(a2, words d), (a1, words x.natAbs)] [] := ((St.start w).addR ha1.rd).addR ha2.rd
 refine walk_of (l := [(0, .agg #[.bool true, .slice a1 ((words x.natAbs).length) ac1, .slice a2 ((words d).length) ac2])]) Tryz.func65 rfl Tryz.ntmps65 rfl rfl ?_
 intro Q hret hnorm hP a hA
 refine wp_seq_k (fun K1 hK1 => ?_)
 refine wp_region_lit ?_
 refine seq_new hA hS rfl rfl rfl (fun g => .pointer (some ⟨g, 0, none⟩)) (d_box rfl rfl) rfl ?_
 intro g2 w3 hS a hA
 refine seq_new (vs := [.bool false, .slice none 0 0, .slice none 0 0]) (t := 24) hA hS rfl rfl rfl (fun g => .pointer (some ⟨g, 0, none⟩)) (d_alloc (z := .agg #[.bool false, .slice none 0 0, .slice none 0 0]) (by kernel_rfl) rfl) rfl ?_
 intro g4 w5 hS a hA
 refine seq_end ?_
 refine hK1 _ _ ?_
 refine wp_seq_k (fun K6 hK6 => ?_)
 refine wp_region_lit ?_
 refine seq_do (v := .pointer (some ⟨g2, 1, none⟩)) hA rfl rfl rfl (d_field SmE_fld_24_1 rfl rfl) ?_
 intro a hA
 refine seq_do hA rfl rfl rfl (d_load1 hS SmE_is1_22 rfl 1 rfl rfl) ?_
 intro a hA
 refine seq_do (v := .pointer (some ⟨g2, 2, none⟩)) hA rfl rfl rfl (d_field SmE_fld_24_2 rfl rfl) ?_
 intro a hA
 refine seq_do hA rfl rfl rfl (d_load1 hS SmE_is1_22 rfl 1 rfl rfl) ?_
 intro a hA
 refine seq_call hA rfl rfl rfl (enters_func  rfl rfl (fun w => by kernel_rfl)) (over_any (x := x.natAbs) (y := d) _ _ (hS.rd 1 rfl) (hS.rd 0 rfl) (by omega) (by omega) hd) ?_
 rintro _ w14 ⟨ro7, rc8, uo9, uc10, rfl, ho11, hp12, hb13⟩
 replace hS := hS.call hb13
 replace hS := hS.addR ho11.rd
 replace hS := hS.addR hp12.rd
 refine ⟨_, rfl, ?_⟩
 intro a hA
 refine seq_do hA rfl rfl rfl (d_move rfl) ?_
 intro a hA
 refine seq_do (v := .slice ro7 ((words (x.natAbs / d)).length) rc8) hA rfl rfl rfl (d_extract (vs := [.slice ro7 ((words (x.natAbs / d)).length) rc8, .slice uo9 ((words (x.natAbs % d)).length) uc10]) rfl rfl) ?_
 intro a hA
 refine seq_do (v := .slice uo9 ((words (x.natAbs % d)).length) uc10) hA rfl rfl rfl (d_extract (vs := [.slice ro7 ((words (x.natAbs / d)).length) rc8, .slice uo9 ((words (x.natAbs % d)).length) uc10]) rfl rfl) ?_
 intro a hA
 refine seq_do hA rfl rfl rfl (d_assign rfl) ?_
 intro a hA
 refine seq_do hA rfl rfl rfl (d_assign rfl) ?_
 intro a hA
 refine seq_end ?_
 refine hK6 _ _ ?_
 refine wp_seq_k (fun K15 hK15 => ?_)
 refine wp_seq_k (fun K16 hK16 => ?_)
 refine wp_region_lit ?_
 refine seq_do (v := .pointer (some ⟨g2, 0, none⟩)) hA rfl rfl rfl (d_field SmE_fld_24_0 rfl rfl) ?_
 intro a hA
 refine seq_do hA rfl rfl rfl (d_load1 hS SmE_is1_4 rfl 1 rfl rfl) ?_
 intro a hA
 refine seq_do hA rfl rfl rfl (d_move rfl) ?_
 intro a hA
 refine seq_do hA rfl rfl rfl (d_move rfl) ?_
 intro a hA
 refine seq_do (v := .int .i64 ((((words (x.natAbs % d)).length : Nat) : Int))) hA rfl rfl rfl (d_len Tryz.underlying22 rfl) ?_
 intro a hA
 refine seq_do (v := .bool false) hA rfl rfl rfl (d_bin rfl rfl (fun w => (bin_gtr w).trans (by rw [show (decide (0 < (((words (x.natAbs % d)).length : Nat) : Int))) = false from decide_eq_false (by rw [h0, words_zero]; decide)]))) ?_
 intro a hA
 refine seq_do (v := .bool false) hA rfl rfl rfl (d_pick rfl rfl rfl rfl) ?_
 intro a hA
 refine seq_end ?_
 refine hK16 _ _ ?_
 refine wp_cond_false (hA.ev rfl) ?_
 refine wp_skip ?_
 refine hK15 _ _ ?_
 refine wp_seq_k (fun K17 hK17 => ?_)
 refine wp_region_lit ?_
 refine seq_do (v := .pointer (some ⟨g2, 0, none⟩)) hA rfl rfl rfl (d_field SmE_fld_24_0 rfl rfl) ?_
 intro a hA
 refine seq_do hA rfl rfl rfl (d_load1 hS SmE_is1_4 rfl 1 rfl rfl) ?_
 intro a hA
 refine seq_do hA rfl rfl rfl (d_move rfl) ?_
 intro a hA
 refine seq_newU (us := [1]) (t := 66) (m := 1) hA hS rfl rfl rfl (d_buildSlice rfl (by kernel_rfl)) (by simp [Dig]) ?_
 intro g18 w19 hS a hA
 refine seq_do (v := .agg #[.bool true, .slice ro7 ((words (x.natAbs / d)).length) rc8, .slice (some ⟨g18, 0, none⟩) 1 1]) hA rfl rfl rfl (d_build rfl (fun w => by kernel_rfl)) ?_
 intro a hA
 refine seq_store (us := [.bool true, .slice ro7 ((words (x.natAbs / d)).length) rc8, .slice (some ⟨g18, 0, none⟩) 1 1]) hA hS rfl rfl (sets_store rfl rfl rfl (by kernel_rfl) hS 0 rfl rfl rfl) 0 rfl rfl rfl rfl ?_
 intro w20 hS
 refine seq_end ?_
 refine hK17 _ _ ?_
 refine wp_ret ?_
 refine hret _ _ ?_
 refine ends (v := .agg #[.bool true, .slice ro7 ((words (x.natAbs / d)).length) rc8, .slice (some ⟨g18, 0, none⟩) 1 1]) hA rfl (.cons (res_cell hS SmE_isS_24 rfl 0 rfl (cs := [.bool true, .slice ro7 ((words (x.natAbs / d)).length) rc8, .slice (some ⟨g18, 0, none⟩) 1 1]) rfl rfl) .nil) rfl ?_
 rw [show rb (x / (d : Int)) = true from zneg_rb hd hb, show (x / (d : Int)).natAbs = x.natAbs / d from by rw [(zq_neg0 hd hb h0).1, Int.natAbs_neg, Int.natAbs_natCast]]
 exact ⟨ro7, rc8, some ⟨g18, 0, none⟩, 1, rfl, ⟨(hS.rd 2 rfl), ho11.nocap, ho11.caps⟩, ⟨(hS.rd 0 rfl), (fun h => by cases h), (Nat.le_refl _)⟩, hS.bel⟩
theorem rdownN_any {w : World} {x : Int} {d : Nat} {a1 a2 : Option Addr} {ac1 ac2 : Nat} (ha1 : Sc w a1 ac1 (words x.natAbs)) (ha2 : Sc w a2 ac2 (words d)) (lx : (words x.natAbs).length ≤ 8000) (ld : (words d).length ≤ 8000) (hd : d ≠ 0) (hb : rb x = true) (h0 : x.natAbs % d ≠ 0) : Calls Tryz.prog 65 #[.agg #[.bool true, .slice a1 (words x.natAbs).length ac1, .slice a2 (words d).length ac2]] w (AnsF w (rb (x / (d : Int))) (words (x / (d : Int)).natAbs) [1]) := by
 have k1 : (words (x.natAbs / d)).length ≤ 8000 := div_len lx
 have hS : St w w [] [(a2, words d), (a1, words x.natAbs)] [] := ((St.start w).addR ha1.rd).addR ha2.rd
 refine walk_of (l := [(0, .agg #[.bool true, .slice a1 ((words x.natAbs).length) ac1, .slice a2 ((words d).length) ac2])]) Tryz.func65 rfl Tryz.ntmps65 rfl rfl ?_
 intro Q hret hnorm hP a hA
 refine wp_seq_k (fun K1 hK1 => ?_)
 refine wp_region_lit ?_
 refine seq_new hA hS rfl rfl rfl (fun g => .pointer (some ⟨g, 0, none⟩)) (d_box rfl rfl) rfl ?_
 intro g2 w3 hS a hA
 refine seq_new (vs := [.bool false, .slice none 0 0, .slice none 0 0]) (t := 24) hA hS rfl rfl rfl (fun g => .pointer (some ⟨g, 0, none⟩)) (d_alloc (z := .agg #[.bool false, .slice none 0 0, .slice none 0 0]) (by kernel_rfl) rfl) rfl ?_
 intro g4 w5 hS a hA
 refine seq_end ?_
 refine hK1 _ _ ?_
 refine wp_seq_k (fun K6 hK6 => ?_)
 refine wp_region_lit ?_
 refine seq_do (v := .pointer (some ⟨g2, 1, none⟩)) hA rfl rfl rfl (d_field SmE_fld_24_1 rfl rfl) ?_
 intro a hA
 refine seq_do hA rfl rfl rfl (d_load1 hS SmE_is1_22 rfl 1 rfl rfl) ?_
 intro a hA
 refine seq_do (v := .pointer (some ⟨g2, 2, none⟩)) hA rfl rfl rfl (d_field SmE_fld_24_2 rfl rfl) ?_
 intro a hA
 refine seq_do hA rfl rfl rfl (d_load1 hS SmE_is1_22 rfl 1 rfl rfl) ?_
 intro a hA
 refine seq_call hA rfl rfl rfl (enters_func  rfl rfl (fun w => by kernel_rfl)) (over_any (x := x.natAbs) (y := d) _ _ (hS.rd 1 rfl) (hS.rd 0 rfl) (by omega) (by omega) hd) ?_
 rintro _ w14 ⟨ro7, rc8, uo9, uc10, rfl, ho11, hp12, hb13⟩
 replace hS := hS.call hb13
 replace hS := hS.addR ho11.rd
 replace hS := hS.addR hp12.rd
 refine ⟨_, rfl, ?_⟩
 intro a hA
 refine seq_do hA rfl rfl rfl (d_move rfl) ?_
 intro a hA
 refine seq_do (v := .slice ro7 ((words (x.natAbs / d)).length) rc8) hA rfl rfl rfl (d_extract (vs := [.slice ro7 ((words (x.natAbs / d)).length) rc8, .slice uo9 ((words (x.natAbs % d)).length) uc10]) rfl rfl) ?_
 intro a hA
 refine seq_do (v := .slice uo9 ((words (x.natAbs % d)).length) uc10) hA rfl rfl rfl (d_extract (vs := [.slice ro7 ((words (x.natAbs / d)).length) rc8, .slice uo9 ((words (x.natAbs % d)).length) uc10]) rfl rfl) ?_
 intro a hA
 refine seq_do hA rfl rfl rfl (d_assign rfl) ?_
 intro a hA
 refine seq_do hA rfl rfl rfl (d_assign rfl) ?_
 intro a hA
 refine seq_end ?_
 refine hK6 _ _ ?_
 refine wp_seq_k (fun K15 hK15 => ?_)
 refine wp_seq_k (fun K16 hK16 => ?_)
 refine wp_region_lit ?_
 refine seq_do (v := .pointer (some ⟨g2, 0, none⟩)) hA rfl rfl rfl (d_field SmE_fld_24_0 rfl rfl) ?_
 intro a hA
 refine seq_do hA rfl rfl rfl (d_load1 hS SmE_is1_4 rfl 1 rfl rfl) ?_
 intro a hA
 refine seq_do hA rfl rfl rfl (d_move rfl) ?_
 intro a hA
 refine seq_do hA rfl rfl rfl (d_move rfl) ?_
 intro a hA
 refine seq_do (v := .int .i64 ((((words (x.natAbs % d)).length : Nat) : Int))) hA rfl rfl rfl (d_len Tryz.underlying22 rfl) ?_
 intro a hA
 refine seq_do (v := .bool true) hA rfl rfl rfl (d_bin rfl rfl (fun w => (bin_gtr w).trans (by rw [show (decide (0 < (((words (x.natAbs % d)).length : Nat) : Int))) = true from decide_eq_true (by have h9 := (words_len_pos (x := x.natAbs % d)).2 h0; omega)]))) ?_
 intro a hA
 refine seq_do (v := .bool true) hA rfl rfl rfl (d_pick rfl rfl rfl rfl) ?_
 intro a hA
 refine seq_end ?_
 refine hK16 _ _ ?_
 refine wp_cond_true (hA.ev rfl) ?_
 refine wp_region_lit ?_
 refine seq_do hA rfl rfl rfl (d_move rfl) ?_
 intro a hA
 refine seq_newU (us := [1]) (t := 66) (m := 1) hA hS rfl rfl rfl (d_buildSlice rfl (by kernel_rfl)) (by simp [Dig]) ?_
 intro g17 w18 hS a hA
 refine seq_call hA rfl rfl rfl (enters_func  rfl rfl (fun w => by kernel_rfl)) (plus1_any _ _ (hS.rd 2 rfl) (hS.rd 0 rfl) (by omega)) ?_
 rintro _ w23 ⟨ro19, rc20, rfl, ho21, hb22⟩
 replace hS := hS.call hb22
 replace hS := hS.addR ho21.rd
 refine ⟨_, rfl, ?_⟩
 intro a hA
 refine seq_do hA rfl rfl rfl (d_assign rfl) ?_
 intro a hA
 refine seq_end ?_
 refine hK15 _ _ ?_
 refine wp_seq_k (fun K24 hK24 => ?_)
 refine wp_region_lit ?_
 refine seq_do (v := .pointer (some ⟨g2, 0, none⟩)) hA rfl rfl rfl (d_field SmE_fld_24_0 rfl rfl) ?_
 intro a hA
 refine seq_do hA rfl rfl rfl (d_load1 hS SmE_is1_4 rfl 1 rfl rfl) ?_
 intro a hA
 refine seq_do hA rfl rfl rfl (d_move rfl) ?_
 intro a hA
 refine seq_newU (us := [1]) (t := 66) (m := 1) hA hS rfl rfl rfl (d_buildSlice rfl (by kernel_rfl)) (by simp [Dig]) ?_
 intro g25 w26 hS a hA
 refine seq_do (v := .agg #[.bool true, .slice ro19 ((words (x.natAbs / d + 1)).length) rc20, .slice (some ⟨g25, 0, none⟩) 1 1]) hA rfl rfl rfl (d_build rfl (fun w => by kernel_rfl)) ?_
 intro a hA
 refine seq_store (us := [.bool true, .slice ro19 ((words (x.natAbs / d + 1)).length) rc20, .slice (some ⟨g25, 0, none⟩) 1 1]) hA hS rfl rfl (sets_store rfl rfl rfl (by kernel_rfl) hS 0 rfl rfl rfl) 0 rfl rfl rfl rfl ?_
 intro w27 hS
 refine seq_end ?_
 refine hK24 _ _ ?_
 refine wp_ret ?_
 refine hret _ _ ?_
 refine ends (v := .agg #[.bool true, .slice ro19 ((words (x.natAbs / d + 1)).length) rc20, .slice (some ⟨g25, 0, none⟩) 1 1]) hA rfl (.cons (res_cell hS SmE_isS_24 rfl 0 rfl (cs := [.bool true, .slice ro19 ((words (x.natAbs / d + 1)).length) rc20, .slice (some ⟨g25, 0, none⟩) 1 1]) rfl rfl) .nil) rfl ?_
 rw [show rb (x / (d : Int)) = true from zneg_rb hd hb, show (x / (d : Int)).natAbs = x.natAbs / d + 1 from by rw [(zq_neg1 hd hb h0).1, Int.natAbs_neg, Int.natAbs_natCast]]
 exact ⟨ro19, rc20, some ⟨g25, 0, none⟩, 1, rfl, ⟨(hS.rd 1 rfl), ho21.nocap, ho21.caps⟩, ⟨(hS.rd 0 rfl), (fun h => by cases h), (Nat.le_refl _)⟩, hS.bel⟩
theorem rdownF_any {w : World} {u : Rat} {a1 a2 : Option Addr} {ac1 ac2 : Nat} (ha1 : Sc w a1 ac1 (words u.num.natAbs)) (ha2 : Sc w a2 ac2 (words u.den)) (LR_u : LenR 8000 u) {T : Rat} (hT : ((floR u : Int) : Rat) = T) : Calls Tryz.prog 65 #[.agg #[.bool (rb u.num), .slice a1 (words u.num.natAbs).length ac1, .slice a2 (words u.den).length ac2]] w (AnsFR w T) := by
  subst hT
  have hd := u.den_nz
  unfold AnsFR
  rw [num_int, den_int, words_one]
  unfold floR
  cases hb : rb u.num with
  | false => exact rdownP_any ha1 ha2 LR_u.1 LR_u.2 hd hb
  | true =>
    by_cases h0 : u.num.natAbs % u.den = 0
    · exact rdownZ_any ha1 ha2 LR_u.1 LR_u.2 hd hb h0
    · exact rdownN_any ha1 ha2 LR_u.1 LR_u.2 hd hb h0
def Q6.real (u : Rat) : Q6 := ⟨rb u.num, words u.num.natAbs, words u.den, false, [], [1]⟩
theorem rat0_eq (u : Rat) : Q6.rat u 0 = Q6.real u := by
  unfold Q6.rat Q6.real
  rw [show (0 : Rat).num.natAbs = 0 from rfl, words_zero, show (0 : Rat).den = 1 from rfl, words_one]
  rfl
theorem fit_zero : fitR 0 := by
  unfold fitR
  rw [show (0 : Rat).num.natAbs = 0 from rfl, words_zero, show (0 : Rat).den = 1 from rfl, words_one]
  decide
theorem rfit0_any {w : World} {u : Rat} {a1 a2 a3 a4 : Option Addr} {ac1 ac2 ac3 ac4 : Nat} (ha : Nm w (Q6.real u) a1 ac1 a2 ac2 a3 ac3 a4 ac4) (LR_u : LenR 9000 u) : Calls Tryz.prog 38 #[numV (Q6.real u) a1 ac1 a2 ac2 a3 ac3 a4 ac4] w (AnsN w (ratS u 0)) := by
  rw [← rat0_eq] at *
  exact rfit_any ha LR_u ((fit_lenR fit_zero).mono (by decide))
theorem rlarge0_any {w : World} {u : Rat} {a1 a2 a3 a4 : Option Addr} {ac1 ac2 ac3 ac4 : Nat} (ha : Nm w (Q6.real u) a1 ac1 a2 ac2 a3 ac3 a4 ac4) (LR_u : LenR 9000 u) {r : Bool} (hr : decide (¬ (fitR u ∧ fitR 0)) = r) : Calls Tryz.prog 70 #[numV (Q6.real u) a1 ac1 a2 ac2 a3 ac3 a4 ac4] w fun e w' => e = .returned (.bool r) ∧ Below w.heap.size w w' := by
  rw [← rat0_eq] at *
  exact rlarge_any ha LR_u ((fit_lenR fit_zero).mono (by decide)) hr
theorem rfloE0_any {w : World} {q : Q6} {a1 a2 a3 a4 : Option Addr} {ac1 ac2 ac3 ac4 : Nat} (ha : Nm w q a1 ac1 a2 ac2 a3 ac3 a4 ac4) (hl : LenQ q) (h1 : soundQ q = false) : Calls Tryz.prog 27 #[numV q a1 ac1 a2 ac2 a3 ac3 a4 ac4] w (AnsN w (Q6.zero, 2)) := by
 have hS : St w w [] [(a4, q.q2), (a3, q.t2), (a2, q.q1), (a1, q.t1)] [] := ((((St.start w).addR ha.s1.rd).addR ha.s2.rd).addR ha.s3.rd).addR ha.s4.rd
 refine walk_of (l := [(0, .agg #[.bool q.b1, .slice a1 q.t1.length ac1, .slice a2 q.q1.length ac2, .bool q.b2, .slice a3 q.t2.length ac3, .slice a4 q.q2.length ac4])]) Tryz.func27 rfl Tryz.ntmps27 rfl rfl ?_
 intro Q hret hnorm hP a hA
 refine wp_seq_k (fun K1 hK1 => ?_)
 refine wp_region_lit ?_
 refine seq_new hA hS rfl rfl rfl (fun g => .pointer (some ⟨g, 0, none⟩)) (d_box rfl rfl) rfl ?_
 intro g2 w3 hS a hA
 refine seq_new (vs := [.bool false, .slice none 0 0, .slice none 0 0, .bool false, .slice none 0 0, .slice none 0 0]) (t := 26) hA hS rfl rfl rfl (fun g => .pointer (some ⟨g, 0, none⟩)) (d_alloc (z := .agg #[.bool false, .slice none 0 0, .slice none 0 0, .bool false, .slice none 0 0, .slice none 0 0]) (by kernel_rfl) rfl) rfl ?_
 intro g4 w5 hS a hA
 refine seq_do hA rfl rfl rfl (d_assign rfl) ?_
 intro a hA
 refine seq_end ?_
 refine hK1 _ _ ?_
 refine wp_seq_k (fun K6 hK6 => ?_)
 refine wp_seq_k (fun K7 hK7 => ?_)
 refine wp_region_lit ?_
 refine seq_do hA rfl rfl rfl (d_loadS hS SmE_isS_26 rfl 1 rfl (cs := [.bool q.b1, .slice a1 q.t1.length ac1, .slice a2 q.q1.length ac2, .bool q.b2, .slice a3 q.t2.length ac3, .slice a4 q.q2.length ac4]) rfl rfl) ?_
 intro a hA
 refine seq_call hA rfl rfl rfl (enters_func  rfl rfl (fun w => by kernel_rfl)) (rsoundQ_any (show Nm _ _ a1 ac1 a2 ac2 a3 ac3 a4 ac4 from ⟨⟨(hS.rd 3 rfl), ha.s1.nil, ha.s1.cap⟩, ⟨(hS.rd 2 rfl), ha.s2.nil, ha.s2.cap⟩, ⟨(hS.rd 1 rfl), ha.s3.nil, ha.s3.cap⟩, ⟨(hS.rd 0 rfl), ha.s4.nil, ha.s4.cap⟩⟩) hl h1) ?_
 rintro _ w9 ⟨rfl, hb8⟩
 replace hS := hS.call hb8
 refine ⟨_, rfl, ?_⟩
 intro a hA
 refine seq_do (v := .bool true) hA rfl rfl rfl (d_un rfl un_not) ?_
 intro a hA
 refine seq_end ?_
 refine hK7 _ _ ?_
 refine wp_cond_true (hA.ev rfl) ?_
 refine wp_seq_k (fun K10 hK10 => ?_)
 refine wp_region_lit ?_
 refine seq_do (v := .agg #[.bool false, .slice none 0 0, .slice none 0 0, .bool false, .slice none 0 0, .slice none 0 0]) hA rfl rfl rfl (d_build rfl (fun w => by kernel_rfl)) ?_
 intro a hA
 refine seq_store (us := [.bool false, .slice none 0 0, .slice none 0 0, .bool false, .slice none 0 0, .slice none 0 0]) hA hS rfl rfl (sets_store rfl rfl rfl (by kernel_rfl) hS 0 rfl rfl rfl) 0 rfl rfl rfl rfl ?_
 intro w11 hS
 refine seq_do hA rfl rfl rfl (d_assign rfl) ?_
 intro a hA
 refine seq_end ?_
 refine hK10 _ _ ?_
 refine wp_ret ?_
 refine hret _ _ ?_
 refine ends (v := .tuple #[.agg #[.bool false, .slice none 0 0, .slice none 0 0, .bool false, .slice none 0 0, .slice none 0 0], .int .i64 2]) hA rfl (.cons (res_cell hS SmE_isS_26 rfl 0 rfl (cs := [.bool false, .slice none 0 0, .slice none 0 0, .bool false, .slice none 0 0, .slice none 0 0]) rfl rfl) (.cons (res_tmp rfl) .nil)) rfl ?_
 exact ⟨none, 0, none, 0, none, 0, none, 0, rfl, ⟨(Sc.none _), (Sc.none _), (Sc.none _), (Sc.none _)⟩, hS.bel⟩
theorem rfloE1_any {w : World} {q : Q6} {a1 a2 a3 a4 : Option Addr} {ac1 ac2 ac3 ac4 : Nat} (ha : Nm w q a1 ac1 a2 ac2 a3 ac3 a4 ac4) (hl : LenQ q) (h1 : soundQ q = true) (h2 : decide (q.t2.length = 0) = false) : Calls Tryz.prog 27 #[numV q a1 ac1 a2 ac2 a3 ac3 a4 ac4] w (AnsN w (Q6.zero, 10)) := by
 have hS : St w w [] [(a4, q.q2), (a3, q.t2), (a2, q.q1), (a1, q.t1)] [] := ((((St.start w).addR ha.s1.rd).addR ha.s2.rd).addR ha.s3.rd).addR ha.s4.rd
 refine walk_of (l := [(0, .agg #[.bool q.b1, .slice a1 q.t1.length ac1, .slice a2 q.q1.length ac2, .bool q.b2, .slice a3 q.t2.length ac3, .slice a4 q.q2.length ac4])]) Tryz.func27 rfl Tryz.ntmps27 rfl rfl ?_
 intro Q hret hnorm hP a hA
 refine wp_seq_k (fun K1 hK1 => ?_)
 refine wp_region_lit ?_
 refine seq_new hA hS rfl rfl rfl (fun g => .pointer (some ⟨g, 0, none⟩)) (d_box rfl rfl) rfl ?_
 intro g2 w3 hS a hA
 refine seq_new (vs := [.bool false, .slice none 0 0, .slice none 0 0, .bool false, .slice none 0 0, .slice none 0 0]) (t := 26) hA hS rfl rfl rfl (fun g => .pointer (some ⟨g, 0, none⟩)) (d_alloc (z := .agg #[.bool false, .slice none 0 0, .slice none 0 0, .bool false, .slice none 0 0, .slice none 0 0]) (by kernel_rfl) rfl) rfl ?_
 intro g4 w5 hS a hA
 refine seq_do hA rfl rfl rfl (d_assign rfl) ?_
 intro a hA
 refine seq_end ?_
 refine hK1 _ _ ?_
 refine wp_seq_k (fun K6 hK6 => ?_)
 refine wp_seq_k (fun K7 hK7 => ?_)
 refine wp_region_lit ?_
 refine seq_do hA rfl rfl rfl (d_loadS hS SmE_isS_26 rfl 1 rfl (cs := [.bool q.b1, .slice a1 q.t1.length ac1, .slice a2 q.q1.length ac2, .bool q.b2, .slice a3 q.t2.length ac3, .slice a4 q.q2.length ac4]) rfl rfl) ?_
 intro a hA
 refine seq_call hA rfl rfl rfl (enters_func  rfl rfl (fun w => by kernel_rfl)) (rsoundQ_any (show Nm _ _ a1 ac1 a2 ac2 a3 ac3 a4 ac4 from ⟨⟨(hS.rd 3 rfl), ha.s1.nil, ha.s1.cap⟩, ⟨(hS.rd 2 rfl), ha.s2.nil, ha.s2.cap⟩, ⟨(hS.rd 1 rfl), ha.s3.nil, ha.s3.cap⟩, ⟨(hS.rd 0 rfl), ha.s4.nil, ha.s4.cap⟩⟩) hl h1) ?_
 rintro _ w9 ⟨rfl, hb8⟩
 replace hS := hS.call hb8
 refine ⟨_, rfl, ?_⟩
 intro a hA
 refine seq_do (v := .bool false) hA rfl rfl rfl (d_un rfl un_not) ?_
 intro a hA
 refine seq_end ?_
 refine hK7 _ _ ?_
 refine wp_cond_false (hA.ev rfl) ?_
 refine wp_skip ?_
 refine hK6 _ _ ?_
 refine wp_seq_k (fun K10 hK10 => ?_)
 refine wp_seq_k (fun K11 hK11 => ?_)
 refine wp_region_lit ?_
 refine seq_do hA rfl rfl rfl (d_loadS hS SmE_isS_26 rfl 1 rfl (cs := [.bool q.b1, .slice a1 q.t1.length ac1, .slice a2 q.q1.length ac2, .bool q.b2, .slice a3 q.t2.length ac3, .slice a4 q.q2.length ac4]) rfl rfl) ?_
 intro a hA
 refine seq_call hA rfl rfl rfl (enters_func  rfl rfl (fun w => by kernel_rfl)) (rrealQ_any (show Nm _ _ a1 ac1 a2 ac2 a3 ac3 a4 ac4 from ⟨⟨(hS.rd 3 rfl), ha.s1.nil, ha.s1.cap⟩, ⟨(hS.rd 2 rfl), ha.s2.nil, ha.s2.cap⟩, ⟨(hS.rd 1 rfl), ha.s3.nil, ha.s3.cap⟩, ⟨(hS.rd 0 rfl), ha.s4.nil, ha.s4.cap⟩⟩) hl h2) ?_
 rintro _ w13 ⟨rfl, hb12⟩
 replace hS := hS.call hb12
 refine ⟨_, rfl, ?_⟩
 intro a hA
 refine seq_do (v := .bool true) hA rfl rfl rfl (d_un rfl un_not) ?_
 intro a hA
 refine seq_end ?_
 refine hK11 _ _ ?_
 refine wp_cond_true (hA.ev rfl) ?_
 refine wp_seq_k (fun K14 hK14 => ?_)
 refine wp_region_lit ?_
 refine seq_do (v := .agg #[.bool false, .slice none 0 0, .slice none 0 0, .bool false, .slice none 0 0, .slice none 0 0]) hA rfl rfl rfl (d_build rfl (fun w => by kernel_rfl)) ?_
 intro a hA
 refine seq_store (us := [.bool false, .slice none 0 0, .slice none 0 0, .bool false, .slice none 0 0, .slice none 0 0]) hA hS rfl rfl (sets_store rfl rfl rfl (by kernel_rfl) hS 0 rfl rfl rfl) 0 rfl rfl rfl rfl ?_
 intro w15 hS
 refine seq_do hA rfl rfl rfl (d_assign rfl) ?_
 intro a hA
 refine seq_end ?_
 refine hK14 _ _ ?_
 refine wp_ret ?_
 refine hret _ _ ?_
 refine ends (v := .tuple #[.agg #[.bool false, .slice none 0 0, .slice none 0 0, .bool false, .slice none 0 0, .slice none 0 0], .int .i64 10]) hA rfl (.cons (res_cell hS SmE_isS_26 rfl 0 rfl (cs := [.bool false, .slice none 0 0, .slice none 0 0, .bool false, .slice none 0 0, .slice none 0 0]) rfl rfl) (.cons (res_tmp rfl) .nil)) rfl ?_
 exact ⟨none, 0, none, 0, none, 0, none, 0, rfl, ⟨(Sc.none _), (Sc.none _), (Sc.none _), (Sc.none _)⟩, hS.bel⟩
theorem rfloW_any {w : World} {u v : Rat} {a1 a2 a3 a4 : Option Addr} {ac1 ac2 ac3 ac4 : Nat} (ha : Nm w (Q6.rat u v) a1 ac1 a2 ac2 a3 ac3 a4 ac4) (hu : fitR u) (hv : fitR v) (LR_u : LenR 512 u) (h2 : decide ((Q6.rat u v).t2.length = 0) = true) {T : Rat} (hT : ((floR u : Int) : Rat) = T) (LT : LenR 9000 T) : Calls Tryz.prog 27 #[numV (Q6.rat u v) a1 ac1 a2 ac2 a3 ac3 a4 ac4] w (AnsN w (ratS T 0)) := by
 have hS : St w w [] [(a4, words v.den), (a3, words v.num.natAbs), (a2, words u.den), (a1, words u.num.natAbs)] [] := ((((St.start w).addR ha.s1.rd).addR ha.s2.rd).addR ha.s3.rd).addR ha.s4.rd
 refine walk_of (l := [(0, .agg #[.bool (rb u.num), .slice a1 ((words u.num.natAbs).length) ac1, .slice a2 ((words u.den).length) ac2, .bool (rb v.num), .slice a3 ((words v.num.natAbs).length) ac3, .slice a4 ((words v.den).length) ac4])]) Tryz.func27 rfl Tryz.ntmps27 rfl rfl ?_
 intro Q hret hnorm hP a hA
 refine wp_seq_k (fun K1 hK1 => ?_)
 refine wp_region_lit ?_
 refine seq_new hA hS rfl rfl rfl (fun g => .pointer (some ⟨g, 0, none⟩)) (d_box rfl rfl) rfl ?_
 intro g2 w3 hS a hA
 refine seq_new (vs := [.bool false, .slice none 0 0, .slice none 0 0, .bool false, .slice none 0 0, .slice none 0 0]) (t := 26) hA hS rfl rfl rfl (fun g => .pointer (some ⟨g, 0, none⟩)) (d_alloc (z := .agg #[.bool false, .slice none 0 0, .slice none 0 0, .bool false, .slice none 0 0, .slice none 0 0]) (by kernel_rfl) rfl) rfl ?_
 intro g4 w5 hS a hA
 refine seq_do hA rfl rfl rfl (d_assign rfl) ?_
 intro a hA
 refine seq_end ?_
 refine hK1 _ _ ?_
 refine wp_seq_k (fun K6 hK6 => ?_)
 refine wp_seq_k (fun K7 hK7 => ?_)
 refine wp_region_lit ?_
 refine seq_do hA rfl rfl rfl (d_loadS hS SmE_isS_26 rfl 1 rfl (cs := [.bool (rb u.num), .slice a1 ((words u.num.natAbs).length) ac1, .slice a2 ((words u.den).length) ac2, .bool (rb v.num), .slice a3 ((words v.num.natAbs).length) ac3, .slice a4 ((words v.den).length) ac4]) rfl rfl) ?_
 intro a hA
 refine seq_call hA rfl rfl rfl (enters_func  rfl rfl (fun w => by kernel_rfl)) (rsoundQ_any (show Nm _ (Q6.rat u v) a1 ac1 a2 ac2 a3 ac3 a4 ac4 from ⟨⟨(hS.rd 3 rfl), ha.s1.nil, ha.s1.cap⟩, ⟨(hS.rd 2 rfl), ha.s2.nil, ha.s2.cap⟩, ⟨(hS.rd 1 rfl), ha.s3.nil, ha.s3.cap⟩, ⟨(hS.rd 0 rfl), ha.s4.nil, ha.s4.cap⟩⟩) (lenQ_rat hu hv) (soundQ_rat hu hv)) ?_
 rintro _ w9 ⟨rfl, hb8⟩
 replace hS := hS.call hb8
 refine ⟨_, rfl, ?_⟩
 intro a hA
 refine seq_do (v := .bool false) hA rfl rfl rfl (d_un rfl un_not) ?_
 intro a hA
 refine seq_end ?_
 refine hK7 _ _ ?_
 refine wp_cond_false (hA.ev rfl) ?_
 refine wp_skip ?_
 refine hK6 _ _ ?_
 refine wp_seq_k (fun K10 hK10 => ?_)
 refine wp_seq_k (fun K11 hK11 => ?_)
 refine wp_region_lit ?_
 refine seq_do hA rfl rfl rfl (d_loadS hS SmE_isS_26 rfl 1 rfl (cs := [.bool (rb u.num), .slice a1 ((words u.num.natAbs).length) ac1, .slice a2 ((words u.den).length) ac2, .bool (rb v.num), .slice a3 ((words v.num.natAbs).length) ac3, .slice a4 ((words v.den).length) ac4]) rfl rfl) ?_
 intro a hA
 refine seq_call hA rfl rfl rfl (enters_func  rfl rfl (fun w => by kernel_rfl)) (rrealQ_any (show Nm _ (Q6.rat u v) a1 ac1 a2 ac2 a3 ac3 a4 ac4 from ⟨⟨(hS.rd 3 rfl), ha.s1.nil, ha.s1.cap⟩, ⟨(hS.rd 2 rfl), ha.s2.nil, ha.s2.cap⟩, ⟨(hS.rd 1 rfl), ha.s3.nil, ha.s3.cap⟩, ⟨(hS.rd 0 rfl), ha.s4.nil, ha.s4.cap⟩⟩) (lenQ_rat hu hv) h2) ?_
 rintro _ w13 ⟨rfl, hb12⟩
 replace hS := hS.call hb12
 refine ⟨_, rfl, ?_⟩
 intro a hA
 refine seq_do (v := .bool false) hA rfl rfl rfl (d_un rfl un_not) ?_
 intro a hA
 refine seq_end ?_
 refine hK11 _ _ ?_
 refine wp_cond_false (hA.ev rfl) ?_
 refine wp_skip ?_
 refine hK10 _ _ ?_
 refine wp_seq_k (fun K14 hK14 => ?_)
 refine wp_region_lit ?_
 refine seq_do (v := .pointer (some ⟨g2, 0, none⟩)) hA rfl rfl rfl (d_field SmE_fld_26_0 rfl rfl) ?_
 intro a hA
 refine seq_do hA rfl rfl rfl (d_loadS hS SmE_isS_24 rfl 1 rfl (cs := [.bool (rb u.num), .slice a1 ((words u.num.natAbs).length) ac1, .slice a2 ((words u.den).length) ac2]) rfl rfl) ?_
 intro a hA
 refine seq_call hA rfl rfl rfl (enters_func  rfl rfl (fun w => by kernel_rfl)) (rdownF_any ⟨(hS.rd 3 rfl), ha.s1.nil, ha.s1.cap⟩ ⟨(hS.rd 2 rfl), ha.s2.nil, ha.s2.cap⟩ (LR_u.mono (by decide)) hT) ?_
 rintro _ w19 ⟨f15_1, f15_c1, f15_2, f15_c2, rfl, hs16, hs17, hb18⟩
 replace hS := hS.call hb18
 replace hS := hS.addR hs16.rd
 replace hS := hS.addR hs17.rd
 refine ⟨_, rfl, ?_⟩
 intro a hA
 refine seq_call hA rfl rfl rfl (enters_func  rfl rfl (fun w => by kernel_rfl)) (rzero_any _) ?_
 rintro _ w24 ⟨f20_1, f20_c1, f20_2, f20_c2, rfl, hs21, hs22, hb23⟩
 replace hS := hS.call hb23
 replace hS := hS.addR hs21.rd
 replace hS := hS.addR hs22.rd
 refine ⟨_, rfl, ?_⟩
 intro a hA
 refine seq_do (v := .agg #[.bool ((rb T.num)), .slice f15_1 ((words T.num.natAbs).length) f15_c1, .slice f15_2 ((words T.den).length) f15_c2, .bool false, .slice f20_1 0 f20_c1, .slice f20_2 1 f20_c2]) hA rfl rfl rfl (d_build rfl (fun w => by kernel_rfl)) ?_
 intro a hA
 refine seq_call hA rfl rfl rfl (enters_func  rfl rfl (fun w => by kernel_rfl)) (rfit0_any (show Nm _ (Q6.real T) f15_1 f15_c1 f15_2 f15_c2 f20_1 f20_c1 f20_2 f20_c2 from ⟨⟨(hS.rd 3 rfl), hs16.nil, hs16.cap⟩, ⟨(hS.rd 2 rfl), hs17.nil, hs17.cap⟩, ⟨(hS.rd 1 rfl), hs21.nil, hs21.cap⟩, ⟨(hS.rd 0 rfl), hs22.nil, hs22.cap⟩⟩) LT) ?_
 rintro _ w28 ⟨p25_1, p25_c1, p25_2, p25_c2, p25_3, p25_c3, p25_4, p25_c4, rfl, hn26, hb27⟩
 replace hS := hS.call hb27
 replace hS := hS.addR hn26.s1.rd
 replace hS := hS.addR hn26.s2.rd
 replace hS := hS.addR hn26.s3.rd
 replace hS := hS.addR hn26.s4.rd
 refine ⟨_, rfl, ?_⟩
 intro a hA
 refine seq_do (v := .agg #[.bool ((ratS T 0).1.b1), .slice p25_1 (((ratS T 0).1.t1).length) p25_c1, .slice p25_2 (((ratS T 0).1.q1).length) p25_c2, .bool ((ratS T 0).1.b2), .slice p25_3 (((ratS T 0).1.t2).length) p25_c3, .slice p25_4 (((ratS T 0).1.q2).length) p25_c4]) hA rfl rfl rfl (d_extract (vs := [.agg #[.bool ((ratS T 0).1.b1), .slice p25_1 (((ratS T 0).1.t1).length) p25_c1, .slice p25_2 (((ratS T 0).1.q1).length) p25_c2, .bool ((ratS T 0).1.b2), .slice p25_3 (((ratS T 0).1.t2).length) p25_c3, .slice p25_4 (((ratS T 0).1.q2).length) p25_c4], .int .i64 ((ratS T 0).2)]) rfl rfl) ?_
 intro a hA
 refine seq_do (v := .int .i64 ((ratS T 0).2)) hA rfl rfl rfl (d_extract (vs := [.agg #[.bool ((ratS T 0).1.b1), .slice p25_1 (((ratS T 0).1.t1).length) p25_c1, .slice p25_2 (((ratS T 0).1.q1).length) p25_c2, .bool ((ratS T 0).1.b2), .slice p25_3 (((ratS T 0).1.t2).length) p25_c3, .slice p25_4 (((ratS T 0).1.q2).length) p25_c4], .int .i64 ((ratS T 0).2)]) rfl rfl) ?_
 intro a hA
 refine seq_store (us := [.bool ((ratS T 0).1.b1), .slice p25_1 (((ratS T 0).1.t1).length) p25_c1, .slice p25_2 (((ratS T 0).1.q1).length) p25_c2, .bool ((ratS T 0).1.b2), .slice p25_3 (((ratS T 0).1.t2).length) p25_c3, .slice p25_4 (((ratS T 0).1.q2).length) p25_c4]) hA hS rfl rfl (sets_store rfl rfl rfl (by kernel_rfl) hS 0 rfl rfl rfl) 0 rfl rfl rfl rfl ?_
 intro w29 hS
 refine seq_do hA rfl rfl rfl (d_assign rfl) ?_
 intro a hA
 refine seq_end ?_
 refine hK14 _ _ ?_
 refine wp_ret ?_
 refine hret _ _ ?_
 refine ends (v := .tuple #[.agg #[.bool ((ratS T 0).1.b1), .slice p25_1 (((ratS T 0).1.t1).length) p25_c1, .slice p25_2 (((ratS T 0).1.q1).length) p25_c2, .bool ((ratS T 0).1.b2), .slice p25_3 (((ratS T 0).1.t2).length) p25_c3, .slice p25_4 (((ratS T 0).1.q2).length) p25_c4], .int .i64 ((ratS T 0).2)]) hA rfl (.cons (res_cell hS SmE_isS_26 rfl 0 rfl (cs := [.bool ((ratS T 0).1.b1), .slice p25_1 (((ratS T 0).1.t1).length) p25_c1, .slice p25_2 (((ratS T 0).1.q1).length) p25_c2, .bool ((ratS T 0).1.b2), .slice p25_3 (((ratS T 0).1.t2).length) p25_c3, .slice p25_4 (((ratS T 0).1.q2).length) p25_c4]) rfl rfl) (.cons (res_tmp rfl) .nil)) rfl ?_
 exact ⟨p25_1, p25_c1, p25_2, p25_c2, p25_3, p25_c3, p25_4, p25_c4, rfl, ⟨⟨(hS.rd 3 rfl), hn26.s1.nil, hn26.s1.cap⟩, ⟨(hS.rd 2 rfl), hn26.s2.nil, hn26.s2.cap⟩, ⟨(hS.rd 1 rfl), hn26.s3.nil, hn26.s3.cap⟩, ⟨(hS.rd 0 rfl), hn26.s4.nil, hn26.s4.cap⟩⟩, hS.bel⟩
theorem lenR_flo {u : Rat} {k : Nat} (h : LenR k u) (hk : 1 ≤ k) : LenR (k + 1) ((floR u : Int) : Rat) := by
  refine ⟨floR_len h.1, ?_⟩
  rw [den_int, words_one]
  simp
theorem rfloorQ_any {w : World} {q : Q6} {a1 a2 a3 a4 : Option Addr} {ac1 ac2 ac3 ac4 : Nat} (ha : Nm w q a1 ac1 a2 ac2 a3 ac3 a4 ac4) (hl : LenQ q) : Calls Tryz.prog 27 #[numV q a1 ac1 a2 ac2 a3 ac3 a4 ac4] w (AnsN w (floorQ q)) := by
  unfold floorQ
  rcases sound_cases ha with h1 | ⟨u, v, rfl, hu, hv⟩
  · rw [wantR1_bad h1, if_neg (by decide)]
    exact rfloE0_any ha hl h1
  by_cases h2 : (Q6.rat u v).t2.length = 0
  · rw [wantR1_ok (soundQ_rat hu hv) h2, if_pos rfl, reQ_rat]
    exact rfloW_any ha hu hv (fit_lenR hu) (decide_eq_true h2) rfl ((lenR_flo (fit_lenR hu) (by decide)).mono (by decide))
  · rw [wantR1_type (soundQ_rat hu hv) h2, if_neg (by decide)]
    exact rfloE1_any ha hl (soundQ_rat hu hv) (decide_eq_false h2)
end Go.Proofs.YthlkbnhbmfmchaaGreat
namespace Go.Proofs.YthlkbnhbmfmchaaGreat
open Go.RowKit
set_option linter.unusedVariables false
set_option linter.unusedSimpArgs false
set_option maxRecDepth 100000
theorem ExR_isS_26 : IsS Tryz.prog 26 6 := ⟨⟨_, Tryz.underlying26⟩, by kernel_rfl⟩
theorem ExR_isS_55 : IsS Tryz.prog 55 5 := ⟨⟨_, Tryz.underlying55⟩, by kernel_rfl⟩
theorem zdivmod_as {w : World} {x1 y1 x2 y2 : Int} {d1 d2 : Nat} {a1 a2 a3 : Option Addr} {ac1 ac2 ac3 : Nat} (ha1 : Sc w a1 ac1 (words x1.natAbs)) (ha2 : Sc w a2 ac2 (words y1.natAbs)) (ha3 : Sc w a3 ac3 (words d1)) {u1 u2 u3 : Option Addr} {uc1 uc2 uc3 : Nat} (hu1 : Sc w u1 uc1 (words x2.natAbs)) (hu2 : Sc w u2 uc2 (words y2.natAbs)) (hu3 : Sc w u3 uc3 (words d2)) (la1 : (words x1.natAbs).length ≤ 10000) (la2 : (words y1.natAbs).length ≤ 10000) (la3 : (words d1).length ≤ 10000) (lu1 : (words x2.natAbs).length ≤ 10000) (lu2 : (words y2.natAbs).length ≤ 10000) (lu3 : (words d2).length ≤ 10000) (h1 : d1 ≠ 0) (h2 : x2 ≠ 0) {T : Int} {R D : Nat} (hT : dmT x1 x2 d1 d2 = T) (hR : dmR x1 x2 d1 d2 = R) (hD : d1 * d2 = D) : Calls Tryz.prog 67 #[.agg #[.bool (rb x1), .slice a1 (words x1.natAbs).length ac1, .bool (rb y1), .slice a2 (words y1.natAbs).length ac2, .slice a3 (words d1).length ac3], .agg #[.bool (rb x2), .slice u1 (words x2.natAbs).length uc1, .bool (rb y2), .slice u2 (words y2.natAbs).length uc2, .slice u3 (words d2).length uc3]] w (AnsRR w T 1 ((R : Nat) : Int) D) := by
  subst hT hR hD
  exact zdivmod_any ha1 ha2 ha3 hu1 hu2 hu3 la1 la2 la3 lu1 lu2 lu3 h1 h2
theorem dmE_any {w : World} {p q : Q6} {a1 a2 a3 a4 : Option Addr} {ac1 ac2 ac3 ac4 : Nat} (ha : Nm w p a1 ac1 a2 ac2 a3 ac3 a4 ac4) (hl : LenQ p) {u1 u2 u3 u4 : Option Addr} {uc1 uc2 uc3 uc4 : Nat} (hb : Nm w q u1 uc1 u2 uc2 u3 uc3 u4 uc4) (hm : LenQ q) (hw : (wantR2 p q != 0) = true) : Calls Tryz.prog 28 #[numV p a1 ac1 a2 ac2 a3 ac3 a4 ac4, numV q u1 uc1 u2 uc2 u3 uc3 u4 uc4] w (AnsNN w (Q6.zero, Q6.zero, wantR2 p q)) := by
 have hS : St w w [] [(u4, q.q2), (u3, q.t2), (u2, q.q1), (u1, q.t1), (a4, p.q2), (a3, p.t2), (a2, p.q1), (a1, p.t1)] [] := ((((((((St.start w).addR ha.s1.rd).addR ha.s2.rd).addR ha.s3.rd).addR ha.s4.rd).addR hb.s1.rd).addR hb.s2.rd).addR hb.s3.rd).addR hb.s4.rd
 refine walk_of (l := [(0, .agg #[.bool p.b1, .slice a1 p.t1.length ac1, .slice a2 p.q1.length ac2, .bool p.b2, .slice a3 p.t2.length ac3, .slice a4 p.q2.length ac4]), (1, .agg #[.bool q.b1, .slice u1 q.t1.length uc1, .slice u2 q.q1.length uc2, .bool q.b2, .slice u3 q.t2.length uc3, .slice u4 q.q2.length uc4])]) Tryz.func28 rfl Tryz.ntmps28 rfl rfl ?_
 intro Q hret hnorm hP a hA
 refine wp_seq_k (fun K1 hK1 => ?_)
 refine wp_region_lit ?_
 refine seq_new hA hS rfl rfl rfl (fun g => .pointer (some ⟨g, 0, none⟩)) (d_box rfl rfl) rfl ?_
 intro g2 w3 hS a hA
 refine seq_new hA hS rfl rfl rfl (fun g => .pointer (some ⟨g, 0, none⟩)) (d_box rfl rfl) rfl ?_
 intro g4 w5 hS a hA
 refine seq_new (vs := [.bool false, .slice none 0 0, .slice none 0 0, .bool false, .slice none 0 0, .slice none 0 0]) (t := 26) hA hS rfl rfl rfl (fun g => .pointer (some ⟨g, 0, none⟩)) (d_alloc (z := .agg #[.bool false, .slice none 0 0, .slice none 0 0, .bool false, .slice none 0 0, .slice none 0 0]) (by kernel_rfl) rfl) rfl ?_
 intro g6 w7 hS a hA
 refine seq_new (vs := [.bool false, .slice none 0 0, .slice none 0 0, .bool false, .slice none 0 0, .slice none 0 0]) (t := 26) hA hS rfl rfl rfl (fun g => .pointer (some ⟨g, 0, none⟩)) (d_alloc (z := .agg #[.bool false, .slice none 0 0, .slice none 0 0, .bool false, .slice none 0 0, .slice none 0 0]) (by kernel_rfl) rfl) rfl ?_
 intro g8 w9 hS a hA
 refine seq_do hA rfl rfl rfl (d_assign rfl) ?_
 intro a hA
 refine seq_end ?_
 refine hK1 _ _ ?_
 refine wp_seq_k (fun K10 hK10 => ?_)
 refine wp_seq_k (fun K11 hK11 => ?_)
 refine wp_region_lit ?_
 refine seq_do hA rfl rfl rfl (d_loadS hS ExR_isS_26 rfl 3 rfl (cs := [.bool p.b1, .slice a1 p.t1.length ac1, .slice a2 p.q1.length ac2, .bool p.b2, .slice a3 p.t2.length ac3, .slice a4 p.q2.length ac4]) rfl rfl) ?_
 intro a hA
 refine seq_do hA rfl rfl rfl (d_loadS hS ExR_isS_26 rfl 2 rfl (cs := [.bool q.b1, .slice u1 q.t1.length uc1, .slice u2 q.q1.length uc2, .bool q.b2, .slice u3 q.t2.length uc3, .slice u4 q.q2.length uc4]) rfl rfl) ?_
 intro a hA
 refine seq_new (vs := [.bool p.b1, .slice a1 p.t1.length ac1, .slice a2 p.q1.length ac2, .bool p.b2, .slice a3 p.t2.length ac3, .slice a4 p.q2.length ac4, .bool q.b1, .slice u1 q.t1.length uc1, .slice u2 q.q1.length uc2, .bool q.b2, .slice u3 q.t2.length uc3, .slice u4 q.q2.length uc4]) (t := 26) hA hS rfl rfl rfl (fun g => .slice (some ⟨g, 0, none⟩) 2 2) (d_buildSlice rfl (by kernel_rfl)) rfl ?_
 intro g12 w13 hS a hA
 refine seq_call hA rfl rfl rfl (enters_func  rfl rfl (fun w => by kernel_rfl)) (wantR2_any (show Nm _ p a1 ac1 a2 ac2 a3 ac3 a4 ac4 from ⟨⟨(hS.rd 7 rfl), ha.s1.nil, ha.s1.cap⟩, ⟨(hS.rd 6 rfl), ha.s2.nil, ha.s2.cap⟩, ⟨(hS.rd 5 rfl), ha.s3.nil, ha.s3.cap⟩, ⟨(hS.rd 4 rfl), ha.s4.nil, ha.s4.cap⟩⟩) hl (show Nm _ q u1 uc1 u2 uc2 u3 uc3 u4 uc4 from ⟨⟨(hS.rd 3 rfl), hb.s1.nil, hb.s1.cap⟩, ⟨(hS.rd 2 rfl), hb.s2.nil, hb.s2.cap⟩, ⟨(hS.rd 1 rfl), hb.s3.nil, hb.s3.cap⟩, ⟨(hS.rd 0 rfl), hb.s4.nil, hb.s4.cap⟩⟩) hm (hS.blk 0 rfl) rfl) ?_
 rintro _ w15 ⟨rfl, hb14⟩
 replace hS := hS.call hb14
 refine ⟨_, rfl, ?_⟩
 intro a hA
 refine seq_do hA rfl rfl rfl (d_assign rfl) ?_
 intro a hA
 refine seq_end ?_
 refine hK11 _ _ ?_
 refine wp_seq_k (fun K16 hK16 => ?_)
 refine wp_region_lit ?_
 refine seq_do hA rfl rfl rfl (d_move rfl) ?_
 intro a hA
 refine seq_do (v := .bool true) hA rfl rfl rfl (d_bin rfl rfl (fun w => (bin_neq w).trans (by rw [show ((wantR2 p q != 0)) = true from hw]))) ?_
 intro a hA
 refine seq_end ?_
 refine hK16 _ _ ?_
 refine wp_cond_true (hA.ev rfl) ?_
 refine wp_seq_k (fun K17 hK17 => ?_)
 refine wp_region_lit ?_
 refine seq_do (v := .agg #[.bool false, .slice none 0 0, .slice none 0 0, .bool false, .slice none 0 0, .slice none 0 0]) hA rfl rfl rfl (d_build rfl (fun w => by kernel_rfl)) ?_
 intro a hA
 refine seq_do (v := .agg #[.bool false, .slice none 0 0, .slice none 0 0, .bool false, .slice none 0 0, .slice none 0 0]) hA rfl rfl rfl (d_build rfl (fun w => by kernel_rfl)) ?_
 intro a hA
 refine seq_do hA rfl rfl rfl (d_move rfl) ?_
 intro a hA
 refine seq_store (us := [.bool false, .slice none 0 0, .slice none 0 0, .bool false, .slice none 0 0, .slice none 0 0]) hA hS rfl rfl (sets_store rfl rfl rfl (by kernel_rfl) hS 2 rfl rfl rfl) 2 rfl rfl rfl rfl ?_
 intro w18 hS
 refine seq_store (us := [.bool false, .slice none 0 0, .slice none 0 0, .bool false, .slice none 0 0, .slice none 0 0]) hA hS rfl rfl (sets_store rfl rfl rfl (by kernel_rfl) hS 1 rfl rfl rfl) 1 rfl rfl rfl rfl ?_
 intro w19 hS
 refine seq_do hA rfl rfl rfl (d_assign rfl) ?_
 intro a hA
 refine seq_end ?_
 refine hK17 _ _ ?_
 refine wp_ret ?_
 refine hret _ _ ?_
 refine ends (v := .tuple #[.agg #[.bool false, .slice none 0 0, .slice none 0 0, .bool false, .slice none 0 0, .slice none 0 0], .agg #[.bool false, .slice none 0 0, .slice none 0 0, .bool false, .slice none 0 0, .slice none 0 0], .int .i64 (wantR2 p q)]) hA rfl (.cons (res_cell hS ExR_isS_26 rfl 2 rfl (cs := [.bool false, .slice none 0 0, .slice none 0 0, .bool false, .slice none 0 0, .slice none 0 0]) rfl rfl) (.cons (res_cell hS ExR_isS_26 rfl 1 rfl (cs := [.bool false, .slice none 0 0, .slice none 0 0, .bool false, .slice none 0 0, .slice none 0 0]) rfl rfl) (.cons (res_tmp rfl) .nil))) rfl ?_
 exact ⟨none, 0, none, 0, none, 0, none, 0, none, 0, none, 0, none, 0, none, 0, rfl, ⟨(Sc.none _), (Sc.none _), (Sc.none _), (Sc.none _)⟩, ⟨(Sc.none _), (Sc.none _), (Sc.none _), (Sc.none _)⟩, hS.bel⟩
theorem dmZ_any {w : World} {u v x y : Rat} {a1 a2 a3 a4 : Option Addr} {ac1 ac2 ac3 ac4 : Nat} (ha : Nm w (Q6.rat u v) a1 ac1 a2 ac2 a3 ac3 a4 ac4) {u1 u2 u3 u4 : Option Addr} {uc1 uc2 uc3 uc4 : Nat} (hb : Nm w (Q6.rat x y) u1 uc1 u2 uc2 u3 uc3 u4 uc4) (hu : fitR u) (hv : fitR v) (hx : fitR x) (hy : fitR y) (hw : wantR2 (Q6.rat u v) (Q6.rat x y) = 0) (hz : x = 0 ∧ y = 0) : Calls Tryz.prog 28 #[numV (Q6.rat u v) a1 ac1 a2 ac2 a3 ac3 a4 ac4, numV (Q6.rat x y) u1 uc1 u2 uc2 u3 uc3 u4 uc4] w (AnsNN w (Q6.zero, Q6.zero, 3)) := by
 have k1 : (words x.num.natAbs).length ≤ 512 := hx.1
 have k2 : (words y.num.natAbs).length ≤ 512 := hy.1
 have hS : St w w [] [(u4, words y.den), (u3, words y.num.natAbs), (u2, words x.den), (u1, words x.num.natAbs), (a4, words v.den), (a3, words v.num.natAbs), (a2, words u.den), (a1, words u.num.natAbs)] [] := ((((((((St.start w).addR ha.s1.rd).addR ha.s2.rd).addR ha.s3.rd).addR ha.s4.rd).addR hb.s1.rd).addR hb.s2.rd).addR hb.s3.rd).addR hb.s4.rd
 refine walk_of (l := [(0, .agg #[.bool (rb u.num), .slice a1 ((words u.num.natAbs).length) ac1, .slice a2 ((words u.den).length) ac2, .bool (rb v.num), .slice a3 ((words v.num.natAbs).length) ac3, .slice a4 ((words v.den).length) ac4]), (1, .agg #[.bool (rb x.num), .slice u1 ((words x.num.natAbs).length) uc1, .slice u2 ((words x.den).length) uc2, .bool (rb y.num), .slice u3 ((words y.num.natAbs).length) uc3, .slice u4 ((words y.den).length) uc4])]) Tryz.func28 rfl Tryz.ntmps28 rfl rfl ?_
 intro Q hret hnorm hP a hA
 refine wp_seq_k (fun K1 hK1 => ?_)
 refine wp_region_lit ?_
 refine seq_new hA hS rfl rfl rfl (fun g => .pointer (some ⟨g, 0, none⟩)) (d_box rfl rfl) rfl ?_
 intro g2 w3 hS a hA
 refine seq_new hA hS rfl rfl rfl (fun g => .pointer (some ⟨g, 0, none⟩)) (d_box rfl rfl) rfl ?_
 intro g4 w5 hS a hA
 refine seq_new (vs := [.bool false, .slice none 0 0, .slice none 0 0, .bool false, .slice none 0 0, .slice none 0 0]) (t := 26) hA hS rfl rfl rfl (fun g => .pointer (some ⟨g, 0, none⟩)) (d_alloc (z := .agg #[.bool false, .slice none 0 0, .slice none 0 0, .bool false, .slice none 0 0, .slice none 0 0]) (by kernel_rfl) rfl) rfl ?_
 intro g6 w7 hS a hA
 refine seq_new (vs := [.bool false, .slice none 0 0, .slice none 0 0, .bool false, .slice none 0 0, .slice none 0 0]) (t := 26) hA hS rfl rfl rfl (fun g => .pointer (some ⟨g, 0, none⟩)) (d_alloc (z := .agg #[.bool false, .slice none 0 0, .slice none 0 0, .bool false, .slice none 0 0, .slice none 0 0]) (by kernel_rfl) rfl) rfl ?_
 intro g8 w9 hS a hA
 refine seq_do hA rfl rfl rfl (d_assign rfl) ?_
 intro a hA
 refine seq_end ?_
 refine hK1 _ _ ?_
 refine wp_seq_k (fun K10 hK10 => ?_)
 refine wp_seq_k (fun K11 hK11 => ?_)
 refine wp_region_lit ?_
 refine seq_do hA rfl rfl rfl (d_loadS hS ExR_isS_26 rfl 3 rfl (cs := [.bool (rb u.num), .slice a1 ((words u.num.natAbs).length) ac1, .slice a2 ((words u.den).length) ac2, .bool (rb v.num), .slice a3 ((words v.num.natAbs).length) ac3, .slice a4 ((words v.den).length) ac4]) rfl rfl) ?_
 intro a hA
 refine seq_do hA rfl rfl rfl (d_loadS hS ExR_isS_26 rfl 2 rfl (cs := [.bool (rb x.num), .slice u1 ((words x.num.natAbs).length) uc1, .slice u2 ((words x.den).length) uc2, .bool (rb y.num), .slice u3 ((words y.num.natAbs).length) uc3, .slice u4 ((words y.den).length) uc4]) rfl rfl) ?_
 intro a hA
 refine seq_new (vs := [.bool (rb u.num), .slice a1 ((words u.num.natAbs).length) ac1, .slice a2 ((words u.den).length) ac2, .bool (rb v.num), .slice a3 ((words v.num.natAbs).length) ac3, .slice a4 ((words v.den).length) ac4, .bool (rb x.num), .slice u1 ((words x.num.natAbs).length) uc1, .slice u2 ((words x.den).length) uc2, .bool (rb y.num), .slice u3 ((words y.num.natAbs).length) uc3, .slice u4 ((words y.den).length) uc4]) (t := 26) hA hS rfl rfl rfl (fun g => .slice (some ⟨g, 0, none⟩) 2 2) (d_buildSlice rfl (by kernel_rfl)) rfl ?_
 intro g12 w13 hS a hA
 refine seq_call hA rfl rfl rfl (enters_func  rfl rfl (fun w => by kernel_rfl)) (wantR2_any (show Nm _ (Q6.rat u v) a1 ac1 a2 ac2 a3 ac3 a4 ac4 from ⟨⟨(hS.rd 7 rfl), ha.s1.nil, ha.s1.cap⟩, ⟨(hS.rd 6 rfl), ha.s2.nil, ha.s2.cap⟩, ⟨(hS.rd 5 rfl), ha.s3.nil, ha.s3.cap⟩, ⟨(hS.rd 4 rfl), ha.s4.nil, ha.s4.cap⟩⟩) (lenQ_rat hu hv) (show Nm _ (Q6.rat x y) u1 uc1 u2 uc2 u3 uc3 u4 uc4 from ⟨⟨(hS.rd 3 rfl), hb.s1.nil, hb.s1.cap⟩, ⟨(hS.rd 2 rfl), hb.s2.nil, hb.s2.cap⟩, ⟨(hS.rd 1 rfl), hb.s3.nil, hb.s3.cap⟩, ⟨(hS.rd 0 rfl), hb.s4.nil, hb.s4.cap⟩⟩) (lenQ_rat hx hy) (hS.blk 0 rfl) hw) ?_
 rintro _ w15 ⟨rfl, hb14⟩
 replace hS := hS.call hb14
 refine ⟨_, rfl, ?_⟩
 intro a hA
 refine seq_do hA rfl rfl rfl (d_assign rfl) ?_
 intro a hA
 refine seq_end ?_
 refine hK11 _ _ ?_
 refine wp_seq_k (fun K16 hK16 => ?_)
 refine wp_region_lit ?_
 refine seq_do hA rfl rfl rfl (d_move rfl) ?_
 intro a hA
 refine seq_do (v := .bool false) hA rfl rfl rfl (d_bin rfl rfl (fun w => by kernel_rfl)) ?_
 intro a hA
 refine seq_end ?_
 refine hK16 _ _ ?_
 refine wp_cond_false (hA.ev rfl) ?_
 refine wp_skip ?_
 refine hK10 _ _ ?_
 refine wp_seq_k (fun K17 hK17 => ?_)
 refine wp_seq_k (fun K18 hK18 => ?_)
 refine wp_region_lit ?_
 refine seq_do hA rfl rfl rfl (d_loadS hS ExR_isS_26 rfl 3 rfl (cs := [.bool (rb x.num), .slice u1 ((words x.num.natAbs).length) uc1, .slice u2 ((words x.den).length) uc2, .bool (rb y.num), .slice u3 ((words y.num.natAbs).length) uc3, .slice u4 ((words y.den).length) uc4]) rfl rfl) ?_
 intro a hA
 refine seq_call hA rfl rfl rfl (enters_func  rfl rfl (fun w => by kernel_rfl)) ((show Calls Tryz.prog 66 #[.agg #[.bool (rb x.num), .slice u1 ((words x.num.natAbs).length) uc1, .slice u2 ((words x.den).length) uc2, .bool (rb y.num), .slice u3 ((words y.num.natAbs).length) uc3, .slice u4 ((words y.den).length) uc4]] _ (fun e w' => e = .returned (.bool true) ∧ _) from (((zero_rat x y).trans (decide_eq_true hz)) ▸ isZero_any (by omega) (by omega)))) ?_
 rintro _ w20 ⟨rfl, hb19⟩
 replace hS := hS.call hb19
 refine ⟨_, rfl, ?_⟩
 intro a hA
 refine seq_end ?_
 refine hK18 _ _ ?_
 refine wp_cond_true (hA.ev rfl) ?_
 refine wp_seq_k (fun K21 hK21 => ?_)
 refine wp_region_lit ?_
 refine seq_do (v := .agg #[.bool false, .slice none 0 0, .slice none 0 0, .bool false, .slice none 0 0, .slice none 0 0]) hA rfl rfl rfl (d_build rfl (fun w => by kernel_rfl)) ?_
 intro a hA
 refine seq_do (v := .agg #[.bool false, .slice none 0 0, .slice none 0 0, .bool false, .slice none 0 0, .slice none 0 0]) hA rfl rfl rfl (d_build rfl (fun w => by kernel_rfl)) ?_
 intro a hA
 refine seq_store (us := [.bool false, .slice none 0 0, .slice none 0 0, .bool false, .slice none 0 0, .slice none 0 0]) hA hS rfl rfl (sets_store rfl rfl rfl (by kernel_rfl) hS 2 rfl rfl rfl) 2 rfl rfl rfl rfl ?_
 intro w22 hS
 refine seq_store (us := [.bool false, .slice none 0 0, .slice none 0 0, .bool false, .slice none 0 0, .slice none 0 0]) hA hS rfl rfl (sets_store rfl rfl rfl (by kernel_rfl) hS 1 rfl rfl rfl) 1 rfl rfl rfl rfl ?_
 intro w23 hS
 refine seq_do hA rfl rfl rfl (d_assign rfl) ?_
 intro a hA
 refine seq_end ?_
 refine hK21 _ _ ?_
 refine wp_ret ?_
 refine hret _ _ ?_
 refine ends (v := .tuple #[.agg #[.bool false, .slice none 0 0, .slice none 0 0, .bool false, .slice none 0 0, .slice none 0 0], .agg #[.bool false, .slice none 0 0, .slice none 0 0, .bool false, .slice none 0 0, .slice none 0 0], .int .i64 3]) hA rfl (.cons (res_cell hS ExR_isS_26 rfl 2 rfl (cs := [.bool false, .slice none 0 0, .slice none 0 0, .bool false, .slice none 0 0, .slice none 0 0]) rfl rfl) (.cons (res_cell hS ExR_isS_26 rfl 1 rfl (cs := [.bool false, .slice none 0 0, .slice none 0 0, .bool false, .slice none 0 0, .slice none 0 0]) rfl rfl) (.cons (res_tmp rfl) .nil))) rfl ?_
 exact ⟨none, 0, none, 0, none, 0, none, 0, none, 0, none, 0, none, 0, none, 0, rfl, ⟨(Sc.none _), (Sc.none _), (Sc.none _), (Sc.none _)⟩, ⟨(Sc.none _), (Sc.none _), (Sc.none _), (Sc.none _)⟩, hS.bel⟩
set_option maxHeartbeats 1000000 in
theorem dmW_any {w : World} {u v x y : Rat} {a1 a2 a3 a4 : Option Addr} {ac1 ac2 ac3 ac4 : Nat} (ha : Nm w (Q6.rat u v) a1 ac1 a2 ac2 a3 ac3 a4 ac4) {u1 u2 u3 u4 : Option Addr} {uc1 uc2 uc3 uc4 : Nat} (hb : Nm w (Q6.rat x y) u1 uc1 u2 uc2 u3 uc3 u4 uc4) (hu : fitR u) (hv : fitR v) (hx : fitR x) (hy : fitR y) (hw : wantR2 (Q6.rat u v) (Q6.rat x y) = 0) (hz : ¬ (x = 0 ∧ y = 0)) (hx2 : spX x y ≠ 0) {T : Int} {R D : Nat} (hT : dmT (spX u v) (spX x y) (spD u v) (spD x y) = T) (hR : dmR (spX u v) (spX x y) (spD u v) (spD x y) = R) (hD : spD u v * spD x y = D) (hD0 : D ≠ 0) (n1 : (words T.natAbs).length ≤ 3000) (n2 : (words ((R : Nat) : Int).natAbs).length ≤ 3000) (n3 : (words 1).length ≤ 512) (n4 : (words D).length ≤ 3000) {z1 z2 : Q6 × Int} (e1 : setQ T 0 1 = z1) (e2 : setQ ((R : Nat) : Int) 0 D = z2) : Calls Tryz.prog 28 #[numV (Q6.rat u v) a1 ac1 a2 ac2 a3 ac3 a4 ac4, numV (Q6.rat x y) u1 uc1 u2 uc2 u3 uc3 u4 uc4] w (AnsNN w (dmS z1 z2)) := by
 have k1 : (words x.num.natAbs).length ≤ 512 := hx.1
 have k2 : (words y.num.natAbs).length ≤ 512 := hy.1
 have hS : St w w [] [(u4, words y.den), (u3, words y.num.natAbs), (u2, words x.den), (u1, words x.num.natAbs), (a4, words v.den), (a3, words v.num.natAbs), (a2, words u.den), (a1, words u.num.natAbs)] [] := ((((((((St.start w).addR ha.s1.rd).addR ha.s2.rd).addR ha.s3.rd).addR ha.s4.rd).addR hb.s1.rd).addR hb.s2.rd).addR hb.s3.rd).addR hb.s4.rd
 refine walk_of (l := [(0, .agg #[.bool (rb u.num), .slice a1 ((words u.num.natAbs).length) ac1, .slice a2 ((words u.den).length) ac2, .bool (rb v.num), .slice a3 ((words v.num.natAbs).length) ac3, .slice a4 ((words v.den).length) ac4]), (1, .agg #[.bool (rb x.num), .slice u1 ((words x.num.natAbs).length) uc1, .slice u2 ((words x.den).length) uc2, .bool (rb y.num), .slice u3 ((words y.num.natAbs).length) uc3, .slice u4 ((words y.den).length) uc4])]) Tryz.func28 rfl Tryz.ntmps28 rfl rfl ?_
 intro Q hret hnorm hP a hA
 refine wp_seq_k (fun K1 hK1 => ?_)
 refine wp_region_lit ?_
 refine seq_new hA hS rfl rfl rfl (fun g => .pointer (some ⟨g, 0, none⟩)) (d_box rfl rfl) rfl ?_
 intro g2 w3 hS a hA
 refine seq_new hA hS rfl rfl rfl (fun g => .pointer (some ⟨g, 0, none⟩)) (d_box rfl rfl) rfl ?_
 intro g4 w5 hS a hA
 refine seq_new (vs := [.bool false, .slice none 0 0, .slice none 0 0, .bool false, .slice none 0 0, .slice none 0 0]) (t := 26) hA hS rfl rfl rfl (fun g => .pointer (some ⟨g, 0, none⟩)) (d_alloc (z := .agg #[.bool false, .slice none 0 0, .slice none 0 0, .bool false, .slice none 0 0, .slice none 0 0]) (by kernel_rfl) rfl) rfl ?_
 intro g6 w7 hS a hA
 refine seq_new (vs := [.bool false, .slice none 0 0, .slice none 0 0, .bool false, .slice none 0 0, .slice none 0 0]) (t := 26) hA hS rfl rfl rfl (fun g => .pointer (some ⟨g, 0, none⟩)) (d_alloc (z := .agg #[.bool false, .slice none 0 0, .slice none 0 0, .bool false, .slice none 0 0, .slice none 0 0]) (by kernel_rfl) rfl) rfl ?_
 intro g8 w9 hS a hA
 refine seq_do hA rfl rfl rfl (d_assign rfl) ?_
 intro a hA
 refine seq_end ?_
 refine hK1 _ _ ?_
 refine wp_seq_k (fun K10 hK10 => ?_)
 refine wp_seq_k (fun K11 hK11 => ?_)
 refine wp_region_lit ?_
 refine seq_do hA rfl rfl rfl (d_loadS hS ExR_isS_26 rfl 3 rfl (cs := [.bool (rb u.num), .slice a1 ((words u.num.natAbs).length) ac1, .slice a2 ((words u.den).length) ac2, .bool (rb v.num), .slice a3 ((words v.num.natAbs).length) ac3, .slice a4 ((words v.den).length) ac4]) rfl rfl) ?_
 intro a hA
 refine seq_do hA rfl rfl rfl (d_loadS hS ExR_isS_26 rfl 2 rfl (cs := [.bool (rb x.num), .slice u1 ((words x.num.natAbs).length) uc1, .slice u2 ((words x.den).length) uc2, .bool (rb y.num), .slice u3 ((words y.num.natAbs).length) uc3, .slice u4 ((words y.den).length) uc4]) rfl rfl) ?_
 intro a hA
 refine seq_new (vs := [.bool (rb u.num), .slice a1 ((words u.num.natAbs).length) ac1, .slice a2 ((words u.den).length) ac2, .bool (rb v.num), .slice a3 ((words v.num.natAbs).length) ac3, .slice a4 ((words v.den).length) ac4, .bool (rb x.num), .slice u1 ((words x.num.natAbs).length) uc1, .slice u2 ((words x.den).length) uc2, .bool (rb y.num), .slice u3 ((words y.num.natAbs).length) uc3, .slice u4 ((words y.den).length) uc4]) (t := 26) hA hS rfl rfl rfl (fun g => .slice (some ⟨g, 0, none⟩) 2 2) (d_buildSlice rfl (by kernel_rfl)) rfl ?_
 intro g12 w13 hS a hA
 refine seq_call hA rfl rfl rfl (enters_func  rfl rfl (fun w => by kernel_rfl)) (wantR2_any (show Nm _ (Q6.rat u v) a1 ac1 a2 ac2 a3 ac3 a4 ac4 from ⟨⟨(hS.rd 7 rfl), ha.s1.nil, ha.s1.cap⟩, ⟨(hS.rd 6 rfl), ha.s2.nil, ha.s2.cap⟩, ⟨(hS.rd 5 rfl), ha.s3.nil, ha.s3.cap⟩, ⟨(hS.rd 4 rfl), ha.s4.nil, ha.s4.cap⟩⟩) (lenQ_rat hu hv) (show Nm _ (Q6.rat x y) u1 uc1 u2 uc2 u3 uc3 u4 uc4 from ⟨⟨(hS.rd 3 rfl), hb.s1.nil, hb.s1.cap⟩, ⟨(hS.rd 2 rfl), hb.s2.nil, hb.s2.cap⟩, ⟨(hS.rd 1 rfl), hb.s3.nil, hb.s3.cap⟩, ⟨(hS.rd 0 rfl), hb.s4.nil, hb.s4.cap⟩⟩) (lenQ_rat hx hy) (hS.blk 0 rfl) hw) ?_
 rintro _ w15 ⟨rfl, hb14⟩
 replace hS := hS.call hb14
 refine ⟨_, rfl, ?_⟩
 intro a hA
 refine seq_do hA rfl rfl rfl (d_assign rfl) ?_
 intro a hA
 refine seq_end ?_
 refine hK11 _ _ ?_
 refine wp_seq_k (fun K16 hK16 => ?_)
 refine wp_region_lit ?_
 refine seq_do hA rfl rfl rfl (d_move rfl) ?_
 intro a hA
 refine seq_do (v := .bool false) hA rfl rfl rfl (d_bin rfl rfl (fun w => by kernel_rfl)) ?_
 intro a hA
 refine seq_end ?_
 refine hK16 _ _ ?_
 refine wp_cond_false (hA.ev rfl) ?_
 refine wp_skip ?_
 refine hK10 _ _ ?_
 refine wp_seq_k (fun K17 hK17 => ?_)
 refine wp_seq_k (fun K18 hK18 => ?_)
 refine wp_region_lit ?_
 refine seq_do hA rfl rfl rfl (d_loadS hS ExR_isS_26 rfl 3 rfl (cs := [.bool (rb x.num), .slice u1 ((words x.num.natAbs).length) uc1, .slice u2 ((words x.den).length) uc2, .bool (rb y.num), .slice u3 ((words y.num.natAbs).length) uc3, .slice u4 ((words y.den).length) uc4]) rfl rfl) ?_
 intro a hA
 refine seq_call hA rfl rfl rfl (enters_func  rfl rfl (fun w => by kernel_rfl)) ((show Calls Tryz.prog 66 #[.agg #[.bool (rb x.num), .slice u1 ((words x.num.natAbs).length) uc1, .slice u2 ((words x.den).length) uc2, .bool (rb y.num), .slice u3 ((words y.num.natAbs).length) uc3, .slice u4 ((words y.den).length) uc4]] _ (fun e w' => e = .returned (.bool false) ∧ _) from (((zero_rat x y).trans (decide_eq_false hz)) ▸ isZero_any (by omega) (by omega)))) ?_
 rintro _ w20 ⟨rfl, hb19⟩
 replace hS := hS.call hb19
 refine ⟨_, rfl, ?_⟩
 intro a hA
 refine seq_end ?_
 refine hK18 _ _ ?_
 refine wp_cond_false (hA.ev rfl) ?_
 refine wp_skip ?_
 refine hK17 _ _ ?_
 refine wp_seq_k (fun K21 hK21 => ?_)
 have hJ72 : ∀ a w1, (∃ (J54g : Nat) (J55g : Nat) (J56 : Option Addr) (J57 : Nat) (J58 : Option Addr) (J59 : Nat) (J60 : Option Addr) (J61 : Nat) (J62 : Option Addr) (J63 : Nat), Sl a 53 [(0, .agg #[.bool (rb u.num), .slice a1 ((words u.num.natAbs).length) ac1, .slice a2 ((words u.den).length) ac2, .bool (rb v.num), .slice a3 ((words v.num.natAbs).length) ac3, .slice a4 ((words v.den).length) ac4]), (1, .agg #[.bool (rb x.num), .slice u1 ((words x.num.natAbs).length) uc1, .slice u2 ((words x.den).length) uc2, .bool (rb y.num), .slice u3 ((words y.num.natAbs).length) uc3, .slice u4 ((words y.den).length) uc4]), (2, .pointer (some ⟨g2, 0, none⟩)), (3, .pointer (some ⟨g4, 0, none⟩)), (4, .pointer (some ⟨g6, 0, none⟩)), (5, .pointer (some ⟨g8, 0, none⟩)), (6, .int .i64 0), (7, .int .i64 0), (8, .pointer (some ⟨J54g, 0, none⟩)), (9, .pointer (some ⟨J55g, 0, none⟩)), (10, .agg #[.bool (rb u.num), .slice a1 ((words u.num.natAbs).length) ac1, .slice a2 ((words u.den).length) ac2, .bool (rb v.num), .slice a3 ((words v.num.natAbs).length) ac3, .slice a4 ((words v.den).length) ac4]), (11, .agg #[.bool (rb x.num), .slice u1 ((words x.num.natAbs).length) uc1, .slice u2 ((words x.den).length) uc2, .bool (rb y.num), .slice u3 ((words y.num.natAbs).length) uc3, .slice u4 ((words y.den).length) uc4]), (12, .slice (some ⟨g12, 0, none⟩) 2 2), (13, .int .i64 0), (14, .int .i64 0), (15, .bool false), (19, .agg #[.bool (rb x.num), .slice u1 ((words x.num.natAbs).length) uc1, .slice u2 ((words x.den).length) uc2, .bool (rb y.num), .slice u3 ((words y.num.natAbs).length) uc3, .slice u4 ((words y.den).length) uc4]), (20, .bool false)] ∧ St w w1 [(J55g, [.bool ((rb ((R : Nat) : Int))), .slice J60 ((words ((R : Nat) : Int).natAbs).length) J61, .bool false, .slice none 0 0, .slice J62 ((words D).length) J63]), (J54g, [.bool ((rb T)), .slice J56 ((words T.natAbs).length) J57, .bool false, .slice none 0 0, .slice J58 ((words 1).length) J59]), (g12, [.bool (rb u.num), .slice a1 ((words u.num.natAbs).length) ac1, .slice a2 ((words u.den).length) ac2, .bool (rb v.num), .slice a3 ((words v.num.natAbs).length) ac3, .slice a4 ((words v.den).length) ac4, .bool (rb x.num), .slice u1 ((words x.num.natAbs).length) uc1, .slice u2 ((words x.den).length) uc2, .bool (rb y.num), .slice u3 ((words y.num.natAbs).length) uc3, .slice u4 ((words y.den).length) uc4]), (g8, [.bool false, .slice none 0 0, .slice none 0 0, .bool false, .slice none 0 0, .slice none 0 0]), (g6, [.bool false, .slice none 0 0, .slice none 0 0, .bool false, .slice none 0 0, .slice none 0 0]), (g4, [.bool (rb x.num), .slice u1 ((words x.num.natAbs).length) uc1, .slice u2 ((words x.den).length) uc2, .bool (rb y.num), .slice u3 ((words y.num.natAbs).length) uc3, .slice u4 ((words y.den).length) uc4]), (g2, [.bool (rb u.num), .slice a1 ((words u.num.natAbs).length) ac1, .slice a2 ((words u.den).length) ac2, .bool (rb v.num), .slice a3 ((words v.num.natAbs).length) ac3, .slice a4 ((words v.den).length) ac4])] [(J62, words D), (J60, words ((R : Nat) : Int).natAbs), (J58, words 1), (J56, words T.natAbs), (u4, words y.den), (u3, words y.num.natAbs), (u2, words x.den), (u1, words x.num.natAbs), (a4, words v.den), (a3, words v.num.natAbs), (a2, words u.den), (a1, words u.num.natAbs)] [] ∧ (J62 = none → J63 = 0) ∧ (words D : List Nat).length ≤ J63 ∧ (J60 = none → J61 = 0) ∧ (words ((R : Nat) : Int).natAbs : List Nat).length ≤ J61 ∧ (J58 = none → J59 = 0) ∧ (words 1 : List Nat).length ≤ J59 ∧ (J56 = none → J57 = 0) ∧ (words T.natAbs : List Nat).length ≤ J57) → K21 a w1 := by
   clear hA hS
   rintro a w73 ⟨J54g, J55g, J56, J57, J58, J59, J60, J61, J62, J63, hA, hS, hn64, hc65, hn66, hc67, hn68, hc69, hn70, hc71⟩
   refine hK21 _ _ ?_
   refine wp_seq_k (fun K74 hK74 => ?_)
   refine wp_region_lit ?_
   refine seq_do hA rfl rfl rfl (d_loadS hS ExR_isS_55 rfl 1 rfl (cs := [.bool ((rb T)), .slice J56 ((words T.natAbs).length) J57, .bool false, .slice none 0 0, .slice J58 ((words 1).length) J59]) rfl rfl) ?_
   intro a hA
   refine seq_call hA rfl rfl rfl (enters_func  rfl rfl (fun w => by kernel_rfl)) (zsettle0_as ⟨(hS.rd 3 rfl), hn70, hc71⟩ ⟨(hS.rd 2 rfl), hn68, hc69⟩ e1 (by omega) (by omega) (by decide)) ?_
   rintro _ w78 ⟨p75_1, p75_c1, p75_2, p75_c2, p75_3, p75_c3, p75_4, p75_c4, rfl, hn76, hb77⟩
   replace hS := hS.call hb77
   replace hS := hS.addR hn76.s1.rd
   replace hS := hS.addR hn76.s2.rd
   replace hS := hS.addR hn76.s3.rd
   replace hS := hS.addR hn76.s4.rd
   refine ⟨_, rfl, ?_⟩
   intro a hA
   refine seq_do hA rfl rfl rfl (d_move rfl) ?_
   intro a hA
   refine seq_do (v := .agg #[.bool z1.1.b1, .slice p75_1 z1.1.t1.length p75_c1, .slice p75_2 z1.1.q1.length p75_c2, .bool z1.1.b2, .slice p75_3 z1.1.t2.length p75_c3, .slice p75_4 z1.1.q2.length p75_c4]) hA rfl rfl rfl (d_extract (vs := [.agg #[.bool z1.1.b1, .slice p75_1 z1.1.t1.length p75_c1, .slice p75_2 z1.1.q1.length p75_c2, .bool z1.1.b2, .slice p75_3 z1.1.t2.length p75_c3, .slice p75_4 z1.1.q2.length p75_c4], .int .i64 z1.2]) rfl rfl) ?_
   intro a hA
   refine seq_do (v := .int .i64 z1.2) hA rfl rfl rfl (d_extract (vs := [.agg #[.bool z1.1.b1, .slice p75_1 z1.1.t1.length p75_c1, .slice p75_2 z1.1.q1.length p75_c2, .bool z1.1.b2, .slice p75_3 z1.1.t2.length p75_c3, .slice p75_4 z1.1.q2.length p75_c4], .int .i64 z1.2]) rfl rfl) ?_
   intro a hA
   refine seq_store (us := [.bool z1.1.b1, .slice p75_1 z1.1.t1.length p75_c1, .slice p75_2 z1.1.q1.length p75_c2, .bool z1.1.b2, .slice p75_3 z1.1.t2.length p75_c3, .slice p75_4 z1.1.q2.length p75_c4]) hA hS rfl rfl (sets_store rfl rfl rfl (by kernel_rfl) hS 4 rfl rfl rfl) 4 rfl rfl rfl rfl ?_
   intro w79 hS
   refine seq_do hA rfl rfl rfl (d_assign rfl) ?_
   intro a hA
   refine seq_end ?_
   refine hK74 _ _ ?_
   refine wp_seq_k (fun K80 hK80 => ?_)
   refine wp_seq_k (fun K81 hK81 => ?_)
   refine wp_region_lit ?_
   refine seq_do hA rfl rfl rfl (d_move rfl) ?_
   intro a hA
   rcases Bool.eq_false_or_eq_true ((z1.2 != 0)) with hb82 | hb82
   · have hb82' := bne_iff_ne.1 hb82
     refine seq_do (v := .bool true) hA rfl rfl rfl (d_bin rfl rfl (fun w => (bin_neq w).trans (by rw [hb82]))) ?_
     intro a hA
     refine seq_end ?_
     refine hK81 _ _ ?_
     refine wp_cond_true (hA.ev rfl) ?_
     refine wp_seq_k (fun K83 hK83 => ?_)
     refine wp_region_lit ?_
     refine seq_do (v := .agg #[.bool false, .slice none 0 0, .slice none 0 0, .bool false, .slice none 0 0, .slice none 0 0]) hA rfl rfl rfl (d_build rfl (fun w => by kernel_rfl)) ?_
     intro a hA
     refine seq_do (v := .agg #[.bool false, .slice none 0 0, .slice none 0 0, .bool false, .slice none 0 0, .slice none 0 0]) hA rfl rfl rfl (d_build rfl (fun w => by kernel_rfl)) ?_
     intro a hA
     refine seq_do hA rfl rfl rfl (d_move rfl) ?_
     intro a hA
     refine seq_store (us := [.bool false, .slice none 0 0, .slice none 0 0, .bool false, .slice none 0 0, .slice none 0 0]) hA hS rfl rfl (sets_store rfl rfl rfl (by kernel_rfl) hS 4 rfl rfl rfl) 4 rfl rfl rfl rfl ?_
     intro w84 hS
     refine seq_store (us := [.bool false, .slice none 0 0, .slice none 0 0, .bool false, .slice none 0 0, .slice none 0 0]) hA hS rfl rfl (sets_store rfl rfl rfl (by kernel_rfl) hS 3 rfl rfl rfl) 3 rfl rfl rfl rfl ?_
     intro w85 hS
     refine seq_do hA rfl rfl rfl (d_assign rfl) ?_
     intro a hA
     refine seq_end ?_
     refine hK83 _ _ ?_
     refine wp_ret ?_
     refine hret _ _ ?_
     refine ends (v := .tuple #[.agg #[.bool false, .slice none 0 0, .slice none 0 0, .bool false, .slice none 0 0, .slice none 0 0], .agg #[.bool false, .slice none 0 0, .slice none 0 0, .bool false, .slice none 0 0, .slice none 0 0], .int .i64 z1.2]) hA rfl (.cons (res_cell hS ExR_isS_26 rfl 4 rfl (cs := [.bool false, .slice none 0 0, .slice none 0 0, .bool false, .slice none 0 0, .slice none 0 0]) rfl rfl) (.cons (res_cell hS ExR_isS_26 rfl 3 rfl (cs := [.bool false, .slice none 0 0, .slice none 0 0, .bool false, .slice none 0 0, .slice none 0 0]) rfl rfl) (.cons (res_tmp rfl) .nil))) rfl ?_
     rw [dmS_1 hb82]
     exact ⟨none, 0, none, 0, none, 0, none, 0, none, 0, none, 0, none, 0, none, 0, rfl, ⟨(Sc.none _), (Sc.none _), (Sc.none _), (Sc.none _)⟩, ⟨(Sc.none _), (Sc.none _), (Sc.none _), (Sc.none _)⟩, hS.bel⟩
   · have hb82' := bne_eq_false_iff_eq.1 hb82
     refine seq_do (v := .bool false) hA rfl rfl rfl (d_bin rfl rfl (fun w => (bin_neq w).trans (by rw [hb82]))) ?_
     intro a hA
     refine seq_end ?_
     refine hK81 _ _ ?_
     refine wp_cond_false (hA.ev rfl) ?_
     refine wp_skip ?_
     refine hK80 _ _ ?_
     refine wp_seq_k (fun K86 hK86 => ?_)
     refine wp_region_lit ?_
     refine seq_do hA rfl rfl rfl (d_loadS hS ExR_isS_55 rfl 0 rfl (cs := [.bool ((rb ((R : Nat) : Int))), .slice J60 ((words ((R : Nat) : Int).natAbs).length) J61, .bool false, .slice none 0 0, .slice J62 ((words D).length) J63]) rfl rfl) ?_
     intro a hA
     refine seq_call hA rfl rfl rfl (enters_func  rfl rfl (fun w => by kernel_rfl)) (zsettle0_as ⟨(hS.rd 5 rfl), hn66, hc67⟩ ⟨(hS.rd 4 rfl), hn64, hc65⟩ e2 (by omega) (by omega) hD0) ?_
     rintro _ w90 ⟨p87_1, p87_c1, p87_2, p87_c2, p87_3, p87_c3, p87_4, p87_c4, rfl, hn88, hb89⟩
     replace hS := hS.call hb89
     replace hS := hS.addR hn88.s1.rd
     replace hS := hS.addR hn88.s2.rd
     replace hS := hS.addR hn88.s3.rd
     replace hS := hS.addR hn88.s4.rd
     refine ⟨_, rfl, ?_⟩
     intro a hA
     refine seq_do hA rfl rfl rfl (d_move rfl) ?_
     intro a hA
     refine seq_do (v := .agg #[.bool z2.1.b1, .slice p87_1 z2.1.t1.length p87_c1, .slice p87_2 z2.1.q1.length p87_c2, .bool z2.1.b2, .slice p87_3 z2.1.t2.length p87_c3, .slice p87_4 z2.1.q2.length p87_c4]) hA rfl rfl rfl (d_extract (vs := [.agg #[.bool z2.1.b1, .slice p87_1 z2.1.t1.length p87_c1, .slice p87_2 z2.1.q1.length p87_c2, .bool z2.1.b2, .slice p87_3 z2.1.t2.length p87_c3, .slice p87_4 z2.1.q2.length p87_c4], .int .i64 z2.2]) rfl rfl) ?_
     intro a hA
     refine seq_do (v := .int .i64 z2.2) hA rfl rfl rfl (d_extract (vs := [.agg #[.bool z2.1.b1, .slice p87_1 z2.1.t1.length p87_c1, .slice p87_2 z2.1.q1.length p87_c2, .bool z2.1.b2, .slice p87_3 z2.1.t2.length p87_c3, .slice p87_4 z2.1.q2.length p87_c4], .int .i64 z2.2]) rfl rfl) ?_
     intro a hA
     refine seq_store (us := [.bool z2.1.b1, .slice p87_1 z2.1.t1.length p87_c1, .slice p87_2 z2.1.q1.length p87_c2, .bool z2.1.b2, .slice p87_3 z2.1.t2.length p87_c3, .slice p87_4 z2.1.q2.length p87_c4]) hA hS rfl rfl (sets_store rfl rfl rfl (by kernel_rfl) hS 3 rfl rfl rfl) 3 rfl rfl rfl rfl ?_
     intro w91 hS
     refine seq_do hA rfl rfl rfl (d_assign rfl) ?_
     intro a hA
     refine seq_end ?_
     refine hK86 _ _ ?_
     refine wp_seq_k (fun K92 hK92 => ?_)
     refine wp_seq_k (fun K93 hK93 => ?_)
     refine wp_region_lit ?_
     refine seq_do hA rfl rfl rfl (d_move rfl) ?_
     intro a hA
     rcases Bool.eq_false_or_eq_true ((z2.2 != 0)) with hb94 | hb94
     · have hb94' := bne_iff_ne.1 hb94
       refine seq_do (v := .bool true) hA rfl rfl rfl (d_bin rfl rfl (fun w => (bin_neq w).trans (by rw [hb94]))) ?_
       intro a hA
       refine seq_end ?_
       refine hK93 _ _ ?_
       refine wp_cond_true (hA.ev rfl) ?_
       refine wp_seq_k (fun K95 hK95 => ?_)
       refine wp_region_lit ?_
       refine seq_do (v := .agg #[.bool false, .slice none 0 0, .slice none 0 0, .bool false, .slice none 0 0, .slice none 0 0]) hA rfl rfl rfl (d_build rfl (fun w => by kernel_rfl)) ?_
       intro a hA
       refine seq_do (v := .agg #[.bool false, .slice none 0 0, .slice none 0 0, .bool false, .slice none 0 0, .slice none 0 0]) hA rfl rfl rfl (d_build rfl (fun w => by kernel_rfl)) ?_
       intro a hA
       refine seq_do hA rfl rfl rfl (d_move rfl) ?_
       intro a hA
       refine seq_store (us := [.bool false, .slice none 0 0, .slice none 0 0, .bool false, .slice none 0 0, .slice none 0 0]) hA hS rfl rfl (sets_store rfl rfl rfl (by kernel_rfl) hS 4 rfl rfl rfl) 4 rfl rfl rfl rfl ?_
       intro w96 hS
       refine seq_store (us := [.bool false, .slice none 0 0, .slice none 0 0, .bool false, .slice none 0 0, .slice none 0 0]) hA hS rfl rfl (sets_store rfl rfl rfl (by kernel_rfl) hS 3 rfl rfl rfl) 3 rfl rfl rfl rfl ?_
       intro w97 hS
       refine seq_do hA rfl rfl rfl (d_assign rfl) ?_
       intro a hA
       refine seq_end ?_
       refine hK95 _ _ ?_
       refine wp_ret ?_
       refine hret _ _ ?_
       refine ends (v := .tuple #[.agg #[.bool false, .slice none 0 0, .slice none 0 0, .bool false, .slice none 0 0, .slice none 0 0], .agg #[.bool false, .slice none 0 0, .slice none 0 0, .bool false, .slice none 0 0, .slice none 0 0], .int .i64 z2.2]) hA rfl (.cons (res_cell hS ExR_isS_26 rfl 4 rfl (cs := [.bool false, .slice none 0 0, .slice none 0 0, .bool false, .slice none 0 0, .slice none 0 0]) rfl rfl) (.cons (res_cell hS ExR_isS_26 rfl 3 rfl (cs := [.bool false, .slice none 0 0, .slice none 0 0, .bool false, .slice none 0 0, .slice none 0 0]) rfl rfl) (.cons (res_tmp rfl) .nil))) rfl ?_
       rw [dmS_2 hb82 hb94]
       exact ⟨none, 0, none, 0, none, 0, none, 0, none, 0, none, 0, none, 0, none, 0, rfl, ⟨(Sc.none _), (Sc.none _), (Sc.none _), (Sc.none _)⟩, ⟨(Sc.none _), (Sc.none _), (Sc.none _), (Sc.none _)⟩, hS.bel⟩
     · have hb94' := bne_eq_false_iff_eq.1 hb94
       refine seq_do (v := .bool false) hA rfl rfl rfl (d_bin rfl rfl (fun w => (bin_neq w).trans (by rw [hb94]))) ?_
       intro a hA
       refine seq_end ?_
       refine hK93 _ _ ?_
       refine wp_cond_false (hA.ev rfl) ?_
       refine wp_skip ?_
       refine hK92 _ _ ?_
       refine wp_seq_k (fun K98 hK98 => ?_)
       refine wp_draw (S := fun w1 => St w w1 [(J55g, [.bool ((rb ((R : Nat) : Int))), .slice J60 ((words ((R : Nat) : Int).natAbs).length) J61, .bool false, .slice none 0 0, .slice J62 ((words D).length) J63]), (J54g, [.bool ((rb T)), .slice J56 ((words T.natAbs).length) J57, .bool false, .slice none 0 0, .slice J58 ((words 1).length) J59]), (g12, [.bool (rb u.num), .slice a1 ((words u.num.natAbs).length) ac1, .slice a2 ((words u.den).length) ac2, .bool (rb v.num), .slice a3 ((words v.num.natAbs).length) ac3, .slice a4 ((words v.den).length) ac4, .bool (rb x.num), .slice u1 ((words x.num.natAbs).length) uc1, .slice u2 ((words x.den).length) uc2, .bool (rb y.num), .slice u3 ((words y.num.natAbs).length) uc3, .slice u4 ((words y.den).length) uc4]), (g8, [.bool z2.1.b1, .slice p87_1 z2.1.t1.length p87_c1, .slice p87_2 z2.1.q1.length p87_c2, .bool z2.1.b2, .slice p87_3 z2.1.t2.length p87_c3, .slice p87_4 z2.1.q2.length p87_c4]), (g6, [.bool z1.1.b1, .slice p75_1 z1.1.t1.length p75_c1, .slice p75_2 z1.1.q1.length p75_c2, .bool z1.1.b2, .slice p75_3 z1.1.t2.length p75_c3, .slice p75_4 z1.1.q2.length p75_c4]), (g4, [.bool (rb x.num), .slice u1 ((words x.num.natAbs).length) uc1, .slice u2 ((words x.den).length) uc2, .bool (rb y.num), .slice u3 ((words y.num.natAbs).length) uc3, .slice u4 ((words y.den).length) uc4]), (g2, [.bool (rb u.num), .slice a1 ((words u.num.natAbs).length) ac1, .slice a2 ((words u.den).length) ac2, .bool (rb v.num), .slice a3 ((words v.num.natAbs).length) ac3, .slice a4 ((words v.den).length) ac4])] [(p87_4, z2.1.q2), (p87_3, z2.1.t2), (p87_2, z2.1.q1), (p87_1, z2.1.t1), (p75_4, z1.1.q2), (p75_3, z1.1.t2), (p75_2, z1.1.q1), (p75_1, z1.1.t1), (J62, words D), (J60, words ((R : Nat) : Int).natAbs), (J58, words 1), (J56, words T.natAbs), (u4, words y.den), (u3, words y.num.natAbs), (u2, words x.den), (u1, words x.num.natAbs), (a4, words v.den), (a3, words v.num.natAbs), (a2, words u.den), (a1, words u.num.natAbs)] []) (by kernel_rfl) ?_
       replace hS := hS.drew
       refine any_tk hA 0 rfl rfl rfl rfl hP hS (fun w1 hS => d_loadS hS ExR_isS_26 rfl 4 rfl (cs := [.bool z1.1.b1, .slice p75_1 z1.1.t1.length p75_c1, .slice p75_2 z1.1.q1.length p75_c2, .bool z1.1.b2, .slice p75_3 z1.1.t2.length p75_c3, .slice p75_4 z1.1.q2.length p75_c4]) rfl rfl) ?_
       intro a hA
       refine any_tk hA 1 rfl rfl rfl rfl hP hS (fun w1 hS => d_loadS hS ExR_isS_26 rfl 3 rfl (cs := [.bool z2.1.b1, .slice p87_1 z2.1.t1.length p87_c1, .slice p87_2 z2.1.q1.length p87_c2, .bool z2.1.b2, .slice p87_3 z2.1.t2.length p87_c3, .slice p87_4 z2.1.q2.length p87_c4]) rfl rfl) ?_
       intro a hA
       refine any_one (by kernel_rfl) (op_store (us := [.bool z1.1.b1, .slice p75_1 z1.1.t1.length p75_c1, .slice p75_2 z1.1.q1.length p75_c2, .bool z1.1.b2, .slice p75_3 z1.1.t2.length p75_c3, .slice p75_4 z1.1.q2.length p75_c4]) hA hS 2 rfl rfl rfl (sets_store rfl rfl rfl (by kernel_rfl) hS 4 rfl rfl rfl) 4 rfl rfl rfl rfl ?_)
       intro w99 hS
       refine ⟨hS, ?_⟩
       refine any_one (by kernel_rfl) (op_store (us := [.bool z2.1.b1, .slice p87_1 z2.1.t1.length p87_c1, .slice p87_2 z2.1.q1.length p87_c2, .bool z2.1.b2, .slice p87_3 z2.1.t2.length p87_c3, .slice p87_4 z2.1.q2.length p87_c4]) hA hS 3 rfl rfl rfl (sets_store rfl rfl rfl (by kernel_rfl) hS 3 rfl rfl rfl) 3 rfl rfl rfl rfl ?_)
       intro w100 hS
       refine ⟨hS, ?_⟩
       refine any_tk hA 4 rfl rfl rfl rfl hP hS (fun w1 hS => d_assign rfl) ?_
       intro a hA
       refine any_end (by kernel_rfl) ?_
       refine hK98 _ _ ?_
       refine wp_ret ?_
       refine hret _ _ ?_
       refine ends (v := .tuple #[.agg #[.bool z1.1.b1, .slice p75_1 z1.1.t1.length p75_c1, .slice p75_2 z1.1.q1.length p75_c2, .bool z1.1.b2, .slice p75_3 z1.1.t2.length p75_c3, .slice p75_4 z1.1.q2.length p75_c4], .agg #[.bool z2.1.b1, .slice p87_1 z2.1.t1.length p87_c1, .slice p87_2 z2.1.q1.length p87_c2, .bool z2.1.b2, .slice p87_3 z2.1.t2.length p87_c3, .slice p87_4 z2.1.q2.length p87_c4], .int .i64 0]) hA rfl (.cons (res_cell hS ExR_isS_26 rfl 4 rfl (cs := [.bool z1.1.b1, .slice p75_1 z1.1.t1.length p75_c1, .slice p75_2 z1.1.q1.length p75_c2, .bool z1.1.b2, .slice p75_3 z1.1.t2.length p75_c3, .slice p75_4 z1.1.q2.length p75_c4]) rfl rfl) (.cons (res_cell hS ExR_isS_26 rfl 3 rfl (cs := [.bool z2.1.b1, .slice p87_1 z2.1.t1.length p87_c1, .slice p87_2 z2.1.q1.length p87_c2, .bool z2.1.b2, .slice p87_3 z2.1.t2.length p87_c3, .slice p87_4 z2.1.q2.length p87_c4]) rfl rfl) (.cons (res_tmp rfl) .nil))) rfl ?_
       rw [dmS_3 hb82 hb94]
       exact ⟨p75_1, p75_c1, p75_2, p75_c2, p75_3, p75_c3, p75_4, p75_c4, p87_1, p87_c1, p87_2, p87_c2, p87_3, p87_c3, p87_4, p87_c4, rfl, ⟨⟨(hS.rd 7 rfl), hn76.s1.nil, hn76.s1.cap⟩, ⟨(hS.rd 6 rfl), hn76.s2.nil, hn76.s2.cap⟩, ⟨(hS.rd 5 rfl), hn76.s3.nil, hn76.s3.cap⟩, ⟨(hS.rd 4 rfl), hn76.s4.nil, hn76.s4.cap⟩⟩, ⟨⟨(hS.rd 3 rfl), hn88.s1.nil, hn88.s1.cap⟩, ⟨(hS.rd 2 rfl), hn88.s2.nil, hn88.s2.cap⟩, ⟨(hS.rd 1 rfl), hn88.s3.nil, hn88.s3.cap⟩, ⟨(hS.rd 0 rfl), hn88.s4.nil, hn88.s4.cap⟩⟩, hS.bel⟩
 refine wp_draw (S := fun w1 => St w w1 [(g12, [.bool (rb u.num), .slice a1 ((words u.num.natAbs).length) ac1, .slice a2 ((words u.den).length) ac2, .bool (rb v.num), .slice a3 ((words v.num.natAbs).length) ac3, .slice a4 ((words v.den).length) ac4, .bool (rb x.num), .slice u1 ((words x.num.natAbs).length) uc1, .slice u2 ((words x.den).length) uc2, .bool (rb y.num), .slice u3 ((words y.num.natAbs).length) uc3, .slice u4 ((words y.den).length) uc4]), (g8, [.bool false, .slice none 0 0, .slice none 0 0, .bool false, .slice none 0 0, .slice none 0 0]), (g6, [.bool false, .slice none 0 0, .slice none 0 0, .bool false, .slice none 0 0, .slice none 0 0]), (g4, [.bool (rb x.num), .slice u1 ((words x.num.natAbs).length) uc1, .slice u2 ((words x.den).length) uc2, .bool (rb y.num), .slice u3 ((words y.num.natAbs).length) uc3, .slice u4 ((words y.den).length) uc4]), (g2, [.bool (rb u.num), .slice a1 ((words u.num.natAbs).length) ac1, .slice a2 ((words u.den).length) ac2, .bool (rb v.num), .slice a3 ((words v.num.natAbs).length) ac3, .slice a4 ((words v.den).length) ac4])] [(u4, words y.den), (u3, words y.num.natAbs), (u2, words x.den), (u1, words x.num.natAbs), (a4, words v.den), (a3, words v.num.natAbs), (a2, words u.den), (a1, words u.num.natAbs)] []) (by kernel_rfl) ?_
 replace hS := hS.drew
 refine any_tk hA 0 rfl rfl rfl rfl hP hS (fun w1 hS => d_loadS hS ExR_isS_26 rfl 4 rfl (cs := [.bool (rb u.num), .slice a1 ((words u.num.natAbs).length) ac1, .slice a2 ((words u.den).length) ac2, .bool (rb v.num), .slice a3 ((words v.num.natAbs).length) ac3, .slice a4 ((words v.den).length) ac4]) rfl rfl) ?_
 intro a hA
 refine any_tk hA 2 rfl rfl rfl rfl hP hS (fun w1 hS => d_loadS hS ExR_isS_26 rfl 3 rfl (cs := [.bool (rb x.num), .slice u1 ((words x.num.natAbs).length) uc1, .slice u2 ((words x.den).length) uc2, .bool (rb y.num), .slice u3 ((words y.num.natAbs).length) uc3, .slice u4 ((words y.den).length) uc4]) rfl rfl) ?_
 intro a hA
 refine any_many (rs := [1, 8, 9]) (by kernel_rfl) (by simp) ⟨?_, ?_, ?_, trivial⟩
 · refine op_call hA 1 rfl rfl rfl rfl (enters_func  rfl rfl (fun w => by kernel_rfl)) (zspread_any (show Nm _ (Q6.rat u v) a1 ac1 a2 ac2 a3 ac3 a4 ac4 from ⟨⟨(hS.rd 7 rfl), ha.s1.nil, ha.s1.cap⟩, ⟨(hS.rd 6 rfl), ha.s2.nil, ha.s2.cap⟩, ⟨(hS.rd 5 rfl), ha.s3.nil, ha.s3.cap⟩, ⟨(hS.rd 4 rfl), ha.s4.nil, ha.s4.cap⟩⟩) hu hv) ?_
   rintro _ w106 ⟨p101_1, p101_c1, p101_2, p101_c2, p101_3, p101_c3, rfl, hs102, hs103, hs104, hb105⟩
   replace hS := hS.call hb105
   replace hS := hS.addR hs102.rd
   replace hS := hS.addR hs103.rd
   replace hS := hS.addR hs104.rd
   refine ⟨_, rfl, (hS.partD (.refl _) 3 rfl (.refl _)), ?_⟩
   intro a hA
   refine any_many (rs := [3, 8, 9]) (by kernel_rfl) (by simp) ⟨?_, ?_, ?_, trivial⟩
   · refine op_call hA 3 rfl rfl rfl rfl (enters_func  rfl rfl (fun w => by kernel_rfl)) (zspread_any (show Nm _ (Q6.rat x y) u1 uc1 u2 uc2 u3 uc3 u4 uc4 from ⟨⟨(hS.rd 6 rfl), hb.s1.nil, hb.s1.cap⟩, ⟨(hS.rd 5 rfl), hb.s2.nil, hb.s2.cap⟩, ⟨(hS.rd 4 rfl), hb.s3.nil, hb.s3.cap⟩, ⟨(hS.rd 3 rfl), hb.s4.nil, hb.s4.cap⟩⟩) hx hy) ?_
     rintro _ w112 ⟨p107_1, p107_c1, p107_2, p107_c2, p107_3, p107_c3, rfl, hs108, hs109, hs110, hb111⟩
     replace hS := hS.call hb111
     replace hS := hS.addR hs108.rd
     replace hS := hS.addR hs109.rd
     replace hS := hS.addR hs110.rd
     refine ⟨_, rfl, (hS.partD (.refl _) 6 rfl (.refl _)), ?_⟩
     intro a hA
     refine any_many (rs := [4, 8, 9]) (by kernel_rfl) (by simp) ⟨?_, ?_, ?_, trivial⟩
     · refine op_call hA 4 rfl rfl rfl rfl (enters_func  rfl rfl (fun w => by kernel_rfl)) (zdivmod_as ⟨(hS.rd 5 rfl), hs102.nil, hs102.cap⟩ ⟨(hS.rd 4 rfl), hs103.nil, hs103.cap⟩ ⟨(hS.rd 3 rfl), hs104.nil, hs104.cap⟩ ⟨(hS.rd 2 rfl), hs108.nil, hs108.cap⟩ ⟨(hS.rd 1 rfl), hs109.nil, hs109.cap⟩ ⟨(hS.rd 0 rfl), hs110.nil, hs110.cap⟩ (Nat.le_trans (spX_len hu hv) (by decide)) (Nat.le_trans (spY_len hu hv) (by decide)) (Nat.le_trans (spD_len hu hv) (by decide)) (Nat.le_trans (spX_len hx hy) (by decide)) (Nat.le_trans (spY_len hx hy) (by decide)) (Nat.le_trans (spD_len hx hy) (by decide)) (spD_ne u v) hx2 hT hR hD) ?_
       rintro _ w126 ⟨zo113, zc114, uo115, uc116, zo117, zc118, uo119, uc120, rfl, hs121, hs122, hs123, hs124, hb125⟩
       replace hS := hS.call hb125
       replace hS := hS.addR hs121.rd
       replace hS := hS.addR hs122.rd
       replace hS := hS.addR hs123.rd
       replace hS := hS.addR hs124.rd
       refine ⟨_, rfl, (hS.partD (.refl _) 10 rfl (.refl _)), ?_⟩
       intro a hA
       refine any_tk hA 5 rfl rfl rfl rfl hP (hS.partD (.refl _) 10 rfl (.refl _)) (fun w1 hS => d_move rfl) ?_
       intro a hA
       refine any_tk (v := .agg #[.bool ((rb T)), .slice zo113 ((words T.natAbs).length) zc114, .bool false, .slice none 0 0, .slice uo115 ((words 1).length) uc116]) hA 6 rfl rfl rfl rfl hP (hS.partD (.refl _) 10 rfl (.refl _)) (fun w1 hS => d_extract (vs := [.agg #[.bool ((rb T)), .slice zo113 ((words T.natAbs).length) zc114, .bool false, .slice none 0 0, .slice uo115 ((words 1).length) uc116], .agg #[.bool ((rb ((R : Nat) : Int))), .slice zo117 ((words ((R : Nat) : Int).natAbs).length) zc118, .bool false, .slice none 0 0, .slice uo119 ((words D).length) uc120]]) rfl rfl) ?_
       intro a hA
       refine any_tk (v := .agg #[.bool ((rb ((R : Nat) : Int))), .slice zo117 ((words ((R : Nat) : Int).natAbs).length) zc118, .bool false, .slice none 0 0, .slice uo119 ((words D).length) uc120]) hA 7 rfl rfl rfl rfl hP (hS.partD (.refl _) 10 rfl (.refl _)) (fun w1 hS => d_extract (vs := [.agg #[.bool ((rb T)), .slice zo113 ((words T.natAbs).length) zc114, .bool false, .slice none 0 0, .slice uo115 ((words 1).length) uc116], .agg #[.bool ((rb ((R : Nat) : Int))), .slice zo117 ((words ((R : Nat) : Int).natAbs).length) zc118, .bool false, .slice none 0 0, .slice uo119 ((words D).length) uc120]]) rfl rfl) ?_
       intro a hA
       refine any_many (rs := [8, 9]) (by kernel_rfl) (by simp) ⟨?_, ?_, trivial⟩
       · refine op_new (vs := [.bool false, .slice none 0 0, .bool false, .slice none 0 0, .slice none 0 0]) (t := 55) hA hS 8 rfl rfl rfl rfl (fun g => .pointer (some ⟨g, 0, none⟩)) (d_alloc (z := .agg #[.bool false, .slice none 0 0, .bool false, .slice none 0 0, .slice none 0 0]) (by kernel_rfl) rfl) rfl ?_
         intro g127 w128 hS
         refine ⟨(hS.partD (.cons _ (.cons_cons _ (.cons_cons _ (.cons_cons _ (.cons_cons _ (.cons_cons _ .slnil)))))) 10 rfl (.refl _)), ?_⟩
         intro a hA
         refine any_one (by kernel_rfl) (op_new (vs := [.bool false, .slice none 0 0, .bool false, .slice none 0 0, .slice none 0 0]) (t := 55) hA hS 9 rfl rfl rfl rfl (fun g => .pointer (some ⟨g, 0, none⟩)) (d_alloc (z := .agg #[.bool false, .slice none 0 0, .bool false, .slice none 0 0, .slice none 0 0]) (by kernel_rfl) rfl) rfl ?_)
         intro g129 w130 hS
         refine ⟨(hS.partD (.cons _ (.cons _ (.cons_cons _ (.cons_cons _ (.cons_cons _ (.cons_cons _ (.cons_cons _ .slnil))))))) 10 rfl (.refl _)), ?_⟩
         intro a hA
         refine any_one (by kernel_rfl) (op_store (us := [.bool ((rb T)), .slice zo113 ((words T.natAbs).length) zc114, .bool false, .slice none 0 0, .slice uo115 ((words 1).length) uc116]) hA hS 10 rfl rfl rfl (sets_store rfl rfl rfl (by kernel_rfl) hS 1 rfl rfl rfl) 1 rfl rfl rfl rfl ?_)
         intro w131 hS
         refine ⟨(hS.partD (.cons _ (.cons _ (.cons_cons _ (.cons_cons _ (.cons_cons _ (.cons_cons _ (.cons_cons _ .slnil))))))) 10 rfl (.refl _)), ?_⟩
         refine any_one (by kernel_rfl) (op_store (us := [.bool ((rb ((R : Nat) : Int))), .slice zo117 ((words ((R : Nat) : Int).natAbs).length) zc118, .bool false, .slice none 0 0, .slice uo119 ((words D).length) uc120]) hA hS 11 rfl rfl rfl (sets_store rfl rfl rfl (by kernel_rfl) hS 0 rfl rfl rfl) 0 rfl rfl rfl rfl ?_)
         intro w132 hS
         refine ⟨(hS.partD (.cons _ (.cons _ (.cons_cons _ (.cons_cons _ (.cons_cons _ (.cons_cons _ (.cons_cons _ .slnil))))))) 10 rfl (.refl _)), ?_⟩
         refine any_end (by kernel_rfl) ?_
         refine hJ72 _ _ ⟨g127, g129, zo113, zc114, uo115, uc116, zo117, zc118, uo119, uc120, hA.keep _ ⟨rfl, rfl, rfl, rfl, rfl, rfl, rfl, rfl, rfl, rfl, rfl, rfl, rfl, rfl, rfl, rfl, rfl, rfl, trivial⟩, (St.pickRL hS ⟨⟨0, rfl⟩, ⟨⟨1, rfl⟩, ⟨⟨2, rfl⟩, ⟨⟨3, rfl⟩, ⟨⟨10, rfl⟩, ⟨⟨11, rfl⟩, ⟨⟨12, rfl⟩, ⟨⟨13, rfl⟩, ⟨⟨14, rfl⟩, ⟨⟨15, rfl⟩, ⟨⟨16, rfl⟩, ⟨⟨17, rfl⟩, trivial⟩⟩⟩⟩⟩⟩⟩⟩⟩⟩⟩⟩ [0, 1, 2, 3, 4, 5, 6] rfl (by decide)), hs124.nil, hs124.cap, hs123.nil, hs123.cap, hs122.nil, hs122.cap, hs121.nil, hs121.cap⟩
       · refine op_new (vs := [.bool false, .slice none 0 0, .bool false, .slice none 0 0, .slice none 0 0]) (t := 55) hA hS 9 rfl rfl rfl rfl (fun g => .pointer (some ⟨g, 0, none⟩)) (d_alloc (z := .agg #[.bool false, .slice none 0 0, .bool false, .slice none 0 0, .slice none 0 0]) (by kernel_rfl) rfl) rfl ?_
         intro g133 w134 hS
         refine ⟨(hS.partD (.cons _ (.cons_cons _ (.cons_cons _ (.cons_cons _ (.cons_cons _ (.cons_cons _ .slnil)))))) 10 rfl (.refl _)), ?_⟩
         intro a hA
         refine any_one (by kernel_rfl) (op_new (vs := [.bool false, .slice none 0 0, .bool false, .slice none 0 0, .slice none 0 0]) (t := 55) hA hS 8 rfl rfl rfl rfl (fun g => .pointer (some ⟨g, 0, none⟩)) (d_alloc (z := .agg #[.bool false, .slice none 0 0, .bool false, .slice none 0 0, .slice none 0 0]) (by kernel_rfl) rfl) rfl ?_)
         intro g135 w136 hS
         refine ⟨(hS.partD (.cons _ (.cons _ (.cons_cons _ (.cons_cons _ (.cons_cons _ (.cons_cons _ (.cons_cons _ .slnil))))))) 10 rfl (.refl _)), ?_⟩
         intro a hA
         refine any_one (by kernel_rfl) (op_store (us := [.bool ((rb T)), .slice zo113 ((words T.natAbs).length) zc114, .bool false, .slice none 0 0, .slice uo115 ((words 1).length) uc116]) hA hS 10 rfl rfl rfl (sets_store rfl rfl rfl (by kernel_rfl) hS 0 rfl rfl rfl) 0 rfl rfl rfl rfl ?_)
         intro w137 hS
         refine ⟨(hS.partD (.cons _ (.cons _ (.cons_cons _ (.cons_cons _ (.cons_cons _ (.cons_cons _ (.cons_cons _ .slnil))))))) 10 rfl (.refl _)), ?_⟩
         refine any_one (by kernel_rfl) (op_store (us := [.bool ((rb ((R : Nat) : Int))), .slice zo117 ((words ((R : Nat) : Int).natAbs).length) zc118, .bool false, .slice none 0 0, .slice uo119 ((words D).length) uc120]) hA hS 11 rfl rfl rfl (sets_store rfl rfl rfl (by kernel_rfl) hS 1 rfl rfl rfl) 1 rfl rfl rfl rfl ?_)
         intro w138 hS
         refine ⟨(hS.partD (.cons _ (.cons _ (.cons_cons _ (.cons_cons _ (.cons_cons _ (.cons_cons _ (.cons_cons _ .slnil))))))) 10 rfl (.refl _)), ?_⟩
         refine any_end (by kernel_rfl) ?_
         refine hJ72 _ _ ⟨g135, g133, zo113, zc114, uo115, uc116, zo117, zc118, uo119, uc120, hA.keep _ ⟨rfl, rfl, rfl, rfl, rfl, rfl, rfl, rfl, rfl, rfl, rfl, rfl, rfl, rfl, rfl, rfl, rfl, rfl, trivial⟩, (St.pickRL hS ⟨⟨0, rfl⟩, ⟨⟨1, rfl⟩, ⟨⟨2, rfl⟩, ⟨⟨3, rfl⟩, ⟨⟨10, rfl⟩, ⟨⟨11, rfl⟩, ⟨⟨12, rfl⟩, ⟨⟨13, rfl⟩, ⟨⟨14, rfl⟩, ⟨⟨15, rfl⟩, ⟨⟨16, rfl⟩, ⟨⟨17, rfl⟩, trivial⟩⟩⟩⟩⟩⟩⟩⟩⟩⟩⟩⟩ [1, 0, 2, 3, 4, 5, 6] rfl (by decide)), hs124.nil, hs124.cap, hs123.nil, hs123.cap, hs122.nil, hs122.cap, hs121.nil, hs121.cap⟩
     · refine op_new (vs := [.bool false, .slice none 0 0, .bool false, .slice none 0 0, .slice none 0 0]) (t := 55) hA hS 8 rfl rfl rfl rfl (fun g => .pointer (some ⟨g, 0, none⟩)) (d_alloc (z := .agg #[.bool false, .slice none 0 0, .bool false, .slice none 0 0, .slice none 0 0]) (by kernel_rfl) rfl) rfl ?_
       intro g139 w140 hS
       refine ⟨(hS.partD (.cons _ (.cons_cons _ (.cons_cons _ (.cons_cons _ (.cons_cons _ (.cons_cons _ .slnil)))))) 6 rfl (.refl _)), ?_⟩
       intro a hA
       refine any_many (rs := [4, 9]) (by kernel_rfl) (by simp) ⟨?_, ?_, trivial⟩
       · refine op_call hA 4 rfl rfl rfl rfl (enters_func  rfl rfl (fun w => by kernel_rfl)) (zdivmod_as ⟨(hS.rd 5 rfl), hs102.nil, hs102.cap⟩ ⟨(hS.rd 4 rfl), hs103.nil, hs103.cap⟩ ⟨(hS.rd 3 rfl), hs104.nil, hs104.cap⟩ ⟨(hS.rd 2 rfl), hs108.nil, hs108.cap⟩ ⟨(hS.rd 1 rfl), hs109.nil, hs109.cap⟩ ⟨(hS.rd 0 rfl), hs110.nil, hs110.cap⟩ (Nat.le_trans (spX_len hu hv) (by decide)) (Nat.le_trans (spY_len hu hv) (by decide)) (Nat.le_trans (spD_len hu hv) (by decide)) (Nat.le_trans (spX_len hx hy) (by decide)) (Nat.le_trans (spY_len hx hy) (by decide)) (Nat.le_trans (spD_len hx hy) (by decide)) (spD_ne u v) hx2 hT hR hD) ?_
         rintro _ w154 ⟨zo141, zc142, uo143, uc144, zo145, zc146, uo147, uc148, rfl, hs149, hs150, hs151, hs152, hb153⟩
         replace hS := hS.call hb153
         replace hS := hS.addR hs149.rd
         replace hS := hS.addR hs150.rd
         replace hS := hS.addR hs151.rd
         replace hS := hS.addR hs152.rd
         refine ⟨_, rfl, (hS.partD (.cons _ (.cons_cons _ (.cons_cons _ (.cons_cons _ (.cons_cons _ (.cons_cons _ .slnil)))))) 10 rfl (.refl _)), ?_⟩
         intro a hA
         refine any_tk hA 5 rfl rfl rfl rfl hP (hS.partD (.cons _ (.cons_cons _ (.cons_cons _ (.cons_cons _ (.cons_cons _ (.cons_cons _ .slnil)))))) 10 rfl (.refl _)) (fun w1 hS => d_move rfl) ?_
         intro a hA
         refine any_tk (v := .agg #[.bool ((rb T)), .slice zo141 ((words T.natAbs).length) zc142, .bool false, .slice none 0 0, .slice uo143 ((words 1).length) uc144]) hA 6 rfl rfl rfl rfl hP (hS.partD (.cons _ (.cons_cons _ (.cons_cons _ (.cons_cons _ (.cons_cons _ (.cons_cons _ .slnil)))))) 10 rfl (.refl _)) (fun w1 hS => d_extract (vs := [.agg #[.bool ((rb T)), .slice zo141 ((words T.natAbs).length) zc142, .bool false, .slice none 0 0, .slice uo143 ((words 1).length) uc144], .agg #[.bool ((rb ((R : Nat) : Int))), .slice zo145 ((words ((R : Nat) : Int).natAbs).length) zc146, .bool false, .slice none 0 0, .slice uo147 ((words D).length) uc148]]) rfl rfl) ?_
         intro a hA
         refine any_tk (v := .agg #[.bool ((rb ((R : Nat) : Int))), .slice zo145 ((words ((R : Nat) : Int).natAbs).length) zc146, .bool false, .slice none 0 0, .slice uo147 ((words D).length) uc148]) hA 7 rfl rfl rfl rfl hP (hS.partD (.cons _ (.cons_cons _ (.cons_cons _ (.cons_cons _ (.cons_cons _ (.cons_cons _ .slnil)))))) 10 rfl (.refl _)) (fun w1 hS => d_extract (vs := [.agg #[.bool ((rb T)), .slice zo141 ((words T.natAbs).length) zc142, .bool false, .slice none 0 0, .slice uo143 ((words 1).length) uc144], .agg #[.bool ((rb ((R : Nat) : Int))), .slice zo145 ((words ((R : Nat) : Int).natAbs).length) zc146, .bool false, .slice none 0 0, .slice uo147 ((words D).length) uc148]]) rfl rfl) ?_
         intro a hA
         refine any_one (by kernel_rfl) (op_new (vs := [.bool false, .slice none 0 0, .bool false, .slice none 0 0, .slice none 0 0]) (t := 55) hA hS 9 rfl rfl rfl rfl (fun g => .pointer (some ⟨g, 0, none⟩)) (d_alloc (z := .agg #[.bool false, .slice none 0 0, .bool false, .slice none 0 0, .slice none 0 0]) (by kernel_rfl) rfl) rfl ?_)
         intro g155 w156 hS
         refine ⟨(hS.partD (.cons _ (.cons _ (.cons_cons _ (.cons_cons _ (.cons_cons _ (.cons_cons _ (.cons_cons _ .slnil))))))) 10 rfl (.refl _)), ?_⟩
         intro a hA
         refine any_one (by kernel_rfl) (op_store (us := [.bool ((rb T)), .slice zo141 ((words T.natAbs).length) zc142, .bool false, .slice none 0 0, .slice uo143 ((words 1).length) uc144]) hA hS 10 rfl rfl rfl (sets_store rfl rfl rfl (by kernel_rfl) hS 1 rfl rfl rfl) 1 rfl rfl rfl rfl ?_)
         intro w157 hS
         refine ⟨(hS.partD (.cons _ (.cons _ (.cons_cons _ (.cons_cons _ (.cons_cons _ (.cons_cons _ (.cons_cons _ .slnil))))))) 10 rfl (.refl _)), ?_⟩
         refine any_one (by kernel_rfl) (op_store (us := [.bool ((rb ((R : Nat) : Int))), .slice zo145 ((words ((R : Nat) : Int).natAbs).length) zc146, .bool false, .slice none 0 0, .slice uo147 ((words D).length) uc148]) hA hS 11 rfl rfl rfl (sets_store rfl rfl rfl (by kernel_rfl) hS 0 rfl rfl rfl) 0 rfl rfl rfl rfl ?_)
         intro w158 hS
         refine ⟨(hS.partD (.cons _ (.cons _ (.cons_cons _ (.cons_cons _ (.cons_cons _ (.cons_cons _ (.cons_cons _ .slnil))))))) 10 rfl (.refl _)), ?_⟩
         refine any_end (by kernel_rfl) ?_
         refine hJ72 _ _ ⟨g139, g155, zo141, zc142, uo143, uc144, zo145, zc146, uo147, uc148, hA.keep _ ⟨rfl, rfl, rfl, rfl, rfl, rfl, rfl, rfl, rfl, rfl, rfl, rfl, rfl, rfl, rfl, rfl, rfl, rfl, trivial⟩, (St.pickRL hS ⟨⟨0, rfl⟩, ⟨⟨1, rfl⟩, ⟨⟨2, rfl⟩, ⟨⟨3, rfl⟩, ⟨⟨10, rfl⟩, ⟨⟨11, rfl⟩, ⟨⟨12, rfl⟩, ⟨⟨13, rfl⟩, ⟨⟨14, rfl⟩, ⟨⟨15, rfl⟩, ⟨⟨16, rfl⟩, ⟨⟨17, rfl⟩, trivial⟩⟩⟩⟩⟩⟩⟩⟩⟩⟩⟩⟩ [0, 1, 2, 3, 4, 5, 6] rfl (by decide)), hs152.nil, hs152.cap, hs151.nil, hs151.cap, hs150.nil, hs150.cap, hs149.nil, hs149.cap⟩
       · refine op_new (vs := [.bool false, .slice none 0 0, .bool false, .slice none 0 0, .slice none 0 0]) (t := 55) hA hS 9 rfl rfl rfl rfl (fun g => .pointer (some ⟨g, 0, none⟩)) (d_alloc (z := .agg #[.bool false, .slice none 0 0, .bool false, .slice none 0 0, .slice none 0 0]) (by kernel_rfl) rfl) rfl ?_
         intro g159 w160 hS
         refine ⟨(hS.partD (.cons _ (.cons _ (.cons_cons _ (.cons_cons _ (.cons_cons _ (.cons_cons _ (.cons_cons _ .slnil))))))) 6 rfl (.refl _)), ?_⟩
         intro a hA
         refine any_one (by kernel_rfl) (op_call hA 4 rfl rfl rfl rfl (enters_func  rfl rfl (fun w => by kernel_rfl)) (zdivmod_as ⟨(hS.rd 5 rfl), hs102.nil, hs102.cap⟩ ⟨(hS.rd 4 rfl), hs103.nil, hs103.cap⟩ ⟨(hS.rd 3 rfl), hs104.nil, hs104.cap⟩ ⟨(hS.rd 2 rfl), hs108.nil, hs108.cap⟩ ⟨(hS.rd 1 rfl), hs109.nil, hs109.cap⟩ ⟨(hS.rd 0 rfl), hs110.nil, hs110.cap⟩ (Nat.le_trans (spX_len hu hv) (by decide)) (Nat.le_trans (spY_len hu hv) (by decide)) (Nat.le_trans (spD_len hu hv) (by decide)) (Nat.le_trans (spX_len hx hy) (by decide)) (Nat.le_trans (spY_len hx hy) (by decide)) (Nat.le_trans (spD_len hx hy) (by decide)) (spD_ne u v) hx2 hT hR hD) ?_)
         rintro _ w174 ⟨zo161, zc162, uo163, uc164, zo165, zc166, uo167, uc168, rfl, hs169, hs170, hs171, hs172, hb173⟩
         replace hS := hS.call hb173
         replace hS := hS.addR hs169.rd
         replace hS := hS.addR hs170.rd
         replace hS := hS.addR hs171.rd
         replace hS := hS.addR hs172.rd
         refine ⟨_, rfl, (hS.partD (.cons _ (.cons _ (.cons_cons _ (.cons_cons _ (.cons_cons _ (.cons_cons _ (.cons_cons _ .slnil))))))) 10 rfl (.refl _)), ?_⟩
         intro a hA
         refine any_tk hA 5 rfl rfl rfl rfl hP (hS.partD (.cons _ (.cons _ (.cons_cons _ (.cons_cons _ (.cons_cons _ (.cons_cons _ (.cons_cons _ .slnil))))))) 10 rfl (.refl _)) (fun w1 hS => d_move rfl) ?_
         intro a hA
         refine any_tk (v := .agg #[.bool ((rb T)), .slice zo161 ((words T.natAbs).length) zc162, .bool false, .slice none 0 0, .slice uo163 ((words 1).length) uc164]) hA 6 rfl rfl rfl rfl hP (hS.partD (.cons _ (.cons _ (.cons_cons _ (.cons_cons _ (.cons_cons _ (.cons_cons _ (.cons_cons _ .slnil))))))) 10 rfl (.refl _)) (fun w1 hS => d_extract (vs := [.agg #[.bool ((rb T)), .slice zo161 ((words T.natAbs).length) zc162, .bool false, .slice none 0 0, .slice uo163 ((words 1).length) uc164], .agg #[.bool ((rb ((R : Nat) : Int))), .slice zo165 ((words ((R : Nat) : Int).natAbs).length) zc166, .bool false, .slice none 0 0, .slice uo167 ((words D).length) uc168]]) rfl rfl) ?_
         intro a hA
         refine any_tk (v := .agg #[.bool ((rb ((R : Nat) : Int))), .slice zo165 ((words ((R : Nat) : Int).natAbs).length) zc166, .bool false, .slice none 0 0, .slice uo167 ((words D).length) uc168]) hA 7 rfl rfl rfl rfl hP (hS.partD (.cons _ (.cons _ (.cons_cons _ (.cons_cons _ (.cons_cons _ (.cons_cons _ (.cons_cons _ .slnil))))))) 10 rfl (.refl _)) (fun w1 hS => d_extract (vs := [.agg #[.bool ((rb T)), .slice zo161 ((words T.natAbs).length) zc162, .bool false, .slice none 0 0, .slice uo163 ((words 1).length) uc164], .agg #[.bool ((rb ((R : Nat) : Int))), .slice zo165 ((words ((R : Nat) : Int).natAbs).length) zc166, .bool false, .slice none 0 0, .slice uo167 ((words D).length) uc168]]) rfl rfl) ?_
         intro a hA
         refine any_one (by kernel_rfl) (op_store (us := [.bool ((rb T)), .slice zo161 ((words T.natAbs).length) zc162, .bool false, .slice none 0 0, .slice uo163 ((words 1).length) uc164]) hA hS 10 rfl rfl rfl (sets_store rfl rfl rfl (by kernel_rfl) hS 1 rfl rfl rfl) 1 rfl rfl rfl rfl ?_)
         intro w175 hS
         refine ⟨(hS.partD (.cons _ (.cons _ (.cons_cons _ (.cons_cons _ (.cons_cons _ (.cons_cons _ (.cons_cons _ .slnil))))))) 10 rfl (.refl _)), ?_⟩
         refine any_one (by kernel_rfl) (op_store (us := [.bool ((rb ((R : Nat) : Int))), .slice zo165 ((words ((R : Nat) : Int).natAbs).length) zc166, .bool false, .slice none 0 0, .slice uo167 ((words D).length) uc168]) hA hS 11 rfl rfl rfl (sets_store rfl rfl rfl (by kernel_rfl) hS 0 rfl rfl rfl) 0 rfl rfl rfl rfl ?_)
         intro w176 hS
         refine ⟨(hS.partD (.cons _ (.cons _ (.cons_cons _ (.cons_cons _ (.cons_cons _ (.cons_cons _ (.cons_cons _ .slnil))))))) 10 rfl (.refl _)), ?_⟩
         refine any_end (by kernel_rfl) ?_
         refine hJ72 _ _ ⟨g139, g159, zo161, zc162, uo163, uc164, zo165, zc166, uo167, uc168, hA.keep _ ⟨rfl, rfl, rfl, rfl, rfl, rfl, rfl, rfl, rfl, rfl, rfl, rfl, rfl, rfl, rfl, rfl, rfl, rfl, trivial⟩, (St.pickRL hS ⟨⟨0, rfl⟩, ⟨⟨1, rfl⟩, ⟨⟨2, rfl⟩, ⟨⟨3, rfl⟩, ⟨⟨10, rfl⟩, ⟨⟨11, rfl⟩, ⟨⟨12, rfl⟩, ⟨⟨13, rfl⟩, ⟨⟨14, rfl⟩, ⟨⟨15, rfl⟩, ⟨⟨16, rfl⟩, ⟨⟨17, rfl⟩, trivial⟩⟩⟩⟩⟩⟩⟩⟩⟩⟩⟩⟩ [0, 1, 2, 3, 4, 5, 6] rfl (by decide)), hs172.nil, hs172.cap, hs171.nil, hs171.cap, hs170.nil, hs170.cap, hs169.nil, hs169.cap⟩
     · refine op_new (vs := [.bool false, .slice none 0 0, .bool false, .slice none 0 0, .slice none 0 0]) (t := 55) hA hS 9 rfl rfl rfl rfl (fun g => .pointer (some ⟨g, 0, none⟩)) (d_alloc (z := .agg #[.bool false, .slice none 0 0, .bool false, .slice none 0 0, .slice none 0 0]) (by kernel_rfl) rfl) rfl ?_
       intro g177 w178 hS
       refine ⟨(hS.partD (.cons _ (.cons_cons _ (.cons_cons _ (.cons_cons _ (.cons_cons _ (.cons_cons _ .slnil)))))) 6 rfl (.refl _)), ?_⟩
       intro a hA
       refine any_many (rs := [4, 8]) (by kernel_rfl) (by simp) ⟨?_, ?_, trivial⟩
       · refine op_call hA 4 rfl rfl rfl rfl (enters_func  rfl rfl (fun w => by kernel_rfl)) (zdivmod_as ⟨(hS.rd 5 rfl), hs102.nil, hs102.cap⟩ ⟨(hS.rd 4 rfl), hs103.nil, hs103.cap⟩ ⟨(hS.rd 3 rfl), hs104.nil, hs104.cap⟩ ⟨(hS.rd 2 rfl), hs108.nil, hs108.cap⟩ ⟨(hS.rd 1 rfl), hs109.nil, hs109.cap⟩ ⟨(hS.rd 0 rfl), hs110.nil, hs110.cap⟩ (Nat.le_trans (spX_len hu hv) (by decide)) (Nat.le_trans (spY_len hu hv) (by decide)) (Nat.le_trans (spD_len hu hv) (by decide)) (Nat.le_trans (spX_len hx hy) (by decide)) (Nat.le_trans (spY_len hx hy) (by decide)) (Nat.le_trans (spD_len hx hy) (by decide)) (spD_ne u v) hx2 hT hR hD) ?_
         rintro _ w192 ⟨zo179, zc180, uo181, uc182, zo183, zc184, uo185, uc186, rfl, hs187, hs188, hs189, hs190, hb191⟩
         replace hS := hS.call hb191
         replace hS := hS.addR hs187.rd
         replace hS := hS.addR hs188.rd
         replace hS := hS.addR hs189.rd
         replace hS := hS.addR hs190.rd
         refine ⟨_, rfl, (hS.partD (.cons _ (.cons_cons _ (.cons_cons _ (.cons_cons _ (.cons_cons _ (.cons_cons _ .slnil)))))) 10 rfl (.refl _)), ?_⟩
         intro a hA
         refine any_tk hA 5 rfl rfl rfl rfl hP (hS.partD (.cons _ (.cons_cons _ (.cons_cons _ (.cons_cons _ (.cons_cons _ (.cons_cons _ .slnil)))))) 10 rfl (.refl _)) (fun w1 hS => d_move rfl) ?_
         intro a hA
         refine any_tk (v := .agg #[.bool ((rb T)), .slice zo179 ((words T.natAbs).length) zc180, .bool false, .slice none 0 0, .slice uo181 ((words 1).length) uc182]) hA 6 rfl rfl rfl rfl hP (hS.partD (.cons _ (.cons_cons _ (.cons_cons _ (.cons_cons _ (.cons_cons _ (.cons_cons _ .slnil)))))) 10 rfl (.refl _)) (fun w1 hS => d_extract (vs := [.agg #[.bool ((rb T)), .slice zo179 ((words T.natAbs).length) zc180, .bool false, .slice none 0 0, .slice uo181 ((words 1).length) uc182], .agg #[.bool ((rb ((R : Nat) : Int))), .slice zo183 ((words ((R : Nat) : Int).natAbs).length) zc184, .bool false, .slice none 0 0, .slice uo185 ((words D).length) uc186]]) rfl rfl) ?_
         intro a hA
         refine any_tk (v := .agg #[.bool ((rb ((R : Nat) : Int))), .slice zo183 ((words ((R : Nat) : Int).natAbs).length) zc184, .bool false, .slice none 0 0, .slice uo185 ((words D).length) uc186]) hA 7 rfl rfl rfl rfl hP (hS.partD (.cons _ (.cons_cons _ (.cons_cons _ (.cons_cons _ (.cons_cons _ (.cons_cons _ .slnil)))))) 10 rfl (.refl _)) (fun w1 hS => d_extract (vs := [.agg #[.bool ((rb T)), .slice zo179 ((words T.natAbs).length) zc180, .bool false, .slice none 0 0, .slice uo181 ((words 1).length) uc182], .agg #[.bool ((rb ((R : Nat) : Int))), .slice zo183 ((words ((R : Nat) : Int).natAbs).length) zc184, .bool false, .slice none 0 0, .slice uo185 ((words D).length) uc186]]) rfl rfl) ?_
         intro a hA
         refine any_one (by kernel_rfl) (op_new (vs := [.bool false, .slice none 0 0, .bool false, .slice none 0 0, .slice none 0 0]) (t := 55) hA hS 8 rfl rfl rfl rfl (fun g => .pointer (some ⟨g, 0, none⟩)) (d_alloc (z := .agg #[.bool false, .slice none 0 0, .bool false, .slice none 0 0, .slice none 0 0]) (by kernel_rfl) rfl) rfl ?_)
         intro g193 w194 hS
         refine ⟨(hS.partD (.cons _ (.cons _ (.cons_cons _ (.cons_cons _ (.cons_cons _ (.cons_cons _ (.cons_cons _ .slnil))))))) 10 rfl (.refl _)), ?_⟩
         intro a hA
         refine any_one (by kernel_rfl) (op_store (us := [.bool ((rb T)), .slice zo179 ((words T.natAbs).length) zc180, .bool false, .slice none 0 0, .slice uo181 ((words 1).length) uc182]) hA hS 10 rfl rfl rfl (sets_store rfl rfl rfl (by kernel_rfl) hS 0 rfl rfl rfl) 0 rfl rfl rfl rfl ?_)
         intro w195 hS
         refine ⟨(hS.partD (.cons _ (.cons _ (.cons_cons _ (.cons_cons _ (.cons_cons _ (.cons_cons _ (.cons_cons _ .slnil))))))) 10 rfl (.refl _)), ?_⟩
         refine any_one (by kernel_rfl) (op_store (us := [.bool ((rb ((R : Nat) : Int))), .slice zo183 ((words ((R : Nat) : Int).natAbs).length) zc184, .bool false, .slice none 0 0, .slice uo185 ((words D).length) uc186]) hA hS 11 rfl rfl rfl (sets_store rfl rfl rfl (by kernel_rfl) hS 1 rfl rfl rfl) 1 rfl rfl rfl rfl ?_)
         intro w196 hS
         refine ⟨(hS.partD (.cons _ (.cons _ (.cons_cons _ (.cons_cons _ (.cons_cons _ (.cons_cons _ (.cons_cons _ .slnil))))))) 10 rfl (.refl _)), ?_⟩
         refine any_end (by kernel_rfl) ?_
         refine hJ72 _ _ ⟨g193, g177, zo179, zc180, uo181, uc182, zo183, zc184, uo185, uc186, hA.keep _ ⟨rfl, rfl, rfl, rfl, rfl, rfl, rfl, rfl, rfl, rfl, rfl, rfl, rfl, rfl, rfl, rfl, rfl, rfl, trivial⟩, (St.pickRL hS ⟨⟨0, rfl⟩, ⟨⟨1, rfl⟩, ⟨⟨2, rfl⟩, ⟨⟨3, rfl⟩, ⟨⟨10, rfl⟩, ⟨⟨11, rfl⟩, ⟨⟨12, rfl⟩, ⟨⟨13, rfl⟩, ⟨⟨14, rfl⟩, ⟨⟨15, rfl⟩, ⟨⟨16, rfl⟩, ⟨⟨17, rfl⟩, trivial⟩⟩⟩⟩⟩⟩⟩⟩⟩⟩⟩⟩ [1, 0, 2, 3, 4, 5, 6] rfl (by decide)), hs190.nil, hs190.cap, hs189.nil, hs189.cap, hs188.nil, hs188.cap, hs187.nil, hs187.cap⟩
       · refine op_new (vs := [.bool false, .slice none 0 0, .bool false, .slice none 0 0, .slice none 0 0]) (t := 55) hA hS 8 rfl rfl rfl rfl (fun g => .pointer (some ⟨g, 0, none⟩)) (d_alloc (z := .agg #[.bool false, .slice none 0 0, .bool false, .slice none 0 0, .slice none 0 0]) (by kernel_rfl) rfl) rfl ?_
         intro g197 w198 hS
         refine ⟨(hS.partD (.cons _ (.cons _ (.cons_cons _ (.cons_cons _ (.cons_cons _ (.cons_cons _ (.cons_cons _ .slnil))))))) 6 rfl (.refl _)), ?_⟩
         intro a hA
         refine any_one (by kernel_rfl) (op_call hA 4 rfl rfl rfl rfl (enters_func  rfl rfl (fun w => by kernel_rfl)) (zdivmod_as ⟨(hS.rd 5 rfl), hs102.nil, hs102.cap⟩ ⟨(hS.rd 4 rfl), hs103.nil, hs103.cap⟩ ⟨(hS.rd 3 rfl), hs104.nil, hs104.cap⟩ ⟨(hS.rd 2 rfl), hs108.nil, hs108.cap⟩ ⟨(hS.rd 1 rfl), hs109.nil, hs109.cap⟩ ⟨(hS.rd 0 rfl), hs110.nil, hs110.cap⟩ (Nat.le_trans (spX_len hu hv) (by decide)) (Nat.le_trans (spY_len hu hv) (by decide)) (Nat.le_trans (spD_len hu hv) (by decide)) (Nat.le_trans (spX_len hx hy) (by decide)) (Nat.le_trans (spY_len hx hy) (by decide)) (Nat.le_trans (spD_len hx hy) (by decide)) (spD_ne u v) hx2 hT hR hD) ?_)
         rintro _ w212 ⟨zo199, zc200, uo201, uc202, zo203, zc204, uo205, uc206, rfl, hs207, hs208, hs209, hs210, hb211⟩
         replace hS := hS.call hb211
         replace hS := hS.addR hs207.rd
         replace hS := hS.addR hs208.rd
         replace hS := hS.addR hs209.rd
         replace hS := hS.addR hs210.rd
         refine ⟨_, rfl, (hS.partD (.cons _ (.cons _ (.cons_cons _ (.cons_cons _ (.cons_cons _ (.cons_cons _ (.cons_cons _ .slnil))))))) 10 rfl (.refl _)), ?_⟩
         intro a hA
         refine any_tk hA 5 rfl rfl rfl rfl hP (hS.partD (.cons _ (.cons _ (.cons_cons _ (.cons_cons _ (.cons_cons _ (.cons_cons _ (.cons_cons _ .slnil))))))) 10 rfl (.refl _)) (fun w1 hS => d_move rfl) ?_
         intro a hA
         refine any_tk (v := .agg #[.bool ((rb T)), .slice zo199 ((words T.natAbs).length) zc200, .bool false, .slice none 0 0, .slice uo201 ((words 1).length) uc202]) hA 6 rfl rfl rfl rfl hP (hS.partD (.cons _ (.cons _ (.cons_cons _ (.cons_cons _ (.cons_cons _ (.cons_cons _ (.cons_cons _ .slnil))))))) 10 rfl (.refl _)) (fun w1 hS => d_extract (vs := [.agg #[.bool ((rb T)), .slice zo199 ((words T.natAbs).length) zc200, .bool false, .slice none 0 0, .slice uo201 ((words 1).length) uc202], .agg #[.bool ((rb ((R : Nat) : Int))), .slice zo203 ((words ((R : Nat) : Int).natAbs).length) zc204, .bool false, .slice none 0 0, .slice uo205 ((words D).length) uc206]]) rfl rfl) ?_
         intro a hA
         refine any_tk (v := .agg #[.bool ((rb ((R : Nat) : Int))), .slice zo203 ((words ((R : Nat) : Int).natAbs).length) zc204, .bool false, .slice none 0 0, .slice uo205 ((words D).length) uc206]) hA 7 rfl rfl rfl rfl hP (hS.partD (.cons _ (.cons _ (.cons_cons _ (.cons_cons _ (.cons_cons _ (.cons_cons _ (.cons_cons _ .slnil))))))) 10 rfl (.refl _)) (fun w1 hS => d_extract (vs := [.agg #[.bool ((rb T)), .slice zo199 ((words T.natAbs).length) zc200, .bool false, .slice none 0 0, .slice uo201 ((words 1).length) uc202], .agg #[.bool ((rb ((R : Nat) : Int))), .slice zo203 ((words ((R : Nat) : Int).natAbs).length) zc204, .bool false, .slice none 0 0, .slice uo205 ((words D).length) uc206]]) rfl rfl) ?_
         intro a hA
         refine any_one (by kernel_rfl) (op_store (us := [.bool ((rb T)), .slice zo199 ((words T.natAbs).length) zc200, .bool false, .slice none 0 0, .slice uo201 ((words 1).length) uc202]) hA hS 10 rfl rfl rfl (sets_store rfl rfl rfl (by kernel_rfl) hS 0 rfl rfl rfl) 0 rfl rfl rfl rfl ?_)
         intro w213 hS
         refine ⟨(hS.partD (.cons _ (.cons _ (.cons_cons _ (.cons_cons _ (.cons_cons _ (.cons_cons _ (.cons_cons _ .slnil))))))) 10 rfl (.refl _)), ?_⟩
         refine any_one (by kernel_rfl) (op_store (us := [.bool ((rb ((R : Nat) : Int))), .slice zo203 ((words ((R : Nat) : Int).natAbs).length) zc204, .bool false, .slice none 0 0, .slice uo205 ((words D).length) uc206]) hA hS 11 rfl rfl rfl (sets_store rfl rfl rfl (by kernel_rfl) hS 1 rfl rfl rfl) 1 rfl rfl rfl rfl ?_)
         intro w214 hS
         refine ⟨(hS.partD (.cons _ (.cons _ (.cons_cons _ (.cons_cons _ (.cons_cons _ (.cons_cons _ (.cons_cons _ .slnil))))))) 10 rfl (.refl _)), ?_⟩
         refine any_end (by kernel_rfl) ?_
         refine hJ72 _ _ ⟨g197, g177, zo199, zc200, uo201, uc202, zo203, zc204, uo205, uc206, hA.keep _ ⟨rfl, rfl, rfl, rfl, rfl, rfl, rfl, rfl, rfl, rfl, rfl, rfl, rfl, rfl, rfl, rfl, rfl, rfl, trivial⟩, (St.pickRL hS ⟨⟨0, rfl⟩, ⟨⟨1, rfl⟩, ⟨⟨2, rfl⟩, ⟨⟨3, rfl⟩, ⟨⟨10, rfl⟩, ⟨⟨11, rfl⟩, ⟨⟨12, rfl⟩, ⟨⟨13, rfl⟩, ⟨⟨14, rfl⟩, ⟨⟨15, rfl⟩, ⟨⟨16, rfl⟩, ⟨⟨17, rfl⟩, trivial⟩⟩⟩⟩⟩⟩⟩⟩⟩⟩⟩⟩ [1, 0, 2, 3, 4, 5, 6] rfl (by decide)), hs210.nil, hs210.cap, hs209.nil, hs209.cap, hs208.nil, hs208.cap, hs207.nil, hs207.cap⟩
   · refine op_new (vs := [.bool false, .slice none 0 0, .bool false, .slice none 0 0, .slice none 0 0]) (t := 55) hA hS 8 rfl rfl rfl rfl (fun g => .pointer (some ⟨g, 0, none⟩)) (d_alloc (z := .agg #[.bool false, .slice none 0 0, .bool false, .slice none 0 0, .slice none 0 0]) (by kernel_rfl) rfl) rfl ?_
     intro g215 w216 hS
     refine ⟨(hS.partD (.cons _ (.cons_cons _ (.cons_cons _ (.cons_cons _ (.cons_cons _ (.cons_cons _ .slnil)))))) 3 rfl (.refl _)), ?_⟩
     intro a hA
     refine any_many (rs := [3, 9]) (by kernel_rfl) (by simp) ⟨?_, ?_, trivial⟩
     · refine op_call hA 3 rfl rfl rfl rfl (enters_func  rfl rfl (fun w => by kernel_rfl)) (zspread_any (show Nm _ (Q6.rat x y) u1 uc1 u2 uc2 u3 uc3 u4 uc4 from ⟨⟨(hS.rd 6 rfl), hb.s1.nil, hb.s1.cap⟩, ⟨(hS.rd 5 rfl), hb.s2.nil, hb.s2.cap⟩, ⟨(hS.rd 4 rfl), hb.s3.nil, hb.s3.cap⟩, ⟨(hS.rd 3 rfl), hb.s4.nil, hb.s4.cap⟩⟩) hx hy) ?_
       rintro _ w222 ⟨p217_1, p217_c1, p217_2, p217_c2, p217_3, p217_c3, rfl, hs218, hs219, hs220, hb221⟩
       replace hS := hS.call hb221
       replace hS := hS.addR hs218.rd
       replace hS := hS.addR hs219.rd
       replace hS := hS.addR hs220.rd
       refine ⟨_, rfl, (hS.partD (.cons _ (.cons_cons _ (.cons_cons _ (.cons_cons _ (.cons_cons _ (.cons_cons _ .slnil)))))) 6 rfl (.refl _)), ?_⟩
       intro a hA
       refine any_many (rs := [4, 9]) (by kernel_rfl) (by simp) ⟨?_, ?_, trivial⟩
       · refine op_call hA 4 rfl rfl rfl rfl (enters_func  rfl rfl (fun w => by kernel_rfl)) (zdivmod_as ⟨(hS.rd 5 rfl), hs102.nil, hs102.cap⟩ ⟨(hS.rd 4 rfl), hs103.nil, hs103.cap⟩ ⟨(hS.rd 3 rfl), hs104.nil, hs104.cap⟩ ⟨(hS.rd 2 rfl), hs218.nil, hs218.cap⟩ ⟨(hS.rd 1 rfl), hs219.nil, hs219.cap⟩ ⟨(hS.rd 0 rfl), hs220.nil, hs220.cap⟩ (Nat.le_trans (spX_len hu hv) (by decide)) (Nat.le_trans (spY_len hu hv) (by decide)) (Nat.le_trans (spD_len hu hv) (by decide)) (Nat.le_trans (spX_len hx hy) (by decide)) (Nat.le_trans (spY_len hx hy) (by decide)) (Nat.le_trans (spD_len hx hy) (by decide)) (spD_ne u v) hx2 hT hR hD) ?_
         rintro _ w236 ⟨zo223, zc224, uo225, uc226, zo227, zc228, uo229, uc230, rfl, hs231, hs232, hs233, hs234, hb235⟩
         replace hS := hS.call hb235
         replace hS := hS.addR hs231.rd
         replace hS := hS.addR hs232.rd
         replace hS := hS.addR hs233.rd
         replace hS := hS.addR hs234.rd
         refine ⟨_, rfl, (hS.partD (.cons _ (.cons_cons _ (.cons_cons _ (.cons_cons _ (.cons_cons _ (.cons_cons _ .slnil)))))) 10 rfl (.refl _)), ?_⟩
         intro a hA
         refine any_tk hA 5 rfl rfl rfl rfl hP (hS.partD (.cons _ (.cons_cons _ (.cons_cons _ (.cons_cons _ (.cons_cons _ (.cons_cons _ .slnil)))))) 10 rfl (.refl _)) (fun w1 hS => d_move rfl) ?_
         intro a hA
         refine any_tk (v := .agg #[.bool ((rb T)), .slice zo223 ((words T.natAbs).length) zc224, .bool false, .slice none 0 0, .slice uo225 ((words 1).length) uc226]) hA 6 rfl rfl rfl rfl hP (hS.partD (.cons _ (.cons_cons _ (.cons_cons _ (.cons_cons _ (.cons_cons _ (.cons_cons _ .slnil)))))) 10 rfl (.refl _)) (fun w1 hS => d_extract (vs := [.agg #[.bool ((rb T)), .slice zo223 ((words T.natAbs).length) zc224, .bool false, .slice none 0 0, .slice uo225 ((words 1).length) uc226], .agg #[.bool ((rb ((R : Nat) : Int))), .slice zo227 ((words ((R : Nat) : Int).natAbs).length) zc228, .bool false, .slice none 0 0, .slice uo229 ((words D).length) uc230]]) rfl rfl) ?_
         intro a hA
         refine any_tk (v := .agg #[.bool ((rb ((R : Nat) : Int))), .slice zo227 ((words ((R : Nat) : Int).natAbs).length) zc228, .bool false, .slice none 0 0, .slice uo229 ((words D).length) uc230]) hA 7 rfl rfl rfl rfl hP (hS.partD (.cons _ (.cons_cons _ (.cons_cons _ (.cons_cons _ (.cons_cons _ (.cons_cons _ .slnil)))))) 10 rfl (.refl _)) (fun w1 hS => d_extract (vs := [.agg #[.bool ((rb T)), .slice zo223 ((words T.natAbs).length) zc224, .bool false, .slice none 0 0, .slice uo225 ((words 1).length) uc226], .agg #[.bool ((rb ((R : Nat) : Int))), .slice zo227 ((words ((R : Nat) : Int).natAbs).length) zc228, .bool false, .slice none 0 0, .slice uo229 ((words D).length) uc230]]) rfl rfl) ?_
         intro a hA
         refine any_one (by kernel_rfl) (op_new (vs := [.bool false, .slice none 0 0, .bool false, .slice none 0 0, .slice none 0 0]) (t := 55) hA hS 9 rfl rfl rfl rfl (fun g => .pointer (some ⟨g, 0, none⟩)) (d_alloc (z := .agg #[.bool false, .slice none 0 0, .bool false, .slice none 0 0, .slice none 0 0]) (by kernel_rfl) rfl) rfl ?_)
         intro g237 w238 hS
         refine ⟨(hS.partD (.cons _ (.cons _ (.cons_cons _ (.cons_cons _ (.cons_cons _ (.cons_cons _ (.cons_cons _ .slnil))))))) 10 rfl (.refl _)), ?_⟩
         intro a hA
         refine any_one (by kernel_rfl) (op_store (us := [.bool ((rb T)), .slice zo223 ((words T.natAbs).length) zc224, .bool false, .slice none 0 0, .slice uo225 ((words 1).length) uc226]) hA hS 10 rfl rfl rfl (sets_store rfl rfl rfl (by kernel_rfl) hS 1 rfl rfl rfl) 1 rfl rfl rfl rfl ?_)
         intro w239 hS
         refine ⟨(hS.partD (.cons _ (.cons _ (.cons_cons _ (.cons_cons _ (.cons_cons _ (.cons_cons _ (.cons_cons _ .slnil))))))) 10 rfl (.refl _)), ?_⟩
         refine any_one (by kernel_rfl) (op_store (us := [.bool ((rb ((R : Nat) : Int))), .slice zo227 ((words ((R : Nat) : Int).natAbs).length) zc228, .bool false, .slice none 0 0, .slice uo229 ((words D).length) uc230]) hA hS 11 rfl rfl rfl (sets_store rfl rfl rfl (by kernel_rfl) hS 0 rfl rfl rfl) 0 rfl rfl rfl rfl ?_)
         intro w240 hS
         refine ⟨(hS.partD (.cons _ (.cons _ (.cons_cons _ (.cons_cons _ (.cons_cons _ (.cons_cons _ (.cons_cons _ .slnil))))))) 10 rfl (.refl _)), ?_⟩
         refine any_end (by kernel_rfl) ?_
         refine hJ72 _ _ ⟨g215, g237, zo223, zc224, uo225, uc226, zo227, zc228, uo229, uc230, hA.keep _ ⟨rfl, rfl, rfl, rfl, rfl, rfl, rfl, rfl, rfl, rfl, rfl, rfl, rfl, rfl, rfl, rfl, rfl, rfl, trivial⟩, (St.pickRL hS ⟨⟨0, rfl⟩, ⟨⟨1, rfl⟩, ⟨⟨2, rfl⟩, ⟨⟨3, rfl⟩, ⟨⟨10, rfl⟩, ⟨⟨11, rfl⟩, ⟨⟨12, rfl⟩, ⟨⟨13, rfl⟩, ⟨⟨14, rfl⟩, ⟨⟨15, rfl⟩, ⟨⟨16, rfl⟩, ⟨⟨17, rfl⟩, trivial⟩⟩⟩⟩⟩⟩⟩⟩⟩⟩⟩⟩ [0, 1, 2, 3, 4, 5, 6] rfl (by decide)), hs234.nil, hs234.cap, hs233.nil, hs233.cap, hs232.nil, hs232.cap, hs231.nil, hs231.cap⟩
       · refine op_new (vs := [.bool false, .slice none 0 0, .bool false, .slice none 0 0, .slice none 0 0]) (t := 55) hA hS 9 rfl rfl rfl rfl (fun g => .pointer (some ⟨g, 0, none⟩)) (d_alloc (z := .agg #[.bool false, .slice none 0 0, .bool false, .slice none 0 0, .slice none 0 0]) (by kernel_rfl) rfl) rfl ?_
         intro g241 w242 hS
         refine ⟨(hS.partD (.cons _ (.cons _ (.cons_cons _ (.cons_cons _ (.cons_cons _ (.cons_cons _ (.cons_cons _ .slnil))))))) 6 rfl (.refl _)), ?_⟩
         intro a hA
         refine any_one (by kernel_rfl) (op_call hA 4 rfl rfl rfl rfl (enters_func  rfl rfl (fun w => by kernel_rfl)) (zdivmod_as ⟨(hS.rd 5 rfl), hs102.nil, hs102.cap⟩ ⟨(hS.rd 4 rfl), hs103.nil, hs103.cap⟩ ⟨(hS.rd 3 rfl), hs104.nil, hs104.cap⟩ ⟨(hS.rd 2 rfl), hs218.nil, hs218.cap⟩ ⟨(hS.rd 1 rfl), hs219.nil, hs219.cap⟩ ⟨(hS.rd 0 rfl), hs220.nil, hs220.cap⟩ (Nat.le_trans (spX_len hu hv) (by decide)) (Nat.le_trans (spY_len hu hv) (by decide)) (Nat.le_trans (spD_len hu hv) (by decide)) (Nat.le_trans (spX_len hx hy) (by decide)) (Nat.le_trans (spY_len hx hy) (by decide)) (Nat.le_trans (spD_len hx hy) (by decide)) (spD_ne u v) hx2 hT hR hD) ?_)
         rintro _ w256 ⟨zo243, zc244, uo245, uc246, zo247, zc248, uo249, uc250, rfl, hs251, hs252, hs253, hs254, hb255⟩
         replace hS := hS.call hb255
         replace hS := hS.addR hs251.rd
         replace hS := hS.addR hs252.rd
         replace hS := hS.addR hs253.rd
         replace hS := hS.addR hs254.rd
         refine ⟨_, rfl, (hS.partD (.cons _ (.cons _ (.cons_cons _ (.cons_cons _ (.cons_cons _ (.cons_cons _ (.cons_cons _ .slnil))))))) 10 rfl (.refl _)), ?_⟩
         intro a hA
         refine any_tk hA 5 rfl rfl rfl rfl hP (hS.partD (.cons _ (.cons _ (.cons_cons _ (.cons_cons _ (.cons_cons _ (.cons_cons _ (.cons_cons _ .slnil))))))) 10 rfl (.refl _)) (fun w1 hS => d_move rfl) ?_
         intro a hA
         refine any_tk (v := .agg #[.bool ((rb T)), .slice zo243 ((words T.natAbs).length) zc244, .bool false, .slice none 0 0, .slice uo245 ((words 1).length) uc246]) hA 6 rfl rfl rfl rfl hP (hS.partD (.cons _ (.cons _ (.cons_cons _ (.cons_cons _ (.cons_cons _ (.cons_cons _ (.cons_cons _ .slnil))))))) 10 rfl (.refl _)) (fun w1 hS => d_extract (vs := [.agg #[.bool ((rb T)), .slice zo243 ((words T.natAbs).length) zc244, .bool false, .slice none 0 0, .slice uo245 ((words 1).length) uc246], .agg #[.bool ((rb ((R : Nat) : Int))), .slice zo247 ((words ((R : Nat) : Int).natAbs).length) zc248, .bool false, .slice none 0 0, .slice uo249 ((words D).length) uc250]]) rfl rfl) ?_
         intro a hA
         refine any_tk (v := .agg #[.bool ((rb ((R : Nat) : Int))), .slice zo247 ((words ((R : Nat) : Int).natAbs).length) zc248, .bool false, .slice none 0 0, .slice uo249 ((words D).length) uc250]) hA 7 rfl rfl rfl rfl hP (hS.partD (.cons _ (.cons _ (.cons_cons _ (.cons_cons _ (.cons_cons _ (.cons_cons _ (.cons_cons _ .slnil))))))) 10 rfl (.refl _)) (fun w1 hS => d_extract (vs := [.agg #[.bool ((rb T)), .slice zo243 ((words T.natAbs).length) zc244, .bool false, .slice none 0 0, .slice uo245 ((words 1).length) uc246], .agg #[.bool ((rb ((R : Nat) : Int))), .slice zo247 ((words ((R : Nat) : Int).natAbs).length) zc248, .bool false, .slice none 0 0, .slice uo249 ((words D).length) uc250]]) rfl rfl) ?_
         intro a hA
         refine any_one (by kernel_rfl) (op_store (us := [.bool ((rb T)), .slice zo243 ((words T.natAbs).length) zc244, .bool false, .slice none 0 0, .slice uo245 ((words 1).length) uc246]) hA hS 10 rfl rfl rfl (sets_store rfl rfl rfl (by kernel_rfl) hS 1 rfl rfl rfl) 1 rfl rfl rfl rfl ?_)
         intro w257 hS
         refine ⟨(hS.partD (.cons _ (.cons _ (.cons_cons _ (.cons_cons _ (.cons_cons _ (.cons_cons _ (.cons_cons _ .slnil))))))) 10 rfl (.refl _)), ?_⟩
         refine any_one (by kernel_rfl) (op_store (us := [.bool ((rb ((R : Nat) : Int))), .slice zo247 ((words ((R : Nat) : Int).natAbs).length) zc248, .bool false, .slice none 0 0, .slice uo249 ((words D).length) uc250]) hA hS 11 rfl rfl rfl (sets_store rfl rfl rfl (by kernel_rfl) hS 0 rfl rfl rfl) 0 rfl rfl rfl rfl ?_)
         intro w258 hS
         refine ⟨(hS.partD (.cons _ (.cons _ (.cons_cons _ (.cons_cons _ (.cons_cons _ (.cons_cons _ (.cons_cons _ .slnil))))))) 10 rfl (.refl _)), ?_⟩
         refine any_end (by kernel_rfl) ?_
         refine hJ72 _ _ ⟨g215, g241, zo243, zc244, uo245, uc246, zo247, zc248, uo249, uc250, hA.keep _ ⟨rfl, rfl, rfl, rfl, rfl, rfl, rfl, rfl, rfl, rfl, rfl, rfl, rfl, rfl, rfl, rfl, rfl, rfl, trivial⟩, (St.pickRL hS ⟨⟨0, rfl⟩, ⟨⟨1, rfl⟩, ⟨⟨2, rfl⟩, ⟨⟨3, rfl⟩, ⟨⟨10, rfl⟩, ⟨⟨11, rfl⟩, ⟨⟨12, rfl⟩, ⟨⟨13, rfl⟩, ⟨⟨14, rfl⟩, ⟨⟨15, rfl⟩, ⟨⟨16, rfl⟩, ⟨⟨17, rfl⟩, trivial⟩⟩⟩⟩⟩⟩⟩⟩⟩⟩⟩⟩ [0, 1, 2, 3, 4, 5, 6] rfl (by decide)), hs254.nil, hs254.cap, hs253.nil, hs253.cap, hs252.nil, hs252.cap, hs251.nil, hs251.cap⟩
     · refine op_new (vs := [.bool false, .slice none 0 0, .bool false, .slice none 0 0, .slice none 0 0]) (t := 55) hA hS 9 rfl rfl rfl rfl (fun g => .pointer (some ⟨g, 0, none⟩)) (d_alloc (z := .agg #[.bool false, .slice none 0 0, .bool false, .slice none 0 0, .slice none 0 0]) (by kernel_rfl) rfl) rfl ?_
       intro g259 w260 hS
       refine ⟨(hS.partD (.cons _ (.cons _ (.cons_cons _ (.cons_cons _ (.cons_cons _ (.cons_cons _ (.cons_cons _ .slnil))))))) 3 rfl (.refl _)), ?_⟩
       intro a hA
       refine any_one (by kernel_rfl) (op_call hA 3 rfl rfl rfl rfl (enters_func  rfl rfl (fun w => by kernel_rfl)) (zspread_any (show Nm _ (Q6.rat x y) u1 uc1 u2 uc2 u3 uc3 u4 uc4 from ⟨⟨(hS.rd 6 rfl), hb.s1.nil, hb.s1.cap⟩, ⟨(hS.rd 5 rfl), hb.s2.nil, hb.s2.cap⟩, ⟨(hS.rd 4 rfl), hb.s3.nil, hb.s3.cap⟩, ⟨(hS.rd 3 rfl), hb.s4.nil, hb.s4.cap⟩⟩) hx hy) ?_)
       rintro _ w266 ⟨p261_1, p261_c1, p261_2, p261_c2, p261_3, p261_c3, rfl, hs262, hs263, hs264, hb265⟩
       replace hS := hS.call hb265
       replace hS := hS.addR hs262.rd
       replace hS := hS.addR hs263.rd
       replace hS := hS.addR hs264.rd
       refine ⟨_, rfl, (hS.partD (.cons _ (.cons _ (.cons_cons _ (.cons_cons _ (.cons_cons _ (.cons_cons _ (.cons_cons _ .slnil))))))) 6 rfl (.refl _)), ?_⟩
       intro a hA
       refine any_one (by kernel_rfl) (op_call hA 4 rfl rfl rfl rfl (enters_func  rfl rfl (fun w => by kernel_rfl)) (zdivmod_as ⟨(hS.rd 5 rfl), hs102.nil, hs102.cap⟩ ⟨(hS.rd 4 rfl), hs103.nil, hs103.cap⟩ ⟨(hS.rd 3 rfl), hs104.nil, hs104.cap⟩ ⟨(hS.rd 2 rfl), hs262.nil, hs262.cap⟩ ⟨(hS.rd 1 rfl), hs263.nil, hs263.cap⟩ ⟨(hS.rd 0 rfl), hs264.nil, hs264.cap⟩ (Nat.le_trans (spX_len hu hv) (by decide)) (Nat.le_trans (spY_len hu hv) (by decide)) (Nat.le_trans (spD_len hu hv) (by decide)) (Nat.le_trans (spX_len hx hy) (by decide)) (Nat.le_trans (spY_len hx hy) (by decide)) (Nat.le_trans (spD_len hx hy) (by decide)) (spD_ne u v) hx2 hT hR hD) ?_)
       rintro _ w280 ⟨zo267, zc268, uo269, uc270, zo271, zc272, uo273, uc274, rfl, hs275, hs276, hs277, hs278, hb279⟩
       replace hS := hS.call hb279
       replace hS := hS.addR hs275.rd
       replace hS := hS.addR hs276.rd
       replace hS := hS.addR hs277.rd
       replace hS := hS.addR hs278.rd
       refine ⟨_, rfl, (hS.partD (.cons _ (.cons _ (.cons_cons _ (.cons_cons _ (.cons_cons _ (.cons_cons _ (.cons_cons _ .slnil))))))) 10 rfl (.refl _)), ?_⟩
       intro a hA
       refine any_tk hA 5 rfl rfl rfl rfl hP (hS.partD (.cons _ (.cons _ (.cons_cons _ (.cons_cons _ (.cons_cons _ (.cons_cons _ (.cons_cons _ .slnil))))))) 10 rfl (.refl _)) (fun w1 hS => d_move rfl) ?_
       intro a hA
       refine any_tk (v := .agg #[.bool ((rb T)), .slice zo267 ((words T.natAbs).length) zc268, .bool false, .slice none 0 0, .slice uo269 ((words 1).length) uc270]) hA 6 rfl rfl rfl rfl hP (hS.partD (.cons _ (.cons _ (.cons_cons _ (.cons_cons _ (.cons_cons _ (.cons_cons _ (.cons_cons _ .slnil))))))) 10 rfl (.refl _)) (fun w1 hS => d_extract (vs := [.agg #[.bool ((rb T)), .slice zo267 ((words T.natAbs).length) zc268, .bool false, .slice none 0 0, .slice uo269 ((words 1).length) uc270], .agg #[.bool ((rb ((R : Nat) : Int))), .slice zo271 ((words ((R : Nat) : Int).natAbs).length) zc272, .bool false, .slice none 0 0, .slice uo273 ((words D).length) uc274]]) rfl rfl) ?_
       intro a hA
       refine any_tk (v := .agg #[.bool ((rb ((R : Nat) : Int))), .slice zo271 ((words ((R : Nat) : Int).natAbs).length) zc272, .bool false, .slice none 0 0, .slice uo273 ((words D).length) uc274]) hA 7 rfl rfl rfl rfl hP (hS.partD (.cons _ (.cons _ (.cons_cons _ (.cons_cons _ (.cons_cons _ (.cons_cons _ (.cons_cons _ .slnil))))))) 10 rfl (.refl _)) (fun w1 hS => d_extract (vs := [.agg #[.bool ((rb T)), .slice zo267 ((words T.natAbs).length) zc268, .bool false, .slice none 0 0, .slice uo269 ((words 1).length) uc270], .agg #[.bool ((rb ((R : Nat) : Int))), .slice zo271 ((words ((R : Nat) : Int).natAbs).length) zc272, .bool false, .slice none 0 0, .slice uo273 ((words D).length) uc274]]) rfl rfl) ?_
       intro a hA
       refine any_one (by kernel_rfl) (op_store (us := [.bool ((rb T)), .slice zo267 ((words T.natAbs).length) zc268, .bool false, .slice none 0 0, .slice uo269 ((words 1).length) uc270]) hA hS 10 rfl rfl rfl (sets_store rfl rfl rfl (by kernel_rfl) hS 1 rfl rfl rfl) 1 rfl rfl rfl rfl ?_)
       intro w281 hS
       refine ⟨(hS.partD (.cons _ (.cons _ (.cons_cons _ (.cons_cons _ (.cons_cons _ (.cons_cons _ (.cons_cons _ .slnil))))))) 10 rfl (.refl _)), ?_⟩
       refine any_one (by kernel_rfl) (op_store (us := [.bool ((rb ((R : Nat) : Int))), .slice zo271 ((words ((R : Nat) : Int).natAbs).length) zc272, .bool false, .slice none 0 0, .slice uo273 ((words D).length) uc274]) hA hS 11 rfl rfl rfl (sets_store rfl rfl rfl (by kernel_rfl) hS 0 rfl rfl rfl) 0 rfl rfl rfl rfl ?_)
       intro w282 hS
       refine ⟨(hS.partD (.cons _ (.cons _ (.cons_cons _ (.cons_cons _ (.cons_cons _ (.cons_cons _ (.cons_cons _ .slnil))))))) 10 rfl (.refl _)), ?_⟩
       refine any_end (by kernel_rfl) ?_
       refine hJ72 _ _ ⟨g215, g259, zo267, zc268, uo269, uc270, zo271, zc272, uo273, uc274, hA.keep _ ⟨rfl, rfl, rfl, rfl, rfl, rfl, rfl, rfl, rfl, rfl, rfl, rfl, rfl, rfl, rfl, rfl, rfl, rfl, trivial⟩, (St.pickRL hS ⟨⟨0, rfl⟩, ⟨⟨1, rfl⟩, ⟨⟨2, rfl⟩, ⟨⟨3, rfl⟩, ⟨⟨10, rfl⟩, ⟨⟨11, rfl⟩, ⟨⟨12, rfl⟩, ⟨⟨13, rfl⟩, ⟨⟨14, rfl⟩, ⟨⟨15, rfl⟩, ⟨⟨16, rfl⟩, ⟨⟨17, rfl⟩, trivial⟩⟩⟩⟩⟩⟩⟩⟩⟩⟩⟩⟩ [0, 1, 2, 3, 4, 5, 6] rfl (by decide)), hs278.nil, hs278.cap, hs277.nil, hs277.cap, hs276.nil, hs276.cap, hs275.nil, hs275.cap⟩
   · refine op_new (vs := [.bool false, .slice none 0 0, .bool false, .slice none 0 0, .slice none 0 0]) (t := 55) hA hS 9 rfl rfl rfl rfl (fun g => .pointer (some ⟨g, 0, none⟩)) (d_alloc (z := .agg #[.bool false, .slice none 0 0, .bool false, .slice none 0 0, .slice none 0 0]) (by kernel_rfl) rfl) rfl ?_
     intro g283 w284 hS
     refine ⟨(hS.partD (.cons _ (.cons_cons _ (.cons_cons _ (.cons_cons _ (.cons_cons _ (.cons_cons _ .slnil)))))) 3 rfl (.refl _)), ?_⟩
     intro a hA
     refine any_many (rs := [3, 8]) (by kernel_rfl) (by simp) ⟨?_, ?_, trivial⟩
     · refine op_call hA 3 rfl rfl rfl rfl (enters_func  rfl rfl (fun w => by kernel_rfl)) (zspread_any (show Nm _ (Q6.rat x y) u1 uc1 u2 uc2 u3 uc3 u4 uc4 from ⟨⟨(hS.rd 6 rfl), hb.s1.nil, hb.s1.cap⟩, ⟨(hS.rd 5 rfl), hb.s2.nil, hb.s2.cap⟩, ⟨(hS.rd 4 rfl), hb.s3.nil, hb.s3.cap⟩, ⟨(hS.rd 3 rfl), hb.s4.nil, hb.s4.cap⟩⟩) hx hy) ?_
       rintro _ w290 ⟨p285_1, p285_c1, p285_2, p285_c2, p285_3, p285_c3, rfl, hs286, hs287, hs288, hb289⟩
       replace hS := hS.call hb289
       replace hS := hS.addR hs286.rd
       replace hS := hS.addR hs287.rd
       replace hS := hS.addR hs288.rd
       refine ⟨_, rfl, (hS.partD (.cons _ (.cons_cons _ (.cons_cons _ (.cons_cons _ (.cons_cons _ (.cons_cons _ .slnil)))))) 6 rfl (.refl _)), ?_⟩
       intro a hA
       refine any_many (rs := [4, 8]) (by kernel_rfl) (by simp) ⟨?_, ?_, trivial⟩
       · refine op_call hA 4 rfl rfl rfl rfl (enters_func  rfl rfl (fun w => by kernel_rfl)) (zdivmod_as ⟨(hS.rd 5 rfl), hs102.nil, hs102.cap⟩ ⟨(hS.rd 4 rfl), hs103.nil, hs103.cap⟩ ⟨(hS.rd 3 rfl), hs104.nil, hs104.cap⟩ ⟨(hS.rd 2 rfl), hs286.nil, hs286.cap⟩ ⟨(hS.rd 1 rfl), hs287.nil, hs287.cap⟩ ⟨(hS.rd 0 rfl), hs288.nil, hs288.cap⟩ (Nat.le_trans (spX_len hu hv) (by decide)) (Nat.le_trans (spY_len hu hv) (by decide)) (Nat.le_trans (spD_len hu hv) (by decide)) (Nat.le_trans (spX_len hx hy) (by decide)) (Nat.le_trans (spY_len hx hy) (by decide)) (Nat.le_trans (spD_len hx hy) (by decide)) (spD_ne u v) hx2 hT hR hD) ?_
         rintro _ w304 ⟨zo291, zc292, uo293, uc294, zo295, zc296, uo297, uc298, rfl, hs299, hs300, hs301, hs302, hb303⟩
         replace hS := hS.call hb303
         replace hS := hS.addR hs299.rd
         replace hS := hS.addR hs300.rd
         replace hS := hS.addR hs301.rd
         replace hS := hS.addR hs302.rd
         refine ⟨_, rfl, (hS.partD (.cons _ (.cons_cons _ (.cons_cons _ (.cons_cons _ (.cons_cons _ (.cons_cons _ .slnil)))))) 10 rfl (.refl _)), ?_⟩
         intro a hA
         refine any_tk hA 5 rfl rfl rfl rfl hP (hS.partD (.cons _ (.cons_cons _ (.cons_cons _ (.cons_cons _ (.cons_cons _ (.cons_cons _ .slnil)))))) 10 rfl (.refl _)) (fun w1 hS => d_move rfl) ?_
         intro a hA
         refine any_tk (v := .agg #[.bool ((rb T)), .slice zo291 ((words T.natAbs).length) zc292, .bool false, .slice none 0 0, .slice uo293 ((words 1).length) uc294]) hA 6 rfl rfl rfl rfl hP (hS.partD (.cons _ (.cons_cons _ (.cons_cons _ (.cons_cons _ (.cons_cons _ (.cons_cons _ .slnil)))))) 10 rfl (.refl _)) (fun w1 hS => d_extract (vs := [.agg #[.bool ((rb T)), .slice zo291 ((words T.natAbs).length) zc292, .bool false, .slice none 0 0, .slice uo293 ((words 1).length) uc294], .agg #[.bool ((rb ((R : Nat) : Int))), .slice zo295 ((words ((R : Nat) : Int).natAbs).length) zc296, .bool false, .slice none 0 0, .slice uo297 ((words D).length) uc298]]) rfl rfl) ?_
         intro a hA
         refine any_tk (v := .agg #[.bool ((rb ((R : Nat) : Int))), .slice zo295 ((words ((R : Nat) : Int).natAbs).length) zc296, .bool false, .slice none 0 0, .slice uo297 ((words D).length) uc298]) hA 7 rfl rfl rfl rfl hP (hS.partD (.cons _ (.cons_cons _ (.cons_cons _ (.cons_cons _ (.cons_cons _ (.cons_cons _ .slnil)))))) 10 rfl (.refl _)) (fun w1 hS => d_extract (vs := [.agg #[.bool ((rb T)), .slice zo291 ((words T.natAbs).length) zc292, .bool false, .slice none 0 0, .slice uo293 ((words 1).length) uc294], .agg #[.bool ((rb ((R : Nat) : Int))), .slice zo295 ((words ((R : Nat) : Int).natAbs).length) zc296, .bool false, .slice none 0 0, .slice uo297 ((words D).length) uc298]]) rfl rfl) ?_
         intro a hA
         refine any_one (by kernel_rfl) (op_new (vs := [.bool false, .slice none 0 0, .bool false, .slice none 0 0, .slice none 0 0]) (t := 55) hA hS 8 rfl rfl rfl rfl (fun g => .pointer (some ⟨g, 0, none⟩)) (d_alloc (z := .agg #[.bool false, .slice none 0 0, .bool false, .slice none 0 0, .slice none 0 0]) (by kernel_rfl) rfl) rfl ?_)
         intro g305 w306 hS
         refine ⟨(hS.partD (.cons _ (.cons _ (.cons_cons _ (.cons_cons _ (.cons_cons _ (.cons_cons _ (.cons_cons _ .slnil))))))) 10 rfl (.refl _)), ?_⟩
         intro a hA
         refine any_one (by kernel_rfl) (op_store (us := [.bool ((rb T)), .slice zo291 ((words T.natAbs).length) zc292, .bool false, .slice none 0 0, .slice uo293 ((words 1).length) uc294]) hA hS 10 rfl rfl rfl (sets_store rfl rfl rfl (by kernel_rfl) hS 0 rfl rfl rfl) 0 rfl rfl rfl rfl ?_)
         intro w307 hS
         refine ⟨(hS.partD (.cons _ (.cons _ (.cons_cons _ (.cons_cons _ (.cons_cons _ (.cons_cons _ (.cons_cons _ .slnil))))))) 10 rfl (.refl _)), ?_⟩
         refine any_one (by kernel_rfl) (op_store (us := [.bool ((rb ((R : Nat) : Int))), .slice zo295 ((words ((R : Nat) : Int).natAbs).length) zc296, .bool false, .slice none 0 0, .slice uo297 ((words D).length) uc298]) hA hS 11 rfl rfl rfl (sets_store rfl rfl rfl (by kernel_rfl) hS 1 rfl rfl rfl) 1 rfl rfl rfl rfl ?_)
         intro w308 hS
         refine ⟨(hS.partD (.cons _ (.cons _ (.cons_cons _ (.cons_cons _ (.cons_cons _ (.cons_cons _ (.cons_cons _ .slnil))))))) 10 rfl (.refl _)), ?_⟩
         refine any_end (by kernel_rfl) ?_
         refine hJ72 _ _ ⟨g305, g283, zo291, zc292, uo293, uc294, zo295, zc296, uo297, uc298, hA.keep _ ⟨rfl, rfl, rfl, rfl, rfl, rfl, rfl, rfl, rfl, rfl, rfl, rfl, rfl, rfl, rfl, rfl, rfl, rfl, trivial⟩, (St.pickRL hS ⟨⟨0, rfl⟩, ⟨⟨1, rfl⟩, ⟨⟨2, rfl⟩, ⟨⟨3, rfl⟩, ⟨⟨10, rfl⟩, ⟨⟨11, rfl⟩, ⟨⟨12, rfl⟩, ⟨⟨13, rfl⟩, ⟨⟨14, rfl⟩, ⟨⟨15, rfl⟩, ⟨⟨16, rfl⟩, ⟨⟨17, rfl⟩, trivial⟩⟩⟩⟩⟩⟩⟩⟩⟩⟩⟩⟩ [1, 0, 2, 3, 4, 5, 6] rfl (by decide)), hs302.nil, hs302.cap, hs301.nil, hs301.cap, hs300.nil, hs300.cap, hs299.nil, hs299.cap⟩
       · refine op_new (vs := [.bool false, .slice none 0 0, .bool false, .slice none 0 0, .slice none 0 0]) (t := 55) hA hS 8 rfl rfl rfl rfl (fun g => .pointer (some ⟨g, 0, none⟩)) (d_alloc (z := .agg #[.bool false, .slice none 0 0, .bool false, .slice none 0 0, .slice none 0 0]) (by kernel_rfl) rfl) rfl ?_
         intro g309 w310 hS
         refine ⟨(hS.partD (.cons _ (.cons _ (.cons_cons _ (.cons_cons _ (.cons_cons _ (.cons_cons _ (.cons_cons _ .slnil))))))) 6 rfl (.refl _)), ?_⟩
         intro a hA
         refine any_one (by kernel_rfl) (op_call hA 4 rfl rfl rfl rfl (enters_func  rfl rfl (fun w => by kernel_rfl)) (zdivmod_as ⟨(hS.rd 5 rfl), hs102.nil, hs102.cap⟩ ⟨(hS.rd 4 rfl), hs103.nil, hs103.cap⟩ ⟨(hS.rd 3 rfl), hs104.nil, hs104.cap⟩ ⟨(hS.rd 2 rfl), hs286.nil, hs286.cap⟩ ⟨(hS.rd 1 rfl), hs287.nil, hs287.cap⟩ ⟨(hS.rd 0 rfl), hs288.nil, hs288.cap⟩ (Nat.le_trans (spX_len hu hv) (by decide)) (Nat.le_trans (spY_len hu hv) (by decide)) (Nat.le_trans (spD_len hu hv) (by decide)) (Nat.le_trans (spX_len hx hy) (by decide)) (Nat.le_trans (spY_len hx hy) (by decide)) (Nat.le_trans (spD_len hx hy) (by decide)) (spD_ne u v) hx2 hT hR hD) ?_)
         rintro _ w324 ⟨zo311, zc312, uo313, uc314, zo315, zc316, uo317, uc318, rfl, hs319, hs320, hs321, hs322, hb323⟩
         replace hS := hS.call hb323
         replace hS := hS.addR hs319.rd
         replace hS := hS.addR hs320.rd
         replace hS := hS.addR hs321.rd
         replace hS := hS.addR hs322.rd
         refine ⟨_, rfl, (hS.partD (.cons _ (.cons _ (.cons_cons _ (.cons_cons _ (.cons_cons _ (.cons_cons _ (.cons_cons _ .slnil))))))) 10 rfl (.refl _)), ?_⟩
         intro a hA
         refine any_tk hA 5 rfl rfl rfl rfl hP (hS.partD (.cons _ (.cons _ (.cons_cons _ (.cons_cons _ (.cons_cons _ (.cons_cons _ (.cons_cons _ .slnil))))))) 10 rfl (.refl _)) (fun w1 hS => d_move rfl) ?_
         intro a hA
         refine any_tk (v := .agg #[.bool ((rb T)), .slice zo311 ((words T.natAbs).length) zc312, .bool false, .slice none 0 0, .slice uo313 ((words 1).length) uc314]) hA 6 rfl rfl rfl rfl hP (hS.partD (.cons _ (.cons _ (.cons_cons _ (.cons_cons _ (.cons_cons _ (.cons_cons _ (.cons_cons _ .slnil))))))) 10 rfl (.refl _)) (fun w1 hS => d_extract (vs := [.agg #[.bool ((rb T)), .slice zo311 ((words T.natAbs).length) zc312, .bool false, .slice none 0 0, .slice uo313 ((words 1).length) uc314], .agg #[.bool ((rb ((R : Nat) : Int))), .slice zo315 ((words ((R : Nat) : Int).natAbs).length) zc316, .bool false, .slice none 0 0, .slice uo317 ((words D).length) uc318]]) rfl rfl) ?_
         intro a hA
         refine any_tk (v := .agg #[.bool ((rb ((R : Nat) : Int))), .slice zo315 ((words ((R : Nat) : Int).natAbs).length) zc316, .bool false, .slice none 0 0, .slice uo317 ((words D).length) uc318]) hA 7 rfl rfl rfl rfl hP (hS.partD (.cons _ (.cons _ (.cons_cons _ (.cons_cons _ (.cons_cons _ (.cons_cons _ (.cons_cons _ .slnil))))))) 10 rfl (.refl _)) (fun w1 hS => d_extract (vs := [.agg #[.bool ((rb T)), .slice zo311 ((words T.natAbs).length) zc312, .bool false, .slice none 0 0, .slice uo313 ((words 1).length) uc314], .agg #[.bool ((rb ((R : Nat) : Int))), .slice zo315 ((words ((R : Nat) : Int).natAbs).length) zc316, .bool false, .slice none 0 0, .slice uo317 ((words D).length) uc318]]) rfl rfl) ?_
         intro a hA
         refine any_one (by kernel_rfl) (op_store (us := [.bool ((rb T)), .slice zo311 ((words T.natAbs).length) zc312, .bool false, .slice none 0 0, .slice uo313 ((words 1).length) uc314]) hA hS 10 rfl rfl rfl (sets_store rfl rfl rfl (by kernel_rfl) hS 0 rfl rfl rfl) 0 rfl rfl rfl rfl ?_)
         intro w325 hS
         refine ⟨(hS.partD (.cons _ (.cons _ (.cons_cons _ (.cons_cons _ (.cons_cons _ (.cons_cons _ (.cons_cons _ .slnil))))))) 10 rfl (.refl _)), ?_⟩
         refine any_one (by kernel_rfl) (op_store (us := [.bool ((rb ((R : Nat) : Int))), .slice zo315 ((words ((R : Nat) : Int).natAbs).length) zc316, .bool false, .slice none 0 0, .slice uo317 ((words D).length) uc318]) hA hS 11 rfl rfl rfl (sets_store rfl rfl rfl (by kernel_rfl) hS 1 rfl rfl rfl) 1 rfl rfl rfl rfl ?_)
         intro w326 hS
         refine ⟨(hS.partD (.cons _ (.cons _ (.cons_cons _ (.cons_cons _ (.cons_cons _ (.cons_cons _ (.cons_cons _ .slnil))))))) 10 rfl (.refl _)), ?_⟩
         refine any_end (by kernel_rfl) ?_
         refine hJ72 _ _ ⟨g309, g283, zo311, zc312, uo313, uc314, zo315, zc316, uo317, uc318, hA.keep _ ⟨rfl, rfl, rfl, rfl, rfl, rfl, rfl, rfl, rfl, rfl, rfl, rfl, rfl, rfl, rfl, rfl, rfl, rfl, trivial⟩, (St.pickRL hS ⟨⟨0, rfl⟩, ⟨⟨1, rfl⟩, ⟨⟨2, rfl⟩, ⟨⟨3, rfl⟩, ⟨⟨10, rfl⟩, ⟨⟨11, rfl⟩, ⟨⟨12, rfl⟩, ⟨⟨13, rfl⟩, ⟨⟨14, rfl⟩, ⟨⟨15, rfl⟩, ⟨⟨16, rfl⟩, ⟨⟨17, rfl⟩, trivial⟩⟩⟩⟩⟩⟩⟩⟩⟩⟩⟩⟩ [1, 0, 2, 3, 4, 5, 6] rfl (by decide)), hs322.nil, hs322.cap, hs321.nil, hs321.cap, hs320.nil, hs320.cap, hs319.nil, hs319.cap⟩
     · refine op_new (vs := [.bool false, .slice none 0 0, .bool false, .slice none 0 0, .slice none 0 0]) (t := 55) hA hS 8 rfl rfl rfl rfl (fun g => .pointer (some ⟨g, 0, none⟩)) (d_alloc (z := .agg #[.bool false, .slice none 0 0, .bool false, .slice none 0 0, .slice none 0 0]) (by kernel_rfl) rfl) rfl ?_
       intro g327 w328 hS
       refine ⟨(hS.partD (.cons _ (.cons _ (.cons_cons _ (.cons_cons _ (.cons_cons _ (.cons_cons _ (.cons_cons _ .slnil))))))) 3 rfl (.refl _)), ?_⟩
       intro a hA
       refine any_one (by kernel_rfl) (op_call hA 3 rfl rfl rfl rfl (enters_func  rfl rfl (fun w => by kernel_rfl)) (zspread_any (show Nm _ (Q6.rat x y) u1 uc1 u2 uc2 u3 uc3 u4 uc4 from ⟨⟨(hS.rd 6 rfl), hb.s1.nil, hb.s1.cap⟩, ⟨(hS.rd 5 rfl), hb.s2.nil, hb.s2.cap⟩, ⟨(hS.rd 4 rfl), hb.s3.nil, hb.s3.cap⟩, ⟨(hS.rd 3 rfl), hb.s4.nil, hb.s4.cap⟩⟩) hx hy) ?_)
       rintro _ w334 ⟨p329_1, p329_c1, p329_2, p329_c2, p329_3, p329_c3, rfl, hs330, hs331, hs332, hb333⟩
       replace hS := hS.call hb333
       replace hS := hS.addR hs330.rd
       replace hS := hS.addR hs331.rd
       replace hS := hS.addR hs332.rd
       refine ⟨_, rfl, (hS.partD (.cons _ (.cons _ (.cons_cons _ (.cons_cons _ (.cons_cons _ (.cons_cons _ (.cons_cons _ .slnil))))))) 6 rfl (.refl _)), ?_⟩
       intro a hA
       refine any_one (by kernel_rfl) (op_call hA 4 rfl rfl rfl rfl (enters_func  rfl rfl (fun w => by kernel_rfl)) (zdivmod_as ⟨(hS.rd 5 rfl), hs102.nil, hs102.cap⟩ ⟨(hS.rd 4 rfl), hs103.nil, hs103.cap⟩ ⟨(hS.rd 3 rfl), hs104.nil, hs104.cap⟩ ⟨(hS.rd 2 rfl), hs330.nil, hs330.cap⟩ ⟨(hS.rd 1 rfl), hs331.nil, hs331.cap⟩ ⟨(hS.rd 0 rfl), hs332.nil, hs332.cap⟩ (Nat.le_trans (spX_len hu hv) (by decide)) (Nat.le_trans (spY_len hu hv) (by decide)) (Nat.le_trans (spD_len hu hv) (by decide)) (Nat.le_trans (spX_len hx hy) (by decide)) (Nat.le_trans (spY_len hx hy) (by decide)) (Nat.le_trans (spD_len hx hy) (by decide)) (spD_ne u v) hx2 hT hR hD) ?_)
       rintro _ w348 ⟨zo335, zc336, uo337, uc338, zo339, zc340, uo341, uc342, rfl, hs343, hs344, hs345, hs346, hb347⟩
       replace hS := hS.call hb347
       replace hS := hS.addR hs343.rd
       replace hS := hS.addR hs344.rd
       replace hS := hS.addR hs345.rd
       replace hS := hS.addR hs346.rd
       refine ⟨_, rfl, (hS.partD (.cons _ (.cons _ (.cons_cons _ (.cons_cons _ (.cons_cons _ (.cons_cons _ (.cons_cons _ .slnil))))))) 10 rfl (.refl _)), ?_⟩
       intro a hA
       refine any_tk hA 5 rfl rfl rfl rfl hP (hS.partD (.cons _ (.cons _ (.cons_cons _ (.cons_cons _ (.cons_cons _ (.cons_cons _ (.cons_cons _ .slnil))))))) 10 rfl (.refl _)) (fun w1 hS => d_move rfl) ?_
       intro a hA
       refine any_tk (v := .agg #[.bool ((rb T)), .slice zo335 ((words T.natAbs).length) zc336, .bool false, .slice none 0 0, .slice uo337 ((words 1).length) uc338]) hA 6 rfl rfl rfl rfl hP (hS.partD (.cons _ (.cons _ (.cons_cons _ (.cons_cons _ (.cons_cons _ (.cons_cons _ (.cons_cons _ .slnil))))))) 10 rfl (.refl _)) (fun w1 hS => d_extract (vs := [.agg #[.bool ((rb T)), .slice zo335 ((words T.natAbs).length) zc336, .bool false, .slice none 0 0, .slice uo337 ((words 1).length) uc338], .agg #[.bool ((rb ((R : Nat) : Int))), .slice zo339 ((words ((R : Nat) : Int).natAbs).length) zc340, .bool false, .slice none 0 0, .slice uo341 ((words D).length) uc342]]) rfl rfl) ?_
       intro a hA
       refine any_tk (v := .agg #[.bool ((rb ((R : Nat) : Int))), .slice zo339 ((words ((R : Nat) : Int).natAbs).length) zc340, .bool false, .slice none 0 0, .slice uo341 ((words D).length) uc342]) hA 7 rfl rfl rfl rfl hP (hS.partD (.cons _ (.cons _ (.cons_cons _ (.cons_cons _ (.cons_cons _ (.cons_cons _ (.cons_cons _ .slnil))))))) 10 rfl (.refl _)) (fun w1 hS => d_extract (vs := [.agg #[.bool ((rb T)), .slice zo335 ((words T.natAbs).length) zc336, .bool false, .slice none 0 0, .slice uo337 ((words 1).length) uc338], .agg #[.bool ((rb ((R : Nat) : Int))), .slice zo339 ((words ((R : Nat) : Int).natAbs).length) zc340, .bool false, .slice none 0 0, .slice uo341 ((words D).length) uc342]]) rfl rfl) ?_
       intro a hA
       refine any_one (by kernel_rfl) (op_store (us := [.bool ((rb T)), .slice zo335 ((words T.natAbs).length) zc336, .bool false, .slice none 0 0, .slice uo337 ((words 1).length) uc338]) hA hS 10 rfl rfl rfl (sets_store rfl rfl rfl (by kernel_rfl) hS 0 rfl rfl rfl) 0 rfl rfl rfl rfl ?_)
       intro w349 hS
       refine ⟨(hS.partD (.cons _ (.cons _ (.cons_cons _ (.cons_cons _ (.cons_cons _ (.cons_cons _ (.cons_cons _ .slnil))))))) 10 rfl (.refl _)), ?_⟩
       refine any_one (by kernel_rfl) (op_store (us := [.bool ((rb ((R : Nat) : Int))), .slice zo339 ((words ((R : Nat) : Int).natAbs).length) zc340, .bool false, .slice none 0 0, .slice uo341 ((words D).length) uc342]) hA hS 11 rfl rfl rfl (sets_store rfl rfl rfl (by kernel_rfl) hS 1 rfl rfl rfl) 1 rfl rfl rfl rfl ?_)
       intro w350 hS
       refine ⟨(hS.partD (.cons _ (.cons _ (.cons_cons _ (.cons_cons _ (.cons_cons _ (.cons_cons _ (.cons_cons _ .slnil))))))) 10 rfl (.refl _)), ?_⟩
       refine any_end (by kernel_rfl) ?_
       refine hJ72 _ _ ⟨g327, g283, zo335, zc336, uo337, uc338, zo339, zc340, uo341, uc342, hA.keep _ ⟨rfl, rfl, rfl, rfl, rfl, rfl, rfl, rfl, rfl, rfl, rfl, rfl, rfl, rfl, rfl, rfl, rfl, rfl, trivial⟩, (St.pickRL hS ⟨⟨0, rfl⟩, ⟨⟨1, rfl⟩, ⟨⟨2, rfl⟩, ⟨⟨3, rfl⟩, ⟨⟨10, rfl⟩, ⟨⟨11, rfl⟩, ⟨⟨12, rfl⟩, ⟨⟨13, rfl⟩, ⟨⟨14, rfl⟩, ⟨⟨15, rfl⟩, ⟨⟨16, rfl⟩, ⟨⟨17, rfl⟩, trivial⟩⟩⟩⟩⟩⟩⟩⟩⟩⟩⟩⟩ [1, 0, 2, 3, 4, 5, 6] rfl (by decide)), hs346.nil, hs346.cap, hs345.nil, hs345.cap, hs344.nil, hs344.cap, hs343.nil, hs343.cap⟩
 · refine op_new (vs := [.bool false, .slice none 0 0, .bool false, .slice none 0 0, .slice none 0 0]) (t := 55) hA hS 8 rfl rfl rfl rfl (fun g => .pointer (some ⟨g, 0, none⟩)) (d_alloc (z := .agg #[.bool false, .slice none 0 0, .bool false, .slice none 0 0, .slice none 0 0]) (by kernel_rfl) rfl) rfl ?_
   intro g351 w352 hS
   refine ⟨(hS.partD (.cons _ (.cons_cons _ (.cons_cons _ (.cons_cons _ (.cons_cons _ (.cons_cons _ .slnil)))))) 0 rfl (.refl _)), ?_⟩
   intro a hA
   refine any_many (rs := [1, 9]) (by kernel_rfl) (by simp) ⟨?_, ?_, trivial⟩
   · refine op_call hA 1 rfl rfl rfl rfl (enters_func  rfl rfl (fun w => by kernel_rfl)) (zspread_any (show Nm _ (Q6.rat u v) a1 ac1 a2 ac2 a3 ac3 a4 ac4 from ⟨⟨(hS.rd 7 rfl), ha.s1.nil, ha.s1.cap⟩, ⟨(hS.rd 6 rfl), ha.s2.nil, ha.s2.cap⟩, ⟨(hS.rd 5 rfl), ha.s3.nil, ha.s3.cap⟩, ⟨(hS.rd 4 rfl), ha.s4.nil, ha.s4.cap⟩⟩) hu hv) ?_
     rintro _ w358 ⟨p353_1, p353_c1, p353_2, p353_c2, p353_3, p353_c3, rfl, hs354, hs355, hs356, hb357⟩
     replace hS := hS.call hb357
     replace hS := hS.addR hs354.rd
     replace hS := hS.addR hs355.rd
     replace hS := hS.addR hs356.rd
     refine ⟨_, rfl, (hS.partD (.cons _ (.cons_cons _ (.cons_cons _ (.cons_cons _ (.cons_cons _ (.cons_cons _ .slnil)))))) 3 rfl (.refl _)), ?_⟩
     intro a hA
     refine any_many (rs := [3, 9]) (by kernel_rfl) (by simp) ⟨?_, ?_, trivial⟩
     · refine op_call hA 3 rfl rfl rfl rfl (enters_func  rfl rfl (fun w => by kernel_rfl)) (zspread_any (show Nm _ (Q6.rat x y) u1 uc1 u2 uc2 u3 uc3 u4 uc4 from ⟨⟨(hS.rd 6 rfl), hb.s1.nil, hb.s1.cap⟩, ⟨(hS.rd 5 rfl), hb.s2.nil, hb.s2.cap⟩, ⟨(hS.rd 4 rfl), hb.s3.nil, hb.s3.cap⟩, ⟨(hS.rd 3 rfl), hb.s4.nil, hb.s4.cap⟩⟩) hx hy) ?_
       rintro _ w364 ⟨p359_1, p359_c1, p359_2, p359_c2, p359_3, p359_c3, rfl, hs360, hs361, hs362, hb363⟩
       replace hS := hS.call hb363
       replace hS := hS.addR hs360.rd
       replace hS := hS.addR hs361.rd
       replace hS := hS.addR hs362.rd
       refine ⟨_, rfl, (hS.partD (.cons _ (.cons_cons _ (.cons_cons _ (.cons_cons _ (.cons_cons _ (.cons_cons _ .slnil)))))) 6 rfl (.refl _)), ?_⟩
       intro a hA
       refine any_many (rs := [4, 9]) (by kernel_rfl) (by simp) ⟨?_, ?_, trivial⟩
       · refine op_call hA 4 rfl rfl rfl rfl (enters_func  rfl rfl (fun w => by kernel_rfl)) (zdivmod_as ⟨(hS.rd 5 rfl), hs354.nil, hs354.cap⟩ ⟨(hS.rd 4 rfl), hs355.nil, hs355.cap⟩ ⟨(hS.rd 3 rfl), hs356.nil, hs356.cap⟩ ⟨(hS.rd 2 rfl), hs360.nil, hs360.cap⟩ ⟨(hS.rd 1 rfl), hs361.nil, hs361.cap⟩ ⟨(hS.rd 0 rfl), hs362.nil, hs362.cap⟩ (Nat.le_trans (spX_len hu hv) (by decide)) (Nat.le_trans (spY_len hu hv) (by decide)) (Nat.le_trans (spD_len hu hv) (by decide)) (Nat.le_trans (spX_len hx hy) (by decide)) (Nat.le_trans (spY_len hx hy) (by decide)) (Nat.le_trans (spD_len hx hy) (by decide)) (spD_ne u v) hx2 hT hR hD) ?_
         rintro _ w378 ⟨zo365, zc366, uo367, uc368, zo369, zc370, uo371, uc372, rfl, hs373, hs374, hs375, hs376, hb377⟩
         replace hS := hS.call hb377
         replace hS := hS.addR hs373.rd
         replace hS := hS.addR hs374.rd
         replace hS := hS.addR hs375.rd
         replace hS := hS.addR hs376.rd
         refine ⟨_, rfl, (hS.partD (.cons _ (.cons_cons _ (.cons_cons _ (.cons_cons _ (.cons_cons _ (.cons_cons _ .slnil)))))) 10 rfl (.refl _)), ?_⟩
         intro a hA
         refine any_tk hA 5 rfl rfl rfl rfl hP (hS.partD (.cons _ (.cons_cons _ (.cons_cons _ (.cons_cons _ (.cons_cons _ (.cons_cons _ .slnil)))))) 10 rfl (.refl _)) (fun w1 hS => d_move rfl) ?_
         intro a hA
         refine any_tk (v := .agg #[.bool ((rb T)), .slice zo365 ((words T.natAbs).length) zc366, .bool false, .slice none 0 0, .slice uo367 ((words 1).length) uc368]) hA 6 rfl rfl rfl rfl hP (hS.partD (.cons _ (.cons_cons _ (.cons_cons _ (.cons_cons _ (.cons_cons _ (.cons_cons _ .slnil)))))) 10 rfl (.refl _)) (fun w1 hS => d_extract (vs := [.agg #[.bool ((rb T)), .slice zo365 ((words T.natAbs).length) zc366, .bool false, .slice none 0 0, .slice uo367 ((words 1).length) uc368], .agg #[.bool ((rb ((R : Nat) : Int))), .slice zo369 ((words ((R : Nat) : Int).natAbs).length) zc370, .bool false, .slice none 0 0, .slice uo371 ((words D).length) uc372]]) rfl rfl) ?_
         intro a hA
         refine any_tk (v := .agg #[.bool ((rb ((R : Nat) : Int))), .slice zo369 ((words ((R : Nat) : Int).natAbs).length) zc370, .bool false, .slice none 0 0, .slice uo371 ((words D).length) uc372]) hA 7 rfl rfl rfl rfl hP (hS.partD (.cons _ (.cons_cons _ (.cons_cons _ (.cons_cons _ (.cons_cons _ (.cons_cons _ .slnil)))))) 10 rfl (.refl _)) (fun w1 hS => d_extract (vs := [.agg #[.bool ((rb T)), .slice zo365 ((words T.natAbs).length) zc366, .bool false, .slice none 0 0, .slice uo367 ((words 1).length) uc368], .agg #[.bool ((rb ((R : Nat) : Int))), .slice zo369 ((words ((R : Nat) : Int).natAbs).length) zc370, .bool false, .slice none 0 0, .slice uo371 ((words D).length) uc372]]) rfl rfl) ?_
         intro a hA
         refine any_one (by kernel_rfl) (op_new (vs := [.bool false, .slice none 0 0, .bool false, .slice none 0 0, .slice none 0 0]) (t := 55) hA hS 9 rfl rfl rfl rfl (fun g => .pointer (some ⟨g, 0, none⟩)) (d_alloc (z := .agg #[.bool false, .slice none 0 0, .bool false, .slice none 0 0, .slice none 0 0]) (by kernel_rfl) rfl) rfl ?_)
         intro g379 w380 hS
         refine ⟨(hS.partD (.cons _ (.cons _ (.cons_cons _ (.cons_cons _ (.cons_cons _ (.cons_cons _ (.cons_cons _ .slnil))))))) 10 rfl (.refl _)), ?_⟩
         intro a hA
         refine any_one (by kernel_rfl) (op_store (us := [.bool ((rb T)), .slice zo365 ((words T.natAbs).length) zc366, .bool false, .slice none 0 0, .slice uo367 ((words 1).length) uc368]) hA hS 10 rfl rfl rfl (sets_store rfl rfl rfl (by kernel_rfl) hS 1 rfl rfl rfl) 1 rfl rfl rfl rfl ?_)
         intro w381 hS
         refine ⟨(hS.partD (.cons _ (.cons _ (.cons_cons _ (.cons_cons _ (.cons_cons _ (.cons_cons _ (.cons_cons _ .slnil))))))) 10 rfl (.refl _)), ?_⟩
         refine any_one (by kernel_rfl) (op_store (us := [.bool ((rb ((R : Nat) : Int))), .slice zo369 ((words ((R : Nat) : Int).natAbs).length) zc370, .bool false, .slice none 0 0, .slice uo371 ((words D).length) uc372]) hA hS 11 rfl rfl rfl (sets_store rfl rfl rfl (by kernel_rfl) hS 0 rfl rfl rfl) 0 rfl rfl rfl rfl ?_)
         intro w382 hS
         refine ⟨(hS.partD (.cons _ (.cons _ (.cons_cons _ (.cons_cons _ (.cons_cons _ (.cons_cons _ (.cons_cons _ .slnil))))))) 10 rfl (.refl _)), ?_⟩
         refine any_end (by kernel_rfl) ?_
         refine hJ72 _ _ ⟨g351, g379, zo365, zc366, uo367, uc368, zo369, zc370, uo371, uc372, hA.keep _ ⟨rfl, rfl, rfl, rfl, rfl, rfl, rfl, rfl, rfl, rfl, rfl, rfl, rfl, rfl, rfl, rfl, rfl, rfl, trivial⟩, (St.pickRL hS ⟨⟨0, rfl⟩, ⟨⟨1, rfl⟩, ⟨⟨2, rfl⟩, ⟨⟨3, rfl⟩, ⟨⟨10, rfl⟩, ⟨⟨11, rfl⟩, ⟨⟨12, rfl⟩, ⟨⟨13, rfl⟩, ⟨⟨14, rfl⟩, ⟨⟨15, rfl⟩, ⟨⟨16, rfl⟩, ⟨⟨17, rfl⟩, trivial⟩⟩⟩⟩⟩⟩⟩⟩⟩⟩⟩⟩ [0, 1, 2, 3, 4, 5, 6] rfl (by decide)), hs376.nil, hs376.cap, hs375.nil, hs375.cap, hs374.nil, hs374.cap, hs373.nil, hs373.cap⟩
       · refine op_new (vs := [.bool false, .slice none 0 0, .bool false, .slice none 0 0, .slice none 0 0]) (t := 55) hA hS 9 rfl rfl rfl rfl (fun g => .pointer (some ⟨g, 0, none⟩)) (d_alloc (z := .agg #[.bool false, .slice none 0 0, .bool false, .slice none 0 0, .slice none 0 0]) (by kernel_rfl) rfl) rfl ?_
         intro g383 w384 hS
         refine ⟨(hS.partD (.cons _ (.cons _ (.cons_cons _ (.cons_cons _ (.cons_cons _ (.cons_cons _ (.cons_cons _ .slnil))))))) 6 rfl (.refl _)), ?_⟩
         intro a hA
         refine any_one (by kernel_rfl) (op_call hA 4 rfl rfl rfl rfl (enters_func  rfl rfl (fun w => by kernel_rfl)) (zdivmod_as ⟨(hS.rd 5 rfl), hs354.nil, hs354.cap⟩ ⟨(hS.rd 4 rfl), hs355.nil, hs355.cap⟩ ⟨(hS.rd 3 rfl), hs356.nil, hs356.cap⟩ ⟨(hS.rd 2 rfl), hs360.nil, hs360.cap⟩ ⟨(hS.rd 1 rfl), hs361.nil, hs361.cap⟩ ⟨(hS.rd 0 rfl), hs362.nil, hs362.cap⟩ (Nat.le_trans (spX_len hu hv) (by decide)) (Nat.le_trans (spY_len hu hv) (by decide)) (Nat.le_trans (spD_len hu hv) (by decide)) (Nat.le_trans (spX_len hx hy) (by decide)) (Nat.le_trans (spY_len hx hy) (by decide)) (Nat.le_trans (spD_len hx hy) (by decide)) (spD_ne u v) hx2 hT hR hD) ?_)
         rintro _ w398 ⟨zo385, zc386, uo387, uc388, zo389, zc390, uo391, uc392, rfl, hs393, hs394, hs395, hs396, hb397⟩
         replace hS := hS.call hb397
         replace hS := hS.addR hs393.rd
         replace hS := hS.addR hs394.rd
         replace hS := hS.addR hs395.rd
         replace hS := hS.addR hs396.rd
         refine ⟨_, rfl, (hS.partD (.cons _ (.cons _ (.cons_cons _ (.cons_cons _ (.cons_cons _ (.cons_cons _ (.cons_cons _ .slnil))))))) 10 rfl (.refl _)), ?_⟩
         intro a hA
         refine any_tk hA 5 rfl rfl rfl rfl hP (hS.partD (.cons _ (.cons _ (.cons_cons _ (.cons_cons _ (.cons_cons _ (.cons_cons _ (.cons_cons _ .slnil))))))) 10 rfl (.refl _)) (fun w1 hS => d_move rfl) ?_
         intro a hA
         refine any_tk (v := .agg #[.bool ((rb T)), .slice zo385 ((words T.natAbs).length) zc386, .bool false, .slice none 0 0, .slice uo387 ((words 1).length) uc388]) hA 6 rfl rfl rfl rfl hP (hS.partD (.cons _ (.cons _ (.cons_cons _ (.cons_cons _ (.cons_cons _ (.cons_cons _ (.cons_cons _ .slnil))))))) 10 rfl (.refl _)) (fun w1 hS => d_extract (vs := [.agg #[.bool ((rb T)), .slice zo385 ((words T.natAbs).length) zc386, .bool false, .slice none 0 0, .slice uo387 ((words 1).length) uc388], .agg #[.bool ((rb ((R : Nat) : Int))), .slice zo389 ((words ((R : Nat) : Int).natAbs).length) zc390, .bool false, .slice none 0 0, .slice uo391 ((words D).length) uc392]]) rfl rfl) ?_
         intro a hA
         refine any_tk (v := .agg #[.bool ((rb ((R : Nat) : Int))), .slice zo389 ((words ((R : Nat) : Int).natAbs).length) zc390, .bool false, .slice none 0 0, .slice uo391 ((words D).length) uc392]) hA 7 rfl rfl rfl rfl hP (hS.partD (.cons _ (.cons _ (.cons_cons _ (.cons_cons _ (.cons_cons _ (.cons_cons _ (.cons_cons _ .slnil))))))) 10 rfl (.refl _)) (fun w1 hS => d_extract (vs := [.agg #[.bool ((rb T)), .slice zo385 ((words T.natAbs).length) zc386, .bool false, .slice none 0 0, .slice uo387 ((words 1).length) uc388], .agg #[.bool ((rb ((R : Nat) : Int))), .slice zo389 ((words ((R : Nat) : Int).natAbs).length) zc390, .bool false, .slice none 0 0, .slice uo391 ((words D).length) uc392]]) rfl rfl) ?_
         intro a hA
         refine any_one (by kernel_rfl) (op_store (us := [.bool ((rb T)), .slice zo385 ((words T.natAbs).length) zc386, .bool false, .slice none 0 0, .slice uo387 ((words 1).length) uc388]) hA hS 10 rfl rfl rfl (sets_store rfl rfl rfl (by kernel_rfl) hS 1 rfl rfl rfl) 1 rfl rfl rfl rfl ?_)
         intro w399 hS
         refine ⟨(hS.partD (.cons _ (.cons _ (.cons_cons _ (.cons_cons _ (.cons_cons _ (.cons_cons _ (.cons_cons _ .slnil))))))) 10 rfl (.refl _)), ?_⟩
         refine any_one (by kernel_rfl) (op_store (us := [.bool ((rb ((R : Nat) : Int))), .slice zo389 ((words ((R : Nat) : Int).natAbs).length) zc390, .bool false, .slice none 0 0, .slice uo391 ((words D).length) uc392]) hA hS 11 rfl rfl rfl (sets_store rfl rfl rfl (by kernel_rfl) hS 0 rfl rfl rfl) 0 rfl rfl rfl rfl ?_)
         intro w400 hS
         refine ⟨(hS.partD (.cons _ (.cons _ (.cons_cons _ (.cons_cons _ (.cons_cons _ (.cons_cons _ (.cons_cons _ .slnil))))))) 10 rfl (.refl _)), ?_⟩
         refine any_end (by kernel_rfl) ?_
         refine hJ72 _ _ ⟨g351, g383, zo385, zc386, uo387, uc388, zo389, zc390, uo391, uc392, hA.keep _ ⟨rfl, rfl, rfl, rfl, rfl, rfl, rfl, rfl, rfl, rfl, rfl, rfl, rfl, rfl, rfl, rfl, rfl, rfl, trivial⟩, (St.pickRL hS ⟨⟨0, rfl⟩, ⟨⟨1, rfl⟩, ⟨⟨2, rfl⟩, ⟨⟨3, rfl⟩, ⟨⟨10, rfl⟩, ⟨⟨11, rfl⟩, ⟨⟨12, rfl⟩, ⟨⟨13, rfl⟩, ⟨⟨14, rfl⟩, ⟨⟨15, rfl⟩, ⟨⟨16, rfl⟩, ⟨⟨17, rfl⟩, trivial⟩⟩⟩⟩⟩⟩⟩⟩⟩⟩⟩⟩ [0, 1, 2, 3, 4, 5, 6] rfl (by decide)), hs396.nil, hs396.cap, hs395.nil, hs395.cap, hs394.nil, hs394.cap, hs393.nil, hs393.cap⟩
     · refine op_new (vs := [.bool false, .slice none 0 0, .bool false, .slice none 0 0, .slice none 0 0]) (t := 55) hA hS 9 rfl rfl rfl rfl (fun g => .pointer (some ⟨g, 0, none⟩)) (d_alloc (z := .agg #[.bool false, .slice none 0 0, .bool false, .slice none 0 0, .slice none 0 0]) (by kernel_rfl) rfl) rfl ?_
       intro g401 w402 hS
       refine ⟨(hS.partD (.cons _ (.cons _ (.cons_cons _ (.cons_cons _ (.cons_cons _ (.cons_cons _ (.cons_cons _ .slnil))))))) 3 rfl (.refl _)), ?_⟩
       intro a hA
       refine any_one (by kernel_rfl) (op_call hA 3 rfl rfl rfl rfl (enters_func  rfl rfl (fun w => by kernel_rfl)) (zspread_any (show Nm _ (Q6.rat x y) u1 uc1 u2 uc2 u3 uc3 u4 uc4 from ⟨⟨(hS.rd 6 rfl), hb.s1.nil, hb.s1.cap⟩, ⟨(hS.rd 5 rfl), hb.s2.nil, hb.s2.cap⟩, ⟨(hS.rd 4 rfl), hb.s3.nil, hb.s3.cap⟩, ⟨(hS.rd 3 rfl), hb.s4.nil, hb.s4.cap⟩⟩) hx hy) ?_)
       rintro _ w408 ⟨p403_1, p403_c1, p403_2, p403_c2, p403_3, p403_c3, rfl, hs404, hs405, hs406, hb407⟩
       replace hS := hS.call hb407
       replace hS := hS.addR hs404.rd
       replace hS := hS.addR hs405.rd
       replace hS := hS.addR hs406.rd
       refine ⟨_, rfl, (hS.partD (.cons _ (.cons _ (.cons_cons _ (.cons_cons _ (.cons_cons _ (.cons_cons _ (.cons_cons _ .slnil))))))) 6 rfl (.refl _)), ?_⟩
       intro a hA
       refine any_one (by kernel_rfl) (op_call hA 4 rfl rfl rfl rfl (enters_func  rfl rfl (fun w => by kernel_rfl)) (zdivmod_as ⟨(hS.rd 5 rfl), hs354.nil, hs354.cap⟩ ⟨(hS.rd 4 rfl), hs355.nil, hs355.cap⟩ ⟨(hS.rd 3 rfl), hs356.nil, hs356.cap⟩ ⟨(hS.rd 2 rfl), hs404.nil, hs404.cap⟩ ⟨(hS.rd 1 rfl), hs405.nil, hs405.cap⟩ ⟨(hS.rd 0 rfl), hs406.nil, hs406.cap⟩ (Nat.le_trans (spX_len hu hv) (by decide)) (Nat.le_trans (spY_len hu hv) (by decide)) (Nat.le_trans (spD_len hu hv) (by decide)) (Nat.le_trans (spX_len hx hy) (by decide)) (Nat.le_trans (spY_len hx hy) (by decide)) (Nat.le_trans (spD_len hx hy) (by decide)) (spD_ne u v) hx2 hT hR hD) ?_)
       rintro _ w422 ⟨zo409, zc410, uo411, uc412, zo413, zc414, uo415, uc416, rfl, hs417, hs418, hs419, hs420, hb421⟩
       replace hS := hS.call hb421
       replace hS := hS.addR hs417.rd
       replace hS := hS.addR hs418.rd
       replace hS := hS.addR hs419.rd
       replace hS := hS.addR hs420.rd
       refine ⟨_, rfl, (hS.partD (.cons _ (.cons _ (.cons_cons _ (.cons_cons _ (.cons_cons _ (.cons_cons _ (.cons_cons _ .slnil))))))) 10 rfl (.refl _)), ?_⟩
       intro a hA
       refine any_tk hA 5 rfl rfl rfl rfl hP (hS.partD (.cons _ (.cons _ (.cons_cons _ (.cons_cons _ (.cons_cons _ (.cons_cons _ (.cons_cons _ .slnil))))))) 10 rfl (.refl _)) (fun w1 hS => d_move rfl) ?_
       intro a hA
       refine any_tk (v := .agg #[.bool ((rb T)), .slice zo409 ((words T.natAbs).length) zc410, .bool false, .slice none 0 0, .slice uo411 ((words 1).length) uc412]) hA 6 rfl rfl rfl rfl hP (hS.partD (.cons _ (.cons _ (.cons_cons _ (.cons_cons _ (.cons_cons _ (.cons_cons _ (.cons_cons _ .slnil))))))) 10 rfl (.refl _)) (fun w1 hS => d_extract (vs := [.agg #[.bool ((rb T)), .slice zo409 ((words T.natAbs).length) zc410, .bool false, .slice none 0 0, .slice uo411 ((words 1).length) uc412], .agg #[.bool ((rb ((R : Nat) : Int))), .slice zo413 ((words ((R : Nat) : Int).natAbs).length) zc414, .bool false, .slice none 0 0, .slice uo415 ((words D).length) uc416]]) rfl rfl) ?_
       intro a hA
       refine any_tk (v := .agg #[.bool ((rb ((R : Nat) : Int))), .slice zo413 ((words ((R : Nat) : Int).natAbs).length) zc414, .bool false, .slice none 0 0, .slice uo415 ((words D).length) uc416]) hA 7 rfl rfl rfl rfl hP (hS.partD (.cons _ (.cons _ (.cons_cons _ (.cons_cons _ (.cons_cons _ (.cons_cons _ (.cons_cons _ .slnil))))))) 10 rfl (.refl _)) (fun w1 hS => d_extract (vs := [.agg #[.bool ((rb T)), .slice zo409 ((words T.natAbs).length) zc410, .bool false, .slice none 0 0, .slice uo411 ((words 1).length) uc412], .agg #[.bool ((rb ((R : Nat) : Int))), .slice zo413 ((words ((R : Nat) : Int).natAbs).length) zc414, .bool false, .slice none 0 0, .slice uo415 ((words D).length) uc416]]) rfl rfl) ?_
       intro a hA
       refine any_one (by kernel_rfl) (op_store (us := [.bool ((rb T)), .slice zo409 ((words T.natAbs).length) zc410, .bool false, .slice none 0 0, .slice uo411 ((words 1).length) uc412]) hA hS 10 rfl rfl rfl (sets_store rfl rfl rfl (by kernel_rfl) hS 1 rfl rfl rfl) 1 rfl rfl rfl rfl ?_)
       intro w423 hS
       refine ⟨(hS.partD (.cons _ (.cons _ (.cons_cons _ (.cons_cons _ (.cons_cons _ (.cons_cons _ (.cons_cons _ .slnil))))))) 10 rfl (.refl _)), ?_⟩
       refine any_one (by kernel_rfl) (op_store (us := [.bool ((rb ((R : Nat) : Int))), .slice zo413 ((words ((R : Nat) : Int).natAbs).length) zc414, .bool false, .slice none 0 0, .slice uo415 ((words D).length) uc416]) hA hS 11 rfl rfl rfl (sets_store rfl rfl rfl (by kernel_rfl) hS 0 rfl rfl rfl) 0 rfl rfl rfl rfl ?_)
       intro w424 hS
       refine ⟨(hS.partD (.cons _ (.cons _ (.cons_cons _ (.cons_cons _ (.cons_cons _ (.cons_cons _ (.cons_cons _ .slnil))))))) 10 rfl (.refl _)), ?_⟩
       refine any_end (by kernel_rfl) ?_
       refine hJ72 _ _ ⟨g351, g401, zo409, zc410, uo411, uc412, zo413, zc414, uo415, uc416, hA.keep _ ⟨rfl, rfl, rfl, rfl, rfl, rfl, rfl, rfl, rfl, rfl, rfl, rfl, rfl, rfl, rfl, rfl, rfl, rfl, trivial⟩, (St.pickRL hS ⟨⟨0, rfl⟩, ⟨⟨1, rfl⟩, ⟨⟨2, rfl⟩, ⟨⟨3, rfl⟩, ⟨⟨10, rfl⟩, ⟨⟨11, rfl⟩, ⟨⟨12, rfl⟩, ⟨⟨13, rfl⟩, ⟨⟨14, rfl⟩, ⟨⟨15, rfl⟩, ⟨⟨16, rfl⟩, ⟨⟨17, rfl⟩, trivial⟩⟩⟩⟩⟩⟩⟩⟩⟩⟩⟩⟩ [0, 1, 2, 3, 4, 5, 6] rfl (by decide)), hs420.nil, hs420.cap, hs419.nil, hs419.cap, hs418.nil, hs418.cap, hs417.nil, hs417.cap⟩
   · refine op_new (vs := [.bool false, .slice none 0 0, .bool false, .slice none 0 0, .slice none 0 0]) (t := 55) hA hS 9 rfl rfl rfl rfl (fun g => .pointer (some ⟨g, 0, none⟩)) (d_alloc (z := .agg #[.bool false, .slice none 0 0, .bool false, .slice none 0 0, .slice none 0 0]) (by kernel_rfl) rfl) rfl ?_
     intro g425 w426 hS
     refine ⟨(hS.partD (.cons _ (.cons _ (.cons_cons _ (.cons_cons _ (.cons_cons _ (.cons_cons _ (.cons_cons _ .slnil))))))) 0 rfl (.refl _)), ?_⟩
     intro a hA
     refine any_one (by kernel_rfl) (op_call hA 1 rfl rfl rfl rfl (enters_func  rfl rfl (fun w => by kernel_rfl)) (zspread_any (show Nm _ (Q6.rat u v) a1 ac1 a2 ac2 a3 ac3 a4 ac4 from ⟨⟨(hS.rd 7 rfl), ha.s1.nil, ha.s1.cap⟩, ⟨(hS.rd 6 rfl), ha.s2.nil, ha.s2.cap⟩, ⟨(hS.rd 5 rfl), ha.s3.nil, ha.s3.cap⟩, ⟨(hS.rd 4 rfl), ha.s4.nil, ha.s4.cap⟩⟩) hu hv) ?_)
     rintro _ w432 ⟨p427_1, p427_c1, p427_2, p427_c2, p427_3, p427_c3, rfl, hs428, hs429, hs430, hb431⟩
     replace hS := hS.call hb431
     replace hS := hS.addR hs428.rd
     replace hS := hS.addR hs429.rd
     replace hS := hS.addR hs430.rd
     refine ⟨_, rfl, (hS.partD (.cons _ (.cons _ (.cons_cons _ (.cons_cons _ (.cons_cons _ (.cons_cons _ (.cons_cons _ .slnil))))))) 3 rfl (.refl _)), ?_⟩
     intro a hA
     refine any_one (by kernel_rfl) (op_call hA 3 rfl rfl rfl rfl (enters_func  rfl rfl (fun w => by kernel_rfl)) (zspread_any (show Nm _ (Q6.rat x y) u1 uc1 u2 uc2 u3 uc3 u4 uc4 from ⟨⟨(hS.rd 6 rfl), hb.s1.nil, hb.s1.cap⟩, ⟨(hS.rd 5 rfl), hb.s2.nil, hb.s2.cap⟩, ⟨(hS.rd 4 rfl), hb.s3.nil, hb.s3.cap⟩, ⟨(hS.rd 3 rfl), hb.s4.nil, hb.s4.cap⟩⟩) hx hy) ?_)
     rintro _ w438 ⟨p433_1, p433_c1, p433_2, p433_c2, p433_3, p433_c3, rfl, hs434, hs435, hs436, hb437⟩
     replace hS := hS.call hb437
     replace hS := hS.addR hs434.rd
     replace hS := hS.addR hs435.rd
     replace hS := hS.addR hs436.rd
     refine ⟨_, rfl, (hS.partD (.cons _ (.cons _ (.cons_cons _ (.cons_cons _ (.cons_cons _ (.cons_cons _ (.cons_cons _ .slnil))))))) 6 rfl (.refl _)), ?_⟩
     intro a hA
     refine any_one (by kernel_rfl) (op_call hA 4 rfl rfl rfl rfl (enters_func  rfl rfl (fun w => by kernel_rfl)) (zdivmod_as ⟨(hS.rd 5 rfl), hs428.nil, hs428.cap⟩ ⟨(hS.rd 4 rfl), hs429.nil, hs429.cap⟩ ⟨(hS.rd 3 rfl), hs430.nil, hs430.cap⟩ ⟨(hS.rd 2 rfl), hs434.nil, hs434.cap⟩ ⟨(hS.rd 1 rfl), hs435.nil, hs435.cap⟩ ⟨(hS.rd 0 rfl), hs436.nil, hs436.cap⟩ (Nat.le_trans (spX_len hu hv) (by decide)) (Nat.le_trans (spY_len hu hv) (by decide)) (Nat.le_trans (spD_len hu hv) (by decide)) (Nat.le_trans (spX_len hx hy) (by decide)) (Nat.le_trans (spY_len hx hy) (by decide)) (Nat.le_trans (spD_len hx hy) (by decide)) (spD_ne u v) hx2 hT hR hD) ?_)
     rintro _ w452 ⟨zo439, zc440, uo441, uc442, zo443, zc444, uo445, uc446, rfl, hs447, hs448, hs449, hs450, hb451⟩
     replace hS := hS.call hb451
     replace hS := hS.addR hs447.rd
     replace hS := hS.addR hs448.rd
     replace hS := hS.addR hs449.rd
     replace hS := hS.addR hs450.rd
     refine ⟨_, rfl, (hS.partD (.cons _ (.cons _ (.cons_cons _ (.cons_cons _ (.cons_cons _ (.cons_cons _ (.cons_cons _ .slnil))))))) 10 rfl (.refl _)), ?_⟩
     intro a hA
     refine any_tk hA 5 rfl rfl rfl rfl hP (hS.partD (.cons _ (.cons _ (.cons_cons _ (.cons_cons _ (.cons_cons _ (.cons_cons _ (.cons_cons _ .slnil))))))) 10 rfl (.refl _)) (fun w1 hS => d_move rfl) ?_
     intro a hA
     refine any_tk (v := .agg #[.bool ((rb T)), .slice zo439 ((words T.natAbs).length) zc440, .bool false, .slice none 0 0, .slice uo441 ((words 1).length) uc442]) hA 6 rfl rfl rfl rfl hP (hS.partD (.cons _ (.cons _ (.cons_cons _ (.cons_cons _ (.cons_cons _ (.cons_cons _ (.cons_cons _ .slnil))))))) 10 rfl (.refl _)) (fun w1 hS => d_extract (vs := [.agg #[.bool ((rb T)), .slice zo439 ((words T.natAbs).length) zc440, .bool false, .slice none 0 0, .slice uo441 ((words 1).length) uc442], .agg #[.bool ((rb ((R : Nat) : Int))), .slice zo443 ((words ((R : Nat) : Int).natAbs).length) zc444, .bool false, .slice none 0 0, .slice uo445 ((words D).length) uc446]]) rfl rfl) ?_
     intro a hA
     refine any_tk (v := .agg #[.bool ((rb ((R : Nat) : Int))), .slice zo443 ((words ((R : Nat) : Int).natAbs).length) zc444, .bool false, .slice none 0 0, .slice uo445 ((words D).length) uc446]) hA 7 rfl rfl rfl rfl hP (hS.partD (.cons _ (.cons _ (.cons_cons _ (.cons_cons _ (.cons_cons _ (.cons_cons _ (.cons_cons _ .slnil))))))) 10 rfl (.refl _)) (fun w1 hS => d_extract (vs := [.agg #[.bool ((rb T)), .slice zo439 ((words T.natAbs).length) zc440, .bool false, .slice none 0 0, .slice uo441 ((words 1).length) uc442], .agg #[.bool ((rb ((R : Nat) : Int))), .slice zo443 ((words ((R : Nat) : Int).natAbs).length) zc444, .bool false, .slice none 0 0, .slice uo445 ((words D).length) uc446]]) rfl rfl) ?_
     intro a hA
     refine any_one (by kernel_rfl) (op_store (us := [.bool ((rb T)), .slice zo439 ((words T.natAbs).length) zc440, .bool false, .slice none 0 0, .slice uo441 ((words 1).length) uc442]) hA hS 10 rfl rfl rfl (sets_store rfl rfl rfl (by kernel_rfl) hS 1 rfl rfl rfl) 1 rfl rfl rfl rfl ?_)
     intro w453 hS
     refine ⟨(hS.partD (.cons _ (.cons _ (.cons_cons _ (.cons_cons _ (.cons_cons _ (.cons_cons _ (.cons_cons _ .slnil))))))) 10 rfl (.refl _)), ?_⟩
     refine any_one (by kernel_rfl) (op_store (us := [.bool ((rb ((R : Nat) : Int))), .slice zo443 ((words ((R : Nat) : Int).natAbs).length) zc444, .bool false, .slice none 0 0, .slice uo445 ((words D).length) uc446]) hA hS 11 rfl rfl rfl (sets_store rfl rfl rfl (by kernel_rfl) hS 0 rfl rfl rfl) 0 rfl rfl rfl rfl ?_)
     intro w454 hS
     refine ⟨(hS.partD (.cons _ (.cons _ (.cons_cons _ (.cons_cons _ (.cons_cons _ (.cons_cons _ (.cons_cons _ .slnil))))))) 10 rfl (.refl _)), ?_⟩
     refine any_end (by kernel_rfl) ?_
     refine hJ72 _ _ ⟨g351, g425, zo439, zc440, uo441, uc442, zo443, zc444, uo445, uc446, hA.keep _ ⟨rfl, rfl, rfl, rfl, rfl, rfl, rfl, rfl, rfl, rfl, rfl, rfl, rfl, rfl, rfl, rfl, rfl, rfl, trivial⟩, (St.pickRL hS ⟨⟨0, rfl⟩, ⟨⟨1, rfl⟩, ⟨⟨2, rfl⟩, ⟨⟨3, rfl⟩, ⟨⟨10, rfl⟩, ⟨⟨11, rfl⟩, ⟨⟨12, rfl⟩, ⟨⟨13, rfl⟩, ⟨⟨14, rfl⟩, ⟨⟨15, rfl⟩, ⟨⟨16, rfl⟩, ⟨⟨17, rfl⟩, trivial⟩⟩⟩⟩⟩⟩⟩⟩⟩⟩⟩⟩ [0, 1, 2, 3, 4, 5, 6] rfl (by decide)), hs450.nil, hs450.cap, hs449.nil, hs449.cap, hs448.nil, hs448.cap, hs447.nil, hs447.cap⟩
 · refine op_new (vs := [.bool false, .slice none 0 0, .bool false, .slice none 0 0, .slice none 0 0]) (t := 55) hA hS 9 rfl rfl rfl rfl (fun g => .pointer (some ⟨g, 0, none⟩)) (d_alloc (z := .agg #[.bool false, .slice none 0 0, .bool false, .slice none 0 0, .slice none 0 0]) (by kernel_rfl) rfl) rfl ?_
   intro g455 w456 hS
   refine ⟨(hS.partD (.cons _ (.cons_cons _ (.cons_cons _ (.cons_cons _ (.cons_cons _ (.cons_cons _ .slnil)))))) 0 rfl (.refl _)), ?_⟩
   intro a hA
   refine any_many (rs := [1, 8]) (by kernel_rfl) (by simp) ⟨?_, ?_, trivial⟩
   · refine op_call hA 1 rfl rfl rfl rfl (enters_func  rfl rfl (fun w => by kernel_rfl)) (zspread_any (show Nm _ (Q6.rat u v) a1 ac1 a2 ac2 a3 ac3 a4 ac4 from ⟨⟨(hS.rd 7 rfl), ha.s1.nil, ha.s1.cap⟩, ⟨(hS.rd 6 rfl), ha.s2.nil, ha.s2.cap⟩, ⟨(hS.rd 5 rfl), ha.s3.nil, ha.s3.cap⟩, ⟨(hS.rd 4 rfl), ha.s4.nil, ha.s4.cap⟩⟩) hu hv) ?_
     rintro _ w462 ⟨p457_1, p457_c1, p457_2, p457_c2, p457_3, p457_c3, rfl, hs458, hs459, hs460, hb461⟩
     replace hS := hS.call hb461
     replace hS := hS.addR hs458.rd
     replace hS := hS.addR hs459.rd
     replace hS := hS.addR hs460.rd
     refine ⟨_, rfl, (hS.partD (.cons _ (.cons_cons _ (.cons_cons _ (.cons_cons _ (.cons_cons _ (.cons_cons _ .slnil)))))) 3 rfl (.refl _)), ?_⟩
     intro a hA
     refine any_many (rs := [3, 8]) (by kernel_rfl) (by simp) ⟨?_, ?_, trivial⟩
     · refine op_call hA 3 rfl rfl rfl rfl (enters_func  rfl rfl (fun w => by kernel_rfl)) (zspread_any (show Nm _ (Q6.rat x y) u1 uc1 u2 uc2 u3 uc3 u4 uc4 from ⟨⟨(hS.rd 6 rfl), hb.s1.nil, hb.s1.cap⟩, ⟨(hS.rd 5 rfl), hb.s2.nil, hb.s2.cap⟩, ⟨(hS.rd 4 rfl), hb.s3.nil, hb.s3.cap⟩, ⟨(hS.rd 3 rfl), hb.s4.nil, hb.s4.cap⟩⟩) hx hy) ?_
       rintro _ w468 ⟨p463_1, p463_c1, p463_2, p463_c2, p463_3, p463_c3, rfl, hs464, hs465, hs466, hb467⟩
       replace hS := hS.call hb467
       replace hS := hS.addR hs464.rd
       replace hS := hS.addR hs465.rd
       replace hS := hS.addR hs466.rd
       refine ⟨_, rfl, (hS.partD (.cons _ (.cons_cons _ (.cons_cons _ (.cons_cons _ (.cons_cons _ (.cons_cons _ .slnil)))))) 6 rfl (.refl _)), ?_⟩
       intro a hA
       refine any_many (rs := [4, 8]) (by kernel_rfl) (by simp) ⟨?_, ?_, trivial⟩
       · refine op_call hA 4 rfl rfl rfl rfl (enters_func  rfl rfl (fun w => by kernel_rfl)) (zdivmod_as ⟨(hS.rd 5 rfl), hs458.nil, hs458.cap⟩ ⟨(hS.rd 4 rfl), hs459.nil, hs459.cap⟩ ⟨(hS.rd 3 rfl), hs460.nil, hs460.cap⟩ ⟨(hS.rd 2 rfl), hs464.nil, hs464.cap⟩ ⟨(hS.rd 1 rfl), hs465.nil, hs465.cap⟩ ⟨(hS.rd 0 rfl), hs466.nil, hs466.cap⟩ (Nat.le_trans (spX_len hu hv) (by decide)) (Nat.le_trans (spY_len hu hv) (by decide)) (Nat.le_trans (spD_len hu hv) (by decide)) (Nat.le_trans (spX_len hx hy) (by decide)) (Nat.le_trans (spY_len hx hy) (by decide)) (Nat.le_trans (spD_len hx hy) (by decide)) (spD_ne u v) hx2 hT hR hD) ?_
         rintro _ w482 ⟨zo469, zc470, uo471, uc472, zo473, zc474, uo475, uc476, rfl, hs477, hs478, hs479, hs480, hb481⟩
         replace hS := hS.call hb481
         replace hS := hS.addR hs477.rd
         replace hS := hS.addR hs478.rd
         replace hS := hS.addR hs479.rd
         replace hS := hS.addR hs480.rd
         refine ⟨_, rfl, (hS.partD (.cons _ (.cons_cons _ (.cons_cons _ (.cons_cons _ (.cons_cons _ (.cons_cons _ .slnil)))))) 10 rfl (.refl _)), ?_⟩
         intro a hA
         refine any_tk hA 5 rfl rfl rfl rfl hP (hS.partD (.cons _ (.cons_cons _ (.cons_cons _ (.cons_cons _ (.cons_cons _ (.cons_cons _ .slnil)))))) 10 rfl (.refl _)) (fun w1 hS => d_move rfl) ?_
         intro a hA
         refine any_tk (v := .agg #[.bool ((rb T)), .slice zo469 ((words T.natAbs).length) zc470, .bool false, .slice none 0 0, .slice uo471 ((words 1).length) uc472]) hA 6 rfl rfl rfl rfl hP (hS.partD (.cons _ (.cons_cons _ (.cons_cons _ (.cons_cons _ (.cons_cons _ (.cons_cons _ .slnil)))))) 10 rfl (.refl _)) (fun w1 hS => d_extract (vs := [.agg #[.bool ((rb T)), .slice zo469 ((words T.natAbs).length) zc470, .bool false, .slice none 0 0, .slice uo471 ((words 1).length) uc472], .agg #[.bool ((rb ((R : Nat) : Int))), .slice zo473 ((words ((R : Nat) : Int).natAbs).length) zc474, .bool false, .slice none 0 0, .slice uo475 ((words D).length) uc476]]) rfl rfl) ?_
         intro a hA
         refine any_tk (v := .agg #[.bool ((rb ((R : Nat) : Int))), .slice zo473 ((words ((R : Nat) : Int).natAbs).length) zc474, .bool false, .slice none 0 0, .slice uo475 ((words D).length) uc476]) hA 7 rfl rfl rfl rfl hP (hS.partD (.cons _ (.cons_cons _ (.cons_cons _ (.cons_cons _ (.cons_cons _ (.cons_cons _ .slnil)))))) 10 rfl (.refl _)) (fun w1 hS => d_extract (vs := [.agg #[.bool ((rb T)), .slice zo469 ((words T.natAbs).length) zc470, .bool false, .slice none 0 0, .slice uo471 ((words 1).length) uc472], .agg #[.bool ((rb ((R : Nat) : Int))), .slice zo473 ((words ((R : Nat) : Int).natAbs).length) zc474, .bool false, .slice none 0 0, .slice uo475 ((words D).length) uc476]]) rfl rfl) ?_
         intro a hA
         refine any_one (by kernel_rfl) (op_new (vs := [.bool false, .slice none 0 0, .bool false, .slice none 0 0, .slice none 0 0]) (t := 55) hA hS 8 rfl rfl rfl rfl (fun g => .pointer (some ⟨g, 0, none⟩)) (d_alloc (z := .agg #[.bool false, .slice none 0 0, .bool false, .slice none 0 0, .slice none 0 0]) (by kernel_rfl) rfl) rfl ?_)
         intro g483 w484 hS
         refine ⟨(hS.partD (.cons _ (.cons _ (.cons_cons _ (.cons_cons _ (.cons_cons _ (.cons_cons _ (.cons_cons _ .slnil))))))) 10 rfl (.refl _)), ?_⟩
         intro a hA
         refine any_one (by kernel_rfl) (op_store (us := [.bool ((rb T)), .slice zo469 ((words T.natAbs).length) zc470, .bool false, .slice none 0 0, .slice uo471 ((words 1).length) uc472]) hA hS 10 rfl rfl rfl (sets_store rfl rfl rfl (by kernel_rfl) hS 0 rfl rfl rfl) 0 rfl rfl rfl rfl ?_)
         intro w485 hS
         refine ⟨(hS.partD (.cons _ (.cons _ (.cons_cons _ (.cons_cons _ (.cons_cons _ (.cons_cons _ (.cons_cons _ .slnil))))))) 10 rfl (.refl _)), ?_⟩
         refine any_one (by kernel_rfl) (op_store (us := [.bool ((rb ((R : Nat) : Int))), .slice zo473 ((words ((R : Nat) : Int).natAbs).length) zc474, .bool false, .slice none 0 0, .slice uo475 ((words D).length) uc476]) hA hS 11 rfl rfl rfl (sets_store rfl rfl rfl (by kernel_rfl) hS 1 rfl rfl rfl) 1 rfl rfl rfl rfl ?_)
         intro w486 hS
         refine ⟨(hS.partD (.cons _ (.cons _ (.cons_cons _ (.cons_cons _ (.cons_cons _ (.cons_cons _ (.cons_cons _ .slnil))))))) 10 rfl (.refl _)), ?_⟩
         refine any_end (by kernel_rfl) ?_
         refine hJ72 _ _ ⟨g483, g455, zo469, zc470, uo471, uc472, zo473, zc474, uo475, uc476, hA.keep _ ⟨rfl, rfl, rfl, rfl, rfl, rfl, rfl, rfl, rfl, rfl, rfl, rfl, rfl, rfl, rfl, rfl, rfl, rfl, trivial⟩, (St.pickRL hS ⟨⟨0, rfl⟩, ⟨⟨1, rfl⟩, ⟨⟨2, rfl⟩, ⟨⟨3, rfl⟩, ⟨⟨10, rfl⟩, ⟨⟨11, rfl⟩, ⟨⟨12, rfl⟩, ⟨⟨13, rfl⟩, ⟨⟨14, rfl⟩, ⟨⟨15, rfl⟩, ⟨⟨16, rfl⟩, ⟨⟨17, rfl⟩, trivial⟩⟩⟩⟩⟩⟩⟩⟩⟩⟩⟩⟩ [1, 0, 2, 3, 4, 5, 6] rfl (by decide)), hs480.nil, hs480.cap, hs479.nil, hs479.cap, hs478.nil, hs478.cap, hs477.nil, hs477.cap⟩
       · refine op_new (vs := [.bool false, .slice none 0 0, .bool false, .slice none 0 0, .slice none 0 0]) (t := 55) hA hS 8 rfl rfl rfl rfl (fun g => .pointer (some ⟨g, 0, none⟩)) (d_alloc (z := .agg #[.bool false, .slice none 0 0, .bool false, .slice none 0 0, .slice none 0 0]) (by kernel_rfl) rfl) rfl ?_
         intro g487 w488 hS
         refine ⟨(hS.partD (.cons _ (.cons _ (.cons_cons _ (.cons_cons _ (.cons_cons _ (.cons_cons _ (.cons_cons _ .slnil))))))) 6 rfl (.refl _)), ?_⟩
         intro a hA
         refine any_one (by kernel_rfl) (op_call hA 4 rfl rfl rfl rfl (enters_func  rfl rfl (fun w => by kernel_rfl)) (zdivmod_as ⟨(hS.rd 5 rfl), hs458.nil, hs458.cap⟩ ⟨(hS.rd 4 rfl), hs459.nil, hs459.cap⟩ ⟨(hS.rd 3 rfl), hs460.nil, hs460.cap⟩ ⟨(hS.rd 2 rfl), hs464.nil, hs464.cap⟩ ⟨(hS.rd 1 rfl), hs465.nil, hs465.cap⟩ ⟨(hS.rd 0 rfl), hs466.nil, hs466.cap⟩ (Nat.le_trans (spX_len hu hv) (by decide)) (Nat.le_trans (spY_len hu hv) (by decide)) (Nat.le_trans (spD_len hu hv) (by decide)) (Nat.le_trans (spX_len hx hy) (by decide)) (Nat.le_trans (spY_len hx hy) (by decide)) (Nat.le_trans (spD_len hx hy) (by decide)) (spD_ne u v) hx2 hT hR hD) ?_)
         rintro _ w502 ⟨zo489, zc490, uo491, uc492, zo493, zc494, uo495, uc496, rfl, hs497, hs498, hs499, hs500, hb501⟩
         replace hS := hS.call hb501
         replace hS := hS.addR hs497.rd
         replace hS := hS.addR hs498.rd
         replace hS := hS.addR hs499.rd
         replace hS := hS.addR hs500.rd
         refine ⟨_, rfl, (hS.partD (.cons _ (.cons _ (.cons_cons _ (.cons_cons _ (.cons_cons _ (.cons_cons _ (.cons_cons _ .slnil))))))) 10 rfl (.refl _)), ?_⟩
         intro a hA
         refine any_tk hA 5 rfl rfl rfl rfl hP (hS.partD (.cons _ (.cons _ (.cons_cons _ (.cons_cons _ (.cons_cons _ (.cons_cons _ (.cons_cons _ .slnil))))))) 10 rfl (.refl _)) (fun w1 hS => d_move rfl) ?_
         intro a hA
         refine any_tk (v := .agg #[.bool ((rb T)), .slice zo489 ((words T.natAbs).length) zc490, .bool false, .slice none 0 0, .slice uo491 ((words 1).length) uc492]) hA 6 rfl rfl rfl rfl hP (hS.partD (.cons _ (.cons _ (.cons_cons _ (.cons_cons _ (.cons_cons _ (.cons_cons _ (.cons_cons _ .slnil))))))) 10 rfl (.refl _)) (fun w1 hS => d_extract (vs := [.agg #[.bool ((rb T)), .slice zo489 ((words T.natAbs).length) zc490, .bool false, .slice none 0 0, .slice uo491 ((words 1).length) uc492], .agg #[.bool ((rb ((R : Nat) : Int))), .slice zo493 ((words ((R : Nat) : Int).natAbs).length) zc494, .bool false, .slice none 0 0, .slice uo495 ((words D).length) uc496]]) rfl rfl) ?_
         intro a hA
         refine any_tk (v := .agg #[.bool ((rb ((R : Nat) : Int))), .slice zo493 ((words ((R : Nat) : Int).natAbs).length) zc494, .bool false, .slice none 0 0, .slice uo495 ((words D).length) uc496]) hA 7 rfl rfl rfl rfl hP (hS.partD (.cons _ (.cons _ (.cons_cons _ (.cons_cons _ (.cons_cons _ (.cons_cons _ (.cons_cons _ .slnil))))))) 10 rfl (.refl _)) (fun w1 hS => d_extract (vs := [.agg #[.bool ((rb T)), .slice zo489 ((words T.natAbs).length) zc490, .bool false, .slice none 0 0, .slice uo491 ((words 1).length) uc492], .agg #[.bool ((rb ((R : Nat) : Int))), .slice zo493 ((words ((R : Nat) : Int).natAbs).length) zc494, .bool false, .slice none 0 0, .slice uo495 ((words D).length) uc496]]) rfl rfl) ?_
         intro a hA
         refine any_one (by kernel_rfl) (op_store (us := [.bool ((rb T)), .slice zo489 ((words T.natAbs).length) zc490, .bool false, .slice none 0 0, .slice uo491 ((words 1).length) uc492]) hA hS 10 rfl rfl rfl (sets_store rfl rfl rfl (by kernel_rfl) hS 0 rfl rfl rfl) 0 rfl rfl rfl rfl ?_)
         intro w503 hS
         refine ⟨(hS.partD (.cons _ (.cons _ (.cons_cons _ (.cons_cons _ (.cons_cons _ (.cons_cons _ (.cons_cons _ .slnil))))))) 10 rfl (.refl _)), ?_⟩
         refine any_one (by kernel_rfl) (op_store (us := [.bool ((rb ((R : Nat) : Int))), .slice zo493 ((words ((R : Nat) : Int).natAbs).length) zc494, .bool false, .slice none 0 0, .slice uo495 ((words D).length) uc496]) hA hS 11 rfl rfl rfl (sets_store rfl rfl rfl (by kernel_rfl) hS 1 rfl rfl rfl) 1 rfl rfl rfl rfl ?_)
         intro w504 hS
         refine ⟨(hS.partD (.cons _ (.cons _ (.cons_cons _ (.cons_cons _ (.cons_cons _ (.cons_cons _ (.cons_cons _ .slnil))))))) 10 rfl (.refl _)), ?_⟩
         refine any_end (by kernel_rfl) ?_
         refine hJ72 _ _ ⟨g487, g455, zo489, zc490, uo491, uc492, zo493, zc494, uo495, uc496, hA.keep _ ⟨rfl, rfl, rfl, rfl, rfl, rfl, rfl, rfl, rfl, rfl, rfl, rfl, rfl, rfl, rfl, rfl, rfl, rfl, trivial⟩, (St.pickRL hS ⟨⟨0, rfl⟩, ⟨⟨1, rfl⟩, ⟨⟨2, rfl⟩, ⟨⟨3, rfl⟩, ⟨⟨10, rfl⟩, ⟨⟨11, rfl⟩, ⟨⟨12, rfl⟩, ⟨⟨13, rfl⟩, ⟨⟨14, rfl⟩, ⟨⟨15, rfl⟩, ⟨⟨16, rfl⟩, ⟨⟨17, rfl⟩, trivial⟩⟩⟩⟩⟩⟩⟩⟩⟩⟩⟩⟩ [1, 0, 2, 3, 4, 5, 6] rfl (by decide)), hs500.nil, hs500.cap, hs499.nil, hs499.cap, hs498.nil, hs498.cap, hs497.nil, hs497.cap⟩
     · refine op_new (vs := [.bool false, .slice none 0 0, .bool false, .slice none 0 0, .slice none 0 0]) (t := 55) hA hS 8 rfl rfl rfl rfl (fun g => .pointer (some ⟨g, 0, none⟩)) (d_alloc (z := .agg #[.bool false, .slice none 0 0, .bool false, .slice none 0 0, .slice none 0 0]) (by kernel_rfl) rfl) rfl ?_
       intro g505 w506 hS
       refine ⟨(hS.partD (.cons _ (.cons _ (.cons_cons _ (.cons_cons _ (.cons_cons _ (.cons_cons _ (.cons_cons _ .slnil))))))) 3 rfl (.refl _)), ?_⟩
       intro a hA
       refine any_one (by kernel_rfl) (op_call hA 3 rfl rfl rfl rfl (enters_func  rfl rfl (fun w => by kernel_rfl)) (zspread_any (show Nm _ (Q6.rat x y) u1 uc1 u2 uc2 u3 uc3 u4 uc4 from ⟨⟨(hS.rd 6 rfl), hb.s1.nil, hb.s1.cap⟩, ⟨(hS.rd 5 rfl), hb.s2.nil, hb.s2.cap⟩, ⟨(hS.rd 4 rfl), hb.s3.nil, hb.s3.cap⟩, ⟨(hS.rd 3 rfl), hb.s4.nil, hb.s4.cap⟩⟩) hx hy) ?_)
       rintro _ w512 ⟨p507_1, p507_c1, p507_2, p507_c2, p507_3, p507_c3, rfl, hs508, hs509, hs510, hb511⟩
       replace hS := hS.call hb511
       replace hS := hS.addR hs508.rd
       replace hS := hS.addR hs509.rd
       replace hS := hS.addR hs510.rd
       refine ⟨_, rfl, (hS.partD (.cons _ (.cons _ (.cons_cons _ (.cons_cons _ (.cons_cons _ (.cons_cons _ (.cons_cons _ .slnil))))))) 6 rfl (.refl _)), ?_⟩
       intro a hA
       refine any_one (by kernel_rfl) (op_call hA 4 rfl rfl rfl rfl (enters_func  rfl rfl (fun w => by kernel_rfl)) (zdivmod_as ⟨(hS.rd 5 rfl), hs458.nil, hs458.cap⟩ ⟨(hS.rd 4 rfl), hs459.nil, hs459.cap⟩ ⟨(hS.rd 3 rfl), hs460.nil, hs460.cap⟩ ⟨(hS.rd 2 rfl), hs508.nil, hs508.cap⟩ ⟨(hS.rd 1 rfl), hs509.nil, hs509.cap⟩ ⟨(hS.rd 0 rfl), hs510.nil, hs510.cap⟩ (Nat.le_trans (spX_len hu hv) (by decide)) (Nat.le_trans (spY_len hu hv) (by decide)) (Nat.le_trans (spD_len hu hv) (by decide)) (Nat.le_trans (spX_len hx hy) (by decide)) (Nat.le_trans (spY_len hx hy) (by decide)) (Nat.le_trans (spD_len hx hy) (by decide)) (spD_ne u v) hx2 hT hR hD) ?_)
       rintro _ w526 ⟨zo513, zc514, uo515, uc516, zo517, zc518, uo519, uc520, rfl, hs521, hs522, hs523, hs524, hb525⟩
       replace hS := hS.call hb525
       replace hS := hS.addR hs521.rd
       replace hS := hS.addR hs522.rd
       replace hS := hS.addR hs523.rd
       replace hS := hS.addR hs524.rd
       refine ⟨_, rfl, (hS.partD (.cons _ (.cons _ (.cons_cons _ (.cons_cons _ (.cons_cons _ (.cons_cons _ (.cons_cons _ .slnil))))))) 10 rfl (.refl _)), ?_⟩
       intro a hA
       refine any_tk hA 5 rfl rfl rfl rfl hP (hS.partD (.cons _ (.cons _ (.cons_cons _ (.cons_cons _ (.cons_cons _ (.cons_cons _ (.cons_cons _ .slnil))))))) 10 rfl (.refl _)) (fun w1 hS => d_move rfl) ?_
       intro a hA
       refine any_tk (v := .agg #[.bool ((rb T)), .slice zo513 ((words T.natAbs).length) zc514, .bool false, .slice none 0 0, .slice uo515 ((words 1).length) uc516]) hA 6 rfl rfl rfl rfl hP (hS.partD (.cons _ (.cons _ (.cons_cons _ (.cons_cons _ (.cons_cons _ (.cons_cons _ (.cons_cons _ .slnil))))))) 10 rfl (.refl _)) (fun w1 hS => d_extract (vs := [.agg #[.bool ((rb T)), .slice zo513 ((words T.natAbs).length) zc514, .bool false, .slice none 0 0, .slice uo515 ((words 1).length) uc516], .agg #[.bool ((rb ((R : Nat) : Int))), .slice zo517 ((words ((R : Nat) : Int).natAbs).length) zc518, .bool false, .slice none 0 0, .slice uo519 ((words D).length) uc520]]) rfl rfl) ?_
       intro a hA
       refine any_tk (v := .agg #[.bool ((rb ((R : Nat) : Int))), .slice zo517 ((words ((R : Nat) : Int).natAbs).length) zc518, .bool false, .slice none 0 0, .slice uo519 ((words D).length) uc520]) hA 7 rfl rfl rfl rfl hP (hS.partD (.cons _ (.cons _ (.cons_cons _ (.cons_cons _ (.cons_cons _ (.cons_cons _ (.cons_cons _ .slnil))))))) 10 rfl (.refl _)) (fun w1 hS => d_extract (vs := [.agg #[.bool ((rb T)), .slice zo513 ((words T.natAbs).length) zc514, .bool false, .slice none 0 0, .slice uo515 ((words 1).length) uc516], .agg #[.bool ((rb ((R : Nat) : Int))), .slice zo517 ((words ((R : Nat) : Int).natAbs).length) zc518, .bool false, .slice none 0 0, .slice uo519 ((words D).length) uc520]]) rfl rfl) ?_
       intro a hA
       refine any_one (by kernel_rfl) (op_store (us := [.bool ((rb T)), .slice zo513 ((words T.natAbs).length) zc514, .bool false, .slice none 0 0, .slice uo515 ((words 1).length) uc516]) hA hS 10 rfl rfl rfl (sets_store rfl rfl rfl (by kernel_rfl) hS 0 rfl rfl rfl) 0 rfl rfl rfl rfl ?_)
       intro w527 hS
       refine ⟨(hS.partD (.cons _ (.cons _ (.cons_cons _ (.cons_cons _ (.cons_cons _ (.cons_cons _ (.cons_cons _ .slnil))))))) 10 rfl (.refl _)), ?_⟩
       refine any_one (by kernel_rfl) (op_store (us := [.bool ((rb ((R : Nat) : Int))), .slice zo517 ((words ((R : Nat) : Int).natAbs).length) zc518, .bool false, .slice none 0 0, .slice uo519 ((words D).length) uc520]) hA hS 11 rfl rfl rfl (sets_store rfl rfl rfl (by kernel_rfl) hS 1 rfl rfl rfl) 1 rfl rfl rfl rfl ?_)
       intro w528 hS
       refine ⟨(hS.partD (.cons _ (.cons _ (.cons_cons _ (.cons_cons _ (.cons_cons _ (.cons_cons _ (.cons_cons _ .slnil))))))) 10 rfl (.refl _)), ?_⟩
       refine any_end (by kernel_rfl) ?_
       refine hJ72 _ _ ⟨g505, g455, zo513, zc514, uo515, uc516, zo517, zc518, uo519, uc520, hA.keep _ ⟨rfl, rfl, rfl, rfl, rfl, rfl, rfl, rfl, rfl, rfl, rfl, rfl, rfl, rfl, rfl, rfl, rfl, rfl, trivial⟩, (St.pickRL hS ⟨⟨0, rfl⟩, ⟨⟨1, rfl⟩, ⟨⟨2, rfl⟩, ⟨⟨3, rfl⟩, ⟨⟨10, rfl⟩, ⟨⟨11, rfl⟩, ⟨⟨12, rfl⟩, ⟨⟨13, rfl⟩, ⟨⟨14, rfl⟩, ⟨⟨15, rfl⟩, ⟨⟨16, rfl⟩, ⟨⟨17, rfl⟩, trivial⟩⟩⟩⟩⟩⟩⟩⟩⟩⟩⟩⟩ [1, 0, 2, 3, 4, 5, 6] rfl (by decide)), hs524.nil, hs524.cap, hs523.nil, hs523.cap, hs522.nil, hs522.cap, hs521.nil, hs521.cap⟩
   · refine op_new (vs := [.bool false, .slice none 0 0, .bool false, .slice none 0 0, .slice none 0 0]) (t := 55) hA hS 8 rfl rfl rfl rfl (fun g => .pointer (some ⟨g, 0, none⟩)) (d_alloc (z := .agg #[.bool false, .slice none 0 0, .bool false, .slice none 0 0, .slice none 0 0]) (by kernel_rfl) rfl) rfl ?_
     intro g529 w530 hS
     refine ⟨(hS.partD (.cons _ (.cons _ (.cons_cons _ (.cons_cons _ (.cons_cons _ (.cons_cons _ (.cons_cons _ .slnil))))))) 0 rfl (.refl _)), ?_⟩
     intro a hA
     refine any_one (by kernel_rfl) (op_call hA 1 rfl rfl rfl rfl (enters_func  rfl rfl (fun w => by kernel_rfl)) (zspread_any (show Nm _ (Q6.rat u v) a1 ac1 a2 ac2 a3 ac3 a4 ac4 from ⟨⟨(hS.rd 7 rfl), ha.s1.nil, ha.s1.cap⟩, ⟨(hS.rd 6 rfl), ha.s2.nil, ha.s2.cap⟩, ⟨(hS.rd 5 rfl), ha.s3.nil, ha.s3.cap⟩, ⟨(hS.rd 4 rfl), ha.s4.nil, ha.s4.cap⟩⟩) hu hv) ?_)
     rintro _ w536 ⟨p531_1, p531_c1, p531_2, p531_c2, p531_3, p531_c3, rfl, hs532, hs533, hs534, hb535⟩
     replace hS := hS.call hb535
     replace hS := hS.addR hs532.rd
     replace hS := hS.addR hs533.rd
     replace hS := hS.addR hs534.rd
     refine ⟨_, rfl, (hS.partD (.cons _ (.cons _ (.cons_cons _ (.cons_cons _ (.cons_cons _ (.cons_cons _ (.cons_cons _ .slnil))))))) 3 rfl (.refl _)), ?_⟩
     intro a hA
     refine any_one (by kernel_rfl) (op_call hA 3 rfl rfl rfl rfl (enters_func  rfl rfl (fun w => by kernel_rfl)) (zspread_any (show Nm _ (Q6.rat x y) u1 uc1 u2 uc2 u3 uc3 u4 uc4 from ⟨⟨(hS.rd 6 rfl), hb.s1.nil, hb.s1.cap⟩, ⟨(hS.rd 5 rfl), hb.s2.nil, hb.s2.cap⟩, ⟨(hS.rd 4 rfl), hb.s3.nil, hb.s3.cap⟩, ⟨(hS.rd 3 rfl), hb.s4.nil, hb.s4.cap⟩⟩) hx hy) ?_)
     rintro _ w542 ⟨p537_1, p537_c1, p537_2, p537_c2, p537_3, p537_c3, rfl, hs538, hs539, hs540, hb541⟩
     replace hS := hS.call hb541
     replace hS := hS.addR hs538.rd
     replace hS := hS.addR hs539.rd
     replace hS := hS.addR hs540.rd
     refine ⟨_, rfl, (hS.partD (.cons _ (.cons _ (.cons_cons _ (.cons_cons _ (.cons_cons _ (.cons_cons _ (.cons_cons _ .slnil))))))) 6 rfl (.refl _)), ?_⟩
     intro a hA
     refine any_one (by kernel_rfl) (op_call hA 4 rfl rfl rfl rfl (enters_func  rfl rfl (fun w => by kernel_rfl)) (zdivmod_as ⟨(hS.rd 5 rfl), hs532.nil, hs532.cap⟩ ⟨(hS.rd 4 rfl), hs533.nil, hs533.cap⟩ ⟨(hS.rd 3 rfl), hs534.nil, hs534.cap⟩ ⟨(hS.rd 2 rfl), hs538.nil, hs538.cap⟩ ⟨(hS.rd 1 rfl), hs539.nil, hs539.cap⟩ ⟨(hS.rd 0 rfl), hs540.nil, hs540.cap⟩ (Nat.le_trans (spX_len hu hv) (by decide)) (Nat.le_trans (spY_len hu hv) (by decide)) (Nat.le_trans (spD_len hu hv) (by decide)) (Nat.le_trans (spX_len hx hy) (by decide)) (Nat.le_trans (spY_len hx hy) (by decide)) (Nat.le_trans (spD_len hx hy) (by decide)) (spD_ne u v) hx2 hT hR hD) ?_)
     rintro _ w556 ⟨zo543, zc544, uo545, uc546, zo547, zc548, uo549, uc550, rfl, hs551, hs552, hs553, hs554, hb555⟩
     replace hS := hS.call hb555
     replace hS := hS.addR hs551.rd
     replace hS := hS.addR hs552.rd
     replace hS := hS.addR hs553.rd
     replace hS := hS.addR hs554.rd
     refine ⟨_, rfl, (hS.partD (.cons _ (.cons _ (.cons_cons _ (.cons_cons _ (.cons_cons _ (.cons_cons _ (.cons_cons _ .slnil))))))) 10 rfl (.refl _)), ?_⟩
     intro a hA
     refine any_tk hA 5 rfl rfl rfl rfl hP (hS.partD (.cons _ (.cons _ (.cons_cons _ (.cons_cons _ (.cons_cons _ (.cons_cons _ (.cons_cons _ .slnil))))))) 10 rfl (.refl _)) (fun w1 hS => d_move rfl) ?_
     intro a hA
     refine any_tk (v := .agg #[.bool ((rb T)), .slice zo543 ((words T.natAbs).length) zc544, .bool false, .slice none 0 0, .slice uo545 ((words 1).length) uc546]) hA 6 rfl rfl rfl rfl hP (hS.partD (.cons _ (.cons _ (.cons_cons _ (.cons_cons _ (.cons_cons _ (.cons_cons _ (.cons_cons _ .slnil))))))) 10 rfl (.refl _)) (fun w1 hS => d_extract (vs := [.agg #[.bool ((rb T)), .slice zo543 ((words T.natAbs).length) zc544, .bool false, .slice none 0 0, .slice uo545 ((words 1).length) uc546], .agg #[.bool ((rb ((R : Nat) : Int))), .slice zo547 ((words ((R : Nat) : Int).natAbs).length) zc548, .bool false, .slice none 0 0, .slice uo549 ((words D).length) uc550]]) rfl rfl) ?_
     intro a hA
     refine any_tk (v := .agg #[.bool ((rb ((R : Nat) : Int))), .slice zo547 ((words ((R : Nat) : Int).natAbs).length) zc548, .bool false, .slice none 0 0, .slice uo549 ((words D).length) uc550]) hA 7 rfl rfl rfl rfl hP (hS.partD (.cons _ (.cons _ (.cons_cons _ (.cons_cons _ (.cons_cons _ (.cons_cons _ (.cons_cons _ .slnil))))))) 10 rfl (.refl _)) (fun w1 hS => d_extract (vs := [.agg #[.bool ((rb T)), .slice zo543 ((words T.natAbs).length) zc544, .bool false, .slice none 0 0, .slice uo545 ((words 1).length) uc546], .agg #[.bool ((rb ((R : Nat) : Int))), .slice zo547 ((words ((R : Nat) : Int).natAbs).length) zc548, .bool false, .slice none 0 0, .slice uo549 ((words D).length) uc550]]) rfl rfl) ?_
     intro a hA
     refine any_one (by kernel_rfl) (op_store (us := [.bool ((rb T)), .slice zo543 ((words T.natAbs).length) zc544, .bool false, .slice none 0 0, .slice uo545 ((words 1).length) uc546]) hA hS 10 rfl rfl rfl (sets_store rfl rfl rfl (by kernel_rfl) hS 0 rfl rfl rfl) 0 rfl rfl rfl rfl ?_)
     intro w557 hS
     refine ⟨(hS.partD (.cons _ (.cons _ (.cons_cons _ (.cons_cons _ (.cons_cons _ (.cons_cons _ (.cons_cons _ .slnil))))))) 10 rfl (.refl _)), ?_⟩
     refine any_one (by kernel_rfl) (op_store (us := [.bool ((rb ((R : Nat) : Int))), .slice zo547 ((words ((R : Nat) : Int).natAbs).length) zc548, .bool false, .slice none 0 0, .slice uo549 ((words D).length) uc550]) hA hS 11 rfl rfl rfl (sets_store rfl rfl rfl (by kernel_rfl) hS 1 rfl rfl rfl) 1 rfl rfl rfl rfl ?_)
     intro w558 hS
     refine ⟨(hS.partD (.cons _ (.cons _ (.cons_cons _ (.cons_cons _ (.cons_cons _ (.cons_cons _ (.cons_cons _ .slnil))))))) 10 rfl (.refl _)), ?_⟩
     refine any_end (by kernel_rfl) ?_
     refine hJ72 _ _ ⟨g529, g455, zo543, zc544, uo545, uc546, zo547, zc548, uo549, uc550, hA.keep _ ⟨rfl, rfl, rfl, rfl, rfl, rfl, rfl, rfl, rfl, rfl, rfl, rfl, rfl, rfl, rfl, rfl, rfl, rfl, trivial⟩, (St.pickRL hS ⟨⟨0, rfl⟩, ⟨⟨1, rfl⟩, ⟨⟨2, rfl⟩, ⟨⟨3, rfl⟩, ⟨⟨10, rfl⟩, ⟨⟨11, rfl⟩, ⟨⟨12, rfl⟩, ⟨⟨13, rfl⟩, ⟨⟨14, rfl⟩, ⟨⟨15, rfl⟩, ⟨⟨16, rfl⟩, ⟨⟨17, rfl⟩, trivial⟩⟩⟩⟩⟩⟩⟩⟩⟩⟩⟩⟩ [1, 0, 2, 3, 4, 5, 6] rfl (by decide)), hs554.nil, hs554.cap, hs553.nil, hs553.cap, hs552.nil, hs552.cap, hs551.nil, hs551.cap⟩
end Go.Proofs.YthlkbnhbmfmchaaGreat
namespace Go.Proofs.YthlkbnhbmfmchaaGreat
open Go.RowKit
set_option linter.unusedVariables false
set_option linter.unusedSimpArgs false
set_option maxRecDepth 100000

theorem dmQ_any {w : World} {p q : Q6} {a1 a2 a3 a4 : Option Addr} {ac1 ac2 ac3 ac4 : Nat} (ha : Nm w p a1 ac1 a2 ac2 a3 ac3 a4 ac4) (hl : LenQ p) {u1 u2 u3 u4 : Option Addr} {uc1 uc2 uc3 uc4 : Nat} (hb : Nm w q u1 uc1 u2 uc2 u3 uc3 u4 uc4) (hm : LenQ q) : Calls Tryz.prog 28 #[numV p a1 ac1 a2 ac2 a3 ac3 a4 ac4, numV q u1 uc1 u2 uc2 u3 uc3 u4 uc4] w (AnsNN w (dmQ p q)) := by
  unfold dmQ
  by_cases hw : wantR2 p q = 0
  · rw [if_pos hw]
    obtain ⟨s1, s2⟩ := wantR2_ok hw
    obtain ⟨u, v, rfl, hu, hv⟩ := sound_rat ha.s1.rd.dig ha.s2.rd.dig ha.s3.rd.dig ha.s4.rd.dig s1
    obtain ⟨x, y, rfl, hx, hy⟩ := sound_rat hb.s1.rd.dig hb.s2.rd.dig hb.s3.rd.dig hb.s4.rd.dig s2
    have hw' := hw
    rw [wantR2_rat hu hv hx hy] at hw'
    have hvy : v = 0 ∧ y = 0 := by
      by_cases k : v = 0 ∧ y = 0
      · exact k
      · rw [if_neg k] at hw'; exact absurd hw' (by decide)
    obtain ⟨rfl, rfl⟩ := hvy
    rw [reQ_rat, reQ_rat]
    by_cases hz : x = 0
    · rw [if_pos hz]
      exact dmZ_any ha hb hu hv hx hy hw ⟨hz, rfl⟩
    · rw [if_neg hz]
      have m1 := spX_len hu hv
      have m3 := spD_len hu hv
      have m4 := spX_len hx hy
      have m6 := spD_len hx hy
      have n1 := dmT_len (x2 := spX x 0) (d1 := spD u 0) (k := 1024) (by decide) m1 m6
      have h0 := spX_ne hz
      have n2 := dmR_len (x1 := spX u 0) (d2 := spD x 0) (Nat.mul_ne_zero (by omega) (spD_ne u 0)) m4 m3
      have n4 := words_mul_length m3 m6
      have hD := Nat.mul_ne_zero (spD_ne u 0) (spD_ne x 0)
      refine dmW_any ha hb hu hv hx hy hw (fun k => hz k.1) h0 rfl rfl rfl hD (Nat.le_trans n1 (by decide)) (Nat.le_trans n2 (by decide)) one_len (Nat.le_trans n4 (by decide)) ?_ ?_
      · rw [setQ_rat _ _ (by decide), Rat.zero_mkRat]; rfl
      · rw [setQ_rat _ _ hD, Rat.zero_mkRat]; rfl
  · rw [if_neg hw]
    exact dmE_any ha hl hb hm (bne_of hw)
end Go.Proofs.YthlkbnhbmfmchaaGreat
