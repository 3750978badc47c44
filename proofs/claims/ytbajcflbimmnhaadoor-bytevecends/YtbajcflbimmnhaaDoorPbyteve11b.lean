/- Walks of sums, differences, products and quotients. Walks of Add, Sub, Mul, Div. Operators on texts. Walks of the text of minus three halves, and of the fixed fact. The numbers are a field. Walks of the law of the field. Quotients of whole numbers, downwards, and the order of rational ones. Walks of the order and the quotients of real numbers. Walks of Cmp and of the quotients. Walks of divMod and DivMod. Walks of DivMod. Quotient and rest of real numbers. DivMod of any numbers. Facts of the order of real numbers. Walks of the law of the order. Powers of numbers. Walks of the powers. -/
import Derived.Test.YtbajcflbimmnhaaDoorPbyteve11a
import Derived.Test.YtbajcflbimmnhaaDoorTxtD
namespace Go.Proofs.YtbajcflbimmnhaaDoor
open Go.RowKit
set_option linter.unusedVariables false
set_option linter.unusedSimpArgs false
set_option maxRecDepth 100000
theorem ExK_is1_23 : Is1 Tryd.prog 23 := ⟨⟨_, Tryd.underlying23, rfl⟩, by kernel_rfl⟩
theorem ExK_is1_4 : Is1 Tryd.prog 4 := ⟨⟨_, Tryd.underlying4, rfl⟩, by kernel_rfl⟩
theorem ExK_fld_25_0 : FieldAt Tryd.prog 25 0 0 := ⟨_, _, Tryd.underlying25, rfl, rfl, by kernel_rfl⟩
theorem ExK_fld_25_1 : FieldAt Tryd.prog 25 1 1 := ⟨_, _, Tryd.underlying25, rfl, rfl, by kernel_rfl⟩
theorem ExK_fld_25_2 : FieldAt Tryd.prog 25 2 2 := ⟨_, _, Tryd.underlying25, rfl, rfl, by kernel_rfl⟩
theorem ExK_fld_27_0 : FieldAt Tryd.prog 27 0 0 := ⟨_, _, Tryd.underlying27, rfl, rfl, by kernel_rfl⟩
theorem ExK_fld_27_1 : FieldAt Tryd.prog 27 1 3 := ⟨_, _, Tryd.underlying27, rfl, rfl, by kernel_rfl⟩
theorem ExK_fld_60_0 : FieldAt Tryd.prog 60 0 0 := ⟨_, _, Tryd.underlying60, rfl, rfl, by kernel_rfl⟩
theorem ExK_fld_60_1 : FieldAt Tryd.prog 60 1 1 := ⟨_, _, Tryd.underlying60, rfl, rfl, by kernel_rfl⟩
theorem ExK_fld_62_0 : FieldAt Tryd.prog 62 0 0 := ⟨_, _, Tryd.underlying62, rfl, rfl, by kernel_rfl⟩
theorem ExK_fld_62_1 : FieldAt Tryd.prog 62 1 2 := ⟨_, _, Tryd.underlying62, rfl, rfl, by kernel_rfl⟩
theorem ExK_fld_62_2 : FieldAt Tryd.prog 62 2 4 := ⟨_, _, Tryd.underlying62, rfl, rfl, by kernel_rfl⟩
theorem ExK_isS_60 : IsS Tryd.prog 60 2 := ⟨⟨_, Tryd.underlying60⟩, by kernel_rfl⟩
theorem ExK_isS_62 : IsS Tryd.prog 62 5 := ⟨⟨_, Tryd.underlying62⟩, by kernel_rfl⟩
theorem zspread_any {w : World} {u v : Rat} {a1 a2 a3 a4 : Option Addr} {ac1 ac2 ac3 ac4 : Nat} (ha : Nm w (Q6.rat u v) a1 ac1 a2 ac2 a3 ac3 a4 ac4) (hu : fitR u) (hv : fitR v) : Calls Tryd.prog 32 #[numV (Q6.rat u v) a1 ac1 a2 ac2 a3 ac3 a4 ac4] w (AnsR w (spX u v) (spY u v) (spD u v)) := by
 have k1 : (words u.num.natAbs).length ≤ 512 := hu.1
 have k2 : (words u.den).length ≤ 512 := hu.2
 have k3 : (words v.num.natAbs).length ≤ 512 := hv.1
 have k4 : (words v.den).length ≤ 512 := hv.2
 have k5 : (words (v.den / spG u v)).length ≤ 512 := div_len hv.2
 have k6 : (words (u.den / spG u v)).length ≤ 512 := div_len hu.2
 have k7 : (words (spG u v)).length ≤ 512 := gcd_len v.den_nz hv.2
 have hS : St w w [] [(a4, words v.den), (a3, words v.num.natAbs), (a2, words u.den), (a1, words u.num.natAbs)] [] := ((((St.start w).addR ha.s1.rd).addR ha.s2.rd).addR ha.s3.rd).addR ha.s4.rd
 refine walk_of (l := [(0, .agg #[.bool (rb u.num), .slice a1 ((words u.num.natAbs).length) ac1, .slice a2 ((words u.den).length) ac2, .bool (rb v.num), .slice a3 ((words v.num.natAbs).length) ac3, .slice a4 ((words v.den).length) ac4])]) Tryd.func32 rfl Tryd.ntmps32 rfl rfl ?_
 intro Q hret hnorm hP a hA
 refine wp_seq_k (fun K1 hK1 => ?_)
 refine wp_region_lit ?_
 refine seq_new hA hS rfl rfl rfl (fun g => .pointer (some ⟨g, 0, none⟩)) (does_box rfl rfl) rfl ?_
 intro g2 w3 hS a hA
 refine seq_new (vs := [.bool false, .slice none 0 0, .bool false, .slice none 0 0, .slice none 0 0]) (t := 62) hA hS rfl rfl rfl (fun g => .pointer (some ⟨g, 0, none⟩)) (does_alloc (z := .agg #[.bool false, .slice none 0 0, .bool false, .slice none 0 0, .slice none 0 0]) (by kernel_rfl) rfl) rfl ?_
 intro g4 w5 hS a hA
 refine seq_end ?_
 refine hK1 _ _ ?_
 refine wp_seq_k (fun K6 hK6 => ?_)
 refine wp_region_lit ?_
 refine seq_do (v := .pointer (some ⟨g2, 0, none⟩)) hA rfl rfl rfl (does_field ExK_fld_27_0 rfl rfl) ?_
 intro a hA
 refine seq_do (v := .pointer (some ⟨g2, 2, none⟩)) hA rfl rfl rfl (does_field ExK_fld_25_2 rfl rfl) ?_
 intro a hA
 refine seq_do hA rfl rfl rfl (does_load1 hS ExK_is1_23 rfl 1 rfl rfl) ?_
 intro a hA
 refine seq_do (v := .pointer (some ⟨g2, 3, none⟩)) hA rfl rfl rfl (does_field ExK_fld_27_1 rfl rfl) ?_
 intro a hA
 refine seq_do (v := .pointer (some ⟨g2, 5, none⟩)) hA rfl rfl rfl (does_field ExK_fld_25_2 rfl rfl) ?_
 intro a hA
 refine seq_do hA rfl rfl rfl (does_load1 hS ExK_is1_23 rfl 1 rfl rfl) ?_
 intro a hA
 refine seq_call hA rfl rfl rfl (enters_func  rfl rfl (fun w => by kernel_rfl)) (divisor_any _ _ (hS.rd 2 rfl) (hS.rd 0 rfl) (by omega) (by omega) ha.s2.nil ha.s4.nil) ?_
 rintro _ w11 ⟨ro7, rc8, rfl, ho9, hb10⟩
 replace hS := hS.call hb10
 replace hS := hS.addR ho9.rd
 refine ⟨_, rfl, ?_⟩
 intro a hA
 refine seq_do hA rfl rfl rfl (does_assign rfl) ?_
 intro a hA
 refine seq_end ?_
 refine hK6 _ _ ?_
 refine wp_seq_k (fun K12 hK12 => ?_)
 refine wp_region_lit ?_
 refine seq_do (v := .pointer (some ⟨g2, 3, none⟩)) hA rfl rfl rfl (does_field ExK_fld_27_1 rfl rfl) ?_
 intro a hA
 refine seq_do (v := .pointer (some ⟨g2, 5, none⟩)) hA rfl rfl rfl (does_field ExK_fld_25_2 rfl rfl) ?_
 intro a hA
 refine seq_do hA rfl rfl rfl (does_load1 hS ExK_is1_23 rfl 1 rfl rfl) ?_
 intro a hA
 refine seq_do hA rfl rfl rfl (does_move rfl) ?_
 intro a hA
 refine seq_call hA rfl rfl rfl (enters_func  rfl rfl (fun w => by kernel_rfl)) (divide_any _ _ (hS.rd 1 rfl) (hS.rd 0 rfl) (by omega) (Nat.le_trans (gcd_len v.den_nz hv.2) (by decide)) ha.s4.nil (Nat.ne_of_gt (spG_pos u v))) ?_
 rintro _ w20 ⟨ro13, rc14, uo15, uc16, rfl, ho17, hp18, hb19⟩
 replace hS := hS.call hb19
 replace hS := hS.addR ho17.rd
 replace hS := hS.addR hp18.rd
 refine ⟨_, rfl, ?_⟩
 intro a hA
 refine seq_do hA rfl rfl rfl (does_move rfl) ?_
 intro a hA
 refine seq_do (v := .slice ro13 ((words (v.den / spG u v)).length) rc14) hA rfl rfl rfl (does_extract (vs := [.slice ro13 ((words (v.den / spG u v)).length) rc14, .slice uo15 ((words (v.den % spG u v)).length) uc16]) rfl rfl) ?_
 intro a hA
 refine seq_do (v := .slice uo15 ((words (v.den % spG u v)).length) uc16) hA rfl rfl rfl (does_extract (vs := [.slice ro13 ((words (v.den / spG u v)).length) rc14, .slice uo15 ((words (v.den % spG u v)).length) uc16]) rfl rfl) ?_
 intro a hA
 refine seq_do hA rfl rfl rfl (does_assign rfl) ?_
 intro a hA
 refine seq_do hA rfl rfl rfl (does_assign rfl) ?_
 intro a hA
 refine seq_end ?_
 refine hK12 _ _ ?_
 refine wp_seq_k (fun K21 hK21 => ?_)
 refine wp_region_lit ?_
 refine seq_do (v := .pointer (some ⟨g2, 0, none⟩)) hA rfl rfl rfl (does_field ExK_fld_27_0 rfl rfl) ?_
 intro a hA
 refine seq_do (v := .pointer (some ⟨g2, 2, none⟩)) hA rfl rfl rfl (does_field ExK_fld_25_2 rfl rfl) ?_
 intro a hA
 refine seq_do hA rfl rfl rfl (does_load1 hS ExK_is1_23 rfl 1 rfl rfl) ?_
 intro a hA
 refine seq_do hA rfl rfl rfl (does_move rfl) ?_
 intro a hA
 refine seq_call hA rfl rfl rfl (enters_func  rfl rfl (fun w => by kernel_rfl)) (divide_any _ _ (hS.rd 5 rfl) (hS.rd 2 rfl) (by omega) (Nat.le_trans (gcd_len v.den_nz hv.2) (by decide)) ha.s2.nil (Nat.ne_of_gt (spG_pos u v))) ?_
 rintro _ w29 ⟨ro22, rc23, uo24, uc25, rfl, ho26, hp27, hb28⟩
 replace hS := hS.call hb28
 replace hS := hS.addR ho26.rd
 replace hS := hS.addR hp27.rd
 refine ⟨_, rfl, ?_⟩
 intro a hA
 refine seq_do hA rfl rfl rfl (does_move rfl) ?_
 intro a hA
 refine seq_do (v := .slice ro22 ((words (u.den / spG u v)).length) rc23) hA rfl rfl rfl (does_extract (vs := [.slice ro22 ((words (u.den / spG u v)).length) rc23, .slice uo24 ((words (u.den % spG u v)).length) uc25]) rfl rfl) ?_
 intro a hA
 refine seq_do (v := .slice uo24 ((words (u.den % spG u v)).length) uc25) hA rfl rfl rfl (does_extract (vs := [.slice ro22 ((words (u.den / spG u v)).length) rc23, .slice uo24 ((words (u.den % spG u v)).length) uc25]) rfl rfl) ?_
 intro a hA
 refine seq_do hA rfl rfl rfl (does_assign rfl) ?_
 intro a hA
 refine seq_do hA rfl rfl rfl (does_assign rfl) ?_
 intro a hA
 refine seq_end ?_
 refine hK21 _ _ ?_
 refine wp_seq_k (fun K30 hK30 => ?_)
 refine wp_draw (S := fun w1 => St w w1 [(g2, [.bool (rb u.num), .slice a1 ((words u.num.natAbs).length) ac1, .slice a2 ((words u.den).length) ac2, .bool (rb v.num), .slice a3 ((words v.num.natAbs).length) ac3, .slice a4 ((words v.den).length) ac4])] [(uo24, words (u.den % spG u v)), (ro22, words (u.den / spG u v)), (uo15, words (v.den % spG u v)), (ro13, words (v.den / spG u v)), (ro7, words (spG u v)), (a4, words v.den), (a3, words v.num.natAbs), (a2, words u.den), (a1, words u.num.natAbs)] []) (by kernel_rfl) ?_
 replace hS := hS.drew
 refine any_tk (v := .pointer (some ⟨g2, 0, none⟩)) hA 0 rfl rfl rfl rfl hP (hS.partD (.cons _ (.cons_cons _ .slnil)) 0 rfl (.refl _)) (fun w1 hS => does_field ExK_fld_27_0 rfl rfl) ?_
 intro a hA
 refine any_tk (v := .pointer (some ⟨g2, 0, none⟩)) hA 1 rfl rfl rfl rfl hP (hS.partD (.cons _ (.cons_cons _ .slnil)) 0 rfl (.refl _)) (fun w1 hS => does_field ExK_fld_25_0 rfl rfl) ?_
 intro a hA
 refine any_tk hA 2 rfl rfl rfl rfl hP (hS.partD (.cons _ (.cons_cons _ .slnil)) 0 rfl (.refl _)) (fun w1 hS => does_load1 hS ExK_is1_4 rfl 0 rfl rfl) ?_
 intro a hA
 refine any_tk (v := .pointer (some ⟨g2, 0, none⟩)) hA 3 rfl rfl rfl rfl hP (hS.partD (.cons _ (.cons_cons _ .slnil)) 0 rfl (.refl _)) (fun w1 hS => does_field ExK_fld_27_0 rfl rfl) ?_
 intro a hA
 refine any_tk (v := .pointer (some ⟨g2, 1, none⟩)) hA 4 rfl rfl rfl rfl hP (hS.partD (.cons _ (.cons_cons _ .slnil)) 0 rfl (.refl _)) (fun w1 hS => does_field ExK_fld_25_1 rfl rfl) ?_
 intro a hA
 refine any_tk hA 5 rfl rfl rfl rfl hP (hS.partD (.cons _ (.cons_cons _ .slnil)) 0 rfl (.refl _)) (fun w1 hS => does_load1 hS ExK_is1_23 rfl 0 rfl rfl) ?_
 intro a hA
 refine any_tk hA 7 rfl rfl rfl rfl hP (hS.partD (.cons _ (.cons_cons _ .slnil)) 0 rfl (.refl _)) (fun w1 hS => does_move rfl) ?_
 intro a hA
 refine any_tk (v := .pointer (some ⟨g2, 3, none⟩)) hA 9 rfl rfl rfl rfl hP (hS.partD (.cons _ (.cons_cons _ .slnil)) 0 rfl (.refl _)) (fun w1 hS => does_field ExK_fld_27_1 rfl rfl) ?_
 intro a hA
 refine any_tk (v := .pointer (some ⟨g2, 3, none⟩)) hA 10 rfl rfl rfl rfl hP (hS.partD (.cons _ (.cons_cons _ .slnil)) 0 rfl (.refl _)) (fun w1 hS => does_field ExK_fld_25_0 rfl rfl) ?_
 intro a hA
 refine any_tk hA 11 rfl rfl rfl rfl hP (hS.partD (.cons _ (.cons_cons _ .slnil)) 0 rfl (.refl _)) (fun w1 hS => does_load1 hS ExK_is1_4 rfl 0 rfl rfl) ?_
 intro a hA
 refine any_tk (v := .pointer (some ⟨g2, 3, none⟩)) hA 12 rfl rfl rfl rfl hP (hS.partD (.cons _ (.cons_cons _ .slnil)) 0 rfl (.refl _)) (fun w1 hS => does_field ExK_fld_27_1 rfl rfl) ?_
 intro a hA
 refine any_tk (v := .pointer (some ⟨g2, 4, none⟩)) hA 13 rfl rfl rfl rfl hP (hS.partD (.cons _ (.cons_cons _ .slnil)) 0 rfl (.refl _)) (fun w1 hS => does_field ExK_fld_25_1 rfl rfl) ?_
 intro a hA
 refine any_tk hA 14 rfl rfl rfl rfl hP (hS.partD (.cons _ (.cons_cons _ .slnil)) 0 rfl (.refl _)) (fun w1 hS => does_load1 hS ExK_is1_23 rfl 0 rfl rfl) ?_
 intro a hA
 refine any_tk hA 16 rfl rfl rfl rfl hP (hS.partD (.cons _ (.cons_cons _ .slnil)) 0 rfl (.refl _)) (fun w1 hS => does_move rfl) ?_
 intro a hA
 refine any_tk (v := .pointer (some ⟨g2, 0, none⟩)) hA 18 rfl rfl rfl rfl hP (hS.partD (.cons _ (.cons_cons _ .slnil)) 0 rfl (.refl _)) (fun w1 hS => does_field ExK_fld_27_0 rfl rfl) ?_
 intro a hA
 refine any_tk (v := .pointer (some ⟨g2, 2, none⟩)) hA 19 rfl rfl rfl rfl hP (hS.partD (.cons _ (.cons_cons _ .slnil)) 0 rfl (.refl _)) (fun w1 hS => does_field ExK_fld_25_2 rfl rfl) ?_
 intro a hA
 refine any_tk hA 20 rfl rfl rfl rfl hP (hS.partD (.cons _ (.cons_cons _ .slnil)) 0 rfl (.refl _)) (fun w1 hS => does_load1 hS ExK_is1_23 rfl 0 rfl rfl) ?_
 intro a hA
 refine any_tk hA 21 rfl rfl rfl rfl hP (hS.partD (.cons _ (.cons_cons _ .slnil)) 0 rfl (.refl _)) (fun w1 hS => does_move rfl) ?_
 intro a hA
 refine any_one (by kernel_rfl) (op_call hA 6 rfl rfl rfl rfl (enters_func  rfl rfl (fun w => by kernel_rfl)) (zsigned_any (b := rb u.num) (n := u.num.natAbs) (z := u.num) ⟨(hS.rd 8 rfl), ha.s1.nil, ha.s1.cap⟩ (sgn_rb u.num)) ?_)
 rintro _ w35 ⟨zo31, zc32, rfl, hs33, hb34⟩
 replace hS := hS.call hb34
 replace hS := hS.addR hs33.rd
 refine ⟨_, rfl, (hS.partD (.cons _ (.cons_cons _ .slnil)) 1 rfl (.refl _)), ?_⟩
 intro a hA
 refine any_one (by kernel_rfl) (op_call hA 8 rfl rfl rfl rfl (enters_func  rfl rfl (fun w => by kernel_rfl)) (zscaled_any ⟨(hS.rd 0 rfl), hs33.nil, hs33.cap⟩ ⟨(hS.rd 4 rfl), ho17.nocap, ho17.caps⟩ (by omega) (by omega)) ?_)
 rintro _ w40 ⟨zo36, zc37, rfl, hs38, hb39⟩
 replace hS := hS.call hb39
 replace hS := hS.addR hs38.rd
 refine ⟨_, rfl, (hS.partD (.cons _ (.cons_cons _ .slnil)) 2 rfl (.refl _)), ?_⟩
 intro a hA
 refine any_one (by kernel_rfl) (op_call hA 15 rfl rfl rfl rfl (enters_func  rfl rfl (fun w => by kernel_rfl)) (zsigned_any (b := rb v.num) (n := v.num.natAbs) (z := v.num) ⟨(hS.rd 8 rfl), ha.s3.nil, ha.s3.cap⟩ (sgn_rb v.num)) ?_)
 rintro _ w45 ⟨zo41, zc42, rfl, hs43, hb44⟩
 replace hS := hS.call hb44
 replace hS := hS.addR hs43.rd
 refine ⟨_, rfl, (hS.partD (.cons _ (.cons_cons _ .slnil)) 3 rfl (.refl _)), ?_⟩
 intro a hA
 refine any_one (by kernel_rfl) (op_call hA 17 rfl rfl rfl rfl (enters_func  rfl rfl (fun w => by kernel_rfl)) (zscaled_any ⟨(hS.rd 0 rfl), hs43.nil, hs43.cap⟩ ⟨(hS.rd 4 rfl), ho26.nocap, ho26.caps⟩ (by omega) (by omega)) ?_)
 rintro _ w50 ⟨zo46, zc47, rfl, hs48, hb49⟩
 replace hS := hS.call hb49
 replace hS := hS.addR hs48.rd
 refine ⟨_, rfl, (hS.partD (.cons _ (.cons_cons _ .slnil)) 4 rfl (.refl _)), ?_⟩
 intro a hA
 refine any_one (by kernel_rfl) (op_call hA 22 rfl rfl rfl rfl (enters_func  rfl rfl (fun w => by kernel_rfl)) (product_any _ _ (hS.rd 11 rfl) (hS.rd 7 rfl) (by omega) (by omega)) ?_)
 rintro _ w55 ⟨ro51, rc52, rfl, ho53, hb54⟩
 replace hS := hS.call hb54
 replace hS := hS.addR ho53.rd
 refine ⟨_, rfl, (hS.partD (.cons _ (.cons_cons _ .slnil)) 5 rfl (.refl _)), ?_⟩
 intro a hA
 refine any_tk (v := .agg #[.bool ((rb (u.num * ((v.den / spG u v : Nat) : Int)))), .slice zo36 ((words (u.num * ((v.den / spG u v : Nat) : Int)).natAbs).length) zc37, .bool ((rb (v.num * ((u.den / spG u v : Nat) : Int)))), .slice zo46 ((words (v.num * ((u.den / spG u v : Nat) : Int)).natAbs).length) zc47, .slice ro51 ((words (u.den * (v.den / spG u v))).length) rc52]) hA 23 rfl rfl rfl rfl hP (hS.partD (.cons _ (.cons_cons _ .slnil)) 5 rfl (.refl _)) (fun w1 hS => does_build rfl (fun w => by kernel_rfl)) ?_
 intro a hA
 refine any_one (by kernel_rfl) (op_store (us := [.bool ((rb (u.num * ((v.den / spG u v : Nat) : Int)))), .slice zo36 ((words (u.num * ((v.den / spG u v : Nat) : Int)).natAbs).length) zc37, .bool ((rb (v.num * ((u.den / spG u v : Nat) : Int)))), .slice zo46 ((words (v.num * ((u.den / spG u v : Nat) : Int)).natAbs).length) zc47, .slice ro51 ((words (u.den * (v.den / spG u v))).length) rc52]) hA hS 24 rfl rfl rfl (sets_store rfl rfl rfl (by kernel_rfl) hS 0 rfl rfl rfl) 0 rfl rfl rfl rfl ?_)
 intro w56 hS
 refine ⟨(hS.partD (.cons _ (.cons_cons _ .slnil)) 5 rfl (.refl _)), ?_⟩
 refine any_end (by kernel_rfl) ?_
 refine hK30 _ _ ?_
 refine wp_ret ?_
 refine hret _ _ ?_
 refine ends (v := .agg #[.bool ((rb (u.num * ((v.den / spG u v : Nat) : Int)))), .slice zo36 ((words (u.num * ((v.den / spG u v : Nat) : Int)).natAbs).length) zc37, .bool ((rb (v.num * ((u.den / spG u v : Nat) : Int)))), .slice zo46 ((words (v.num * ((u.den / spG u v : Nat) : Int)).natAbs).length) zc47, .slice ro51 ((words (u.den * (v.den / spG u v))).length) rc52]) hA rfl (.cons (res_cell hS ExK_isS_62 rfl 0 rfl (cs := [.bool ((rb (u.num * ((v.den / spG u v : Nat) : Int)))), .slice zo36 ((words (u.num * ((v.den / spG u v : Nat) : Int)).natAbs).length) zc37, .bool ((rb (v.num * ((u.den / spG u v : Nat) : Int)))), .slice zo46 ((words (v.num * ((u.den / spG u v : Nat) : Int)).natAbs).length) zc47, .slice ro51 ((words (u.den * (v.den / spG u v))).length) rc52]) rfl rfl) .nil) rfl ?_
 exact ⟨zo36, zc37, zo46, zc47, ro51, rc52, rfl, ⟨(hS.rd 3 rfl), hs38.nil, hs38.cap⟩, ⟨(hS.rd 1 rfl), hs48.nil, hs48.cap⟩, ⟨(hS.rd 0 rfl), ho53.nocap, ho53.caps⟩, hS.bel⟩
theorem zinv0_any {w : World} {x y : Int} {d : Nat} {a1 a2 a3 : Option Addr} {ac1 ac2 ac3 : Nat} (ha1 : Sc w a1 ac1 (words x.natAbs)) (ha2 : Sc w a2 ac2 (words y.natAbs)) (ha3 : Sc w a3 ac3 (words d)) (la1 : (words x.natAbs).length ≤ 10000) (la2 : (words y.natAbs).length ≤ 10000) (la3 : (words d).length ≤ 10000) (hy : y = 0) : Calls Tryd.prog 33 #[.agg #[.bool (rb x), .slice a1 (words x.natAbs).length ac1, .bool (rb y), .slice a2 (words y.natAbs).length ac2, .slice a3 (words d).length ac3]] w (AnsR w (ivX x y d) (ivY x y d) (ivD x y)) := by
 have k0 : (words y.natAbs).length = 0 := by rw [hy, Int.natAbs_zero, words_zero]; rfl
 have hS : St w w [] [(a3, words d), (a2, words y.natAbs), (a1, words x.natAbs)] [] := (((St.start w).addR ha1.rd).addR ha2.rd).addR ha3.rd
 refine walk_of (l := [(0, .agg #[.bool ((rb x)), .slice a1 ((words x.natAbs).length) ac1, .bool ((rb y)), .slice a2 ((words y.natAbs).length) ac2, .slice a3 ((words d).length) ac3])]) Tryd.func33 rfl Tryd.ntmps33 rfl rfl ?_
 intro Q hret hnorm hP a hA
 refine wp_seq_k (fun K1 hK1 => ?_)
 refine wp_region_lit ?_
 refine seq_new hA hS rfl rfl rfl (fun g => .pointer (some ⟨g, 0, none⟩)) (does_box rfl rfl) rfl ?_
 intro g2 w3 hS a hA
 refine seq_new (vs := [.bool false, .slice none 0 0, .bool false, .slice none 0 0, .slice none 0 0]) (t := 62) hA hS rfl rfl rfl (fun g => .pointer (some ⟨g, 0, none⟩)) (does_alloc (z := .agg #[.bool false, .slice none 0 0, .bool false, .slice none 0 0, .slice none 0 0]) (by kernel_rfl) rfl) rfl ?_
 intro g4 w5 hS a hA
 refine seq_end ?_
 refine hK1 _ _ ?_
 refine wp_seq_k (fun K6 hK6 => ?_)
 refine wp_seq_k (fun K7 hK7 => ?_)
 refine wp_region_lit ?_
 refine seq_do (v := .pointer (some ⟨g2, 2, none⟩)) hA rfl rfl rfl (does_field ExK_fld_62_1 rfl rfl) ?_
 intro a hA
 refine seq_do (v := .pointer (some ⟨g2, 3, none⟩)) hA rfl rfl rfl (does_field ExK_fld_60_1 rfl rfl) ?_
 intro a hA
 refine seq_do hA rfl rfl rfl (does_load1 hS ExK_is1_23 rfl 1 rfl rfl) ?_
 intro a hA
 refine seq_do (v := .int .i64 ((((words y.natAbs).length : Nat) : Int))) hA rfl rfl rfl (does_len Tryd.underlying23 rfl) ?_
 intro a hA
 refine seq_do (v := .bool true) hA rfl rfl rfl (does_bin rfl rfl (fun w => (bin_eql w).trans (by rw [show (((((words y.natAbs).length : Nat) : Int) == 0)) = true from (by simp only [k0]; rfl)]))) ?_
 intro a hA
 refine seq_end ?_
 refine hK7 _ _ ?_
 refine wp_cond_true (hA.ev rfl) ?_
 refine wp_seq_k (fun K8 hK8 => ?_)
 refine wp_draw (S := fun w1 => St w w1 [(g2, [.bool ((rb x)), .slice a1 ((words x.natAbs).length) ac1, .bool ((rb y)), .slice a2 ((words y.natAbs).length) ac2, .slice a3 ((words d).length) ac3])] [(a3, words d), (a2, words y.natAbs), (a1, words x.natAbs)] []) (by kernel_rfl) ?_
 replace hS := hS.drew
 refine any_tk (v := .pointer (some ⟨g2, 0, none⟩)) hA 0 rfl rfl rfl rfl hP (hS.partD (.cons _ (.cons_cons _ .slnil)) 0 rfl (.refl _)) (fun w1 hS => does_field ExK_fld_62_0 rfl rfl) ?_
 intro a hA
 refine any_tk (v := .pointer (some ⟨g2, 0, none⟩)) hA 1 rfl rfl rfl rfl hP (hS.partD (.cons _ (.cons_cons _ .slnil)) 0 rfl (.refl _)) (fun w1 hS => does_field ExK_fld_60_0 rfl rfl) ?_
 intro a hA
 refine any_tk hA 2 rfl rfl rfl rfl hP (hS.partD (.cons _ (.cons_cons _ .slnil)) 0 rfl (.refl _)) (fun w1 hS => does_load1 hS ExK_is1_4 rfl 0 rfl rfl) ?_
 intro a hA
 refine any_tk (v := .pointer (some ⟨g2, 4, none⟩)) hA 3 rfl rfl rfl rfl hP (hS.partD (.cons _ (.cons_cons _ .slnil)) 0 rfl (.refl _)) (fun w1 hS => does_field ExK_fld_62_2 rfl rfl) ?_
 intro a hA
 refine any_tk hA 4 rfl rfl rfl rfl hP (hS.partD (.cons _ (.cons_cons _ .slnil)) 0 rfl (.refl _)) (fun w1 hS => does_load1 hS ExK_is1_23 rfl 0 rfl rfl) ?_
 intro a hA
 refine any_tk (v := .pointer (some ⟨g2, 0, none⟩)) hA 6 rfl rfl rfl rfl hP (hS.partD (.cons _ (.cons_cons _ .slnil)) 0 rfl (.refl _)) (fun w1 hS => does_field ExK_fld_62_0 rfl rfl) ?_
 intro a hA
 refine any_tk (v := .pointer (some ⟨g2, 1, none⟩)) hA 7 rfl rfl rfl rfl hP (hS.partD (.cons _ (.cons_cons _ .slnil)) 0 rfl (.refl _)) (fun w1 hS => does_field ExK_fld_60_1 rfl rfl) ?_
 intro a hA
 refine any_tk hA 8 rfl rfl rfl rfl hP (hS.partD (.cons _ (.cons_cons _ .slnil)) 0 rfl (.refl _)) (fun w1 hS => does_load1 hS ExK_is1_23 rfl 0 rfl rfl) ?_
 intro a hA
 refine any_one (by kernel_rfl) (op_call hA 5 rfl rfl rfl rfl (enters_func  rfl rfl (fun w => by kernel_rfl)) (zsigned_any (b := rb x) (n := d) (z := sgn (rb x) d) ⟨(hS.rd 0 rfl), ha3.nil, ha3.cap⟩ rfl) ?_)
 rintro _ w13 ⟨zo9, zc10, rfl, hs11, hb12⟩
 replace hS := hS.call hb12
 replace hS := hS.addR hs11.rd
 refine ⟨_, rfl, (hS.partD (.cons _ (.cons_cons _ .slnil)) 1 rfl (.refl _)), ?_⟩
 intro a hA
 refine any_tk (v := .agg #[.bool ((rb (sgn (rb x) d))), .slice zo9 ((words (sgn (rb x) d).natAbs).length) zc10, .bool false, .slice none 0 0, .slice a1 ((words x.natAbs).length) ac1]) hA 9 rfl rfl rfl rfl hP (hS.partD (.cons _ (.cons_cons _ .slnil)) 1 rfl (.refl _)) (fun w1 hS => does_build rfl (fun w => by kernel_rfl)) ?_
 intro a hA
 refine any_one (by kernel_rfl) (op_store (us := [.bool ((rb (sgn (rb x) d))), .slice zo9 ((words (sgn (rb x) d).natAbs).length) zc10, .bool false, .slice none 0 0, .slice a1 ((words x.natAbs).length) ac1]) hA hS 10 rfl rfl rfl (sets_store rfl rfl rfl (by kernel_rfl) hS 0 rfl rfl rfl) 0 rfl rfl rfl rfl ?_)
 intro w14 hS
 refine ⟨(hS.partD (.cons _ (.cons_cons _ .slnil)) 1 rfl (.refl _)), ?_⟩
 refine any_end (by kernel_rfl) ?_
 refine hK8 _ _ ?_
 refine wp_ret ?_
 refine hret _ _ ?_
 refine ends (v := .agg #[.bool ((rb (sgn (rb x) d))), .slice zo9 ((words (sgn (rb x) d).natAbs).length) zc10, .bool false, .slice none 0 0, .slice a1 ((words x.natAbs).length) ac1]) hA rfl (.cons (res_cell hS ExK_isS_62 rfl 0 rfl (cs := [.bool ((rb (sgn (rb x) d))), .slice zo9 ((words (sgn (rb x) d).natAbs).length) zc10, .bool false, .slice none 0 0, .slice a1 ((words x.natAbs).length) ac1]) rfl rfl) .nil) rfl ?_
 rw [show ivX x y d = sgn (rb x) d from if_pos hy, show ivY x y d = 0 from if_pos hy, show ivD x y = x.natAbs from if_pos hy]
 exact ⟨zo9, zc10, none, 0, a1, ac1, by rw [show words (Int.natAbs 0) = [] from words_zero]; rfl, ⟨(hS.rd 0 rfl), hs11.nil, hs11.cap⟩, by rw [show words (Int.natAbs 0) = [] from words_zero]; exact Sc.none _, ⟨(hS.rd 3 rfl), ha1.nil, ha1.cap⟩, hS.bel⟩
theorem zinv1_any {w : World} {x y : Int} {d : Nat} {a1 a2 a3 : Option Addr} {ac1 ac2 ac3 : Nat} (ha1 : Sc w a1 ac1 (words x.natAbs)) (ha2 : Sc w a2 ac2 (words y.natAbs)) (ha3 : Sc w a3 ac3 (words d)) (la1 : (words x.natAbs).length ≤ 10000) (la2 : (words y.natAbs).length ≤ 10000) (la3 : (words d).length ≤ 10000) (hy : y ≠ 0) : Calls Tryd.prog 33 #[.agg #[.bool (rb x), .slice a1 (words x.natAbs).length ac1, .bool (rb y), .slice a2 (words y.natAbs).length ac2, .slice a3 (words d).length ac3]] w (AnsR w (ivX x y d) (ivY x y d) (ivD x y)) := by
 have k0 : (words y.natAbs).length ≠ 0 := by have := (words_len_pos (x := y.natAbs)).2 (by omega); omega
 have k1 := abs_mul_len la1 la1
 have k2 := abs_mul_len la2 la2
 have k3 : (words (-y).natAbs).length ≤ 10000 := by rw [Int.natAbs_neg]; exact la2
 have hS : St w w [] [(a3, words d), (a2, words y.natAbs), (a1, words x.natAbs)] [] := (((St.start w).addR ha1.rd).addR ha2.rd).addR ha3.rd
 refine walk_of (l := [(0, .agg #[.bool ((rb x)), .slice a1 ((words x.natAbs).length) ac1, .bool ((rb y)), .slice a2 ((words y.natAbs).length) ac2, .slice a3 ((words d).length) ac3])]) Tryd.func33 rfl Tryd.ntmps33 rfl rfl ?_
 intro Q hret hnorm hP a hA
 refine wp_seq_k (fun K1 hK1 => ?_)
 refine wp_region_lit ?_
 refine seq_new hA hS rfl rfl rfl (fun g => .pointer (some ⟨g, 0, none⟩)) (does_box rfl rfl) rfl ?_
 intro g2 w3 hS a hA
 refine seq_new (vs := [.bool false, .slice none 0 0, .bool false, .slice none 0 0, .slice none 0 0]) (t := 62) hA hS rfl rfl rfl (fun g => .pointer (some ⟨g, 0, none⟩)) (does_alloc (z := .agg #[.bool false, .slice none 0 0, .bool false, .slice none 0 0, .slice none 0 0]) (by kernel_rfl) rfl) rfl ?_
 intro g4 w5 hS a hA
 refine seq_end ?_
 refine hK1 _ _ ?_
 refine wp_seq_k (fun K6 hK6 => ?_)
 refine wp_seq_k (fun K7 hK7 => ?_)
 refine wp_region_lit ?_
 refine seq_do (v := .pointer (some ⟨g2, 2, none⟩)) hA rfl rfl rfl (does_field ExK_fld_62_1 rfl rfl) ?_
 intro a hA
 refine seq_do (v := .pointer (some ⟨g2, 3, none⟩)) hA rfl rfl rfl (does_field ExK_fld_60_1 rfl rfl) ?_
 intro a hA
 refine seq_do hA rfl rfl rfl (does_load1 hS ExK_is1_23 rfl 1 rfl rfl) ?_
 intro a hA
 refine seq_do (v := .int .i64 ((((words y.natAbs).length : Nat) : Int))) hA rfl rfl rfl (does_len Tryd.underlying23 rfl) ?_
 intro a hA
 refine seq_do (v := .bool false) hA rfl rfl rfl (does_bin rfl rfl (fun w => (bin_eql w).trans (by rw [show (((((words y.natAbs).length : Nat) : Int) == 0)) = false from (by simpa using k0)]))) ?_
 intro a hA
 refine seq_end ?_
 refine hK7 _ _ ?_
 refine wp_cond_false (hA.ev rfl) ?_
 refine wp_skip ?_
 refine hK6 _ _ ?_
 refine wp_seq_k (fun K8 hK8 => ?_)
 have hJ32 : ∀ a w1, (∃ (J27g : Nat) (J28 : Option Addr) (J29 : Nat), Sl a 44 [(0, .agg #[.bool ((rb x)), .slice a1 ((words x.natAbs).length) ac1, .bool ((rb y)), .slice a2 ((words y.natAbs).length) ac2, .slice a3 ((words d).length) ac3]), (1, .pointer (some ⟨g2, 0, none⟩)), (2, .pointer (some ⟨g4, 0, none⟩)), (3, .pointer (some ⟨J27g, 0, none⟩)), (4, .pointer (some ⟨g2, 2, none⟩)), (5, .pointer (some ⟨g2, 3, none⟩)), (6, .slice a2 ((words y.natAbs).length) ac2), (7, .int .i64 ((((words y.natAbs).length : Nat) : Int))), (8, .bool false)] ∧ St w w1 [(J27g, [.bool ((rb (x * x + (y * y)))), .slice J28 ((words (x * x + (y * y)).natAbs).length) J29]), (g4, [.bool false, .slice none 0 0, .bool false, .slice none 0 0, .slice none 0 0]), (g2, [.bool ((rb x)), .slice a1 ((words x.natAbs).length) ac1, .bool ((rb y)), .slice a2 ((words y.natAbs).length) ac2, .slice a3 ((words d).length) ac3])] [(J28, words (x * x + (y * y)).natAbs), (a3, words d), (a2, words y.natAbs), (a1, words x.natAbs)] [] ∧ (J28 = none → J29 = 0) ∧ (words (x * x + (y * y)).natAbs : List Nat).length ≤ J29) → K8 a w1 := by
   clear hA hS
   rintro a w33 ⟨J27g, J28, J29, hA, hS, hn30, hc31⟩
   refine hK8 _ _ ?_
   refine wp_seq_k (fun K34 hK34 => ?_)
   refine wp_draw (S := fun w1 => St w w1 [(J27g, [.bool ((rb (x * x + (y * y)))), .slice J28 ((words (x * x + (y * y)).natAbs).length) J29]), (g2, [.bool ((rb x)), .slice a1 ((words x.natAbs).length) ac1, .bool ((rb y)), .slice a2 ((words y.natAbs).length) ac2, .slice a3 ((words d).length) ac3])] [(J28, words (x * x + (y * y)).natAbs), (a3, words d), (a2, words y.natAbs), (a1, words x.natAbs)] []) (by kernel_rfl) ?_
   replace hS := hS.drew
   refine any_tk (v := .pointer (some ⟨g2, 0, none⟩)) hA 0 rfl rfl rfl rfl hP (hS.partD (.cons_cons _ (.cons _ (.cons_cons _ .slnil))) 0 rfl (.refl _)) (fun w1 hS => does_field ExK_fld_62_0 rfl rfl) ?_
   intro a hA
   refine any_tk hA 1 rfl rfl rfl rfl hP (hS.partD (.cons_cons _ (.cons _ (.cons_cons _ .slnil))) 0 rfl (.refl _)) (fun w1 hS => does_loadS hS ExK_isS_60 rfl 1 rfl (cs := [.bool ((rb x)), .slice a1 ((words x.natAbs).length) ac1]) rfl rfl) ?_
   intro a hA
   refine any_tk (v := .pointer (some ⟨g2, 4, none⟩)) hA 2 rfl rfl rfl rfl hP (hS.partD (.cons_cons _ (.cons _ (.cons_cons _ .slnil))) 0 rfl (.refl _)) (fun w1 hS => does_field ExK_fld_62_2 rfl rfl) ?_
   intro a hA
   refine any_tk hA 3 rfl rfl rfl rfl hP (hS.partD (.cons_cons _ (.cons _ (.cons_cons _ .slnil))) 0 rfl (.refl _)) (fun w1 hS => does_load1 hS ExK_is1_23 rfl 1 rfl rfl) ?_
   intro a hA
   refine any_tk (v := .pointer (some ⟨g2, 2, none⟩)) hA 5 rfl rfl rfl rfl hP (hS.partD (.cons_cons _ (.cons _ (.cons_cons _ .slnil))) 0 rfl (.refl _)) (fun w1 hS => does_field ExK_fld_62_1 rfl rfl) ?_
   intro a hA
   refine any_tk hA 6 rfl rfl rfl rfl hP (hS.partD (.cons_cons _ (.cons _ (.cons_cons _ .slnil))) 0 rfl (.refl _)) (fun w1 hS => does_loadS hS ExK_isS_60 rfl 1 rfl (cs := [.bool ((rb y)), .slice a2 ((words y.natAbs).length) ac2]) rfl rfl) ?_
   intro a hA
   refine any_tk (v := .pointer (some ⟨g2, 4, none⟩)) hA 8 rfl rfl rfl rfl hP (hS.partD (.cons_cons _ (.cons _ (.cons_cons _ .slnil))) 0 rfl (.refl _)) (fun w1 hS => does_field ExK_fld_62_2 rfl rfl) ?_
   intro a hA
   refine any_tk hA 9 rfl rfl rfl rfl hP (hS.partD (.cons_cons _ (.cons _ (.cons_cons _ .slnil))) 0 rfl (.refl _)) (fun w1 hS => does_load1 hS ExK_is1_23 rfl 1 rfl rfl) ?_
   intro a hA
   refine any_tk (v := .pointer (some ⟨J27g, 1, none⟩)) hA 11 rfl rfl rfl rfl hP (hS.partD (.cons_cons _ (.cons _ (.cons_cons _ .slnil))) 0 rfl (.refl _)) (fun w1 hS => does_field ExK_fld_60_1 rfl rfl) ?_
   intro a hA
   refine any_tk hA 12 rfl rfl rfl rfl hP (hS.partD (.cons_cons _ (.cons _ (.cons_cons _ .slnil))) 0 rfl (.refl _)) (fun w1 hS => does_load1 hS ExK_is1_23 rfl 0 rfl rfl) ?_
   intro a hA
   refine any_one (by kernel_rfl) (op_call hA 4 rfl rfl rfl rfl (enters_func  rfl rfl (fun w => by kernel_rfl)) (zscaled_any ⟨(hS.rd 3 rfl), ha1.nil, ha1.cap⟩ ⟨(hS.rd 1 rfl), ha3.nil, ha3.cap⟩ (by omega) (by omega)) ?_)
   rintro _ w39 ⟨zo35, zc36, rfl, hs37, hb38⟩
   replace hS := hS.call hb38
   replace hS := hS.addR hs37.rd
   refine ⟨_, rfl, (hS.partD (.cons_cons _ (.cons _ (.cons_cons _ .slnil))) 1 rfl (.refl _)), ?_⟩
   intro a hA
   refine any_one (by kernel_rfl) (op_call hA 7 rfl rfl rfl rfl (enters_func  rfl rfl (fun w => by kernel_rfl)) (zopp_any ⟨(hS.rd 3 rfl), ha2.nil, ha2.cap⟩) ?_)
   rintro _ w44 ⟨zo40, zc41, rfl, hs42, hb43⟩
   replace hS := hS.call hb43
   replace hS := hS.addR hs42.rd
   refine ⟨_, rfl, (hS.partD (.cons_cons _ (.cons _ (.cons_cons _ .slnil))) 2 rfl (.refl _)), ?_⟩
   intro a hA
   refine any_one (by kernel_rfl) (op_call hA 10 rfl rfl rfl rfl (enters_func  rfl rfl (fun w => by kernel_rfl)) (zscaled_any ⟨(hS.rd 0 rfl), hs42.nil, hs42.cap⟩ ⟨(hS.rd 3 rfl), ha3.nil, ha3.cap⟩ (by omega) (by omega)) ?_)
   rintro _ w49 ⟨zo45, zc46, rfl, hs47, hb48⟩
   replace hS := hS.call hb48
   replace hS := hS.addR hs47.rd
   refine ⟨_, rfl, (hS.partD (.cons_cons _ (.cons _ (.cons_cons _ .slnil))) 3 rfl (.refl _)), ?_⟩
   intro a hA
   refine any_tk (v := .agg #[.bool ((rb (x * ((d : Nat) : Int)))), .slice zo35 ((words (x * ((d : Nat) : Int)).natAbs).length) zc36, .bool ((rb ((-y) * ((d : Nat) : Int)))), .slice zo45 ((words ((-y) * ((d : Nat) : Int)).natAbs).length) zc46, .slice J28 ((words (x * x + (y * y)).natAbs).length) J29]) hA 13 rfl rfl rfl rfl hP (hS.partD (.cons_cons _ (.cons _ (.cons_cons _ .slnil))) 3 rfl (.refl _)) (fun w1 hS => does_build rfl (fun w => by kernel_rfl)) ?_
   intro a hA
   refine any_one (by kernel_rfl) (op_store (us := [.bool ((rb (x * ((d : Nat) : Int)))), .slice zo35 ((words (x * ((d : Nat) : Int)).natAbs).length) zc36, .bool ((rb ((-y) * ((d : Nat) : Int)))), .slice zo45 ((words ((-y) * ((d : Nat) : Int)).natAbs).length) zc46, .slice J28 ((words (x * x + (y * y)).natAbs).length) J29]) hA hS 14 rfl rfl rfl (sets_store rfl rfl rfl (by kernel_rfl) hS 1 rfl rfl rfl) 1 rfl rfl rfl rfl ?_)
   intro w50 hS
   refine ⟨(hS.partD (.cons_cons _ (.cons _ (.cons_cons _ .slnil))) 3 rfl (.refl _)), ?_⟩
   refine any_end (by kernel_rfl) ?_
   refine hK34 _ _ ?_
   refine wp_ret ?_
   refine hret _ _ ?_
   refine ends (v := .agg #[.bool ((rb (x * ((d : Nat) : Int)))), .slice zo35 ((words (x * ((d : Nat) : Int)).natAbs).length) zc36, .bool ((rb ((-y) * ((d : Nat) : Int)))), .slice zo45 ((words ((-y) * ((d : Nat) : Int)).natAbs).length) zc46, .slice J28 ((words (x * x + (y * y)).natAbs).length) J29]) hA rfl (.cons (res_cell hS ExK_isS_62 rfl 1 rfl (cs := [.bool ((rb (x * ((d : Nat) : Int)))), .slice zo35 ((words (x * ((d : Nat) : Int)).natAbs).length) zc36, .bool ((rb ((-y) * ((d : Nat) : Int)))), .slice zo45 ((words ((-y) * ((d : Nat) : Int)).natAbs).length) zc46, .slice J28 ((words (x * x + (y * y)).natAbs).length) J29]) rfl rfl) .nil) rfl ?_
   rw [show ivX x y d = x * ((d : Nat) : Int) from if_neg hy, show ivY x y d = -y * ((d : Nat) : Int) from if_neg hy, show ivD x y = (x * x + y * y).natAbs from if_neg hy]
   exact ⟨zo35, zc36, zo45, zc46, J28, J29, rfl, ⟨(hS.rd 2 rfl), hs37.nil, hs37.cap⟩, ⟨(hS.rd 0 rfl), hs47.nil, hs47.cap⟩, ⟨(hS.rd 3 rfl), hn30, hc31⟩, hS.bel⟩
 refine wp_draw (S := fun w1 => St w w1 [(g4, [.bool false, .slice none 0 0, .bool false, .slice none 0 0, .slice none 0 0]), (g2, [.bool ((rb x)), .slice a1 ((words x.natAbs).length) ac1, .bool ((rb y)), .slice a2 ((words y.natAbs).length) ac2, .slice a3 ((words d).length) ac3])] [(a3, words d), (a2, words y.natAbs), (a1, words x.natAbs)] []) (by kernel_rfl) ?_
 replace hS := hS.drew
 refine any_tk (v := .pointer (some ⟨g2, 0, none⟩)) hA 0 rfl rfl rfl rfl hP hS (fun w1 hS => does_field ExK_fld_62_0 rfl rfl) ?_
 intro a hA
 refine any_tk hA 1 rfl rfl rfl rfl hP hS (fun w1 hS => does_loadS hS ExK_isS_60 rfl 1 rfl (cs := [.bool ((rb x)), .slice a1 ((words x.natAbs).length) ac1]) rfl rfl) ?_
 intro a hA
 refine any_tk (v := .pointer (some ⟨g2, 0, none⟩)) hA 2 rfl rfl rfl rfl hP hS (fun w1 hS => does_field ExK_fld_62_0 rfl rfl) ?_
 intro a hA
 refine any_tk hA 3 rfl rfl rfl rfl hP hS (fun w1 hS => does_loadS hS ExK_isS_60 rfl 1 rfl (cs := [.bool ((rb x)), .slice a1 ((words x.natAbs).length) ac1]) rfl rfl) ?_
 intro a hA
 refine any_tk (v := .pointer (some ⟨g2, 2, none⟩)) hA 5 rfl rfl rfl rfl hP hS (fun w1 hS => does_field ExK_fld_62_1 rfl rfl) ?_
 intro a hA
 refine any_tk hA 6 rfl rfl rfl rfl hP hS (fun w1 hS => does_loadS hS ExK_isS_60 rfl 1 rfl (cs := [.bool ((rb y)), .slice a2 ((words y.natAbs).length) ac2]) rfl rfl) ?_
 intro a hA
 refine any_tk (v := .pointer (some ⟨g2, 2, none⟩)) hA 7 rfl rfl rfl rfl hP hS (fun w1 hS => does_field ExK_fld_62_1 rfl rfl) ?_
 intro a hA
 refine any_tk hA 8 rfl rfl rfl rfl hP hS (fun w1 hS => does_loadS hS ExK_isS_60 rfl 1 rfl (cs := [.bool ((rb y)), .slice a2 ((words y.natAbs).length) ac2]) rfl rfl) ?_
 intro a hA
 refine any_many (rs := [4, 11]) (by kernel_rfl) (by simp) ⟨?_, ?_, trivial⟩
 · refine op_call hA 4 rfl rfl rfl rfl (enters_func  rfl rfl (fun w => by kernel_rfl)) (ztimes_any ⟨(hS.rd 2 rfl), ha1.nil, ha1.cap⟩ ⟨(hS.rd 2 rfl), ha1.nil, ha1.cap⟩ (by omega) (by omega)) ?_
   rintro _ w55 ⟨zo51, zc52, rfl, hs53, hb54⟩
   replace hS := hS.call hb54
   replace hS := hS.addR hs53.rd
   refine ⟨_, rfl, (hS.partD (.refl _) 1 rfl (.refl _)), ?_⟩
   intro a hA
   refine any_many (rs := [9, 11]) (by kernel_rfl) (by simp) ⟨?_, ?_, trivial⟩
   · refine op_call hA 9 rfl rfl rfl rfl (enters_func  rfl rfl (fun w => by kernel_rfl)) (ztimes_any ⟨(hS.rd 2 rfl), ha2.nil, ha2.cap⟩ ⟨(hS.rd 2 rfl), ha2.nil, ha2.cap⟩ (by omega) (by omega)) ?_
     rintro _ w60 ⟨zo56, zc57, rfl, hs58, hb59⟩
     replace hS := hS.call hb59
     replace hS := hS.addR hs58.rd
     refine ⟨_, rfl, (hS.partD (.refl _) 2 rfl (.refl _)), ?_⟩
     intro a hA
     refine any_many (rs := [10, 11]) (by kernel_rfl) (by simp) ⟨?_, ?_, trivial⟩
     · refine op_call hA 10 rfl rfl rfl rfl (enters_func  rfl rfl (fun w => by kernel_rfl)) (zplus_any ⟨(hS.rd 1 rfl), hs53.nil, hs53.cap⟩ ⟨(hS.rd 0 rfl), hs58.nil, hs58.cap⟩ (by omega) (by omega)) ?_
       rintro _ w65 ⟨zo61, zc62, rfl, hs63, hb64⟩
       replace hS := hS.call hb64
       replace hS := hS.addR hs63.rd
       refine ⟨_, rfl, (hS.partD (.refl _) 3 rfl (.refl _)), ?_⟩
       intro a hA
       refine any_one (by kernel_rfl) (op_new (vs := [.bool false, .slice none 0 0]) (t := 60) hA hS 11 rfl rfl rfl rfl (fun g => .pointer (some ⟨g, 0, none⟩)) (does_alloc (z := .agg #[.bool false, .slice none 0 0]) (by kernel_rfl) rfl) rfl ?_)
       intro g66 w67 hS
       refine ⟨(hS.partD (.cons _ (.cons_cons _ (.cons_cons _ .slnil))) 3 rfl (.refl _)), ?_⟩
       intro a hA
       refine any_one (by kernel_rfl) (op_store (us := [.bool ((rb (x * x + (y * y)))), .slice zo61 ((words (x * x + (y * y)).natAbs).length) zc62]) hA hS 12 rfl rfl rfl (sets_store rfl rfl rfl (by kernel_rfl) hS 0 rfl rfl rfl) 0 rfl rfl rfl rfl ?_)
       intro w68 hS
       refine ⟨(hS.partD (.cons _ (.cons_cons _ (.cons_cons _ .slnil))) 3 rfl (.refl _)), ?_⟩
       refine any_end (by kernel_rfl) ?_
       refine hJ32 _ _ ⟨g66, zo61, zc62, hA.keep _ ⟨rfl, rfl, rfl, rfl, rfl, rfl, rfl, rfl, rfl, trivial⟩, (St.pickRL hS ⟨⟨0, rfl⟩, ⟨⟨3, rfl⟩, ⟨⟨4, rfl⟩, ⟨⟨5, rfl⟩, trivial⟩⟩⟩⟩ [0, 1, 2] rfl (by decide)), hs63.nil, hs63.cap⟩
     · refine op_new (vs := [.bool false, .slice none 0 0]) (t := 60) hA hS 11 rfl rfl rfl rfl (fun g => .pointer (some ⟨g, 0, none⟩)) (does_alloc (z := .agg #[.bool false, .slice none 0 0]) (by kernel_rfl) rfl) rfl ?_
       intro g69 w70 hS
       refine ⟨(hS.partD (.cons _ (.cons_cons _ (.cons_cons _ .slnil))) 2 rfl (.refl _)), ?_⟩
       intro a hA
       refine any_one (by kernel_rfl) (op_call hA 10 rfl rfl rfl rfl (enters_func  rfl rfl (fun w => by kernel_rfl)) (zplus_any ⟨(hS.rd 1 rfl), hs53.nil, hs53.cap⟩ ⟨(hS.rd 0 rfl), hs58.nil, hs58.cap⟩ (by omega) (by omega)) ?_)
       rintro _ w75 ⟨zo71, zc72, rfl, hs73, hb74⟩
       replace hS := hS.call hb74
       replace hS := hS.addR hs73.rd
       refine ⟨_, rfl, (hS.partD (.cons _ (.cons_cons _ (.cons_cons _ .slnil))) 3 rfl (.refl _)), ?_⟩
       intro a hA
       refine any_one (by kernel_rfl) (op_store (us := [.bool ((rb (x * x + (y * y)))), .slice zo71 ((words (x * x + (y * y)).natAbs).length) zc72]) hA hS 12 rfl rfl rfl (sets_store rfl rfl rfl (by kernel_rfl) hS 0 rfl rfl rfl) 0 rfl rfl rfl rfl ?_)
       intro w76 hS
       refine ⟨(hS.partD (.cons _ (.cons_cons _ (.cons_cons _ .slnil))) 3 rfl (.refl _)), ?_⟩
       refine any_end (by kernel_rfl) ?_
       refine hJ32 _ _ ⟨g69, zo71, zc72, hA.keep _ ⟨rfl, rfl, rfl, rfl, rfl, rfl, rfl, rfl, rfl, trivial⟩, (St.pickRL hS ⟨⟨0, rfl⟩, ⟨⟨3, rfl⟩, ⟨⟨4, rfl⟩, ⟨⟨5, rfl⟩, trivial⟩⟩⟩⟩ [0, 1, 2] rfl (by decide)), hs73.nil, hs73.cap⟩
   · refine op_new (vs := [.bool false, .slice none 0 0]) (t := 60) hA hS 11 rfl rfl rfl rfl (fun g => .pointer (some ⟨g, 0, none⟩)) (does_alloc (z := .agg #[.bool false, .slice none 0 0]) (by kernel_rfl) rfl) rfl ?_
     intro g77 w78 hS
     refine ⟨(hS.partD (.cons _ (.cons_cons _ (.cons_cons _ .slnil))) 1 rfl (.refl _)), ?_⟩
     intro a hA
     refine any_one (by kernel_rfl) (op_call hA 9 rfl rfl rfl rfl (enters_func  rfl rfl (fun w => by kernel_rfl)) (ztimes_any ⟨(hS.rd 2 rfl), ha2.nil, ha2.cap⟩ ⟨(hS.rd 2 rfl), ha2.nil, ha2.cap⟩ (by omega) (by omega)) ?_)
     rintro _ w83 ⟨zo79, zc80, rfl, hs81, hb82⟩
     replace hS := hS.call hb82
     replace hS := hS.addR hs81.rd
     refine ⟨_, rfl, (hS.partD (.cons _ (.cons_cons _ (.cons_cons _ .slnil))) 2 rfl (.refl _)), ?_⟩
     intro a hA
     refine any_one (by kernel_rfl) (op_call hA 10 rfl rfl rfl rfl (enters_func  rfl rfl (fun w => by kernel_rfl)) (zplus_any ⟨(hS.rd 1 rfl), hs53.nil, hs53.cap⟩ ⟨(hS.rd 0 rfl), hs81.nil, hs81.cap⟩ (by omega) (by omega)) ?_)
     rintro _ w88 ⟨zo84, zc85, rfl, hs86, hb87⟩
     replace hS := hS.call hb87
     replace hS := hS.addR hs86.rd
     refine ⟨_, rfl, (hS.partD (.cons _ (.cons_cons _ (.cons_cons _ .slnil))) 3 rfl (.refl _)), ?_⟩
     intro a hA
     refine any_one (by kernel_rfl) (op_store (us := [.bool ((rb (x * x + (y * y)))), .slice zo84 ((words (x * x + (y * y)).natAbs).length) zc85]) hA hS 12 rfl rfl rfl (sets_store rfl rfl rfl (by kernel_rfl) hS 0 rfl rfl rfl) 0 rfl rfl rfl rfl ?_)
     intro w89 hS
     refine ⟨(hS.partD (.cons _ (.cons_cons _ (.cons_cons _ .slnil))) 3 rfl (.refl _)), ?_⟩
     refine any_end (by kernel_rfl) ?_
     refine hJ32 _ _ ⟨g77, zo84, zc85, hA.keep _ ⟨rfl, rfl, rfl, rfl, rfl, rfl, rfl, rfl, rfl, trivial⟩, (St.pickRL hS ⟨⟨0, rfl⟩, ⟨⟨3, rfl⟩, ⟨⟨4, rfl⟩, ⟨⟨5, rfl⟩, trivial⟩⟩⟩⟩ [0, 1, 2] rfl (by decide)), hs86.nil, hs86.cap⟩
 · refine op_new (vs := [.bool false, .slice none 0 0]) (t := 60) hA hS 11 rfl rfl rfl rfl (fun g => .pointer (some ⟨g, 0, none⟩)) (does_alloc (z := .agg #[.bool false, .slice none 0 0]) (by kernel_rfl) rfl) rfl ?_
   intro g90 w91 hS
   refine ⟨(hS.partD (.cons _ (.cons_cons _ (.cons_cons _ .slnil))) 0 rfl (.refl _)), ?_⟩
   intro a hA
   refine any_one (by kernel_rfl) (op_call hA 4 rfl rfl rfl rfl (enters_func  rfl rfl (fun w => by kernel_rfl)) (ztimes_any ⟨(hS.rd 2 rfl), ha1.nil, ha1.cap⟩ ⟨(hS.rd 2 rfl), ha1.nil, ha1.cap⟩ (by omega) (by omega)) ?_)
   rintro _ w96 ⟨zo92, zc93, rfl, hs94, hb95⟩
   replace hS := hS.call hb95
   replace hS := hS.addR hs94.rd
   refine ⟨_, rfl, (hS.partD (.cons _ (.cons_cons _ (.cons_cons _ .slnil))) 1 rfl (.refl _)), ?_⟩
   intro a hA
   refine any_one (by kernel_rfl) (op_call hA 9 rfl rfl rfl rfl (enters_func  rfl rfl (fun w => by kernel_rfl)) (ztimes_any ⟨(hS.rd 2 rfl), ha2.nil, ha2.cap⟩ ⟨(hS.rd 2 rfl), ha2.nil, ha2.cap⟩ (by omega) (by omega)) ?_)
   rintro _ w101 ⟨zo97, zc98, rfl, hs99, hb100⟩
   replace hS := hS.call hb100
   replace hS := hS.addR hs99.rd
   refine ⟨_, rfl, (hS.partD (.cons _ (.cons_cons _ (.cons_cons _ .slnil))) 2 rfl (.refl _)), ?_⟩
   intro a hA
   refine any_one (by kernel_rfl) (op_call hA 10 rfl rfl rfl rfl (enters_func  rfl rfl (fun w => by kernel_rfl)) (zplus_any ⟨(hS.rd 1 rfl), hs94.nil, hs94.cap⟩ ⟨(hS.rd 0 rfl), hs99.nil, hs99.cap⟩ (by omega) (by omega)) ?_)
   rintro _ w106 ⟨zo102, zc103, rfl, hs104, hb105⟩
   replace hS := hS.call hb105
   replace hS := hS.addR hs104.rd
   refine ⟨_, rfl, (hS.partD (.cons _ (.cons_cons _ (.cons_cons _ .slnil))) 3 rfl (.refl _)), ?_⟩
   intro a hA
   refine any_one (by kernel_rfl) (op_store (us := [.bool ((rb (x * x + (y * y)))), .slice zo102 ((words (x * x + (y * y)).natAbs).length) zc103]) hA hS 12 rfl rfl rfl (sets_store rfl rfl rfl (by kernel_rfl) hS 0 rfl rfl rfl) 0 rfl rfl rfl rfl ?_)
   intro w107 hS
   refine ⟨(hS.partD (.cons _ (.cons_cons _ (.cons_cons _ .slnil))) 3 rfl (.refl _)), ?_⟩
   refine any_end (by kernel_rfl) ?_
   refine hJ32 _ _ ⟨g90, zo102, zc103, hA.keep _ ⟨rfl, rfl, rfl, rfl, rfl, rfl, rfl, rfl, rfl, trivial⟩, (St.pickRL hS ⟨⟨0, rfl⟩, ⟨⟨3, rfl⟩, ⟨⟨4, rfl⟩, ⟨⟨5, rfl⟩, trivial⟩⟩⟩⟩ [0, 1, 2] rfl (by decide)), hs104.nil, hs104.cap⟩
theorem zinv_any {w : World} {x y : Int} {d : Nat} {a1 a2 a3 : Option Addr} {ac1 ac2 ac3 : Nat} (ha1 : Sc w a1 ac1 (words x.natAbs)) (ha2 : Sc w a2 ac2 (words y.natAbs)) (ha3 : Sc w a3 ac3 (words d)) (la1 : (words x.natAbs).length ≤ 10000) (la2 : (words y.natAbs).length ≤ 10000) (la3 : (words d).length ≤ 10000) : Calls Tryd.prog 33 #[.agg #[.bool (rb x), .slice a1 (words x.natAbs).length ac1, .bool (rb y), .slice a2 (words y.natAbs).length ac2, .slice a3 (words d).length ac3]] w (AnsR w (ivX x y d) (ivY x y d) (ivD x y)) := by
  by_cases hy : y = 0
  · exact zinv0_any ha1 ha2 ha3 la1 la2 la3 hy
  · exact zinv1_any ha1 ha2 ha3 la1 la2 la3 hy
theorem zsettle_as {w : World} {x y : Int} {d : Nat} {a1 a2 a3 : Option Addr} {ac1 ac2 ac3 : Nat} (ha1 : Sc w a1 ac1 (words x.natAbs)) (ha2 : Sc w a2 ac2 (words y.natAbs)) (ha3 : Sc w a3 ac3 (words d)) {r : Q6 × Int} (h : setQ x y d = r) (l1 : (words x.natAbs).length ≤ 50000) (l2 : (words y.natAbs).length ≤ 50000) (l3 : (words d).length ≤ 50000) (hd : d ≠ 0) : Calls Tryd.prog 34 #[.agg #[.bool (rb x), .slice a1 (words x.natAbs).length ac1, .bool (rb y), .slice a2 (words y.natAbs).length ac2, .slice a3 (words d).length ac3]] w (AnsN w r) := h ▸ zsettle_any ha1 ha2 ha3 l1 l2 l3 hd
end Go.Proofs.YtbajcflbimmnhaaDoor
namespace Go.Proofs.YtbajcflbimmnhaaDoor
open Go.RowKit
set_option linter.unusedVariables false
set_option linter.unusedSimpArgs false
set_option maxRecDepth 100000
theorem ExL_isS_27 : IsS Tryd.prog 27 6 := ⟨⟨_, Tryd.underlying27⟩, by kernel_rfl⟩
theorem neg_len {x : Int} {k : Nat} (h : (words x.natAbs).length ≤ k) : (words (-x).natAbs).length ≤ k := by rw [Int.natAbs_neg]; exact h
theorem reckonE1_any {F : FuncId} {w : World} {p q : Q6} {a1 a2 a3 a4 : Option Addr} {ac1 ac2 ac3 ac4 : Nat} (ha : Nm w p a1 ac1 a2 ac2 a3 ac3 a4 ac4) (hl : LenQ p) {u1 u2 u3 u4 : Option Addr} {uc1 uc2 uc3 uc4 : Nat} (hb : Nm w q u1 uc1 u2 uc2 u3 uc3 u4 uc4) (hm : LenQ q) (h1 : soundQ p = false) : Calls Tryd.prog 36 #[.func (.func F) #[] #[], numV p a1 ac1 a2 ac2 a3 ac3 a4 ac4, numV q u1 uc1 u2 uc2 u3 uc3 u4 uc4] w (AnsN w (Q6.zero, 2)) := by
 have hS : St w w [] [(u4, q.q2), (u3, q.t2), (u2, q.q1), (u1, q.t1), (a4, p.q2), (a3, p.t2), (a2, p.q1), (a1, p.t1)] [] := ((((((((St.start w).addR ha.s1.rd).addR ha.s2.rd).addR ha.s3.rd).addR ha.s4.rd).addR hb.s1.rd).addR hb.s2.rd).addR hb.s3.rd).addR hb.s4.rd
 refine walk_of (l := [(0, .func (.func F) #[] #[]), (1, .agg #[.bool p.b1, .slice a1 p.t1.length ac1, .slice a2 p.q1.length ac2, .bool p.b2, .slice a3 p.t2.length ac3, .slice a4 p.q2.length ac4]), (2, .agg #[.bool q.b1, .slice u1 q.t1.length uc1, .slice u2 q.q1.length uc2, .bool q.b2, .slice u3 q.t2.length uc3, .slice u4 q.q2.length uc4])]) Tryd.func36 rfl Tryd.ntmps36 rfl rfl ?_
 intro Q hret hnorm hP a hA
 refine wp_seq_k (fun K1 hK1 => ?_)
 refine wp_region_lit ?_
 refine seq_new hA hS rfl rfl rfl (fun g => .pointer (some ⟨g, 0, none⟩)) (does_box rfl rfl) rfl ?_
 intro g2 w3 hS a hA
 refine seq_new hA hS rfl rfl rfl (fun g => .pointer (some ⟨g, 0, none⟩)) (does_box rfl rfl) rfl ?_
 intro g4 w5 hS a hA
 refine seq_new (vs := [.bool false, .slice none 0 0, .slice none 0 0, .bool false, .slice none 0 0, .slice none 0 0]) (t := 27) hA hS rfl rfl rfl (fun g => .pointer (some ⟨g, 0, none⟩)) (does_alloc (z := .agg #[.bool false, .slice none 0 0, .slice none 0 0, .bool false, .slice none 0 0, .slice none 0 0]) (by kernel_rfl) rfl) rfl ?_
 intro g6 w7 hS a hA
 refine seq_do hA rfl rfl rfl (does_assign rfl) ?_
 intro a hA
 refine seq_end ?_
 refine hK1 _ _ ?_
 refine wp_seq_k (fun K8 hK8 => ?_)
 refine wp_seq_k (fun K9 hK9 => ?_)
 refine wp_region_lit ?_
 refine seq_do hA rfl rfl rfl (does_loadS hS ExL_isS_27 rfl 2 rfl (cs := [.bool p.b1, .slice a1 p.t1.length ac1, .slice a2 p.q1.length ac2, .bool p.b2, .slice a3 p.t2.length ac3, .slice a4 p.q2.length ac4]) rfl rfl) ?_
 intro a hA
 refine seq_call hA rfl rfl rfl (enters_func  rfl rfl (fun w => by kernel_rfl)) (soundQ_any (show Nm _ p a1 ac1 a2 ac2 a3 ac3 a4 ac4 from ⟨⟨(hS.rd 7 rfl), ha.s1.nil, ha.s1.cap⟩, ⟨(hS.rd 6 rfl), ha.s2.nil, ha.s2.cap⟩, ⟨(hS.rd 5 rfl), ha.s3.nil, ha.s3.cap⟩, ⟨(hS.rd 4 rfl), ha.s4.nil, ha.s4.cap⟩⟩) hl h1) ?_
 rintro _ w11 ⟨rfl, hb10⟩
 replace hS := hS.call hb10
 refine ⟨_, rfl, ?_⟩
 intro a hA
 refine seq_do (v := .bool true) hA rfl rfl rfl (does_un rfl un_not) ?_
 intro a hA
 refine seq_do hA rfl rfl rfl (does_move rfl) ?_
 intro a hA
 refine seq_skip hA rfl rfl rfl ?_
 intro a hA
 refine seq_skip hA rfl rfl rfl ?_
 intro a hA
 refine seq_skip hA rfl rfl rfl ?_
 intro a hA
 refine seq_do (v := .bool true) hA rfl rfl rfl (does_pick rfl rfl rfl rfl) ?_
 intro a hA
 refine seq_end ?_
 refine hK9 _ _ ?_
 refine wp_cond_true (hA.ev rfl) ?_
 refine wp_seq_k (fun K12 hK12 => ?_)
 refine wp_region_lit ?_
 refine seq_do (v := .agg #[.bool false, .slice none 0 0, .slice none 0 0, .bool false, .slice none 0 0, .slice none 0 0]) hA rfl rfl rfl (does_build rfl (fun w => by kernel_rfl)) ?_
 intro a hA
 refine seq_store (us := [.bool false, .slice none 0 0, .slice none 0 0, .bool false, .slice none 0 0, .slice none 0 0]) hA hS rfl rfl (sets_store rfl rfl rfl (by kernel_rfl) hS 0 rfl rfl rfl) 0 rfl rfl rfl rfl ?_
 intro w13 hS
 refine seq_do hA rfl rfl rfl (does_assign rfl) ?_
 intro a hA
 refine seq_end ?_
 refine hK12 _ _ ?_
 refine wp_ret ?_
 refine hret _ _ ?_
 refine ends (v := .tuple #[.agg #[.bool false, .slice none 0 0, .slice none 0 0, .bool false, .slice none 0 0, .slice none 0 0], .int .i64 2]) hA rfl (.cons (res_cell hS ExL_isS_27 rfl 0 rfl (cs := [.bool false, .slice none 0 0, .slice none 0 0, .bool false, .slice none 0 0, .slice none 0 0]) rfl rfl) (.cons (res_tmp rfl) .nil)) rfl ?_
 exact ⟨none, 0, none, 0, none, 0, none, 0, rfl, ⟨(Sc.none _), (Sc.none _), (Sc.none _), (Sc.none _)⟩, hS.bel⟩
theorem reckonE2_any {F : FuncId} {w : World} {p q : Q6} {a1 a2 a3 a4 : Option Addr} {ac1 ac2 ac3 ac4 : Nat} (ha : Nm w p a1 ac1 a2 ac2 a3 ac3 a4 ac4) (hl : LenQ p) {u1 u2 u3 u4 : Option Addr} {uc1 uc2 uc3 uc4 : Nat} (hb : Nm w q u1 uc1 u2 uc2 u3 uc3 u4 uc4) (hm : LenQ q) (h1 : soundQ p = true) (h2 : soundQ q = false) : Calls Tryd.prog 36 #[.func (.func F) #[] #[], numV p a1 ac1 a2 ac2 a3 ac3 a4 ac4, numV q u1 uc1 u2 uc2 u3 uc3 u4 uc4] w (AnsN w (Q6.zero, 2)) := by
 have hS : St w w [] [(u4, q.q2), (u3, q.t2), (u2, q.q1), (u1, q.t1), (a4, p.q2), (a3, p.t2), (a2, p.q1), (a1, p.t1)] [] := ((((((((St.start w).addR ha.s1.rd).addR ha.s2.rd).addR ha.s3.rd).addR ha.s4.rd).addR hb.s1.rd).addR hb.s2.rd).addR hb.s3.rd).addR hb.s4.rd
 refine walk_of (l := [(0, .func (.func F) #[] #[]), (1, .agg #[.bool p.b1, .slice a1 p.t1.length ac1, .slice a2 p.q1.length ac2, .bool p.b2, .slice a3 p.t2.length ac3, .slice a4 p.q2.length ac4]), (2, .agg #[.bool q.b1, .slice u1 q.t1.length uc1, .slice u2 q.q1.length uc2, .bool q.b2, .slice u3 q.t2.length uc3, .slice u4 q.q2.length uc4])]) Tryd.func36 rfl Tryd.ntmps36 rfl rfl ?_
 intro Q hret hnorm hP a hA
 refine wp_seq_k (fun K1 hK1 => ?_)
 refine wp_region_lit ?_
 refine seq_new hA hS rfl rfl rfl (fun g => .pointer (some ⟨g, 0, none⟩)) (does_box rfl rfl) rfl ?_
 intro g2 w3 hS a hA
 refine seq_new hA hS rfl rfl rfl (fun g => .pointer (some ⟨g, 0, none⟩)) (does_box rfl rfl) rfl ?_
 intro g4 w5 hS a hA
 refine seq_new (vs := [.bool false, .slice none 0 0, .slice none 0 0, .bool false, .slice none 0 0, .slice none 0 0]) (t := 27) hA hS rfl rfl rfl (fun g => .pointer (some ⟨g, 0, none⟩)) (does_alloc (z := .agg #[.bool false, .slice none 0 0, .slice none 0 0, .bool false, .slice none 0 0, .slice none 0 0]) (by kernel_rfl) rfl) rfl ?_
 intro g6 w7 hS a hA
 refine seq_do hA rfl rfl rfl (does_assign rfl) ?_
 intro a hA
 refine seq_end ?_
 refine hK1 _ _ ?_
 refine wp_seq_k (fun K8 hK8 => ?_)
 refine wp_seq_k (fun K9 hK9 => ?_)
 refine wp_region_lit ?_
 refine seq_do hA rfl rfl rfl (does_loadS hS ExL_isS_27 rfl 2 rfl (cs := [.bool p.b1, .slice a1 p.t1.length ac1, .slice a2 p.q1.length ac2, .bool p.b2, .slice a3 p.t2.length ac3, .slice a4 p.q2.length ac4]) rfl rfl) ?_
 intro a hA
 refine seq_call hA rfl rfl rfl (enters_func  rfl rfl (fun w => by kernel_rfl)) (soundQ_any (show Nm _ p a1 ac1 a2 ac2 a3 ac3 a4 ac4 from ⟨⟨(hS.rd 7 rfl), ha.s1.nil, ha.s1.cap⟩, ⟨(hS.rd 6 rfl), ha.s2.nil, ha.s2.cap⟩, ⟨(hS.rd 5 rfl), ha.s3.nil, ha.s3.cap⟩, ⟨(hS.rd 4 rfl), ha.s4.nil, ha.s4.cap⟩⟩) hl h1) ?_
 rintro _ w11 ⟨rfl, hb10⟩
 replace hS := hS.call hb10
 refine ⟨_, rfl, ?_⟩
 intro a hA
 refine seq_do (v := .bool false) hA rfl rfl rfl (does_un rfl un_not) ?_
 intro a hA
 refine seq_do hA rfl rfl rfl (does_move rfl) ?_
 intro a hA
 refine seq_do hA rfl rfl rfl (does_loadS hS ExL_isS_27 rfl 1 rfl (cs := [.bool q.b1, .slice u1 q.t1.length uc1, .slice u2 q.q1.length uc2, .bool q.b2, .slice u3 q.t2.length uc3, .slice u4 q.q2.length uc4]) rfl rfl) ?_
 intro a hA
 refine seq_call hA rfl rfl rfl (enters_func  rfl rfl (fun w => by kernel_rfl)) (soundQ_any (show Nm _ q u1 uc1 u2 uc2 u3 uc3 u4 uc4 from ⟨⟨(hS.rd 3 rfl), hb.s1.nil, hb.s1.cap⟩, ⟨(hS.rd 2 rfl), hb.s2.nil, hb.s2.cap⟩, ⟨(hS.rd 1 rfl), hb.s3.nil, hb.s3.cap⟩, ⟨(hS.rd 0 rfl), hb.s4.nil, hb.s4.cap⟩⟩) hm h2) ?_
 rintro _ w13 ⟨rfl, hb12⟩
 replace hS := hS.call hb12
 refine ⟨_, rfl, ?_⟩
 intro a hA
 refine seq_do (v := .bool true) hA rfl rfl rfl (does_un rfl un_not) ?_
 intro a hA
 refine seq_do (v := .bool true) hA rfl rfl rfl (does_pick rfl rfl rfl rfl) ?_
 intro a hA
 refine seq_end ?_
 refine hK9 _ _ ?_
 refine wp_cond_true (hA.ev rfl) ?_
 refine wp_seq_k (fun K14 hK14 => ?_)
 refine wp_region_lit ?_
 refine seq_do (v := .agg #[.bool false, .slice none 0 0, .slice none 0 0, .bool false, .slice none 0 0, .slice none 0 0]) hA rfl rfl rfl (does_build rfl (fun w => by kernel_rfl)) ?_
 intro a hA
 refine seq_store (us := [.bool false, .slice none 0 0, .slice none 0 0, .bool false, .slice none 0 0, .slice none 0 0]) hA hS rfl rfl (sets_store rfl rfl rfl (by kernel_rfl) hS 0 rfl rfl rfl) 0 rfl rfl rfl rfl ?_
 intro w15 hS
 refine seq_do hA rfl rfl rfl (does_assign rfl) ?_
 intro a hA
 refine seq_end ?_
 refine hK14 _ _ ?_
 refine wp_ret ?_
 refine hret _ _ ?_
 refine ends (v := .tuple #[.agg #[.bool false, .slice none 0 0, .slice none 0 0, .bool false, .slice none 0 0, .slice none 0 0], .int .i64 2]) hA rfl (.cons (res_cell hS ExL_isS_27 rfl 0 rfl (cs := [.bool false, .slice none 0 0, .slice none 0 0, .bool false, .slice none 0 0, .slice none 0 0]) rfl rfl) (.cons (res_tmp rfl) .nil)) rfl ?_
 exact ⟨none, 0, none, 0, none, 0, none, 0, rfl, ⟨(Sc.none _), (Sc.none _), (Sc.none _), (Sc.none _)⟩, hS.bel⟩
theorem reckonS_any {w : World} {u v x y : Rat} {a1 a2 a3 a4 : Option Addr} {ac1 ac2 ac3 ac4 : Nat} (ha : Nm w (Q6.rat u v) a1 ac1 a2 ac2 a3 ac3 a4 ac4) {u1 u2 u3 u4 : Option Addr} {uc1 uc2 uc3 uc4 : Nat} (hb : Nm w (Q6.rat x y) u1 uc1 u2 uc2 u3 uc3 u4 uc4) (hu : fitR u) (hv : fitR v) (hx : fitR x) (hy : fitR y) : Calls Tryd.prog 36 #[.func (.func 37) #[] #[], numV (Q6.rat u v) a1 ac1 a2 ac2 a3 ac3 a4 ac4, numV (Q6.rat x y) u1 uc1 u2 uc2 u3 uc3 u4 uc4] w (AnsN w (ratS (u - x) (v - y))) := by
 have hS : St w w [] [(u4, words y.den), (u3, words y.num.natAbs), (u2, words x.den), (u1, words x.num.natAbs), (a4, words v.den), (a3, words v.num.natAbs), (a2, words u.den), (a1, words u.num.natAbs)] [] := ((((((((St.start w).addR ha.s1.rd).addR ha.s2.rd).addR ha.s3.rd).addR ha.s4.rd).addR hb.s1.rd).addR hb.s2.rd).addR hb.s3.rd).addR hb.s4.rd
 refine walk_of (l := [(0, .func (.func 37) #[] #[]), (1, .agg #[.bool (rb u.num), .slice a1 ((words u.num.natAbs).length) ac1, .slice a2 ((words u.den).length) ac2, .bool (rb v.num), .slice a3 ((words v.num.natAbs).length) ac3, .slice a4 ((words v.den).length) ac4]), (2, .agg #[.bool (rb x.num), .slice u1 ((words x.num.natAbs).length) uc1, .slice u2 ((words x.den).length) uc2, .bool (rb y.num), .slice u3 ((words y.num.natAbs).length) uc3, .slice u4 ((words y.den).length) uc4])]) Tryd.func36 rfl Tryd.ntmps36 rfl rfl ?_
 intro Q hret hnorm hP a hA
 refine wp_seq_k (fun K1 hK1 => ?_)
 refine wp_region_lit ?_
 refine seq_new hA hS rfl rfl rfl (fun g => .pointer (some ⟨g, 0, none⟩)) (does_box rfl rfl) rfl ?_
 intro g2 w3 hS a hA
 refine seq_new hA hS rfl rfl rfl (fun g => .pointer (some ⟨g, 0, none⟩)) (does_box rfl rfl) rfl ?_
 intro g4 w5 hS a hA
 refine seq_new (vs := [.bool false, .slice none 0 0, .slice none 0 0, .bool false, .slice none 0 0, .slice none 0 0]) (t := 27) hA hS rfl rfl rfl (fun g => .pointer (some ⟨g, 0, none⟩)) (does_alloc (z := .agg #[.bool false, .slice none 0 0, .slice none 0 0, .bool false, .slice none 0 0, .slice none 0 0]) (by kernel_rfl) rfl) rfl ?_
 intro g6 w7 hS a hA
 refine seq_do hA rfl rfl rfl (does_assign rfl) ?_
 intro a hA
 refine seq_end ?_
 refine hK1 _ _ ?_
 refine wp_seq_k (fun K8 hK8 => ?_)
 refine wp_seq_k (fun K9 hK9 => ?_)
 refine wp_region_lit ?_
 refine seq_do hA rfl rfl rfl (does_loadS hS ExL_isS_27 rfl 2 rfl (cs := [.bool (rb u.num), .slice a1 ((words u.num.natAbs).length) ac1, .slice a2 ((words u.den).length) ac2, .bool (rb v.num), .slice a3 ((words v.num.natAbs).length) ac3, .slice a4 ((words v.den).length) ac4]) rfl rfl) ?_
 intro a hA
 refine seq_call hA rfl rfl rfl (enters_func  rfl rfl (fun w => by kernel_rfl)) (soundQ_any (show Nm _ (Q6.rat u v) a1 ac1 a2 ac2 a3 ac3 a4 ac4 from ⟨⟨(hS.rd 7 rfl), ha.s1.nil, ha.s1.cap⟩, ⟨(hS.rd 6 rfl), ha.s2.nil, ha.s2.cap⟩, ⟨(hS.rd 5 rfl), ha.s3.nil, ha.s3.cap⟩, ⟨(hS.rd 4 rfl), ha.s4.nil, ha.s4.cap⟩⟩) (lenQ_rat hu hv) (soundQ_rat hu hv)) ?_
 rintro _ w11 ⟨rfl, hb10⟩
 replace hS := hS.call hb10
 refine ⟨_, rfl, ?_⟩
 intro a hA
 refine seq_do (v := .bool false) hA rfl rfl rfl (does_un rfl un_not) ?_
 intro a hA
 refine seq_do hA rfl rfl rfl (does_move rfl) ?_
 intro a hA
 refine seq_do hA rfl rfl rfl (does_loadS hS ExL_isS_27 rfl 1 rfl (cs := [.bool (rb x.num), .slice u1 ((words x.num.natAbs).length) uc1, .slice u2 ((words x.den).length) uc2, .bool (rb y.num), .slice u3 ((words y.num.natAbs).length) uc3, .slice u4 ((words y.den).length) uc4]) rfl rfl) ?_
 intro a hA
 refine seq_call hA rfl rfl rfl (enters_func  rfl rfl (fun w => by kernel_rfl)) (soundQ_any (show Nm _ (Q6.rat x y) u1 uc1 u2 uc2 u3 uc3 u4 uc4 from ⟨⟨(hS.rd 3 rfl), hb.s1.nil, hb.s1.cap⟩, ⟨(hS.rd 2 rfl), hb.s2.nil, hb.s2.cap⟩, ⟨(hS.rd 1 rfl), hb.s3.nil, hb.s3.cap⟩, ⟨(hS.rd 0 rfl), hb.s4.nil, hb.s4.cap⟩⟩) (lenQ_rat hx hy) (soundQ_rat hx hy)) ?_
 rintro _ w13 ⟨rfl, hb12⟩
 replace hS := hS.call hb12
 refine ⟨_, rfl, ?_⟩
 intro a hA
 refine seq_do (v := .bool false) hA rfl rfl rfl (does_un rfl un_not) ?_
 intro a hA
 refine seq_do (v := .bool false) hA rfl rfl rfl (does_pick rfl rfl rfl rfl) ?_
 intro a hA
 refine seq_end ?_
 refine hK9 _ _ ?_
 refine wp_cond_false (hA.ev rfl) ?_
 refine wp_skip ?_
 refine hK8 _ _ ?_
 refine wp_seq_k (fun K14 hK14 => ?_)
 refine wp_draw (S := fun w1 => St w w1 [(g4, [.bool (rb x.num), .slice u1 ((words x.num.natAbs).length) uc1, .slice u2 ((words x.den).length) uc2, .bool (rb y.num), .slice u3 ((words y.num.natAbs).length) uc3, .slice u4 ((words y.den).length) uc4]), (g2, [.bool (rb u.num), .slice a1 ((words u.num.natAbs).length) ac1, .slice a2 ((words u.den).length) ac2, .bool (rb v.num), .slice a3 ((words v.num.natAbs).length) ac3, .slice a4 ((words v.den).length) ac4])] [(u4, words y.den), (u3, words y.num.natAbs), (u2, words x.den), (u1, words x.num.natAbs), (a4, words v.den), (a3, words v.num.natAbs), (a2, words u.den), (a1, words u.num.natAbs)] []) (by kernel_rfl) ?_
 replace hS := hS.drew
 refine any_tk hA 0 rfl rfl rfl rfl hP (hS.partD (.cons _ (.cons_cons _ (.cons_cons _ .slnil))) 0 rfl (.refl _)) (fun w1 hS => does_move rfl) ?_
 intro a hA
 refine any_tk hA 1 rfl rfl rfl rfl hP (hS.partD (.cons _ (.cons_cons _ (.cons_cons _ .slnil))) 0 rfl (.refl _)) (fun w1 hS => does_loadS hS ExL_isS_27 rfl 1 rfl (cs := [.bool (rb u.num), .slice a1 ((words u.num.natAbs).length) ac1, .slice a2 ((words u.den).length) ac2, .bool (rb v.num), .slice a3 ((words v.num.natAbs).length) ac3, .slice a4 ((words v.den).length) ac4]) rfl rfl) ?_
 intro a hA
 refine any_tk hA 3 rfl rfl rfl rfl hP (hS.partD (.cons _ (.cons_cons _ (.cons_cons _ .slnil))) 0 rfl (.refl _)) (fun w1 hS => does_loadS hS ExL_isS_27 rfl 0 rfl (cs := [.bool (rb x.num), .slice u1 ((words x.num.natAbs).length) uc1, .slice u2 ((words x.den).length) uc2, .bool (rb y.num), .slice u3 ((words y.num.natAbs).length) uc3, .slice u4 ((words y.den).length) uc4]) rfl rfl) ?_
 intro a hA
 refine any_one (by kernel_rfl) (op_call hA 2 rfl rfl rfl rfl (enters_func  rfl rfl (fun w => by kernel_rfl)) (zspread_any (show Nm _ (Q6.rat u v) a1 ac1 a2 ac2 a3 ac3 a4 ac4 from ⟨⟨(hS.rd 7 rfl), ha.s1.nil, ha.s1.cap⟩, ⟨(hS.rd 6 rfl), ha.s2.nil, ha.s2.cap⟩, ⟨(hS.rd 5 rfl), ha.s3.nil, ha.s3.cap⟩, ⟨(hS.rd 4 rfl), ha.s4.nil, ha.s4.cap⟩⟩) hu hv) ?_)
 rintro _ w20 ⟨p15_1, p15_c1, p15_2, p15_c2, p15_3, p15_c3, rfl, hs16, hs17, hs18, hb19⟩
 replace hS := hS.call hb19
 replace hS := hS.addR hs16.rd
 replace hS := hS.addR hs17.rd
 replace hS := hS.addR hs18.rd
 refine ⟨_, rfl, (hS.partD (.cons _ (.cons_cons _ (.cons_cons _ .slnil))) 3 rfl (.refl _)), ?_⟩
 intro a hA
 refine any_one (by kernel_rfl) (op_call hA 4 rfl rfl rfl rfl (enters_func  rfl rfl (fun w => by kernel_rfl)) (zspread_any (show Nm _ (Q6.rat x y) u1 uc1 u2 uc2 u3 uc3 u4 uc4 from ⟨⟨(hS.rd 6 rfl), hb.s1.nil, hb.s1.cap⟩, ⟨(hS.rd 5 rfl), hb.s2.nil, hb.s2.cap⟩, ⟨(hS.rd 4 rfl), hb.s3.nil, hb.s3.cap⟩, ⟨(hS.rd 3 rfl), hb.s4.nil, hb.s4.cap⟩⟩) hx hy) ?_)
 rintro _ w26 ⟨p21_1, p21_c1, p21_2, p21_c2, p21_3, p21_c3, rfl, hs22, hs23, hs24, hb25⟩
 replace hS := hS.call hb25
 replace hS := hS.addR hs22.rd
 replace hS := hS.addR hs23.rd
 replace hS := hS.addR hs24.rd
 refine ⟨_, rfl, (hS.partD (.cons _ (.cons_cons _ (.cons_cons _ .slnil))) 6 rfl (.refl _)), ?_⟩
 intro a hA
 refine any_one (by kernel_rfl) (op_call hA 5 rfl rfl rfl rfl (enters_func  rfl rfl (fun w => by kernel_rfl)) (zdiff_any ⟨(hS.rd 5 rfl), hs16.nil, hs16.cap⟩ ⟨(hS.rd 4 rfl), hs17.nil, hs17.cap⟩ ⟨(hS.rd 3 rfl), hs18.nil, hs18.cap⟩ ⟨(hS.rd 2 rfl), hs22.nil, hs22.cap⟩ ⟨(hS.rd 1 rfl), hs23.nil, hs23.cap⟩ ⟨(hS.rd 0 rfl), hs24.nil, hs24.cap⟩ (Nat.le_trans (spX_len hu hv) (by decide)) (Nat.le_trans (spY_len hu hv) (by decide)) (Nat.le_trans (spD_len hu hv) (by decide)) (Nat.le_trans (spX_len hx hy) (by decide)) (Nat.le_trans (spY_len hx hy) (by decide)) (Nat.le_trans (spD_len hx hy) (by decide))) ?_)
 rintro _ w32 ⟨p27_1, p27_c1, p27_2, p27_c2, p27_3, p27_c3, rfl, hs28, hs29, hs30, hb31⟩
 replace hS := hS.call hb31
 replace hS := hS.addR hs28.rd
 replace hS := hS.addR hs29.rd
 replace hS := hS.addR hs30.rd
 refine ⟨_, rfl, (hS.partD (.cons _ (.cons_cons _ (.cons_cons _ .slnil))) 9 rfl (.refl _)), ?_⟩
 intro a hA
 refine any_one (by kernel_rfl) (op_call hA 6 rfl rfl rfl rfl (enters_func  rfl rfl (fun w => by kernel_rfl)) (zsettle_as ⟨(hS.rd 2 rfl), hs28.nil, hs28.cap⟩ ⟨(hS.rd 1 rfl), hs29.nil, hs29.cap⟩ ⟨(hS.rd 0 rfl), hs30.nil, hs30.cap⟩ (set_sub (spD_ne u v) (spD_ne x y) (spX_mk u v) (spY_mk u v) (spX_mk x y) (spY_mk x y)) (Nat.le_trans (abs_add_len (abs_mul_len (spX_len hu hv) (nat_abs_len (spD_len hx hy))) (abs_mul_len (neg_len (spX_len hx hy)) (nat_abs_len (spD_len hu hv)))) (by decide)) (Nat.le_trans (abs_add_len (abs_mul_len (spY_len hu hv) (nat_abs_len (spD_len hx hy))) (abs_mul_len (neg_len (spY_len hx hy)) (nat_abs_len (spD_len hu hv)))) (by decide)) (Nat.le_trans (words_mul_length (spD_len hu hv) (spD_len hx hy)) (by decide)) (Nat.mul_ne_zero (spD_ne u v) (spD_ne x y))) ?_)
 rintro _ w36 ⟨p33_1, p33_c1, p33_2, p33_c2, p33_3, p33_c3, p33_4, p33_c4, rfl, hn34, hb35⟩
 replace hS := hS.call hb35
 replace hS := hS.addR hn34.s1.rd
 replace hS := hS.addR hn34.s2.rd
 replace hS := hS.addR hn34.s3.rd
 replace hS := hS.addR hn34.s4.rd
 refine ⟨_, rfl, (hS.partD (.cons _ (.cons_cons _ (.cons_cons _ .slnil))) 13 rfl (.refl _)), ?_⟩
 intro a hA
 refine any_tk (v := .agg #[.bool ((ratS (u - x) (v - y)).1.b1), .slice p33_1 (((ratS (u - x) (v - y)).1.t1).length) p33_c1, .slice p33_2 (((ratS (u - x) (v - y)).1.q1).length) p33_c2, .bool ((ratS (u - x) (v - y)).1.b2), .slice p33_3 (((ratS (u - x) (v - y)).1.t2).length) p33_c3, .slice p33_4 (((ratS (u - x) (v - y)).1.q2).length) p33_c4]) hA 7 rfl rfl rfl rfl hP (hS.partD (.cons _ (.cons_cons _ (.cons_cons _ .slnil))) 13 rfl (.refl _)) (fun w1 hS => does_extract (vs := [.agg #[.bool ((ratS (u - x) (v - y)).1.b1), .slice p33_1 (((ratS (u - x) (v - y)).1.t1).length) p33_c1, .slice p33_2 (((ratS (u - x) (v - y)).1.q1).length) p33_c2, .bool ((ratS (u - x) (v - y)).1.b2), .slice p33_3 (((ratS (u - x) (v - y)).1.t2).length) p33_c3, .slice p33_4 (((ratS (u - x) (v - y)).1.q2).length) p33_c4], .int .i64 ((ratS (u - x) (v - y)).2)]) rfl rfl) ?_
 intro a hA
 refine any_tk (v := .int .i64 ((ratS (u - x) (v - y)).2)) hA 8 rfl rfl rfl rfl hP (hS.partD (.cons _ (.cons_cons _ (.cons_cons _ .slnil))) 13 rfl (.refl _)) (fun w1 hS => does_extract (vs := [.agg #[.bool ((ratS (u - x) (v - y)).1.b1), .slice p33_1 (((ratS (u - x) (v - y)).1.t1).length) p33_c1, .slice p33_2 (((ratS (u - x) (v - y)).1.q1).length) p33_c2, .bool ((ratS (u - x) (v - y)).1.b2), .slice p33_3 (((ratS (u - x) (v - y)).1.t2).length) p33_c3, .slice p33_4 (((ratS (u - x) (v - y)).1.q2).length) p33_c4], .int .i64 ((ratS (u - x) (v - y)).2)]) rfl rfl) ?_
 intro a hA
 refine any_one (by kernel_rfl) (op_store (us := [.bool ((ratS (u - x) (v - y)).1.b1), .slice p33_1 (((ratS (u - x) (v - y)).1.t1).length) p33_c1, .slice p33_2 (((ratS (u - x) (v - y)).1.q1).length) p33_c2, .bool ((ratS (u - x) (v - y)).1.b2), .slice p33_3 (((ratS (u - x) (v - y)).1.t2).length) p33_c3, .slice p33_4 (((ratS (u - x) (v - y)).1.q2).length) p33_c4]) hA hS 9 rfl rfl rfl (sets_store rfl rfl rfl (by kernel_rfl) hS 0 rfl rfl rfl) 0 rfl rfl rfl rfl ?_)
 intro w37 hS
 refine ⟨(hS.partD (.cons _ (.cons_cons _ (.cons_cons _ .slnil))) 13 rfl (.refl _)), ?_⟩
 refine any_tk hA 10 rfl rfl rfl rfl hP (hS.partD (.cons _ (.cons_cons _ (.cons_cons _ .slnil))) 13 rfl (.refl _)) (fun w1 hS => does_assign rfl) ?_
 intro a hA
 refine any_end (by kernel_rfl) ?_
 refine hK14 _ _ ?_
 refine wp_ret ?_
 refine hret _ _ ?_
 refine ends (v := .tuple #[.agg #[.bool ((ratS (u - x) (v - y)).1.b1), .slice p33_1 (((ratS (u - x) (v - y)).1.t1).length) p33_c1, .slice p33_2 (((ratS (u - x) (v - y)).1.q1).length) p33_c2, .bool ((ratS (u - x) (v - y)).1.b2), .slice p33_3 (((ratS (u - x) (v - y)).1.t2).length) p33_c3, .slice p33_4 (((ratS (u - x) (v - y)).1.q2).length) p33_c4], .int .i64 ((ratS (u - x) (v - y)).2)]) hA rfl (.cons (res_cell hS ExL_isS_27 rfl 0 rfl (cs := [.bool ((ratS (u - x) (v - y)).1.b1), .slice p33_1 (((ratS (u - x) (v - y)).1.t1).length) p33_c1, .slice p33_2 (((ratS (u - x) (v - y)).1.q1).length) p33_c2, .bool ((ratS (u - x) (v - y)).1.b2), .slice p33_3 (((ratS (u - x) (v - y)).1.t2).length) p33_c3, .slice p33_4 (((ratS (u - x) (v - y)).1.q2).length) p33_c4]) rfl rfl) (.cons (res_tmp rfl) .nil)) rfl ?_
 exact ⟨p33_1, p33_c1, p33_2, p33_c2, p33_3, p33_c3, p33_4, p33_c4, rfl, ⟨⟨(hS.rd 3 rfl), hn34.s1.nil, hn34.s1.cap⟩, ⟨(hS.rd 2 rfl), hn34.s2.nil, hn34.s2.cap⟩, ⟨(hS.rd 1 rfl), hn34.s3.nil, hn34.s3.cap⟩, ⟨(hS.rd 0 rfl), hn34.s4.nil, hn34.s4.cap⟩⟩, hS.bel⟩
theorem reckonSQ_any {w : World} {p q : Q6} {a1 a2 a3 a4 : Option Addr} {ac1 ac2 ac3 ac4 : Nat} (ha : Nm w p a1 ac1 a2 ac2 a3 ac3 a4 ac4) (hl : LenQ p) {u1 u2 u3 u4 : Option Addr} {uc1 uc2 uc3 uc4 : Nat} (hb : Nm w q u1 uc1 u2 uc2 u3 uc3 u4 uc4) (hm : LenQ q) : Calls Tryd.prog 36 #[.func (.func 37) #[] #[], numV p a1 ac1 a2 ac2 a3 ac3 a4 ac4, numV q u1 uc1 u2 uc2 u3 uc3 u4 uc4] w (AnsN w (subQ p q)) := by
  rcases sound_cases ha with h1 | ⟨u, v, rfl, hu, hv⟩
  · rw [show subQ p q = (Q6.zero, 2) from if_neg (fun k => by rw [h1] at k; cases k.1)]
    exact reckonE1_any ha hl hb hm h1
  · rcases sound_cases hb with h2 | ⟨x, y, rfl, hx, hy⟩
    · rw [show subQ _ q = (Q6.zero, 2) from if_neg (fun k => by rw [h2] at k; cases k.2)]
      exact reckonE2_any ha hl hb hm (soundQ_rat hu hv) h2
    · rw [subQ_rat hu hv hx hy]
      exact reckonS_any ha hb hu hv hx hy
theorem subQ_any {w : World} {p q : Q6} {a1 a2 a3 a4 : Option Addr} {ac1 ac2 ac3 ac4 : Nat} (ha : Nm w p a1 ac1 a2 ac2 a3 ac3 a4 ac4) (hl : LenQ p) {u1 u2 u3 u4 : Option Addr} {uc1 uc2 uc3 uc4 : Nat} (hb : Nm w q u1 uc1 u2 uc2 u3 uc3 u4 uc4) (hm : LenQ q) : Calls Tryd.prog 12 #[numV p a1 ac1 a2 ac2 a3 ac3 a4 ac4, numV q u1 uc1 u2 uc2 u3 uc3 u4 uc4] w (AnsN w (subQ p q)) := by
 have hS : St w w [] [(u4, q.q2), (u3, q.t2), (u2, q.q1), (u1, q.t1), (a4, p.q2), (a3, p.t2), (a2, p.q1), (a1, p.t1)] [] := ((((((((St.start w).addR ha.s1.rd).addR ha.s2.rd).addR ha.s3.rd).addR ha.s4.rd).addR hb.s1.rd).addR hb.s2.rd).addR hb.s3.rd).addR hb.s4.rd
 refine walk_of (l := [(0, .agg #[.bool p.b1, .slice a1 p.t1.length ac1, .slice a2 p.q1.length ac2, .bool p.b2, .slice a3 p.t2.length ac3, .slice a4 p.q2.length ac4]), (1, .agg #[.bool q.b1, .slice u1 q.t1.length uc1, .slice u2 q.q1.length uc2, .bool q.b2, .slice u3 q.t2.length uc3, .slice u4 q.q2.length uc4])]) Tryd.func12 rfl Tryd.ntmps12 rfl rfl ?_
 intro Q hret hnorm hP a hA
 refine wp_seq_k (fun K1 hK1 => ?_)
 refine wp_region_lit ?_
 refine seq_new hA hS rfl rfl rfl (fun g => .pointer (some ⟨g, 0, none⟩)) (does_box rfl rfl) rfl ?_
 intro g2 w3 hS a hA
 refine seq_new hA hS rfl rfl rfl (fun g => .pointer (some ⟨g, 0, none⟩)) (does_box rfl rfl) rfl ?_
 intro g4 w5 hS a hA
 refine seq_new (vs := [.bool false, .slice none 0 0, .slice none 0 0, .bool false, .slice none 0 0, .slice none 0 0]) (t := 27) hA hS rfl rfl rfl (fun g => .pointer (some ⟨g, 0, none⟩)) (does_alloc (z := .agg #[.bool false, .slice none 0 0, .slice none 0 0, .bool false, .slice none 0 0, .slice none 0 0]) (by kernel_rfl) rfl) rfl ?_
 intro g6 w7 hS a hA
 refine seq_do hA rfl rfl rfl (does_assign rfl) ?_
 intro a hA
 refine seq_end ?_
 refine hK1 _ _ ?_
 refine wp_seq_k (fun K8 hK8 => ?_)
 refine wp_region_lit ?_
 refine seq_do hA rfl rfl rfl (does_loadS hS ExL_isS_27 rfl 2 rfl (cs := [.bool p.b1, .slice a1 p.t1.length ac1, .slice a2 p.q1.length ac2, .bool p.b2, .slice a3 p.t2.length ac3, .slice a4 p.q2.length ac4]) rfl rfl) ?_
 intro a hA
 refine seq_do hA rfl rfl rfl (does_loadS hS ExL_isS_27 rfl 1 rfl (cs := [.bool q.b1, .slice u1 q.t1.length uc1, .slice u2 q.q1.length uc2, .bool q.b2, .slice u3 q.t2.length uc3, .slice u4 q.q2.length uc4]) rfl rfl) ?_
 intro a hA
 refine seq_call hA rfl rfl rfl (enters_func  rfl rfl (fun w => by kernel_rfl)) (reckonSQ_any (show Nm _ p a1 ac1 a2 ac2 a3 ac3 a4 ac4 from ⟨⟨(hS.rd 7 rfl), ha.s1.nil, ha.s1.cap⟩, ⟨(hS.rd 6 rfl), ha.s2.nil, ha.s2.cap⟩, ⟨(hS.rd 5 rfl), ha.s3.nil, ha.s3.cap⟩, ⟨(hS.rd 4 rfl), ha.s4.nil, ha.s4.cap⟩⟩) hl (show Nm _ q u1 uc1 u2 uc2 u3 uc3 u4 uc4 from ⟨⟨(hS.rd 3 rfl), hb.s1.nil, hb.s1.cap⟩, ⟨(hS.rd 2 rfl), hb.s2.nil, hb.s2.cap⟩, ⟨(hS.rd 1 rfl), hb.s3.nil, hb.s3.cap⟩, ⟨(hS.rd 0 rfl), hb.s4.nil, hb.s4.cap⟩⟩) hm) ?_
 rintro _ w12 ⟨p9_1, p9_c1, p9_2, p9_c2, p9_3, p9_c3, p9_4, p9_c4, rfl, hn10, hb11⟩
 replace hS := hS.call hb11
 replace hS := hS.addR hn10.s1.rd
 replace hS := hS.addR hn10.s2.rd
 replace hS := hS.addR hn10.s3.rd
 replace hS := hS.addR hn10.s4.rd
 refine ⟨_, rfl, ?_⟩
 intro a hA
 refine seq_do (v := .agg #[.bool ((subQ p q).1.b1), .slice p9_1 (((subQ p q).1.t1).length) p9_c1, .slice p9_2 (((subQ p q).1.q1).length) p9_c2, .bool ((subQ p q).1.b2), .slice p9_3 (((subQ p q).1.t2).length) p9_c3, .slice p9_4 (((subQ p q).1.q2).length) p9_c4]) hA rfl rfl rfl (does_extract (vs := [.agg #[.bool ((subQ p q).1.b1), .slice p9_1 (((subQ p q).1.t1).length) p9_c1, .slice p9_2 (((subQ p q).1.q1).length) p9_c2, .bool ((subQ p q).1.b2), .slice p9_3 (((subQ p q).1.t2).length) p9_c3, .slice p9_4 (((subQ p q).1.q2).length) p9_c4], .int .i64 ((subQ p q).2)]) rfl rfl) ?_
 intro a hA
 refine seq_do (v := .int .i64 ((subQ p q).2)) hA rfl rfl rfl (does_extract (vs := [.agg #[.bool ((subQ p q).1.b1), .slice p9_1 (((subQ p q).1.t1).length) p9_c1, .slice p9_2 (((subQ p q).1.q1).length) p9_c2, .bool ((subQ p q).1.b2), .slice p9_3 (((subQ p q).1.t2).length) p9_c3, .slice p9_4 (((subQ p q).1.q2).length) p9_c4], .int .i64 ((subQ p q).2)]) rfl rfl) ?_
 intro a hA
 refine seq_store (us := [.bool ((subQ p q).1.b1), .slice p9_1 (((subQ p q).1.t1).length) p9_c1, .slice p9_2 (((subQ p q).1.q1).length) p9_c2, .bool ((subQ p q).1.b2), .slice p9_3 (((subQ p q).1.t2).length) p9_c3, .slice p9_4 (((subQ p q).1.q2).length) p9_c4]) hA hS rfl rfl (sets_store rfl rfl rfl (by kernel_rfl) hS 0 rfl rfl rfl) 0 rfl rfl rfl rfl ?_
 intro w13 hS
 refine seq_do hA rfl rfl rfl (does_assign rfl) ?_
 intro a hA
 refine seq_end ?_
 refine hK8 _ _ ?_
 refine wp_ret ?_
 refine hret _ _ ?_
 refine ends (v := .tuple #[.agg #[.bool ((subQ p q).1.b1), .slice p9_1 (((subQ p q).1.t1).length) p9_c1, .slice p9_2 (((subQ p q).1.q1).length) p9_c2, .bool ((subQ p q).1.b2), .slice p9_3 (((subQ p q).1.t2).length) p9_c3, .slice p9_4 (((subQ p q).1.q2).length) p9_c4], .int .i64 ((subQ p q).2)]) hA rfl (.cons (res_cell hS ExL_isS_27 rfl 0 rfl (cs := [.bool ((subQ p q).1.b1), .slice p9_1 (((subQ p q).1.t1).length) p9_c1, .slice p9_2 (((subQ p q).1.q1).length) p9_c2, .bool ((subQ p q).1.b2), .slice p9_3 (((subQ p q).1.t2).length) p9_c3, .slice p9_4 (((subQ p q).1.q2).length) p9_c4]) rfl rfl) (.cons (res_tmp rfl) .nil)) rfl ?_
 exact ⟨p9_1, p9_c1, p9_2, p9_c2, p9_3, p9_c3, p9_4, p9_c4, rfl, ⟨⟨(hS.rd 3 rfl), hn10.s1.nil, hn10.s1.cap⟩, ⟨(hS.rd 2 rfl), hn10.s2.nil, hn10.s2.cap⟩, ⟨(hS.rd 1 rfl), hn10.s3.nil, hn10.s3.cap⟩, ⟨(hS.rd 0 rfl), hn10.s4.nil, hn10.s4.cap⟩⟩, hS.bel⟩
end Go.Proofs.YtbajcflbimmnhaaDoor
namespace Go.Proofs.YtbajcflbimmnhaaDoor
open Go.RowKit
set_option linter.unusedVariables false
set_option linter.unusedSimpArgs false
section
variable {P : Program} {t : TypeId} {x y : Operand} {a b : ByteArray}
end
section
variable {P : Program} {ops : List Oper} {Q : Exit → Act → World → Prop} {a : Act} {w w' : World} {n : Nat} {l : List (Nat × Value)} {o : Oper} {v : Value} {rest : List Oper}
end
theorem rat_whole {b : Bool} {x : Nat} (h : b.toNat ≤ x) : Q6.whole b x = Q6.rat ((sgn b x : Int) : Rat) 0 := by
  unfold Q6.whole Q6.rat
  rw [Rat.num_intCast, Rat.den_intCast, sgn_abs, words_one, show (0 : Rat).num = 0 from rfl, show (0 : Rat).den = 1 from rfl, words_one, show Int.natAbs 0 = 0 from rfl, words_zero, show rb 0 = false from rfl]
  have e : rb (sgn b x) = b := by
    unfold rb
    rw [sgn_neg]
    cases b with
    | false => rfl
    | true => simp at h; simp; omega
  rw [e]
theorem fitR_whole {b : Bool} {x : Nat} (h : (words x).length ≤ 512) : fitR ((sgn b x : Int) : Rat) := by
  unfold fitR
  rw [Rat.num_intCast, Rat.den_intCast, sgn_abs]
  exact ⟨h, one_len⟩
theorem fitR_zero : fitR 0 := by
  unfold fitR
  rw [show (0 : Rat).num = 0 from rfl, show (0 : Rat).den = 1 from rfl, show Int.natAbs 0 = 0 from rfl, words_zero]
  exact ⟨by decide, one_len⟩
end Go.Proofs.YtbajcflbimmnhaaDoor
namespace Go.Proofs.YtbajcflbimmnhaaDoor
open Go.RowKit
set_option linter.unusedVariables false
set_option linter.unusedSimpArgs false
set_option maxRecDepth 100000


end Go.Proofs.YtbajcflbimmnhaaDoor
namespace Go.Proofs.YtbajcflbimmnhaaDoor
open Go.RowKit
set_option linter.unusedVariables false
set_option linter.unusedSimpArgs false
theorem ratS_fit {u v : Rat} (hu : fitR u) (hv : fitR v) : ratS u v = (Q6.rat u v, 0) := by
  unfold ratS
  rw [if_pos ⟨hu, hv⟩]
end Go.Proofs.YtbajcflbimmnhaaDoor
namespace Go.Proofs.YtbajcflbimmnhaaDoor
open Go.RowKit
set_option linter.unusedVariables false
set_option linter.unusedSimpArgs false
set_option maxRecDepth 100000

end Go.Proofs.YtbajcflbimmnhaaDoor
namespace Go.Proofs.YtbajcflbimmnhaaDoor
open Go.RowKit
set_option linter.unusedVariables false
set_option linter.unusedSimpArgs false
def cmpZ (x y : Int) : Int := if x < y then -1 else if x = y then 0 else 1
def cmpR (x y : Rat) : Int := if x < y then -1 else if x = y then 0 else 1
theorem mk_lt {x y : Int} {d k : Nat} (hd : d ≠ 0) (hk : k ≠ 0) : mkRat x d < mkRat y k ↔ x * (k : Int) < y * (d : Int) := by
  have hd' : (0 : Rat) < (d : Rat) := Rat.natCast_pos.2 (by omega)
  have hk' : (0 : Rat) < (k : Rat) := Rat.natCast_pos.2 (by omega)
  rw [Rat.mkRat_eq_div, Rat.mkRat_eq_div, Rat.div_lt_iff hd', ← Rat.intCast_lt_intCast]
  have e : (y : Rat) / (k : Rat) * (d : Rat) = (y : Rat) * (d : Rat) / (k : Rat) := by grind
  rw [e, Rat.lt_div_iff hk', Rat.intCast_mul, Rat.intCast_mul]
  rfl
theorem cmp_mk {x y : Int} {d k : Nat} (hd : d ≠ 0) (hk : k ≠ 0) {u v : Rat} (hu : mkRat x d = u) (hv : mkRat y k = v) : cmpZ (x * (k : Int)) (y * (d : Int)) = cmpR u v := by
  subst hu hv
  unfold cmpZ cmpR
  by_cases h : mkRat x d < mkRat y k
  · rw [if_pos h, if_pos ((mk_lt hd hk).1 h)]
  · rw [if_neg h, if_neg (fun c => h ((mk_lt hd hk).2 c))]
    by_cases h2 : mkRat x d = mkRat y k
    · rw [if_pos h2, if_pos ((Rat.mkRat_eq_iff hd hk).1 h2)]
    · rw [if_neg h2, if_neg (fun c => h2 ((Rat.mkRat_eq_iff hd hk).2 c))]
def wantR2 (p q : Q6) : Int := if soundQ p = true ∧ soundQ q = true then (if p.t2.length = 0 ∧ q.t2.length = 0 then 0 else 10) else 2
def cmpQ (p q : Q6) : Int × Int := if wantR2 p q = 0 then (cmpR (reQ p) (reQ q), 0) else (0, wantR2 p q)
theorem wantR2_rat {u v x y : Rat} (hu : fitR u) (hv : fitR v) (hx : fitR x) (hy : fitR y) : wantR2 (Q6.rat u v) (Q6.rat x y) = if v = 0 ∧ y = 0 then 0 else 10 := by
  have key : ∀ r : Rat, (words r.num.natAbs).length = 0 ↔ r = 0 := fun r => by
    constructor
    · intro e
      have e1 := words_eq_nil.1 (List.length_eq_zero_iff.1 e)
      exact Rat.num_eq_zero.1 (by omega)
    · intro h
      rw [h, show (0 : Rat).num.natAbs = 0 from rfl, words_zero]
      rfl
  unfold wantR2
  rw [if_pos ⟨soundQ_rat hu hv, soundQ_rat hx hy⟩]
  simp only [Q6.rat, key]
theorem wantR2_ok {p q : Q6} (h : wantR2 p q = 0) : soundQ p = true ∧ soundQ q = true := by
  unfold wantR2 at h
  by_cases k : soundQ p = true ∧ soundQ q = true
  · exact k
  · rw [if_neg k] at h; exact absurd h (by decide)
theorem bne_of {x : Int} (h : x ≠ 0) : (x != 0) = true := by simpa using h
end Go.Proofs.YtbajcflbimmnhaaDoor
namespace Go.Proofs.YtbajcflbimmnhaaDoor
open Go.RowKit
set_option linter.unusedVariables false
set_option linter.unusedSimpArgs false
set_option maxRecDepth 100000
theorem ExO_is1_23 : Is1 Tryd.prog 23 := ⟨⟨_, Tryd.underlying23, rfl⟩, by kernel_rfl⟩
theorem ExO_is1_4 : Is1 Tryd.prog 4 := ⟨⟨_, Tryd.underlying4, rfl⟩, by kernel_rfl⟩
theorem ExO_fld_60_0 : FieldAt Tryd.prog 60 0 0 := ⟨_, _, Tryd.underlying60, rfl, rfl, by kernel_rfl⟩
theorem ExO_fld_60_1 : FieldAt Tryd.prog 60 1 1 := ⟨_, _, Tryd.underlying60, rfl, rfl, by kernel_rfl⟩
theorem ExO_isS_27 : IsS Tryd.prog 27 6 := ⟨⟨_, Tryd.underlying27⟩, by kernel_rfl⟩
theorem ExO_isS_60 : IsS Tryd.prog 60 2 := ⟨⟨_, Tryd.underlying60⟩, by kernel_rfl⟩
theorem zorder_any {w : World} {x y : Int} {so : Option Addr} {soc : Nat} (hso : Sc w so soc (words x.natAbs)) {uo : Option Addr} {uoc : Nat} (huo : Sc w uo uoc (words y.natAbs)) (lx : (words x.natAbs).length ≤ 49000) (ly : (words y.natAbs).length ≤ 49000) : Calls Tryd.prog 40 #[.agg #[.bool (rb x), .slice so (words x.natAbs).length soc], .agg #[.bool (rb y), .slice uo (words y.natAbs).length uoc]] w fun e w' => e = .returned (.int .i64 (cmpZ x y)) ∧ Below w.heap.size w w' := by
 have k1 : (words (-y).natAbs).length ≤ 49000 := by rw [Int.natAbs_neg]; exact ly
 have k2 := abs_add_len lx k1
 have hS : St w w [] [(uo, words y.natAbs), (so, words x.natAbs)] [] := ((St.start w).addR hso.rd).addR huo.rd
 refine walk_of (l := [(0, .agg #[.bool ((rb x)), .slice so ((words x.natAbs).length) soc]), (1, .agg #[.bool ((rb y)), .slice uo ((words y.natAbs).length) uoc])]) Tryd.func40 rfl Tryd.ntmps40 rfl rfl ?_
 intro Q hret hnorm hP a hA
 refine wp_seq_k (fun K1 hK1 => ?_)
 refine wp_region_lit ?_
 refine seq_new hA hS rfl rfl rfl (fun g => .pointer (some ⟨g, 0, none⟩)) (does_box rfl rfl) rfl ?_
 intro g2 w3 hS a hA
 refine seq_new hA hS rfl rfl rfl (fun g => .pointer (some ⟨g, 0, none⟩)) (does_box rfl rfl) rfl ?_
 intro g4 w5 hS a hA
 refine seq_do hA rfl rfl rfl (does_assign rfl) ?_
 intro a hA
 refine seq_end ?_
 refine hK1 _ _ ?_
 refine wp_seq_k (fun K6 hK6 => ?_)
 refine wp_seq_k (fun K7 hK7 => ?_)
 have hJ26 : ∀ a w1, (∃ (J21g : Nat) (J22 : Option Addr) (J23 : Nat), Sl a 18 [(0, .agg #[.bool ((rb x)), .slice so ((words x.natAbs).length) soc]), (1, .agg #[.bool ((rb y)), .slice uo ((words y.natAbs).length) uoc]), (4, .int .i64 0), (5, .pointer (some ⟨J21g, 0, none⟩))] ∧ St w w1 [(J21g, [.bool ((rb (x + (-y)))), .slice J22 ((words (x + (-y)).natAbs).length) J23]), (g4, [.bool ((rb y)), .slice uo ((words y.natAbs).length) uoc]), (g2, [.bool ((rb x)), .slice so ((words x.natAbs).length) soc])] [(J22, words (x + (-y)).natAbs), (uo, words y.natAbs), (so, words x.natAbs)] [] ∧ (J22 = none → J23 = 0) ∧ (words (x + (-y)).natAbs : List Nat).length ≤ J23) → K7 a w1 := by
   clear hA hS
   rintro a w27 ⟨J21g, J22, J23, hA, hS, hn24, hc25⟩
   refine hK7 _ _ ?_
   refine wp_block ?_
   refine wp_seq_k (fun K28 hK28 => ?_)
   refine wp_region_lit ?_
   refine seq_do (v := .pointer (some ⟨J21g, 0, none⟩)) hA rfl rfl rfl (does_field ExO_fld_60_0 rfl rfl) ?_
   intro a hA
   refine seq_do hA rfl rfl rfl (does_load1 hS ExO_is1_4 rfl 0 rfl rfl) ?_
   intro a hA
   refine seq_do hA rfl rfl rfl (does_assign rfl) ?_
   intro a hA
   refine seq_end ?_
   refine hK28 _ _ ?_
   refine wp_cond_split (t := (rb (x + (-y)))) (hA.ev rfl) (fun hc29 => ?_) (fun hc29 => ?_)
   · refine wp_seq_k (fun K30 hK30 => ?_)
     refine wp_region_lit ?_
     refine seq_do hA rfl rfl rfl (does_assign rfl) ?_
     intro a hA
     refine seq_end ?_
     refine hK30 _ _ ?_
     refine wp_ret ?_
     refine hret _ _ ?_
     refine ends (v := .int .i64 (-1)) hA rfl (.cons (res_tmp rfl) .nil) rfl ?_
     exact ⟨by rw [show cmpZ x y = -1 from by have h8 := of_decide_eq_true (show decide (x + -y < 0) = true from hc29); have h9 := words_pos_len (x + -y).natAbs; unfold cmpZ; split <;> (try split) <;> omega], hS.bel⟩
   · refine wp_seq_k (fun K31 hK31 => ?_)
     refine wp_region_lit ?_
     refine seq_do (v := .pointer (some ⟨J21g, 1, none⟩)) hA rfl rfl rfl (does_field ExO_fld_60_1 rfl rfl) ?_
     intro a hA
     refine seq_do hA rfl rfl rfl (does_load1 hS ExO_is1_23 rfl 0 rfl rfl) ?_
     intro a hA
     refine seq_do (v := .int .i64 ((((words (x + (-y)).natAbs).length : Nat) : Int))) hA rfl rfl rfl (does_len Tryd.underlying23 rfl) ?_
     intro a hA
     rcases Bool.eq_false_or_eq_true (((((words (x + (-y)).natAbs).length : Nat) : Int) == 0)) with hb32 | hb32
     · have hb32' := eq_of_beq hb32
       refine seq_do (v := .bool true) hA rfl rfl rfl (does_bin rfl rfl (fun w => (bin_eql w).trans (by rw [hb32]))) ?_
       intro a hA
       refine seq_do hA rfl rfl rfl (does_assign rfl) ?_
       intro a hA
       refine seq_end ?_
       refine hK31 _ _ ?_
       refine wp_cond_true (hA.ev rfl) ?_
       refine wp_seq_k (fun K33 hK33 => ?_)
       refine wp_region_lit ?_
       refine seq_do hA rfl rfl rfl (does_assign rfl) ?_
       intro a hA
       refine seq_end ?_
       refine hK33 _ _ ?_
       refine wp_ret ?_
       refine hret _ _ ?_
       refine ends (v := .int .i64 0) hA rfl (.cons (res_tmp rfl) .nil) rfl ?_
       exact ⟨by rw [show cmpZ x y = 0 from by have h8 := of_decide_eq_false (show decide (x + -y < 0) = false from hc29); have h9 := words_pos_len (x + -y).natAbs; unfold cmpZ; split <;> (try split) <;> omega], hS.bel⟩
     · have hb32' := ne_of_beq_false hb32
       refine seq_do (v := .bool false) hA rfl rfl rfl (does_bin rfl rfl (fun w => (bin_eql w).trans (by rw [hb32]))) ?_
       intro a hA
       refine seq_do hA rfl rfl rfl (does_assign rfl) ?_
       intro a hA
       refine seq_end ?_
       refine hK31 _ _ ?_
       refine wp_cond_false (hA.ev rfl) ?_
       refine wp_skip ?_
       refine hK6 _ _ ?_
       refine wp_seq_k (fun K34 hK34 => ?_)
       refine wp_region_lit ?_
       refine seq_do hA rfl rfl rfl (does_assign rfl) ?_
       intro a hA
       refine seq_end ?_
       refine hK34 _ _ ?_
       refine wp_ret ?_
       refine hret _ _ ?_
       refine ends (v := .int .i64 1) hA rfl (.cons (res_tmp rfl) .nil) rfl ?_
       exact ⟨by rw [show cmpZ x y = 1 from by have h8 := of_decide_eq_false (show decide (x + -y < 0) = false from hc29); have h9 := words_pos_len (x + -y).natAbs; unfold cmpZ; split <;> (try split) <;> omega], hS.bel⟩
 refine wp_draw (S := fun w1 => St w w1 [(g4, [.bool ((rb y)), .slice uo ((words y.natAbs).length) uoc]), (g2, [.bool ((rb x)), .slice so ((words x.natAbs).length) soc])] [(uo, words y.natAbs), (so, words x.natAbs)] []) (by kernel_rfl) ?_
 replace hS := hS.drew
 refine any_tk hA 0 rfl rfl rfl rfl hP hS (fun w1 hS => does_loadS hS ExO_isS_60 rfl 1 rfl (cs := [.bool ((rb x)), .slice so ((words x.natAbs).length) soc]) rfl rfl) ?_
 intro a hA
 refine any_tk hA 1 rfl rfl rfl rfl hP hS (fun w1 hS => does_loadS hS ExO_isS_60 rfl 0 rfl (cs := [.bool ((rb y)), .slice uo ((words y.natAbs).length) uoc]) rfl rfl) ?_
 intro a hA
 refine any_many (rs := [2, 4]) (by kernel_rfl) (by simp) ⟨?_, ?_, trivial⟩
 · refine op_call hA 2 rfl rfl rfl rfl (enters_func  rfl rfl (fun w => by kernel_rfl)) (zopp_any ⟨(hS.rd 0 rfl), huo.nil, huo.cap⟩) ?_
   rintro _ w39 ⟨zo35, zc36, rfl, hs37, hb38⟩
   replace hS := hS.call hb38
   replace hS := hS.addR hs37.rd
   refine ⟨_, rfl, (hS.partD (.refl _) 1 rfl (.refl _)), ?_⟩
   intro a hA
   refine any_many (rs := [3, 4]) (by kernel_rfl) (by simp) ⟨?_, ?_, trivial⟩
   · refine op_call hA 3 rfl rfl rfl rfl (enters_func  rfl rfl (fun w => by kernel_rfl)) (zplus_any ⟨(hS.rd 2 rfl), hso.nil, hso.cap⟩ ⟨(hS.rd 0 rfl), hs37.nil, hs37.cap⟩ (by omega) (by omega)) ?_
     rintro _ w44 ⟨zo40, zc41, rfl, hs42, hb43⟩
     replace hS := hS.call hb43
     replace hS := hS.addR hs42.rd
     refine ⟨_, rfl, (hS.partD (.refl _) 2 rfl (.refl _)), ?_⟩
     intro a hA
     refine any_one (by kernel_rfl) (op_new (vs := [.bool false, .slice none 0 0]) (t := 60) hA hS 4 rfl rfl rfl rfl (fun g => .pointer (some ⟨g, 0, none⟩)) (does_alloc (z := .agg #[.bool false, .slice none 0 0]) (by kernel_rfl) rfl) rfl ?_)
     intro g45 w46 hS
     refine ⟨(hS.partD (.cons _ (.cons_cons _ (.cons_cons _ .slnil))) 2 rfl (.refl _)), ?_⟩
     intro a hA
     refine any_one (by kernel_rfl) (op_store (us := [.bool ((rb (x + (-y)))), .slice zo40 ((words (x + (-y)).natAbs).length) zc41]) hA hS 5 rfl rfl rfl (sets_store rfl rfl rfl (by kernel_rfl) hS 0 rfl rfl rfl) 0 rfl rfl rfl rfl ?_)
     intro w47 hS
     refine ⟨(hS.partD (.cons _ (.cons_cons _ (.cons_cons _ .slnil))) 2 rfl (.refl _)), ?_⟩
     refine any_end (by kernel_rfl) ?_
     refine hJ26 _ _ ⟨g45, zo40, zc41, hA.keep _ ⟨rfl, rfl, rfl, rfl, trivial⟩, (St.pickRL hS ⟨⟨0, rfl⟩, ⟨⟨2, rfl⟩, ⟨⟨3, rfl⟩, trivial⟩⟩⟩ [0, 1, 2] rfl (by decide)), hs42.nil, hs42.cap⟩
   · refine op_new (vs := [.bool false, .slice none 0 0]) (t := 60) hA hS 4 rfl rfl rfl rfl (fun g => .pointer (some ⟨g, 0, none⟩)) (does_alloc (z := .agg #[.bool false, .slice none 0 0]) (by kernel_rfl) rfl) rfl ?_
     intro g48 w49 hS
     refine ⟨(hS.partD (.cons _ (.cons_cons _ (.cons_cons _ .slnil))) 1 rfl (.refl _)), ?_⟩
     intro a hA
     refine any_one (by kernel_rfl) (op_call hA 3 rfl rfl rfl rfl (enters_func  rfl rfl (fun w => by kernel_rfl)) (zplus_any ⟨(hS.rd 2 rfl), hso.nil, hso.cap⟩ ⟨(hS.rd 0 rfl), hs37.nil, hs37.cap⟩ (by omega) (by omega)) ?_)
     rintro _ w54 ⟨zo50, zc51, rfl, hs52, hb53⟩
     replace hS := hS.call hb53
     replace hS := hS.addR hs52.rd
     refine ⟨_, rfl, (hS.partD (.cons _ (.cons_cons _ (.cons_cons _ .slnil))) 2 rfl (.refl _)), ?_⟩
     intro a hA
     refine any_one (by kernel_rfl) (op_store (us := [.bool ((rb (x + (-y)))), .slice zo50 ((words (x + (-y)).natAbs).length) zc51]) hA hS 5 rfl rfl rfl (sets_store rfl rfl rfl (by kernel_rfl) hS 0 rfl rfl rfl) 0 rfl rfl rfl rfl ?_)
     intro w55 hS
     refine ⟨(hS.partD (.cons _ (.cons_cons _ (.cons_cons _ .slnil))) 2 rfl (.refl _)), ?_⟩
     refine any_end (by kernel_rfl) ?_
     refine hJ26 _ _ ⟨g48, zo50, zc51, hA.keep _ ⟨rfl, rfl, rfl, rfl, trivial⟩, (St.pickRL hS ⟨⟨0, rfl⟩, ⟨⟨2, rfl⟩, ⟨⟨3, rfl⟩, trivial⟩⟩⟩ [0, 1, 2] rfl (by decide)), hs52.nil, hs52.cap⟩
 · refine op_new (vs := [.bool false, .slice none 0 0]) (t := 60) hA hS 4 rfl rfl rfl rfl (fun g => .pointer (some ⟨g, 0, none⟩)) (does_alloc (z := .agg #[.bool false, .slice none 0 0]) (by kernel_rfl) rfl) rfl ?_
   intro g56 w57 hS
   refine ⟨(hS.partD (.cons _ (.cons_cons _ (.cons_cons _ .slnil))) 0 rfl (.refl _)), ?_⟩
   intro a hA
   refine any_one (by kernel_rfl) (op_call hA 2 rfl rfl rfl rfl (enters_func  rfl rfl (fun w => by kernel_rfl)) (zopp_any ⟨(hS.rd 0 rfl), huo.nil, huo.cap⟩) ?_)
   rintro _ w62 ⟨zo58, zc59, rfl, hs60, hb61⟩
   replace hS := hS.call hb61
   replace hS := hS.addR hs60.rd
   refine ⟨_, rfl, (hS.partD (.cons _ (.cons_cons _ (.cons_cons _ .slnil))) 1 rfl (.refl _)), ?_⟩
   intro a hA
   refine any_one (by kernel_rfl) (op_call hA 3 rfl rfl rfl rfl (enters_func  rfl rfl (fun w => by kernel_rfl)) (zplus_any ⟨(hS.rd 2 rfl), hso.nil, hso.cap⟩ ⟨(hS.rd 0 rfl), hs60.nil, hs60.cap⟩ (by omega) (by omega)) ?_)
   rintro _ w67 ⟨zo63, zc64, rfl, hs65, hb66⟩
   replace hS := hS.call hb66
   replace hS := hS.addR hs65.rd
   refine ⟨_, rfl, (hS.partD (.cons _ (.cons_cons _ (.cons_cons _ .slnil))) 2 rfl (.refl _)), ?_⟩
   intro a hA
   refine any_one (by kernel_rfl) (op_store (us := [.bool ((rb (x + (-y)))), .slice zo63 ((words (x + (-y)).natAbs).length) zc64]) hA hS 5 rfl rfl rfl (sets_store rfl rfl rfl (by kernel_rfl) hS 0 rfl rfl rfl) 0 rfl rfl rfl rfl ?_)
   intro w68 hS
   refine ⟨(hS.partD (.cons _ (.cons_cons _ (.cons_cons _ .slnil))) 2 rfl (.refl _)), ?_⟩
   refine any_end (by kernel_rfl) ?_
   refine hJ26 _ _ ⟨g56, zo63, zc64, hA.keep _ ⟨rfl, rfl, rfl, rfl, trivial⟩, (St.pickRL hS ⟨⟨0, rfl⟩, ⟨⟨2, rfl⟩, ⟨⟨3, rfl⟩, trivial⟩⟩⟩ [0, 1, 2] rfl (by decide)), hs65.nil, hs65.cap⟩
theorem wantR2_any {w : World} {p : Q6} {a1 a2 a3 a4 : Option Addr} {ac1 ac2 ac3 ac4 : Nat} (ha : Nm w p a1 ac1 a2 ac2 a3 ac3 a4 ac4) (hl : LenQ p) {q : Q6} {b1 b2 b3 b4 : Option Addr} {bc1 bc2 bc3 bc4 : Nat} (hb : Nm w q b1 bc1 b2 bc2 b3 bc3 b4 bc4) (hm : LenQ q) {g : Nat} (hg : Blk w g [.bool p.b1, .slice a1 p.t1.length ac1, .slice a2 p.q1.length ac2, .bool p.b2, .slice a3 p.t2.length ac3, .slice a4 p.q2.length ac4, .bool q.b1, .slice b1 q.t1.length bc1, .slice b2 q.q1.length bc2, .bool q.b2, .slice b3 q.t2.length bc3, .slice b4 q.q2.length bc4]) {r : Int} (hr : wantR2 p q = r) : Calls Tryd.prog 38 #[.slice (some ⟨g, 0, none⟩) 2 2] w fun e w' => e = .returned (.int .i64 r) ∧ Below w.heap.size w w' := by
 have hS : St w w [] [(b4, q.q2), (b3, q.t2), (b2, q.q1), (b1, q.t1), (a4, p.q2), (a3, p.t2), (a2, p.q1), (a1, p.t1)] [] := ((((((((St.start w).addR ha.s1.rd).addR ha.s2.rd).addR ha.s3.rd).addR ha.s4.rd).addR hb.s1.rd).addR hb.s2.rd).addR hb.s3.rd).addR hb.s4.rd
 refine walk_of (l := [(0, .slice (some ⟨g, 0, none⟩) 2 2)]) Tryd.func38 rfl Tryd.ntmps38 rfl rfl ?_
 intro Q hret hnorm hP a hA
 refine wp_seq_k (fun K1 hK1 => ?_)
 refine wp_region_lit ?_
 refine seq_do hA rfl rfl rfl (does_assign rfl) ?_
 intro a hA
 refine seq_end ?_
 refine hK1 _ _ ?_
 refine wp_seq_k (fun K2 hK2 => ?_)
 refine wp_seq_k (fun K3 hK3 => ?_)
 refine wp_region_lit ?_
 refine seq_do hA rfl rfl rfl (does_move rfl) ?_
 intro a hA
 refine seq_do (v := .int .i64 2) hA rfl rfl rfl (does_len Tryd.underlying92 rfl) ?_
 intro a hA
 refine seq_do hA rfl rfl rfl (does_move rfl) ?_
 intro a hA
 refine seq_end ?_
 refine hK3 _ _ ?_
 refine wp_block ?_
 refine wp_loop_rounds 12 ?_
 refine rounds_k (fun K4 hK4 => ?_)
 refine wp_seq_k (fun K5 hK5 => ?_)
 refine wp_region_lit ?_
 refine seq_do (v := .bool true) hA rfl rfl rfl (does_bin rfl rfl (fun w => by kernel_rfl)) ?_
 intro a hA
 refine seq_end ?_
 refine hK5 _ _ ?_
 refine wp_seq_k (fun K6 hK6 => ?_)
 refine wp_cond_true (hA.ev rfl) ?_
 refine wp_skip ?_
 refine hK6 _ _ ?_
 refine wp_seq_k (fun K7 hK7 => ?_)
 refine wp_block ?_
 refine wp_seq_k (fun K8 hK8 => ?_)
 refine wp_region_lit ?_
 refine seq_do (v := .pointer (some ⟨g, 0, none⟩)) hA rfl rfl rfl (does_indexI rfl rfl (fun w => by kernel_rfl)) ?_
 intro a hA
 refine seq_do hA rfl rfl rfl (does_loadSF hS hg ExO_isS_27 rfl (cs := [.bool p.b1, .slice a1 p.t1.length ac1, .slice a2 p.q1.length ac2, .bool p.b2, .slice a3 p.t2.length ac3, .slice a4 p.q2.length ac4]) rfl rfl) ?_
 intro a hA
 refine seq_new (vs := [.bool false, .slice none 0 0, .slice none 0 0, .bool false, .slice none 0 0, .slice none 0 0]) (t := 27) hA hS rfl rfl rfl (fun g => .pointer (some ⟨g, 0, none⟩)) (does_alloc (z := .agg #[.bool false, .slice none 0 0, .slice none 0 0, .bool false, .slice none 0 0, .slice none 0 0]) (by kernel_rfl) rfl) rfl ?_
 intro g9 w10 hS a hA
 refine seq_store (us := [.bool p.b1, .slice a1 p.t1.length ac1, .slice a2 p.q1.length ac2, .bool p.b2, .slice a3 p.t2.length ac3, .slice a4 p.q2.length ac4]) hA hS rfl rfl (sets_store rfl rfl rfl (by kernel_rfl) hS 0 rfl rfl rfl) 0 rfl rfl rfl rfl ?_
 intro w11 hS
 refine seq_end ?_
 refine hK8 _ _ ?_
 refine wp_seq_k (fun K12 hK12 => ?_)
 refine wp_region_lit ?_
 refine seq_do hA rfl rfl rfl (does_loadS hS ExO_isS_27 rfl 0 rfl (cs := [.bool p.b1, .slice a1 p.t1.length ac1, .slice a2 p.q1.length ac2, .bool p.b2, .slice a3 p.t2.length ac3, .slice a4 p.q2.length ac4]) rfl rfl) ?_
 intro a hA
 rcases Bool.eq_false_or_eq_true (soundQ p) with hb13 | hb13
 · refine seq_call hA rfl rfl rfl (enters_func  rfl rfl (fun w => by kernel_rfl)) (soundQ_any (show Nm _ _ a1 ac1 a2 ac2 a3 ac3 a4 ac4 from ⟨⟨(hS.rd 7 rfl), ha.s1.nil, ha.s1.cap⟩, ⟨(hS.rd 6 rfl), ha.s2.nil, ha.s2.cap⟩, ⟨(hS.rd 5 rfl), ha.s3.nil, ha.s3.cap⟩, ⟨(hS.rd 4 rfl), ha.s4.nil, ha.s4.cap⟩⟩) hl hb13) ?_
   rintro _ w15 ⟨rfl, hb14⟩
   replace hS := hS.call hb14
   refine ⟨_, rfl, ?_⟩
   intro a hA
   refine seq_do (v := .bool false) hA rfl rfl rfl (does_un rfl un_not) ?_
   intro a hA
   refine seq_end ?_
   refine hK12 _ _ ?_
   refine wp_cond_false (hA.ev rfl) ?_
   refine wp_skip ?_
   refine hK7 _ _ ?_
   refine wp_region_lit ?_
   refine seq_do (v := .int .i64 1) hA rfl rfl rfl (does_bin rfl rfl (fun w => by kernel_rfl)) ?_
   intro a hA
   refine seq_do hA rfl rfl rfl (does_move rfl) ?_
   intro a hA
   refine seq_end ?_
   refine hK4 _ _ ?_
   refine rounds_k (fun K16 hK16 => ?_)
   refine wp_seq_k (fun K17 hK17 => ?_)
   refine wp_region_lit ?_
   refine seq_do (v := .bool true) hA rfl rfl rfl (does_bin rfl rfl (fun w => by kernel_rfl)) ?_
   intro a hA
   refine seq_end ?_
   refine hK17 _ _ ?_
   refine wp_seq_k (fun K18 hK18 => ?_)
   refine wp_cond_true (hA.ev rfl) ?_
   refine wp_skip ?_
   refine hK18 _ _ ?_
   refine wp_seq_k (fun K19 hK19 => ?_)
   refine wp_block ?_
   refine wp_seq_k (fun K20 hK20 => ?_)
   refine wp_region_lit ?_
   refine seq_do (v := .pointer (some ⟨g, 6, none⟩)) hA rfl rfl rfl (does_indexI rfl rfl (fun w => by kernel_rfl)) ?_
   intro a hA
   refine seq_do hA rfl rfl rfl (does_loadSF hS hg ExO_isS_27 rfl (cs := [.bool q.b1, .slice b1 q.t1.length bc1, .slice b2 q.q1.length bc2, .bool q.b2, .slice b3 q.t2.length bc3, .slice b4 q.q2.length bc4]) rfl rfl) ?_
   intro a hA
   refine seq_new (vs := [.bool false, .slice none 0 0, .slice none 0 0, .bool false, .slice none 0 0, .slice none 0 0]) (t := 27) hA hS rfl rfl rfl (fun g => .pointer (some ⟨g, 0, none⟩)) (does_alloc (z := .agg #[.bool false, .slice none 0 0, .slice none 0 0, .bool false, .slice none 0 0, .slice none 0 0]) (by kernel_rfl) rfl) rfl ?_
   intro g21 w22 hS a hA
   refine seq_store (us := [.bool q.b1, .slice b1 q.t1.length bc1, .slice b2 q.q1.length bc2, .bool q.b2, .slice b3 q.t2.length bc3, .slice b4 q.q2.length bc4]) hA hS rfl rfl (sets_store rfl rfl rfl (by kernel_rfl) hS 0 rfl rfl rfl) 0 rfl rfl rfl rfl ?_
   intro w23 hS
   refine seq_end ?_
   refine hK20 _ _ ?_
   refine wp_seq_k (fun K24 hK24 => ?_)
   refine wp_region_lit ?_
   refine seq_do hA rfl rfl rfl (does_loadS hS ExO_isS_27 rfl 0 rfl (cs := [.bool q.b1, .slice b1 q.t1.length bc1, .slice b2 q.q1.length bc2, .bool q.b2, .slice b3 q.t2.length bc3, .slice b4 q.q2.length bc4]) rfl rfl) ?_
   intro a hA
   rcases Bool.eq_false_or_eq_true (soundQ q) with hb25 | hb25
   · refine seq_call hA rfl rfl rfl (enters_func  rfl rfl (fun w => by kernel_rfl)) (soundQ_any (show Nm _ _ b1 bc1 b2 bc2 b3 bc3 b4 bc4 from ⟨⟨(hS.rd 3 rfl), hb.s1.nil, hb.s1.cap⟩, ⟨(hS.rd 2 rfl), hb.s2.nil, hb.s2.cap⟩, ⟨(hS.rd 1 rfl), hb.s3.nil, hb.s3.cap⟩, ⟨(hS.rd 0 rfl), hb.s4.nil, hb.s4.cap⟩⟩) hm hb25) ?_
     rintro _ w27 ⟨rfl, hb26⟩
     replace hS := hS.call hb26
     refine ⟨_, rfl, ?_⟩
     intro a hA
     refine seq_do (v := .bool false) hA rfl rfl rfl (does_un rfl un_not) ?_
     intro a hA
     refine seq_end ?_
     refine hK24 _ _ ?_
     refine wp_cond_false (hA.ev rfl) ?_
     refine wp_skip ?_
     refine hK19 _ _ ?_
     refine wp_region_lit ?_
     refine seq_do (v := .int .i64 2) hA rfl rfl rfl (does_bin rfl rfl (fun w => by kernel_rfl)) ?_
     intro a hA
     refine seq_do hA rfl rfl rfl (does_move rfl) ?_
     intro a hA
     refine seq_end ?_
     refine hK16 _ _ ?_
     refine rounds_k (fun K28 hK28 => ?_)
     refine wp_seq_k (fun K29 hK29 => ?_)
     refine wp_region_lit ?_
     refine seq_do (v := .bool false) hA rfl rfl rfl (does_bin rfl rfl (fun w => by kernel_rfl)) ?_
     intro a hA
     refine seq_end ?_
     refine hK29 _ _ ?_
     refine wp_seq_k (fun K30 hK30 => ?_)
     refine wp_cond_false (hA.ev rfl) ?_
     refine wp_exit ?_
     refine hK2 _ _ ?_
     refine wp_seq_k (fun K31 hK31 => ?_)
     refine wp_seq_k (fun K32 hK32 => ?_)
     refine wp_region_lit ?_
     refine seq_do hA rfl rfl rfl (does_move rfl) ?_
     intro a hA
     refine seq_do (v := .int .i64 2) hA rfl rfl rfl (does_len Tryd.underlying92 rfl) ?_
     intro a hA
     refine seq_do hA rfl rfl rfl (does_move rfl) ?_
     intro a hA
     refine seq_end ?_
     refine hK32 _ _ ?_
     refine wp_block ?_
     refine wp_loop_rounds 12 ?_
     refine rounds_k (fun K33 hK33 => ?_)
     refine wp_seq_k (fun K34 hK34 => ?_)
     refine wp_region_lit ?_
     refine seq_do (v := .bool true) hA rfl rfl rfl (does_bin rfl rfl (fun w => by kernel_rfl)) ?_
     intro a hA
     refine seq_end ?_
     refine hK34 _ _ ?_
     refine wp_seq_k (fun K35 hK35 => ?_)
     refine wp_cond_true (hA.ev rfl) ?_
     refine wp_skip ?_
     refine hK35 _ _ ?_
     refine wp_seq_k (fun K36 hK36 => ?_)
     refine wp_block ?_
     refine wp_seq_k (fun K37 hK37 => ?_)
     refine wp_region_lit ?_
     refine seq_do (v := .pointer (some ⟨g, 0, none⟩)) hA rfl rfl rfl (does_indexI rfl rfl (fun w => by kernel_rfl)) ?_
     intro a hA
     refine seq_do hA rfl rfl rfl (does_loadSF hS hg ExO_isS_27 rfl (cs := [.bool p.b1, .slice a1 p.t1.length ac1, .slice a2 p.q1.length ac2, .bool p.b2, .slice a3 p.t2.length ac3, .slice a4 p.q2.length ac4]) rfl rfl) ?_
     intro a hA
     refine seq_new (vs := [.bool false, .slice none 0 0, .slice none 0 0, .bool false, .slice none 0 0, .slice none 0 0]) (t := 27) hA hS rfl rfl rfl (fun g => .pointer (some ⟨g, 0, none⟩)) (does_alloc (z := .agg #[.bool false, .slice none 0 0, .slice none 0 0, .bool false, .slice none 0 0, .slice none 0 0]) (by kernel_rfl) rfl) rfl ?_
     intro g38 w39 hS a hA
     refine seq_store (us := [.bool p.b1, .slice a1 p.t1.length ac1, .slice a2 p.q1.length ac2, .bool p.b2, .slice a3 p.t2.length ac3, .slice a4 p.q2.length ac4]) hA hS rfl rfl (sets_store rfl rfl rfl (by kernel_rfl) hS 0 rfl rfl rfl) 0 rfl rfl rfl rfl ?_
     intro w40 hS
     refine seq_end ?_
     refine hK37 _ _ ?_
     refine wp_seq_k (fun K41 hK41 => ?_)
     refine wp_region_lit ?_
     refine seq_do hA rfl rfl rfl (does_loadS hS ExO_isS_27 rfl 0 rfl (cs := [.bool p.b1, .slice a1 p.t1.length ac1, .slice a2 p.q1.length ac2, .bool p.b2, .slice a3 p.t2.length ac3, .slice a4 p.q2.length ac4]) rfl rfl) ?_
     intro a hA
     rcases Bool.eq_false_or_eq_true (decide (p.t2.length = 0)) with hb42 | hb42
     · have hb42' := of_decide_eq_true hb42
       refine seq_call hA rfl rfl rfl (enters_func  rfl rfl (fun w => by kernel_rfl)) (isRealQ_any (q := p) hl hb42) ?_
       rintro _ w44 ⟨rfl, hb43⟩
       replace hS := hS.call hb43
       refine ⟨_, rfl, ?_⟩
       intro a hA
       refine seq_do (v := .bool false) hA rfl rfl rfl (does_un rfl un_not) ?_
       intro a hA
       refine seq_end ?_
       refine hK41 _ _ ?_
       refine wp_cond_false (hA.ev rfl) ?_
       refine wp_skip ?_
       refine hK36 _ _ ?_
       refine wp_region_lit ?_
       refine seq_do (v := .int .i64 1) hA rfl rfl rfl (does_bin rfl rfl (fun w => by kernel_rfl)) ?_
       intro a hA
       refine seq_do hA rfl rfl rfl (does_move rfl) ?_
       intro a hA
       refine seq_end ?_
       refine hK33 _ _ ?_
       refine rounds_k (fun K45 hK45 => ?_)
       refine wp_seq_k (fun K46 hK46 => ?_)
       refine wp_region_lit ?_
       refine seq_do (v := .bool true) hA rfl rfl rfl (does_bin rfl rfl (fun w => by kernel_rfl)) ?_
       intro a hA
       refine seq_end ?_
       refine hK46 _ _ ?_
       refine wp_seq_k (fun K47 hK47 => ?_)
       refine wp_cond_true (hA.ev rfl) ?_
       refine wp_skip ?_
       refine hK47 _ _ ?_
       refine wp_seq_k (fun K48 hK48 => ?_)
       refine wp_block ?_
       refine wp_seq_k (fun K49 hK49 => ?_)
       refine wp_region_lit ?_
       refine seq_do (v := .pointer (some ⟨g, 6, none⟩)) hA rfl rfl rfl (does_indexI rfl rfl (fun w => by kernel_rfl)) ?_
       intro a hA
       refine seq_do hA rfl rfl rfl (does_loadSF hS hg ExO_isS_27 rfl (cs := [.bool q.b1, .slice b1 q.t1.length bc1, .slice b2 q.q1.length bc2, .bool q.b2, .slice b3 q.t2.length bc3, .slice b4 q.q2.length bc4]) rfl rfl) ?_
       intro a hA
       refine seq_new (vs := [.bool false, .slice none 0 0, .slice none 0 0, .bool false, .slice none 0 0, .slice none 0 0]) (t := 27) hA hS rfl rfl rfl (fun g => .pointer (some ⟨g, 0, none⟩)) (does_alloc (z := .agg #[.bool false, .slice none 0 0, .slice none 0 0, .bool false, .slice none 0 0, .slice none 0 0]) (by kernel_rfl) rfl) rfl ?_
       intro g50 w51 hS a hA
       refine seq_store (us := [.bool q.b1, .slice b1 q.t1.length bc1, .slice b2 q.q1.length bc2, .bool q.b2, .slice b3 q.t2.length bc3, .slice b4 q.q2.length bc4]) hA hS rfl rfl (sets_store rfl rfl rfl (by kernel_rfl) hS 0 rfl rfl rfl) 0 rfl rfl rfl rfl ?_
       intro w52 hS
       refine seq_end ?_
       refine hK49 _ _ ?_
       refine wp_seq_k (fun K53 hK53 => ?_)
       refine wp_region_lit ?_
       refine seq_do hA rfl rfl rfl (does_loadS hS ExO_isS_27 rfl 0 rfl (cs := [.bool q.b1, .slice b1 q.t1.length bc1, .slice b2 q.q1.length bc2, .bool q.b2, .slice b3 q.t2.length bc3, .slice b4 q.q2.length bc4]) rfl rfl) ?_
       intro a hA
       rcases Bool.eq_false_or_eq_true (decide (q.t2.length = 0)) with hb54 | hb54
       · have hb54' := of_decide_eq_true hb54
         refine seq_call hA rfl rfl rfl (enters_func  rfl rfl (fun w => by kernel_rfl)) (isRealQ_any (q := q) hm hb54) ?_
         rintro _ w56 ⟨rfl, hb55⟩
         replace hS := hS.call hb55
         refine ⟨_, rfl, ?_⟩
         intro a hA
         refine seq_do (v := .bool false) hA rfl rfl rfl (does_un rfl un_not) ?_
         intro a hA
         refine seq_end ?_
         refine hK53 _ _ ?_
         refine wp_cond_false (hA.ev rfl) ?_
         refine wp_skip ?_
         refine hK48 _ _ ?_
         refine wp_region_lit ?_
         refine seq_do (v := .int .i64 2) hA rfl rfl rfl (does_bin rfl rfl (fun w => by kernel_rfl)) ?_
         intro a hA
         refine seq_do hA rfl rfl rfl (does_move rfl) ?_
         intro a hA
         refine seq_end ?_
         refine hK45 _ _ ?_
         refine rounds_k (fun K57 hK57 => ?_)
         refine wp_seq_k (fun K58 hK58 => ?_)
         refine wp_region_lit ?_
         refine seq_do (v := .bool false) hA rfl rfl rfl (does_bin rfl rfl (fun w => by kernel_rfl)) ?_
         intro a hA
         refine seq_end ?_
         refine hK58 _ _ ?_
         refine wp_seq_k (fun K59 hK59 => ?_)
         refine wp_cond_false (hA.ev rfl) ?_
         refine wp_exit ?_
         refine hK31 _ _ ?_
         refine wp_seq_k (fun K60 hK60 => ?_)
         refine wp_region_lit ?_
         refine seq_do hA rfl rfl rfl (does_assign rfl) ?_
         intro a hA
         refine seq_end ?_
         refine hK60 _ _ ?_
         refine wp_ret ?_
         refine hret _ _ ?_
         refine ends (v := .int .i64 0) hA rfl (.cons (res_tmp rfl) .nil) rfl ?_
         subst hr
         have f2 := of_decide_eq_true hb42
         have f3 := of_decide_eq_true hb54
         exact ⟨by simp [wantR2, hb13, hb25, f2, f3], hS.bel⟩
       · have hb54' := of_decide_eq_false hb54
         refine seq_call hA rfl rfl rfl (enters_func  rfl rfl (fun w => by kernel_rfl)) (isRealQ_any (q := q) hm hb54) ?_
         rintro _ w62 ⟨rfl, hb61⟩
         replace hS := hS.call hb61
         refine ⟨_, rfl, ?_⟩
         intro a hA
         refine seq_do (v := .bool true) hA rfl rfl rfl (does_un rfl un_not) ?_
         intro a hA
         refine seq_end ?_
         refine hK53 _ _ ?_
         refine wp_cond_true (hA.ev rfl) ?_
         refine wp_seq_k (fun K63 hK63 => ?_)
         refine wp_region_lit ?_
         refine seq_do hA rfl rfl rfl (does_assign rfl) ?_
         intro a hA
         refine seq_end ?_
         refine hK63 _ _ ?_
         refine wp_ret ?_
         refine hret _ _ ?_
         refine ends (v := .int .i64 10) hA rfl (.cons (res_tmp rfl) .nil) rfl ?_
         subst hr
         have f2 := of_decide_eq_true hb42
         have f3 := of_decide_eq_false hb54
         exact ⟨by simp [wantR2, hb13, hb25, f2, f3], hS.bel⟩
     · have hb42' := of_decide_eq_false hb42
       refine seq_call hA rfl rfl rfl (enters_func  rfl rfl (fun w => by kernel_rfl)) (isRealQ_any (q := p) hl hb42) ?_
       rintro _ w65 ⟨rfl, hb64⟩
       replace hS := hS.call hb64
       refine ⟨_, rfl, ?_⟩
       intro a hA
       refine seq_do (v := .bool true) hA rfl rfl rfl (does_un rfl un_not) ?_
       intro a hA
       refine seq_end ?_
       refine hK41 _ _ ?_
       refine wp_cond_true (hA.ev rfl) ?_
       refine wp_seq_k (fun K66 hK66 => ?_)
       refine wp_region_lit ?_
       refine seq_do hA rfl rfl rfl (does_assign rfl) ?_
       intro a hA
       refine seq_end ?_
       refine hK66 _ _ ?_
       refine wp_ret ?_
       refine hret _ _ ?_
       refine ends (v := .int .i64 10) hA rfl (.cons (res_tmp rfl) .nil) rfl ?_
       subst hr
       have f2 := of_decide_eq_false hb42
       exact ⟨by simp [wantR2, hb13, hb25, f2], hS.bel⟩
   · refine seq_call hA rfl rfl rfl (enters_func  rfl rfl (fun w => by kernel_rfl)) (soundQ_any (show Nm _ _ b1 bc1 b2 bc2 b3 bc3 b4 bc4 from ⟨⟨(hS.rd 3 rfl), hb.s1.nil, hb.s1.cap⟩, ⟨(hS.rd 2 rfl), hb.s2.nil, hb.s2.cap⟩, ⟨(hS.rd 1 rfl), hb.s3.nil, hb.s3.cap⟩, ⟨(hS.rd 0 rfl), hb.s4.nil, hb.s4.cap⟩⟩) hm hb25) ?_
     rintro _ w68 ⟨rfl, hb67⟩
     replace hS := hS.call hb67
     refine ⟨_, rfl, ?_⟩
     intro a hA
     refine seq_do (v := .bool true) hA rfl rfl rfl (does_un rfl un_not) ?_
     intro a hA
     refine seq_end ?_
     refine hK24 _ _ ?_
     refine wp_cond_true (hA.ev rfl) ?_
     refine wp_seq_k (fun K69 hK69 => ?_)
     refine wp_region_lit ?_
     refine seq_do hA rfl rfl rfl (does_assign rfl) ?_
     intro a hA
     refine seq_end ?_
     refine hK69 _ _ ?_
     refine wp_ret ?_
     refine hret _ _ ?_
     refine ends (v := .int .i64 2) hA rfl (.cons (res_tmp rfl) .nil) rfl ?_
     subst hr
     exact ⟨by simp [wantR2, hb13, hb25], hS.bel⟩
 · refine seq_call hA rfl rfl rfl (enters_func  rfl rfl (fun w => by kernel_rfl)) (soundQ_any (show Nm _ _ a1 ac1 a2 ac2 a3 ac3 a4 ac4 from ⟨⟨(hS.rd 7 rfl), ha.s1.nil, ha.s1.cap⟩, ⟨(hS.rd 6 rfl), ha.s2.nil, ha.s2.cap⟩, ⟨(hS.rd 5 rfl), ha.s3.nil, ha.s3.cap⟩, ⟨(hS.rd 4 rfl), ha.s4.nil, ha.s4.cap⟩⟩) hl hb13) ?_
   rintro _ w71 ⟨rfl, hb70⟩
   replace hS := hS.call hb70
   refine ⟨_, rfl, ?_⟩
   intro a hA
   refine seq_do (v := .bool true) hA rfl rfl rfl (does_un rfl un_not) ?_
   intro a hA
   refine seq_end ?_
   refine hK12 _ _ ?_
   refine wp_cond_true (hA.ev rfl) ?_
   refine wp_seq_k (fun K72 hK72 => ?_)
   refine wp_region_lit ?_
   refine seq_do hA rfl rfl rfl (does_assign rfl) ?_
   intro a hA
   refine seq_end ?_
   refine hK72 _ _ ?_
   refine wp_ret ?_
   refine hret _ _ ?_
   refine ends (v := .int .i64 2) hA rfl (.cons (res_tmp rfl) .nil) rfl ?_
   subst hr
   exact ⟨by simp [wantR2, hb13], hS.bel⟩
end Go.Proofs.YtbajcflbimmnhaaDoor
namespace Go.Proofs.YtbajcflbimmnhaaDoor
open Go.RowKit
set_option linter.unusedVariables false
set_option linter.unusedSimpArgs false
set_option maxRecDepth 100000
theorem ExP_is1_23 : Is1 Tryd.prog 23 := ⟨⟨_, Tryd.underlying23, rfl⟩, by kernel_rfl⟩
theorem ExP_fld_62_0 : FieldAt Tryd.prog 62 0 0 := ⟨_, _, Tryd.underlying62, rfl, rfl, by kernel_rfl⟩
theorem ExP_fld_62_2 : FieldAt Tryd.prog 62 2 4 := ⟨_, _, Tryd.underlying62, rfl, rfl, by kernel_rfl⟩
theorem ExP_isS_27 : IsS Tryd.prog 27 6 := ⟨⟨_, Tryd.underlying27⟩, by kernel_rfl⟩
theorem ExP_isS_60 : IsS Tryd.prog 60 2 := ⟨⟨_, Tryd.underlying60⟩, by kernel_rfl⟩
theorem cmpE_any {w : World} {p q : Q6} {a1 a2 a3 a4 : Option Addr} {ac1 ac2 ac3 ac4 : Nat} (ha : Nm w p a1 ac1 a2 ac2 a3 ac3 a4 ac4) (hl : LenQ p) {u1 u2 u3 u4 : Option Addr} {uc1 uc2 uc3 uc4 : Nat} (hb : Nm w q u1 uc1 u2 uc2 u3 uc3 u4 uc4) (hm : LenQ q) (hw : (wantR2 p q != 0) = true) : Calls Tryd.prog 13 #[numV p a1 ac1 a2 ac2 a3 ac3 a4 ac4, numV q u1 uc1 u2 uc2 u3 uc3 u4 uc4] w fun e w' => e = .returned (.tuple #[.int .i64 0, .int .i64 (wantR2 p q)]) ∧ Below w.heap.size w w' := by
 have hS : St w w [] [(u4, q.q2), (u3, q.t2), (u2, q.q1), (u1, q.t1), (a4, p.q2), (a3, p.t2), (a2, p.q1), (a1, p.t1)] [] := ((((((((St.start w).addR ha.s1.rd).addR ha.s2.rd).addR ha.s3.rd).addR ha.s4.rd).addR hb.s1.rd).addR hb.s2.rd).addR hb.s3.rd).addR hb.s4.rd
 refine walk_of (l := [(0, .agg #[.bool p.b1, .slice a1 p.t1.length ac1, .slice a2 p.q1.length ac2, .bool p.b2, .slice a3 p.t2.length ac3, .slice a4 p.q2.length ac4]), (1, .agg #[.bool q.b1, .slice u1 q.t1.length uc1, .slice u2 q.q1.length uc2, .bool q.b2, .slice u3 q.t2.length uc3, .slice u4 q.q2.length uc4])]) Tryd.func13 rfl Tryd.ntmps13 rfl rfl ?_
 intro Q hret hnorm hP a hA
 refine wp_seq_k (fun K1 hK1 => ?_)
 refine wp_region_lit ?_
 refine seq_new hA hS rfl rfl rfl (fun g => .pointer (some ⟨g, 0, none⟩)) (does_box rfl rfl) rfl ?_
 intro g2 w3 hS a hA
 refine seq_new hA hS rfl rfl rfl (fun g => .pointer (some ⟨g, 0, none⟩)) (does_box rfl rfl) rfl ?_
 intro g4 w5 hS a hA
 refine seq_do hA rfl rfl rfl (does_assign rfl) ?_
 intro a hA
 refine seq_do hA rfl rfl rfl (does_assign rfl) ?_
 intro a hA
 refine seq_end ?_
 refine hK1 _ _ ?_
 refine wp_seq_k (fun K6 hK6 => ?_)
 refine wp_seq_k (fun K7 hK7 => ?_)
 refine wp_region_lit ?_
 refine seq_do hA rfl rfl rfl (does_loadS hS ExP_isS_27 rfl 1 rfl (cs := [.bool p.b1, .slice a1 p.t1.length ac1, .slice a2 p.q1.length ac2, .bool p.b2, .slice a3 p.t2.length ac3, .slice a4 p.q2.length ac4]) rfl rfl) ?_
 intro a hA
 refine seq_do hA rfl rfl rfl (does_loadS hS ExP_isS_27 rfl 0 rfl (cs := [.bool q.b1, .slice u1 q.t1.length uc1, .slice u2 q.q1.length uc2, .bool q.b2, .slice u3 q.t2.length uc3, .slice u4 q.q2.length uc4]) rfl rfl) ?_
 intro a hA
 refine seq_new (vs := [.bool p.b1, .slice a1 p.t1.length ac1, .slice a2 p.q1.length ac2, .bool p.b2, .slice a3 p.t2.length ac3, .slice a4 p.q2.length ac4, .bool q.b1, .slice u1 q.t1.length uc1, .slice u2 q.q1.length uc2, .bool q.b2, .slice u3 q.t2.length uc3, .slice u4 q.q2.length uc4]) (t := 27) hA hS rfl rfl rfl (fun g => .slice (some ⟨g, 0, none⟩) 2 2) (does_buildSlice rfl (by kernel_rfl)) rfl ?_
 intro g8 w9 hS a hA
 refine seq_call hA rfl rfl rfl (enters_func  rfl rfl (fun w => by kernel_rfl)) (wantR2_any (show Nm _ p a1 ac1 a2 ac2 a3 ac3 a4 ac4 from ⟨⟨(hS.rd 7 rfl), ha.s1.nil, ha.s1.cap⟩, ⟨(hS.rd 6 rfl), ha.s2.nil, ha.s2.cap⟩, ⟨(hS.rd 5 rfl), ha.s3.nil, ha.s3.cap⟩, ⟨(hS.rd 4 rfl), ha.s4.nil, ha.s4.cap⟩⟩) hl (show Nm _ q u1 uc1 u2 uc2 u3 uc3 u4 uc4 from ⟨⟨(hS.rd 3 rfl), hb.s1.nil, hb.s1.cap⟩, ⟨(hS.rd 2 rfl), hb.s2.nil, hb.s2.cap⟩, ⟨(hS.rd 1 rfl), hb.s3.nil, hb.s3.cap⟩, ⟨(hS.rd 0 rfl), hb.s4.nil, hb.s4.cap⟩⟩) hm (hS.blk 0 rfl) rfl) ?_
 rintro _ w11 ⟨rfl, hb10⟩
 replace hS := hS.call hb10
 refine ⟨_, rfl, ?_⟩
 intro a hA
 refine seq_do hA rfl rfl rfl (does_assign rfl) ?_
 intro a hA
 refine seq_end ?_
 refine hK7 _ _ ?_
 refine wp_seq_k (fun K12 hK12 => ?_)
 refine wp_region_lit ?_
 refine seq_do hA rfl rfl rfl (does_move rfl) ?_
 intro a hA
 refine seq_do (v := .bool true) hA rfl rfl rfl (does_bin rfl rfl (fun w => (bin_neq w).trans (by rw [show ((wantR2 p q != 0)) = true from hw]))) ?_
 intro a hA
 refine seq_end ?_
 refine hK12 _ _ ?_
 refine wp_cond_true (hA.ev rfl) ?_
 refine wp_seq_k (fun K13 hK13 => ?_)
 refine wp_region_lit ?_
 refine seq_do hA rfl rfl rfl (does_move rfl) ?_
 intro a hA
 refine seq_do hA rfl rfl rfl (does_assign rfl) ?_
 intro a hA
 refine seq_do hA rfl rfl rfl (does_assign rfl) ?_
 intro a hA
 refine seq_end ?_
 refine hK13 _ _ ?_
 refine wp_ret ?_
 refine hret _ _ ?_
 refine ends (v := .tuple #[.int .i64 0, .int .i64 (wantR2 p q)]) hA rfl (.cons (res_tmp rfl) (.cons (res_tmp rfl) .nil)) rfl ?_
 exact ⟨rfl, hS.bel⟩
theorem cmpW_any {w : World} {u v x y : Rat} {a1 a2 a3 a4 : Option Addr} {ac1 ac2 ac3 ac4 : Nat} (ha : Nm w (Q6.rat u v) a1 ac1 a2 ac2 a3 ac3 a4 ac4) {u1 u2 u3 u4 : Option Addr} {uc1 uc2 uc3 uc4 : Nat} (hb : Nm w (Q6.rat x y) u1 uc1 u2 uc2 u3 uc3 u4 uc4) (hu : fitR u) (hv : fitR v) (hx : fitR x) (hy : fitR y) (hw : wantR2 (Q6.rat u v) (Q6.rat x y) = 0) : Calls Tryd.prog 13 #[numV (Q6.rat u v) a1 ac1 a2 ac2 a3 ac3 a4 ac4, numV (Q6.rat x y) u1 uc1 u2 uc2 u3 uc3 u4 uc4] w fun e w' => e = .returned (.tuple #[.int .i64 (cmpR u x), .int .i64 0]) ∧ Below w.heap.size w w' := by
 have m1 := spX_len hu hv
 have m3 := spD_len hu hv
 have m4 := spX_len hx hy
 have m6 := spD_len hx hy
 have n1 := abs_mul_len m1 (nat_abs_len m6)
 have n2 := abs_mul_len m4 (nat_abs_len m3)
 have hS : St w w [] [(u4, words y.den), (u3, words y.num.natAbs), (u2, words x.den), (u1, words x.num.natAbs), (a4, words v.den), (a3, words v.num.natAbs), (a2, words u.den), (a1, words u.num.natAbs)] [] := ((((((((St.start w).addR ha.s1.rd).addR ha.s2.rd).addR ha.s3.rd).addR ha.s4.rd).addR hb.s1.rd).addR hb.s2.rd).addR hb.s3.rd).addR hb.s4.rd
 refine walk_of (l := [(0, .agg #[.bool (rb u.num), .slice a1 ((words u.num.natAbs).length) ac1, .slice a2 ((words u.den).length) ac2, .bool (rb v.num), .slice a3 ((words v.num.natAbs).length) ac3, .slice a4 ((words v.den).length) ac4]), (1, .agg #[.bool (rb x.num), .slice u1 ((words x.num.natAbs).length) uc1, .slice u2 ((words x.den).length) uc2, .bool (rb y.num), .slice u3 ((words y.num.natAbs).length) uc3, .slice u4 ((words y.den).length) uc4])]) Tryd.func13 rfl Tryd.ntmps13 rfl rfl ?_
 intro Q hret hnorm hP a hA
 refine wp_seq_k (fun K1 hK1 => ?_)
 refine wp_region_lit ?_
 refine seq_new hA hS rfl rfl rfl (fun g => .pointer (some ⟨g, 0, none⟩)) (does_box rfl rfl) rfl ?_
 intro g2 w3 hS a hA
 refine seq_new hA hS rfl rfl rfl (fun g => .pointer (some ⟨g, 0, none⟩)) (does_box rfl rfl) rfl ?_
 intro g4 w5 hS a hA
 refine seq_do hA rfl rfl rfl (does_assign rfl) ?_
 intro a hA
 refine seq_do hA rfl rfl rfl (does_assign rfl) ?_
 intro a hA
 refine seq_end ?_
 refine hK1 _ _ ?_
 refine wp_seq_k (fun K6 hK6 => ?_)
 refine wp_seq_k (fun K7 hK7 => ?_)
 refine wp_region_lit ?_
 refine seq_do hA rfl rfl rfl (does_loadS hS ExP_isS_27 rfl 1 rfl (cs := [.bool (rb u.num), .slice a1 ((words u.num.natAbs).length) ac1, .slice a2 ((words u.den).length) ac2, .bool (rb v.num), .slice a3 ((words v.num.natAbs).length) ac3, .slice a4 ((words v.den).length) ac4]) rfl rfl) ?_
 intro a hA
 refine seq_do hA rfl rfl rfl (does_loadS hS ExP_isS_27 rfl 0 rfl (cs := [.bool (rb x.num), .slice u1 ((words x.num.natAbs).length) uc1, .slice u2 ((words x.den).length) uc2, .bool (rb y.num), .slice u3 ((words y.num.natAbs).length) uc3, .slice u4 ((words y.den).length) uc4]) rfl rfl) ?_
 intro a hA
 refine seq_new (vs := [.bool (rb u.num), .slice a1 ((words u.num.natAbs).length) ac1, .slice a2 ((words u.den).length) ac2, .bool (rb v.num), .slice a3 ((words v.num.natAbs).length) ac3, .slice a4 ((words v.den).length) ac4, .bool (rb x.num), .slice u1 ((words x.num.natAbs).length) uc1, .slice u2 ((words x.den).length) uc2, .bool (rb y.num), .slice u3 ((words y.num.natAbs).length) uc3, .slice u4 ((words y.den).length) uc4]) (t := 27) hA hS rfl rfl rfl (fun g => .slice (some ⟨g, 0, none⟩) 2 2) (does_buildSlice rfl (by kernel_rfl)) rfl ?_
 intro g8 w9 hS a hA
 refine seq_call hA rfl rfl rfl (enters_func  rfl rfl (fun w => by kernel_rfl)) (wantR2_any (show Nm _ (Q6.rat u v) a1 ac1 a2 ac2 a3 ac3 a4 ac4 from ⟨⟨(hS.rd 7 rfl), ha.s1.nil, ha.s1.cap⟩, ⟨(hS.rd 6 rfl), ha.s2.nil, ha.s2.cap⟩, ⟨(hS.rd 5 rfl), ha.s3.nil, ha.s3.cap⟩, ⟨(hS.rd 4 rfl), ha.s4.nil, ha.s4.cap⟩⟩) (lenQ_rat hu hv) (show Nm _ (Q6.rat x y) u1 uc1 u2 uc2 u3 uc3 u4 uc4 from ⟨⟨(hS.rd 3 rfl), hb.s1.nil, hb.s1.cap⟩, ⟨(hS.rd 2 rfl), hb.s2.nil, hb.s2.cap⟩, ⟨(hS.rd 1 rfl), hb.s3.nil, hb.s3.cap⟩, ⟨(hS.rd 0 rfl), hb.s4.nil, hb.s4.cap⟩⟩) (lenQ_rat hx hy) (hS.blk 0 rfl) hw) ?_
 rintro _ w11 ⟨rfl, hb10⟩
 replace hS := hS.call hb10
 refine ⟨_, rfl, ?_⟩
 intro a hA
 refine seq_do hA rfl rfl rfl (does_assign rfl) ?_
 intro a hA
 refine seq_end ?_
 refine hK7 _ _ ?_
 refine wp_seq_k (fun K12 hK12 => ?_)
 refine wp_region_lit ?_
 refine seq_do hA rfl rfl rfl (does_move rfl) ?_
 intro a hA
 refine seq_do (v := .bool false) hA rfl rfl rfl (does_bin rfl rfl (fun w => by kernel_rfl)) ?_
 intro a hA
 refine seq_end ?_
 refine hK12 _ _ ?_
 refine wp_cond_false (hA.ev rfl) ?_
 refine wp_skip ?_
 refine hK6 _ _ ?_
 refine wp_seq_k (fun K13 hK13 => ?_)
 have hJ58 : ∀ a w1, (∃ (J32g : Nat) (J33g : Nat) (J34 : Option Addr) (J35 : Nat) (J36 : Option Addr) (J37 : Nat) (J38 : Option Addr) (J39 : Nat) (J40 : Option Addr) (J41 : Nat) (J42 : Option Addr) (J43 : Nat) (J44 : Option Addr) (J45 : Nat), Sl a 31 [(0, .agg #[.bool (rb u.num), .slice a1 ((words u.num.natAbs).length) ac1, .slice a2 ((words u.den).length) ac2, .bool (rb v.num), .slice a3 ((words v.num.natAbs).length) ac3, .slice a4 ((words v.den).length) ac4]), (1, .agg #[.bool (rb x.num), .slice u1 ((words x.num.natAbs).length) uc1, .slice u2 ((words x.den).length) uc2, .bool (rb y.num), .slice u3 ((words y.num.natAbs).length) uc3, .slice u4 ((words y.den).length) uc4]), (2, .pointer (some ⟨g2, 0, none⟩)), (3, .pointer (some ⟨g4, 0, none⟩)), (4, .int .i64 0), (5, .int .i64 0), (6, .int .i64 0), (7, .pointer (some ⟨J32g, 0, none⟩)), (8, .pointer (some ⟨J33g, 0, none⟩)), (9, .agg #[.bool (rb u.num), .slice a1 ((words u.num.natAbs).length) ac1, .slice a2 ((words u.den).length) ac2, .bool (rb v.num), .slice a3 ((words v.num.natAbs).length) ac3, .slice a4 ((words v.den).length) ac4]), (10, .agg #[.bool (rb x.num), .slice u1 ((words x.num.natAbs).length) uc1, .slice u2 ((words x.den).length) uc2, .bool (rb y.num), .slice u3 ((words y.num.natAbs).length) uc3, .slice u4 ((words y.den).length) uc4]), (11, .slice (some ⟨g8, 0, none⟩) 2 2), (12, .int .i64 0), (13, .int .i64 0), (14, .bool false)] ∧ St w w1 [(J33g, [.bool ((rb (spX x y))), .slice J40 ((words (spX x y).natAbs).length) J41, .bool ((rb (spY x y))), .slice J42 ((words (spY x y).natAbs).length) J43, .slice J44 ((words (spD x y)).length) J45]), (J32g, [.bool ((rb (spX u v))), .slice J34 ((words (spX u v).natAbs).length) J35, .bool ((rb (spY u v))), .slice J36 ((words (spY u v).natAbs).length) J37, .slice J38 ((words (spD u v)).length) J39]), (g8, [.bool (rb u.num), .slice a1 ((words u.num.natAbs).length) ac1, .slice a2 ((words u.den).length) ac2, .bool (rb v.num), .slice a3 ((words v.num.natAbs).length) ac3, .slice a4 ((words v.den).length) ac4, .bool (rb x.num), .slice u1 ((words x.num.natAbs).length) uc1, .slice u2 ((words x.den).length) uc2, .bool (rb y.num), .slice u3 ((words y.num.natAbs).length) uc3, .slice u4 ((words y.den).length) uc4]), (g4, [.bool (rb x.num), .slice u1 ((words x.num.natAbs).length) uc1, .slice u2 ((words x.den).length) uc2, .bool (rb y.num), .slice u3 ((words y.num.natAbs).length) uc3, .slice u4 ((words y.den).length) uc4]), (g2, [.bool (rb u.num), .slice a1 ((words u.num.natAbs).length) ac1, .slice a2 ((words u.den).length) ac2, .bool (rb v.num), .slice a3 ((words v.num.natAbs).length) ac3, .slice a4 ((words v.den).length) ac4])] [(J44, words (spD x y)), (J42, words (spY x y).natAbs), (J40, words (spX x y).natAbs), (J38, words (spD u v)), (J36, words (spY u v).natAbs), (J34, words (spX u v).natAbs), (u4, words y.den), (u3, words y.num.natAbs), (u2, words x.den), (u1, words x.num.natAbs), (a4, words v.den), (a3, words v.num.natAbs), (a2, words u.den), (a1, words u.num.natAbs)] [] ∧ (J44 = none → J45 = 0) ∧ (words (spD x y) : List Nat).length ≤ J45 ∧ (J42 = none → J43 = 0) ∧ (words (spY x y).natAbs : List Nat).length ≤ J43 ∧ (J40 = none → J41 = 0) ∧ (words (spX x y).natAbs : List Nat).length ≤ J41 ∧ (J38 = none → J39 = 0) ∧ (words (spD u v) : List Nat).length ≤ J39 ∧ (J36 = none → J37 = 0) ∧ (words (spY u v).natAbs : List Nat).length ≤ J37 ∧ (J34 = none → J35 = 0) ∧ (words (spX u v).natAbs : List Nat).length ≤ J35) → K13 a w1 := by
   clear hA hS
   rintro a w59 ⟨J32g, J33g, J34, J35, J36, J37, J38, J39, J40, J41, J42, J43, J44, J45, hA, hS, hn46, hc47, hn48, hc49, hn50, hc51, hn52, hc53, hn54, hc55, hn56, hc57⟩
   refine hK13 _ _ ?_
   refine wp_seq_k (fun K60 hK60 => ?_)
   refine wp_draw (S := fun w1 => St w w1 [(J33g, [.bool ((rb (spX x y))), .slice J40 ((words (spX x y).natAbs).length) J41, .bool ((rb (spY x y))), .slice J42 ((words (spY x y).natAbs).length) J43, .slice J44 ((words (spD x y)).length) J45]), (J32g, [.bool ((rb (spX u v))), .slice J34 ((words (spX u v).natAbs).length) J35, .bool ((rb (spY u v))), .slice J36 ((words (spY u v).natAbs).length) J37, .slice J38 ((words (spD u v)).length) J39]), (g8, [.bool (rb u.num), .slice a1 ((words u.num.natAbs).length) ac1, .slice a2 ((words u.den).length) ac2, .bool (rb v.num), .slice a3 ((words v.num.natAbs).length) ac3, .slice a4 ((words v.den).length) ac4, .bool (rb x.num), .slice u1 ((words x.num.natAbs).length) uc1, .slice u2 ((words x.den).length) uc2, .bool (rb y.num), .slice u3 ((words y.num.natAbs).length) uc3, .slice u4 ((words y.den).length) uc4]), (g4, [.bool (rb x.num), .slice u1 ((words x.num.natAbs).length) uc1, .slice u2 ((words x.den).length) uc2, .bool (rb y.num), .slice u3 ((words y.num.natAbs).length) uc3, .slice u4 ((words y.den).length) uc4]), (g2, [.bool (rb u.num), .slice a1 ((words u.num.natAbs).length) ac1, .slice a2 ((words u.den).length) ac2, .bool (rb v.num), .slice a3 ((words v.num.natAbs).length) ac3, .slice a4 ((words v.den).length) ac4])] [(J44, words (spD x y)), (J42, words (spY x y).natAbs), (J40, words (spX x y).natAbs), (J38, words (spD u v)), (J36, words (spY u v).natAbs), (J34, words (spX u v).natAbs), (u4, words y.den), (u3, words y.num.natAbs), (u2, words x.den), (u1, words x.num.natAbs), (a4, words v.den), (a3, words v.num.natAbs), (a2, words u.den), (a1, words u.num.natAbs)] []) (by kernel_rfl) ?_
   replace hS := hS.drew
   refine any_tk (v := .pointer (some ⟨J32g, 0, none⟩)) hA 0 rfl rfl rfl rfl hP hS (fun w1 hS => does_field ExP_fld_62_0 rfl rfl) ?_
   intro a hA
   refine any_tk hA 1 rfl rfl rfl rfl hP hS (fun w1 hS => does_loadS hS ExP_isS_60 rfl 1 rfl (cs := [.bool ((rb (spX u v))), .slice J34 ((words (spX u v).natAbs).length) J35]) rfl rfl) ?_
   intro a hA
   refine any_tk (v := .pointer (some ⟨J33g, 4, none⟩)) hA 2 rfl rfl rfl rfl hP hS (fun w1 hS => does_field ExP_fld_62_2 rfl rfl) ?_
   intro a hA
   refine any_tk hA 3 rfl rfl rfl rfl hP hS (fun w1 hS => does_load1 hS ExP_is1_23 rfl 0 rfl rfl) ?_
   intro a hA
   refine any_tk (v := .pointer (some ⟨J33g, 0, none⟩)) hA 5 rfl rfl rfl rfl hP hS (fun w1 hS => does_field ExP_fld_62_0 rfl rfl) ?_
   intro a hA
   refine any_tk hA 6 rfl rfl rfl rfl hP hS (fun w1 hS => does_loadS hS ExP_isS_60 rfl 0 rfl (cs := [.bool ((rb (spX x y))), .slice J40 ((words (spX x y).natAbs).length) J41]) rfl rfl) ?_
   intro a hA
   refine any_tk (v := .pointer (some ⟨J32g, 4, none⟩)) hA 7 rfl rfl rfl rfl hP hS (fun w1 hS => does_field ExP_fld_62_2 rfl rfl) ?_
   intro a hA
   refine any_tk hA 8 rfl rfl rfl rfl hP hS (fun w1 hS => does_load1 hS ExP_is1_23 rfl 1 rfl rfl) ?_
   intro a hA
   refine any_one (by kernel_rfl) (op_call hA 4 rfl rfl rfl rfl (enters_func  rfl rfl (fun w => by kernel_rfl)) (zscaled_any ⟨(hS.rd 5 rfl), hn56, hc57⟩ ⟨(hS.rd 0 rfl), hn46, hc47⟩ (by omega) (by omega)) ?_)
   rintro _ w65 ⟨zo61, zc62, rfl, hs63, hb64⟩
   replace hS := hS.call hb64
   replace hS := hS.addR hs63.rd
   refine ⟨_, rfl, (hS.partD (.refl _) 1 rfl (.refl _)), ?_⟩
   intro a hA
   refine any_one (by kernel_rfl) (op_call hA 9 rfl rfl rfl rfl (enters_func  rfl rfl (fun w => by kernel_rfl)) (zscaled_any ⟨(hS.rd 3 rfl), hn50, hc51⟩ ⟨(hS.rd 4 rfl), hn52, hc53⟩ (by omega) (by omega)) ?_)
   rintro _ w70 ⟨zo66, zc67, rfl, hs68, hb69⟩
   replace hS := hS.call hb69
   replace hS := hS.addR hs68.rd
   refine ⟨_, rfl, (hS.partD (.refl _) 2 rfl (.refl _)), ?_⟩
   intro a hA
   refine any_one (by kernel_rfl) (op_call hA 10 rfl rfl rfl rfl (enters_func  rfl rfl (fun w => by kernel_rfl)) (zorder_any ⟨(hS.rd 1 rfl), hs63.nil, hs63.cap⟩ ⟨(hS.rd 0 rfl), hs68.nil, hs68.cap⟩ (by omega) (by omega)) ?_)
   rintro _ w72 ⟨rfl, hb71⟩
   replace hS := hS.call hb71
   refine ⟨_, rfl, (hS.partD (.refl _) 2 rfl (.refl _)), ?_⟩
   intro a hA
   refine any_tk hA 11 rfl rfl rfl rfl hP (hS.partD (.refl _) 2 rfl (.refl _)) (fun w1 hS => does_assign rfl) ?_
   intro a hA
   refine any_tk hA 12 rfl rfl rfl rfl hP (hS.partD (.refl _) 2 rfl (.refl _)) (fun w1 hS => does_assign rfl) ?_
   intro a hA
   refine any_end (by kernel_rfl) ?_
   refine hK60 _ _ ?_
   refine wp_ret ?_
   refine hret _ _ ?_
   refine ends (v := .tuple #[.int .i64 (cmpZ ((spX u v) * ((spD x y : Nat) : Int)) ((spX x y) * ((spD u v : Nat) : Int))), .int .i64 0]) hA rfl (.cons (res_tmp rfl) (.cons (res_tmp rfl) .nil)) rfl ?_
   exact ⟨by rw [← cmp_mk (spD_ne u v) (spD_ne x y) (spX_mk u v) (spX_mk x y)], hS.bel⟩
 refine wp_draw (S := fun w1 => St w w1 [(g8, [.bool (rb u.num), .slice a1 ((words u.num.natAbs).length) ac1, .slice a2 ((words u.den).length) ac2, .bool (rb v.num), .slice a3 ((words v.num.natAbs).length) ac3, .slice a4 ((words v.den).length) ac4, .bool (rb x.num), .slice u1 ((words x.num.natAbs).length) uc1, .slice u2 ((words x.den).length) uc2, .bool (rb y.num), .slice u3 ((words y.num.natAbs).length) uc3, .slice u4 ((words y.den).length) uc4]), (g4, [.bool (rb x.num), .slice u1 ((words x.num.natAbs).length) uc1, .slice u2 ((words x.den).length) uc2, .bool (rb y.num), .slice u3 ((words y.num.natAbs).length) uc3, .slice u4 ((words y.den).length) uc4]), (g2, [.bool (rb u.num), .slice a1 ((words u.num.natAbs).length) ac1, .slice a2 ((words u.den).length) ac2, .bool (rb v.num), .slice a3 ((words v.num.natAbs).length) ac3, .slice a4 ((words v.den).length) ac4])] [(u4, words y.den), (u3, words y.num.natAbs), (u2, words x.den), (u1, words x.num.natAbs), (a4, words v.den), (a3, words v.num.natAbs), (a2, words u.den), (a1, words u.num.natAbs)] []) (by kernel_rfl) ?_
 replace hS := hS.drew
 refine any_tk hA 0 rfl rfl rfl rfl hP hS (fun w1 hS => does_loadS hS ExP_isS_27 rfl 2 rfl (cs := [.bool (rb u.num), .slice a1 ((words u.num.natAbs).length) ac1, .slice a2 ((words u.den).length) ac2, .bool (rb v.num), .slice a3 ((words v.num.natAbs).length) ac3, .slice a4 ((words v.den).length) ac4]) rfl rfl) ?_
 intro a hA
 refine any_tk hA 2 rfl rfl rfl rfl hP hS (fun w1 hS => does_loadS hS ExP_isS_27 rfl 1 rfl (cs := [.bool (rb x.num), .slice u1 ((words x.num.natAbs).length) uc1, .slice u2 ((words x.den).length) uc2, .bool (rb y.num), .slice u3 ((words y.num.natAbs).length) uc3, .slice u4 ((words y.den).length) uc4]) rfl rfl) ?_
 intro a hA
 refine any_many (rs := [1, 4, 5]) (by kernel_rfl) (by simp) ⟨?_, ?_, ?_, trivial⟩
 · refine op_call hA 1 rfl rfl rfl rfl (enters_func  rfl rfl (fun w => by kernel_rfl)) (zspread_any (show Nm _ (Q6.rat u v) a1 ac1 a2 ac2 a3 ac3 a4 ac4 from ⟨⟨(hS.rd 7 rfl), ha.s1.nil, ha.s1.cap⟩, ⟨(hS.rd 6 rfl), ha.s2.nil, ha.s2.cap⟩, ⟨(hS.rd 5 rfl), ha.s3.nil, ha.s3.cap⟩, ⟨(hS.rd 4 rfl), ha.s4.nil, ha.s4.cap⟩⟩) hu hv) ?_
   rintro _ w78 ⟨p73_1, p73_c1, p73_2, p73_c2, p73_3, p73_c3, rfl, hs74, hs75, hs76, hb77⟩
   replace hS := hS.call hb77
   replace hS := hS.addR hs74.rd
   replace hS := hS.addR hs75.rd
   replace hS := hS.addR hs76.rd
   refine ⟨_, rfl, (hS.partD (.refl _) 3 rfl (.refl _)), ?_⟩
   intro a hA
   refine any_many (rs := [3, 4, 5]) (by kernel_rfl) (by simp) ⟨?_, ?_, ?_, trivial⟩
   · refine op_call hA 3 rfl rfl rfl rfl (enters_func  rfl rfl (fun w => by kernel_rfl)) (zspread_any (show Nm _ (Q6.rat x y) u1 uc1 u2 uc2 u3 uc3 u4 uc4 from ⟨⟨(hS.rd 6 rfl), hb.s1.nil, hb.s1.cap⟩, ⟨(hS.rd 5 rfl), hb.s2.nil, hb.s2.cap⟩, ⟨(hS.rd 4 rfl), hb.s3.nil, hb.s3.cap⟩, ⟨(hS.rd 3 rfl), hb.s4.nil, hb.s4.cap⟩⟩) hx hy) ?_
     rintro _ w84 ⟨p79_1, p79_c1, p79_2, p79_c2, p79_3, p79_c3, rfl, hs80, hs81, hs82, hb83⟩
     replace hS := hS.call hb83
     replace hS := hS.addR hs80.rd
     replace hS := hS.addR hs81.rd
     replace hS := hS.addR hs82.rd
     refine ⟨_, rfl, (hS.partD (.refl _) 6 rfl (.refl _)), ?_⟩
     intro a hA
     refine any_many (rs := [4, 5]) (by kernel_rfl) (by simp) ⟨?_, ?_, trivial⟩
     · refine op_new (vs := [.bool false, .slice none 0 0, .bool false, .slice none 0 0, .slice none 0 0]) (t := 62) hA hS 4 rfl rfl rfl rfl (fun g => .pointer (some ⟨g, 0, none⟩)) (does_alloc (z := .agg #[.bool false, .slice none 0 0, .bool false, .slice none 0 0, .slice none 0 0]) (by kernel_rfl) rfl) rfl ?_
       intro g85 w86 hS
       refine ⟨(hS.partD (.cons _ (.cons_cons _ (.cons_cons _ (.cons_cons _ .slnil)))) 6 rfl (.refl _)), ?_⟩
       intro a hA
       refine any_one (by kernel_rfl) (op_new (vs := [.bool false, .slice none 0 0, .bool false, .slice none 0 0, .slice none 0 0]) (t := 62) hA hS 5 rfl rfl rfl rfl (fun g => .pointer (some ⟨g, 0, none⟩)) (does_alloc (z := .agg #[.bool false, .slice none 0 0, .bool false, .slice none 0 0, .slice none 0 0]) (by kernel_rfl) rfl) rfl ?_)
       intro g87 w88 hS
       refine ⟨(hS.partD (.cons _ (.cons _ (.cons_cons _ (.cons_cons _ (.cons_cons _ .slnil))))) 6 rfl (.refl _)), ?_⟩
       intro a hA
       refine any_one (by kernel_rfl) (op_store (us := [.bool ((rb (spX u v))), .slice p73_1 ((words (spX u v).natAbs).length) p73_c1, .bool ((rb (spY u v))), .slice p73_2 ((words (spY u v).natAbs).length) p73_c2, .slice p73_3 ((words (spD u v)).length) p73_c3]) hA hS 6 rfl rfl rfl (sets_store rfl rfl rfl (by kernel_rfl) hS 1 rfl rfl rfl) 1 rfl rfl rfl rfl ?_)
       intro w89 hS
       refine ⟨(hS.partD (.cons _ (.cons _ (.cons_cons _ (.cons_cons _ (.cons_cons _ .slnil))))) 6 rfl (.refl _)), ?_⟩
       refine any_one (by kernel_rfl) (op_store (us := [.bool ((rb (spX x y))), .slice p79_1 ((words (spX x y).natAbs).length) p79_c1, .bool ((rb (spY x y))), .slice p79_2 ((words (spY x y).natAbs).length) p79_c2, .slice p79_3 ((words (spD x y)).length) p79_c3]) hA hS 7 rfl rfl rfl (sets_store rfl rfl rfl (by kernel_rfl) hS 0 rfl rfl rfl) 0 rfl rfl rfl rfl ?_)
       intro w90 hS
       refine ⟨(hS.partD (.cons _ (.cons _ (.cons_cons _ (.cons_cons _ (.cons_cons _ .slnil))))) 6 rfl (.refl _)), ?_⟩
       refine any_end (by kernel_rfl) ?_
       refine hJ58 _ _ ⟨g85, g87, p73_1, p73_c1, p73_2, p73_c2, p73_3, p73_c3, p79_1, p79_c1, p79_2, p79_c2, p79_3, p79_c3, hA.keep _ ⟨rfl, rfl, rfl, rfl, rfl, rfl, rfl, rfl, rfl, rfl, rfl, rfl, rfl, rfl, rfl, trivial⟩, (St.pickRL hS ⟨⟨0, rfl⟩, ⟨⟨1, rfl⟩, ⟨⟨2, rfl⟩, ⟨⟨3, rfl⟩, ⟨⟨4, rfl⟩, ⟨⟨5, rfl⟩, ⟨⟨6, rfl⟩, ⟨⟨7, rfl⟩, ⟨⟨8, rfl⟩, ⟨⟨9, rfl⟩, ⟨⟨10, rfl⟩, ⟨⟨11, rfl⟩, ⟨⟨12, rfl⟩, ⟨⟨13, rfl⟩, trivial⟩⟩⟩⟩⟩⟩⟩⟩⟩⟩⟩⟩⟩⟩ [0, 1, 2, 3, 4] rfl (by decide)), hs82.nil, hs82.cap, hs81.nil, hs81.cap, hs80.nil, hs80.cap, hs76.nil, hs76.cap, hs75.nil, hs75.cap, hs74.nil, hs74.cap⟩
     · refine op_new (vs := [.bool false, .slice none 0 0, .bool false, .slice none 0 0, .slice none 0 0]) (t := 62) hA hS 5 rfl rfl rfl rfl (fun g => .pointer (some ⟨g, 0, none⟩)) (does_alloc (z := .agg #[.bool false, .slice none 0 0, .bool false, .slice none 0 0, .slice none 0 0]) (by kernel_rfl) rfl) rfl ?_
       intro g91 w92 hS
       refine ⟨(hS.partD (.cons _ (.cons_cons _ (.cons_cons _ (.cons_cons _ .slnil)))) 6 rfl (.refl _)), ?_⟩
       intro a hA
       refine any_one (by kernel_rfl) (op_new (vs := [.bool false, .slice none 0 0, .bool false, .slice none 0 0, .slice none 0 0]) (t := 62) hA hS 4 rfl rfl rfl rfl (fun g => .pointer (some ⟨g, 0, none⟩)) (does_alloc (z := .agg #[.bool false, .slice none 0 0, .bool false, .slice none 0 0, .slice none 0 0]) (by kernel_rfl) rfl) rfl ?_)
       intro g93 w94 hS
       refine ⟨(hS.partD (.cons _ (.cons _ (.cons_cons _ (.cons_cons _ (.cons_cons _ .slnil))))) 6 rfl (.refl _)), ?_⟩
       intro a hA
       refine any_one (by kernel_rfl) (op_store (us := [.bool ((rb (spX u v))), .slice p73_1 ((words (spX u v).natAbs).length) p73_c1, .bool ((rb (spY u v))), .slice p73_2 ((words (spY u v).natAbs).length) p73_c2, .slice p73_3 ((words (spD u v)).length) p73_c3]) hA hS 6 rfl rfl rfl (sets_store rfl rfl rfl (by kernel_rfl) hS 0 rfl rfl rfl) 0 rfl rfl rfl rfl ?_)
       intro w95 hS
       refine ⟨(hS.partD (.cons _ (.cons _ (.cons_cons _ (.cons_cons _ (.cons_cons _ .slnil))))) 6 rfl (.refl _)), ?_⟩
       refine any_one (by kernel_rfl) (op_store (us := [.bool ((rb (spX x y))), .slice p79_1 ((words (spX x y).natAbs).length) p79_c1, .bool ((rb (spY x y))), .slice p79_2 ((words (spY x y).natAbs).length) p79_c2, .slice p79_3 ((words (spD x y)).length) p79_c3]) hA hS 7 rfl rfl rfl (sets_store rfl rfl rfl (by kernel_rfl) hS 1 rfl rfl rfl) 1 rfl rfl rfl rfl ?_)
       intro w96 hS
       refine ⟨(hS.partD (.cons _ (.cons _ (.cons_cons _ (.cons_cons _ (.cons_cons _ .slnil))))) 6 rfl (.refl _)), ?_⟩
       refine any_end (by kernel_rfl) ?_
       refine hJ58 _ _ ⟨g93, g91, p73_1, p73_c1, p73_2, p73_c2, p73_3, p73_c3, p79_1, p79_c1, p79_2, p79_c2, p79_3, p79_c3, hA.keep _ ⟨rfl, rfl, rfl, rfl, rfl, rfl, rfl, rfl, rfl, rfl, rfl, rfl, rfl, rfl, rfl, trivial⟩, (St.pickRL hS ⟨⟨0, rfl⟩, ⟨⟨1, rfl⟩, ⟨⟨2, rfl⟩, ⟨⟨3, rfl⟩, ⟨⟨4, rfl⟩, ⟨⟨5, rfl⟩, ⟨⟨6, rfl⟩, ⟨⟨7, rfl⟩, ⟨⟨8, rfl⟩, ⟨⟨9, rfl⟩, ⟨⟨10, rfl⟩, ⟨⟨11, rfl⟩, ⟨⟨12, rfl⟩, ⟨⟨13, rfl⟩, trivial⟩⟩⟩⟩⟩⟩⟩⟩⟩⟩⟩⟩⟩⟩ [1, 0, 2, 3, 4] rfl (by decide)), hs82.nil, hs82.cap, hs81.nil, hs81.cap, hs80.nil, hs80.cap, hs76.nil, hs76.cap, hs75.nil, hs75.cap, hs74.nil, hs74.cap⟩
   · refine op_new (vs := [.bool false, .slice none 0 0, .bool false, .slice none 0 0, .slice none 0 0]) (t := 62) hA hS 4 rfl rfl rfl rfl (fun g => .pointer (some ⟨g, 0, none⟩)) (does_alloc (z := .agg #[.bool false, .slice none 0 0, .bool false, .slice none 0 0, .slice none 0 0]) (by kernel_rfl) rfl) rfl ?_
     intro g97 w98 hS
     refine ⟨(hS.partD (.cons _ (.cons_cons _ (.cons_cons _ (.cons_cons _ .slnil)))) 3 rfl (.refl _)), ?_⟩
     intro a hA
     refine any_many (rs := [3, 5]) (by kernel_rfl) (by simp) ⟨?_, ?_, trivial⟩
     · refine op_call hA 3 rfl rfl rfl rfl (enters_func  rfl rfl (fun w => by kernel_rfl)) (zspread_any (show Nm _ (Q6.rat x y) u1 uc1 u2 uc2 u3 uc3 u4 uc4 from ⟨⟨(hS.rd 6 rfl), hb.s1.nil, hb.s1.cap⟩, ⟨(hS.rd 5 rfl), hb.s2.nil, hb.s2.cap⟩, ⟨(hS.rd 4 rfl), hb.s3.nil, hb.s3.cap⟩, ⟨(hS.rd 3 rfl), hb.s4.nil, hb.s4.cap⟩⟩) hx hy) ?_
       rintro _ w104 ⟨p99_1, p99_c1, p99_2, p99_c2, p99_3, p99_c3, rfl, hs100, hs101, hs102, hb103⟩
       replace hS := hS.call hb103
       replace hS := hS.addR hs100.rd
       replace hS := hS.addR hs101.rd
       replace hS := hS.addR hs102.rd
       refine ⟨_, rfl, (hS.partD (.cons _ (.cons_cons _ (.cons_cons _ (.cons_cons _ .slnil)))) 6 rfl (.refl _)), ?_⟩
       intro a hA
       refine any_one (by kernel_rfl) (op_new (vs := [.bool false, .slice none 0 0, .bool false, .slice none 0 0, .slice none 0 0]) (t := 62) hA hS 5 rfl rfl rfl rfl (fun g => .pointer (some ⟨g, 0, none⟩)) (does_alloc (z := .agg #[.bool false, .slice none 0 0, .bool false, .slice none 0 0, .slice none 0 0]) (by kernel_rfl) rfl) rfl ?_)
       intro g105 w106 hS
       refine ⟨(hS.partD (.cons _ (.cons _ (.cons_cons _ (.cons_cons _ (.cons_cons _ .slnil))))) 6 rfl (.refl _)), ?_⟩
       intro a hA
       refine any_one (by kernel_rfl) (op_store (us := [.bool ((rb (spX u v))), .slice p73_1 ((words (spX u v).natAbs).length) p73_c1, .bool ((rb (spY u v))), .slice p73_2 ((words (spY u v).natAbs).length) p73_c2, .slice p73_3 ((words (spD u v)).length) p73_c3]) hA hS 6 rfl rfl rfl (sets_store rfl rfl rfl (by kernel_rfl) hS 1 rfl rfl rfl) 1 rfl rfl rfl rfl ?_)
       intro w107 hS
       refine ⟨(hS.partD (.cons _ (.cons _ (.cons_cons _ (.cons_cons _ (.cons_cons _ .slnil))))) 6 rfl (.refl _)), ?_⟩
       refine any_one (by kernel_rfl) (op_store (us := [.bool ((rb (spX x y))), .slice p99_1 ((words (spX x y).natAbs).length) p99_c1, .bool ((rb (spY x y))), .slice p99_2 ((words (spY x y).natAbs).length) p99_c2, .slice p99_3 ((words (spD x y)).length) p99_c3]) hA hS 7 rfl rfl rfl (sets_store rfl rfl rfl (by kernel_rfl) hS 0 rfl rfl rfl) 0 rfl rfl rfl rfl ?_)
       intro w108 hS
       refine ⟨(hS.partD (.cons _ (.cons _ (.cons_cons _ (.cons_cons _ (.cons_cons _ .slnil))))) 6 rfl (.refl _)), ?_⟩
       refine any_end (by kernel_rfl) ?_
       refine hJ58 _ _ ⟨g97, g105, p73_1, p73_c1, p73_2, p73_c2, p73_3, p73_c3, p99_1, p99_c1, p99_2, p99_c2, p99_3, p99_c3, hA.keep _ ⟨rfl, rfl, rfl, rfl, rfl, rfl, rfl, rfl, rfl, rfl, rfl, rfl, rfl, rfl, rfl, trivial⟩, (St.pickRL hS ⟨⟨0, rfl⟩, ⟨⟨1, rfl⟩, ⟨⟨2, rfl⟩, ⟨⟨3, rfl⟩, ⟨⟨4, rfl⟩, ⟨⟨5, rfl⟩, ⟨⟨6, rfl⟩, ⟨⟨7, rfl⟩, ⟨⟨8, rfl⟩, ⟨⟨9, rfl⟩, ⟨⟨10, rfl⟩, ⟨⟨11, rfl⟩, ⟨⟨12, rfl⟩, ⟨⟨13, rfl⟩, trivial⟩⟩⟩⟩⟩⟩⟩⟩⟩⟩⟩⟩⟩⟩ [0, 1, 2, 3, 4] rfl (by decide)), hs102.nil, hs102.cap, hs101.nil, hs101.cap, hs100.nil, hs100.cap, hs76.nil, hs76.cap, hs75.nil, hs75.cap, hs74.nil, hs74.cap⟩
     · refine op_new (vs := [.bool false, .slice none 0 0, .bool false, .slice none 0 0, .slice none 0 0]) (t := 62) hA hS 5 rfl rfl rfl rfl (fun g => .pointer (some ⟨g, 0, none⟩)) (does_alloc (z := .agg #[.bool false, .slice none 0 0, .bool false, .slice none 0 0, .slice none 0 0]) (by kernel_rfl) rfl) rfl ?_
       intro g109 w110 hS
       refine ⟨(hS.partD (.cons _ (.cons _ (.cons_cons _ (.cons_cons _ (.cons_cons _ .slnil))))) 3 rfl (.refl _)), ?_⟩
       intro a hA
       refine any_one (by kernel_rfl) (op_call hA 3 rfl rfl rfl rfl (enters_func  rfl rfl (fun w => by kernel_rfl)) (zspread_any (show Nm _ (Q6.rat x y) u1 uc1 u2 uc2 u3 uc3 u4 uc4 from ⟨⟨(hS.rd 6 rfl), hb.s1.nil, hb.s1.cap⟩, ⟨(hS.rd 5 rfl), hb.s2.nil, hb.s2.cap⟩, ⟨(hS.rd 4 rfl), hb.s3.nil, hb.s3.cap⟩, ⟨(hS.rd 3 rfl), hb.s4.nil, hb.s4.cap⟩⟩) hx hy) ?_)
       rintro _ w116 ⟨p111_1, p111_c1, p111_2, p111_c2, p111_3, p111_c3, rfl, hs112, hs113, hs114, hb115⟩
       replace hS := hS.call hb115
       replace hS := hS.addR hs112.rd
       replace hS := hS.addR hs113.rd
       replace hS := hS.addR hs114.rd
       refine ⟨_, rfl, (hS.partD (.cons _ (.cons _ (.cons_cons _ (.cons_cons _ (.cons_cons _ .slnil))))) 6 rfl (.refl _)), ?_⟩
       intro a hA
       refine any_one (by kernel_rfl) (op_store (us := [.bool ((rb (spX u v))), .slice p73_1 ((words (spX u v).natAbs).length) p73_c1, .bool ((rb (spY u v))), .slice p73_2 ((words (spY u v).natAbs).length) p73_c2, .slice p73_3 ((words (spD u v)).length) p73_c3]) hA hS 6 rfl rfl rfl (sets_store rfl rfl rfl (by kernel_rfl) hS 1 rfl rfl rfl) 1 rfl rfl rfl rfl ?_)
       intro w117 hS
       refine ⟨(hS.partD (.cons _ (.cons _ (.cons_cons _ (.cons_cons _ (.cons_cons _ .slnil))))) 6 rfl (.refl _)), ?_⟩
       refine any_one (by kernel_rfl) (op_store (us := [.bool ((rb (spX x y))), .slice p111_1 ((words (spX x y).natAbs).length) p111_c1, .bool ((rb (spY x y))), .slice p111_2 ((words (spY x y).natAbs).length) p111_c2, .slice p111_3 ((words (spD x y)).length) p111_c3]) hA hS 7 rfl rfl rfl (sets_store rfl rfl rfl (by kernel_rfl) hS 0 rfl rfl rfl) 0 rfl rfl rfl rfl ?_)
       intro w118 hS
       refine ⟨(hS.partD (.cons _ (.cons _ (.cons_cons _ (.cons_cons _ (.cons_cons _ .slnil))))) 6 rfl (.refl _)), ?_⟩
       refine any_end (by kernel_rfl) ?_
       refine hJ58 _ _ ⟨g97, g109, p73_1, p73_c1, p73_2, p73_c2, p73_3, p73_c3, p111_1, p111_c1, p111_2, p111_c2, p111_3, p111_c3, hA.keep _ ⟨rfl, rfl, rfl, rfl, rfl, rfl, rfl, rfl, rfl, rfl, rfl, rfl, rfl, rfl, rfl, trivial⟩, (St.pickRL hS ⟨⟨0, rfl⟩, ⟨⟨1, rfl⟩, ⟨⟨2, rfl⟩, ⟨⟨3, rfl⟩, ⟨⟨4, rfl⟩, ⟨⟨5, rfl⟩, ⟨⟨6, rfl⟩, ⟨⟨7, rfl⟩, ⟨⟨8, rfl⟩, ⟨⟨9, rfl⟩, ⟨⟨10, rfl⟩, ⟨⟨11, rfl⟩, ⟨⟨12, rfl⟩, ⟨⟨13, rfl⟩, trivial⟩⟩⟩⟩⟩⟩⟩⟩⟩⟩⟩⟩⟩⟩ [0, 1, 2, 3, 4] rfl (by decide)), hs114.nil, hs114.cap, hs113.nil, hs113.cap, hs112.nil, hs112.cap, hs76.nil, hs76.cap, hs75.nil, hs75.cap, hs74.nil, hs74.cap⟩
   · refine op_new (vs := [.bool false, .slice none 0 0, .bool false, .slice none 0 0, .slice none 0 0]) (t := 62) hA hS 5 rfl rfl rfl rfl (fun g => .pointer (some ⟨g, 0, none⟩)) (does_alloc (z := .agg #[.bool false, .slice none 0 0, .bool false, .slice none 0 0, .slice none 0 0]) (by kernel_rfl) rfl) rfl ?_
     intro g119 w120 hS
     refine ⟨(hS.partD (.cons _ (.cons_cons _ (.cons_cons _ (.cons_cons _ .slnil)))) 3 rfl (.refl _)), ?_⟩
     intro a hA
     refine any_many (rs := [3, 4]) (by kernel_rfl) (by simp) ⟨?_, ?_, trivial⟩
     · refine op_call hA 3 rfl rfl rfl rfl (enters_func  rfl rfl (fun w => by kernel_rfl)) (zspread_any (show Nm _ (Q6.rat x y) u1 uc1 u2 uc2 u3 uc3 u4 uc4 from ⟨⟨(hS.rd 6 rfl), hb.s1.nil, hb.s1.cap⟩, ⟨(hS.rd 5 rfl), hb.s2.nil, hb.s2.cap⟩, ⟨(hS.rd 4 rfl), hb.s3.nil, hb.s3.cap⟩, ⟨(hS.rd 3 rfl), hb.s4.nil, hb.s4.cap⟩⟩) hx hy) ?_
       rintro _ w126 ⟨p121_1, p121_c1, p121_2, p121_c2, p121_3, p121_c3, rfl, hs122, hs123, hs124, hb125⟩
       replace hS := hS.call hb125
       replace hS := hS.addR hs122.rd
       replace hS := hS.addR hs123.rd
       replace hS := hS.addR hs124.rd
       refine ⟨_, rfl, (hS.partD (.cons _ (.cons_cons _ (.cons_cons _ (.cons_cons _ .slnil)))) 6 rfl (.refl _)), ?_⟩
       intro a hA
       refine any_one (by kernel_rfl) (op_new (vs := [.bool false, .slice none 0 0, .bool false, .slice none 0 0, .slice none 0 0]) (t := 62) hA hS 4 rfl rfl rfl rfl (fun g => .pointer (some ⟨g, 0, none⟩)) (does_alloc (z := .agg #[.bool false, .slice none 0 0, .bool false, .slice none 0 0, .slice none 0 0]) (by kernel_rfl) rfl) rfl ?_)
       intro g127 w128 hS
       refine ⟨(hS.partD (.cons _ (.cons _ (.cons_cons _ (.cons_cons _ (.cons_cons _ .slnil))))) 6 rfl (.refl _)), ?_⟩
       intro a hA
       refine any_one (by kernel_rfl) (op_store (us := [.bool ((rb (spX u v))), .slice p73_1 ((words (spX u v).natAbs).length) p73_c1, .bool ((rb (spY u v))), .slice p73_2 ((words (spY u v).natAbs).length) p73_c2, .slice p73_3 ((words (spD u v)).length) p73_c3]) hA hS 6 rfl rfl rfl (sets_store rfl rfl rfl (by kernel_rfl) hS 0 rfl rfl rfl) 0 rfl rfl rfl rfl ?_)
       intro w129 hS
       refine ⟨(hS.partD (.cons _ (.cons _ (.cons_cons _ (.cons_cons _ (.cons_cons _ .slnil))))) 6 rfl (.refl _)), ?_⟩
       refine any_one (by kernel_rfl) (op_store (us := [.bool ((rb (spX x y))), .slice p121_1 ((words (spX x y).natAbs).length) p121_c1, .bool ((rb (spY x y))), .slice p121_2 ((words (spY x y).natAbs).length) p121_c2, .slice p121_3 ((words (spD x y)).length) p121_c3]) hA hS 7 rfl rfl rfl (sets_store rfl rfl rfl (by kernel_rfl) hS 1 rfl rfl rfl) 1 rfl rfl rfl rfl ?_)
       intro w130 hS
       refine ⟨(hS.partD (.cons _ (.cons _ (.cons_cons _ (.cons_cons _ (.cons_cons _ .slnil))))) 6 rfl (.refl _)), ?_⟩
       refine any_end (by kernel_rfl) ?_
       refine hJ58 _ _ ⟨g127, g119, p73_1, p73_c1, p73_2, p73_c2, p73_3, p73_c3, p121_1, p121_c1, p121_2, p121_c2, p121_3, p121_c3, hA.keep _ ⟨rfl, rfl, rfl, rfl, rfl, rfl, rfl, rfl, rfl, rfl, rfl, rfl, rfl, rfl, rfl, trivial⟩, (St.pickRL hS ⟨⟨0, rfl⟩, ⟨⟨1, rfl⟩, ⟨⟨2, rfl⟩, ⟨⟨3, rfl⟩, ⟨⟨4, rfl⟩, ⟨⟨5, rfl⟩, ⟨⟨6, rfl⟩, ⟨⟨7, rfl⟩, ⟨⟨8, rfl⟩, ⟨⟨9, rfl⟩, ⟨⟨10, rfl⟩, ⟨⟨11, rfl⟩, ⟨⟨12, rfl⟩, ⟨⟨13, rfl⟩, trivial⟩⟩⟩⟩⟩⟩⟩⟩⟩⟩⟩⟩⟩⟩ [1, 0, 2, 3, 4] rfl (by decide)), hs124.nil, hs124.cap, hs123.nil, hs123.cap, hs122.nil, hs122.cap, hs76.nil, hs76.cap, hs75.nil, hs75.cap, hs74.nil, hs74.cap⟩
     · refine op_new (vs := [.bool false, .slice none 0 0, .bool false, .slice none 0 0, .slice none 0 0]) (t := 62) hA hS 4 rfl rfl rfl rfl (fun g => .pointer (some ⟨g, 0, none⟩)) (does_alloc (z := .agg #[.bool false, .slice none 0 0, .bool false, .slice none 0 0, .slice none 0 0]) (by kernel_rfl) rfl) rfl ?_
       intro g131 w132 hS
       refine ⟨(hS.partD (.cons _ (.cons _ (.cons_cons _ (.cons_cons _ (.cons_cons _ .slnil))))) 3 rfl (.refl _)), ?_⟩
       intro a hA
       refine any_one (by kernel_rfl) (op_call hA 3 rfl rfl rfl rfl (enters_func  rfl rfl (fun w => by kernel_rfl)) (zspread_any (show Nm _ (Q6.rat x y) u1 uc1 u2 uc2 u3 uc3 u4 uc4 from ⟨⟨(hS.rd 6 rfl), hb.s1.nil, hb.s1.cap⟩, ⟨(hS.rd 5 rfl), hb.s2.nil, hb.s2.cap⟩, ⟨(hS.rd 4 rfl), hb.s3.nil, hb.s3.cap⟩, ⟨(hS.rd 3 rfl), hb.s4.nil, hb.s4.cap⟩⟩) hx hy) ?_)
       rintro _ w138 ⟨p133_1, p133_c1, p133_2, p133_c2, p133_3, p133_c3, rfl, hs134, hs135, hs136, hb137⟩
       replace hS := hS.call hb137
       replace hS := hS.addR hs134.rd
       replace hS := hS.addR hs135.rd
       replace hS := hS.addR hs136.rd
       refine ⟨_, rfl, (hS.partD (.cons _ (.cons _ (.cons_cons _ (.cons_cons _ (.cons_cons _ .slnil))))) 6 rfl (.refl _)), ?_⟩
       intro a hA
       refine any_one (by kernel_rfl) (op_store (us := [.bool ((rb (spX u v))), .slice p73_1 ((words (spX u v).natAbs).length) p73_c1, .bool ((rb (spY u v))), .slice p73_2 ((words (spY u v).natAbs).length) p73_c2, .slice p73_3 ((words (spD u v)).length) p73_c3]) hA hS 6 rfl rfl rfl (sets_store rfl rfl rfl (by kernel_rfl) hS 0 rfl rfl rfl) 0 rfl rfl rfl rfl ?_)
       intro w139 hS
       refine ⟨(hS.partD (.cons _ (.cons _ (.cons_cons _ (.cons_cons _ (.cons_cons _ .slnil))))) 6 rfl (.refl _)), ?_⟩
       refine any_one (by kernel_rfl) (op_store (us := [.bool ((rb (spX x y))), .slice p133_1 ((words (spX x y).natAbs).length) p133_c1, .bool ((rb (spY x y))), .slice p133_2 ((words (spY x y).natAbs).length) p133_c2, .slice p133_3 ((words (spD x y)).length) p133_c3]) hA hS 7 rfl rfl rfl (sets_store rfl rfl rfl (by kernel_rfl) hS 1 rfl rfl rfl) 1 rfl rfl rfl rfl ?_)
       intro w140 hS
       refine ⟨(hS.partD (.cons _ (.cons _ (.cons_cons _ (.cons_cons _ (.cons_cons _ .slnil))))) 6 rfl (.refl _)), ?_⟩
       refine any_end (by kernel_rfl) ?_
       refine hJ58 _ _ ⟨g131, g119, p73_1, p73_c1, p73_2, p73_c2, p73_3, p73_c3, p133_1, p133_c1, p133_2, p133_c2, p133_3, p133_c3, hA.keep _ ⟨rfl, rfl, rfl, rfl, rfl, rfl, rfl, rfl, rfl, rfl, rfl, rfl, rfl, rfl, rfl, trivial⟩, (St.pickRL hS ⟨⟨0, rfl⟩, ⟨⟨1, rfl⟩, ⟨⟨2, rfl⟩, ⟨⟨3, rfl⟩, ⟨⟨4, rfl⟩, ⟨⟨5, rfl⟩, ⟨⟨6, rfl⟩, ⟨⟨7, rfl⟩, ⟨⟨8, rfl⟩, ⟨⟨9, rfl⟩, ⟨⟨10, rfl⟩, ⟨⟨11, rfl⟩, ⟨⟨12, rfl⟩, ⟨⟨13, rfl⟩, trivial⟩⟩⟩⟩⟩⟩⟩⟩⟩⟩⟩⟩⟩⟩ [1, 0, 2, 3, 4] rfl (by decide)), hs136.nil, hs136.cap, hs135.nil, hs135.cap, hs134.nil, hs134.cap, hs76.nil, hs76.cap, hs75.nil, hs75.cap, hs74.nil, hs74.cap⟩
 · refine op_new (vs := [.bool false, .slice none 0 0, .bool false, .slice none 0 0, .slice none 0 0]) (t := 62) hA hS 4 rfl rfl rfl rfl (fun g => .pointer (some ⟨g, 0, none⟩)) (does_alloc (z := .agg #[.bool false, .slice none 0 0, .bool false, .slice none 0 0, .slice none 0 0]) (by kernel_rfl) rfl) rfl ?_
   intro g141 w142 hS
   refine ⟨(hS.partD (.cons _ (.cons_cons _ (.cons_cons _ (.cons_cons _ .slnil)))) 0 rfl (.refl _)), ?_⟩
   intro a hA
   refine any_many (rs := [1, 5]) (by kernel_rfl) (by simp) ⟨?_, ?_, trivial⟩
   · refine op_call hA 1 rfl rfl rfl rfl (enters_func  rfl rfl (fun w => by kernel_rfl)) (zspread_any (show Nm _ (Q6.rat u v) a1 ac1 a2 ac2 a3 ac3 a4 ac4 from ⟨⟨(hS.rd 7 rfl), ha.s1.nil, ha.s1.cap⟩, ⟨(hS.rd 6 rfl), ha.s2.nil, ha.s2.cap⟩, ⟨(hS.rd 5 rfl), ha.s3.nil, ha.s3.cap⟩, ⟨(hS.rd 4 rfl), ha.s4.nil, ha.s4.cap⟩⟩) hu hv) ?_
     rintro _ w148 ⟨p143_1, p143_c1, p143_2, p143_c2, p143_3, p143_c3, rfl, hs144, hs145, hs146, hb147⟩
     replace hS := hS.call hb147
     replace hS := hS.addR hs144.rd
     replace hS := hS.addR hs145.rd
     replace hS := hS.addR hs146.rd
     refine ⟨_, rfl, (hS.partD (.cons _ (.cons_cons _ (.cons_cons _ (.cons_cons _ .slnil)))) 3 rfl (.refl _)), ?_⟩
     intro a hA
     refine any_many (rs := [3, 5]) (by kernel_rfl) (by simp) ⟨?_, ?_, trivial⟩
     · refine op_call hA 3 rfl rfl rfl rfl (enters_func  rfl rfl (fun w => by kernel_rfl)) (zspread_any (show Nm _ (Q6.rat x y) u1 uc1 u2 uc2 u3 uc3 u4 uc4 from ⟨⟨(hS.rd 6 rfl), hb.s1.nil, hb.s1.cap⟩, ⟨(hS.rd 5 rfl), hb.s2.nil, hb.s2.cap⟩, ⟨(hS.rd 4 rfl), hb.s3.nil, hb.s3.cap⟩, ⟨(hS.rd 3 rfl), hb.s4.nil, hb.s4.cap⟩⟩) hx hy) ?_
       rintro _ w154 ⟨p149_1, p149_c1, p149_2, p149_c2, p149_3, p149_c3, rfl, hs150, hs151, hs152, hb153⟩
       replace hS := hS.call hb153
       replace hS := hS.addR hs150.rd
       replace hS := hS.addR hs151.rd
       replace hS := hS.addR hs152.rd
       refine ⟨_, rfl, (hS.partD (.cons _ (.cons_cons _ (.cons_cons _ (.cons_cons _ .slnil)))) 6 rfl (.refl _)), ?_⟩
       intro a hA
       refine any_one (by kernel_rfl) (op_new (vs := [.bool false, .slice none 0 0, .bool false, .slice none 0 0, .slice none 0 0]) (t := 62) hA hS 5 rfl rfl rfl rfl (fun g => .pointer (some ⟨g, 0, none⟩)) (does_alloc (z := .agg #[.bool false, .slice none 0 0, .bool false, .slice none 0 0, .slice none 0 0]) (by kernel_rfl) rfl) rfl ?_)
       intro g155 w156 hS
       refine ⟨(hS.partD (.cons _ (.cons _ (.cons_cons _ (.cons_cons _ (.cons_cons _ .slnil))))) 6 rfl (.refl _)), ?_⟩
       intro a hA
       refine any_one (by kernel_rfl) (op_store (us := [.bool ((rb (spX u v))), .slice p143_1 ((words (spX u v).natAbs).length) p143_c1, .bool ((rb (spY u v))), .slice p143_2 ((words (spY u v).natAbs).length) p143_c2, .slice p143_3 ((words (spD u v)).length) p143_c3]) hA hS 6 rfl rfl rfl (sets_store rfl rfl rfl (by kernel_rfl) hS 1 rfl rfl rfl) 1 rfl rfl rfl rfl ?_)
       intro w157 hS
       refine ⟨(hS.partD (.cons _ (.cons _ (.cons_cons _ (.cons_cons _ (.cons_cons _ .slnil))))) 6 rfl (.refl _)), ?_⟩
       refine any_one (by kernel_rfl) (op_store (us := [.bool ((rb (spX x y))), .slice p149_1 ((words (spX x y).natAbs).length) p149_c1, .bool ((rb (spY x y))), .slice p149_2 ((words (spY x y).natAbs).length) p149_c2, .slice p149_3 ((words (spD x y)).length) p149_c3]) hA hS 7 rfl rfl rfl (sets_store rfl rfl rfl (by kernel_rfl) hS 0 rfl rfl rfl) 0 rfl rfl rfl rfl ?_)
       intro w158 hS
       refine ⟨(hS.partD (.cons _ (.cons _ (.cons_cons _ (.cons_cons _ (.cons_cons _ .slnil))))) 6 rfl (.refl _)), ?_⟩
       refine any_end (by kernel_rfl) ?_
       refine hJ58 _ _ ⟨g141, g155, p143_1, p143_c1, p143_2, p143_c2, p143_3, p143_c3, p149_1, p149_c1, p149_2, p149_c2, p149_3, p149_c3, hA.keep _ ⟨rfl, rfl, rfl, rfl, rfl, rfl, rfl, rfl, rfl, rfl, rfl, rfl, rfl, rfl, rfl, trivial⟩, (St.pickRL hS ⟨⟨0, rfl⟩, ⟨⟨1, rfl⟩, ⟨⟨2, rfl⟩, ⟨⟨3, rfl⟩, ⟨⟨4, rfl⟩, ⟨⟨5, rfl⟩, ⟨⟨6, rfl⟩, ⟨⟨7, rfl⟩, ⟨⟨8, rfl⟩, ⟨⟨9, rfl⟩, ⟨⟨10, rfl⟩, ⟨⟨11, rfl⟩, ⟨⟨12, rfl⟩, ⟨⟨13, rfl⟩, trivial⟩⟩⟩⟩⟩⟩⟩⟩⟩⟩⟩⟩⟩⟩ [0, 1, 2, 3, 4] rfl (by decide)), hs152.nil, hs152.cap, hs151.nil, hs151.cap, hs150.nil, hs150.cap, hs146.nil, hs146.cap, hs145.nil, hs145.cap, hs144.nil, hs144.cap⟩
     · refine op_new (vs := [.bool false, .slice none 0 0, .bool false, .slice none 0 0, .slice none 0 0]) (t := 62) hA hS 5 rfl rfl rfl rfl (fun g => .pointer (some ⟨g, 0, none⟩)) (does_alloc (z := .agg #[.bool false, .slice none 0 0, .bool false, .slice none 0 0, .slice none 0 0]) (by kernel_rfl) rfl) rfl ?_
       intro g159 w160 hS
       refine ⟨(hS.partD (.cons _ (.cons _ (.cons_cons _ (.cons_cons _ (.cons_cons _ .slnil))))) 3 rfl (.refl _)), ?_⟩
       intro a hA
       refine any_one (by kernel_rfl) (op_call hA 3 rfl rfl rfl rfl (enters_func  rfl rfl (fun w => by kernel_rfl)) (zspread_any (show Nm _ (Q6.rat x y) u1 uc1 u2 uc2 u3 uc3 u4 uc4 from ⟨⟨(hS.rd 6 rfl), hb.s1.nil, hb.s1.cap⟩, ⟨(hS.rd 5 rfl), hb.s2.nil, hb.s2.cap⟩, ⟨(hS.rd 4 rfl), hb.s3.nil, hb.s3.cap⟩, ⟨(hS.rd 3 rfl), hb.s4.nil, hb.s4.cap⟩⟩) hx hy) ?_)
       rintro _ w166 ⟨p161_1, p161_c1, p161_2, p161_c2, p161_3, p161_c3, rfl, hs162, hs163, hs164, hb165⟩
       replace hS := hS.call hb165
       replace hS := hS.addR hs162.rd
       replace hS := hS.addR hs163.rd
       replace hS := hS.addR hs164.rd
       refine ⟨_, rfl, (hS.partD (.cons _ (.cons _ (.cons_cons _ (.cons_cons _ (.cons_cons _ .slnil))))) 6 rfl (.refl _)), ?_⟩
       intro a hA
       refine any_one (by kernel_rfl) (op_store (us := [.bool ((rb (spX u v))), .slice p143_1 ((words (spX u v).natAbs).length) p143_c1, .bool ((rb (spY u v))), .slice p143_2 ((words (spY u v).natAbs).length) p143_c2, .slice p143_3 ((words (spD u v)).length) p143_c3]) hA hS 6 rfl rfl rfl (sets_store rfl rfl rfl (by kernel_rfl) hS 1 rfl rfl rfl) 1 rfl rfl rfl rfl ?_)
       intro w167 hS
       refine ⟨(hS.partD (.cons _ (.cons _ (.cons_cons _ (.cons_cons _ (.cons_cons _ .slnil))))) 6 rfl (.refl _)), ?_⟩
       refine any_one (by kernel_rfl) (op_store (us := [.bool ((rb (spX x y))), .slice p161_1 ((words (spX x y).natAbs).length) p161_c1, .bool ((rb (spY x y))), .slice p161_2 ((words (spY x y).natAbs).length) p161_c2, .slice p161_3 ((words (spD x y)).length) p161_c3]) hA hS 7 rfl rfl rfl (sets_store rfl rfl rfl (by kernel_rfl) hS 0 rfl rfl rfl) 0 rfl rfl rfl rfl ?_)
       intro w168 hS
       refine ⟨(hS.partD (.cons _ (.cons _ (.cons_cons _ (.cons_cons _ (.cons_cons _ .slnil))))) 6 rfl (.refl _)), ?_⟩
       refine any_end (by kernel_rfl) ?_
       refine hJ58 _ _ ⟨g141, g159, p143_1, p143_c1, p143_2, p143_c2, p143_3, p143_c3, p161_1, p161_c1, p161_2, p161_c2, p161_3, p161_c3, hA.keep _ ⟨rfl, rfl, rfl, rfl, rfl, rfl, rfl, rfl, rfl, rfl, rfl, rfl, rfl, rfl, rfl, trivial⟩, (St.pickRL hS ⟨⟨0, rfl⟩, ⟨⟨1, rfl⟩, ⟨⟨2, rfl⟩, ⟨⟨3, rfl⟩, ⟨⟨4, rfl⟩, ⟨⟨5, rfl⟩, ⟨⟨6, rfl⟩, ⟨⟨7, rfl⟩, ⟨⟨8, rfl⟩, ⟨⟨9, rfl⟩, ⟨⟨10, rfl⟩, ⟨⟨11, rfl⟩, ⟨⟨12, rfl⟩, ⟨⟨13, rfl⟩, trivial⟩⟩⟩⟩⟩⟩⟩⟩⟩⟩⟩⟩⟩⟩ [0, 1, 2, 3, 4] rfl (by decide)), hs164.nil, hs164.cap, hs163.nil, hs163.cap, hs162.nil, hs162.cap, hs146.nil, hs146.cap, hs145.nil, hs145.cap, hs144.nil, hs144.cap⟩
   · refine op_new (vs := [.bool false, .slice none 0 0, .bool false, .slice none 0 0, .slice none 0 0]) (t := 62) hA hS 5 rfl rfl rfl rfl (fun g => .pointer (some ⟨g, 0, none⟩)) (does_alloc (z := .agg #[.bool false, .slice none 0 0, .bool false, .slice none 0 0, .slice none 0 0]) (by kernel_rfl) rfl) rfl ?_
     intro g169 w170 hS
     refine ⟨(hS.partD (.cons _ (.cons _ (.cons_cons _ (.cons_cons _ (.cons_cons _ .slnil))))) 0 rfl (.refl _)), ?_⟩
     intro a hA
     refine any_one (by kernel_rfl) (op_call hA 1 rfl rfl rfl rfl (enters_func  rfl rfl (fun w => by kernel_rfl)) (zspread_any (show Nm _ (Q6.rat u v) a1 ac1 a2 ac2 a3 ac3 a4 ac4 from ⟨⟨(hS.rd 7 rfl), ha.s1.nil, ha.s1.cap⟩, ⟨(hS.rd 6 rfl), ha.s2.nil, ha.s2.cap⟩, ⟨(hS.rd 5 rfl), ha.s3.nil, ha.s3.cap⟩, ⟨(hS.rd 4 rfl), ha.s4.nil, ha.s4.cap⟩⟩) hu hv) ?_)
     rintro _ w176 ⟨p171_1, p171_c1, p171_2, p171_c2, p171_3, p171_c3, rfl, hs172, hs173, hs174, hb175⟩
     replace hS := hS.call hb175
     replace hS := hS.addR hs172.rd
     replace hS := hS.addR hs173.rd
     replace hS := hS.addR hs174.rd
     refine ⟨_, rfl, (hS.partD (.cons _ (.cons _ (.cons_cons _ (.cons_cons _ (.cons_cons _ .slnil))))) 3 rfl (.refl _)), ?_⟩
     intro a hA
     refine any_one (by kernel_rfl) (op_call hA 3 rfl rfl rfl rfl (enters_func  rfl rfl (fun w => by kernel_rfl)) (zspread_any (show Nm _ (Q6.rat x y) u1 uc1 u2 uc2 u3 uc3 u4 uc4 from ⟨⟨(hS.rd 6 rfl), hb.s1.nil, hb.s1.cap⟩, ⟨(hS.rd 5 rfl), hb.s2.nil, hb.s2.cap⟩, ⟨(hS.rd 4 rfl), hb.s3.nil, hb.s3.cap⟩, ⟨(hS.rd 3 rfl), hb.s4.nil, hb.s4.cap⟩⟩) hx hy) ?_)
     rintro _ w182 ⟨p177_1, p177_c1, p177_2, p177_c2, p177_3, p177_c3, rfl, hs178, hs179, hs180, hb181⟩
     replace hS := hS.call hb181
     replace hS := hS.addR hs178.rd
     replace hS := hS.addR hs179.rd
     replace hS := hS.addR hs180.rd
     refine ⟨_, rfl, (hS.partD (.cons _ (.cons _ (.cons_cons _ (.cons_cons _ (.cons_cons _ .slnil))))) 6 rfl (.refl _)), ?_⟩
     intro a hA
     refine any_one (by kernel_rfl) (op_store (us := [.bool ((rb (spX u v))), .slice p171_1 ((words (spX u v).natAbs).length) p171_c1, .bool ((rb (spY u v))), .slice p171_2 ((words (spY u v).natAbs).length) p171_c2, .slice p171_3 ((words (spD u v)).length) p171_c3]) hA hS 6 rfl rfl rfl (sets_store rfl rfl rfl (by kernel_rfl) hS 1 rfl rfl rfl) 1 rfl rfl rfl rfl ?_)
     intro w183 hS
     refine ⟨(hS.partD (.cons _ (.cons _ (.cons_cons _ (.cons_cons _ (.cons_cons _ .slnil))))) 6 rfl (.refl _)), ?_⟩
     refine any_one (by kernel_rfl) (op_store (us := [.bool ((rb (spX x y))), .slice p177_1 ((words (spX x y).natAbs).length) p177_c1, .bool ((rb (spY x y))), .slice p177_2 ((words (spY x y).natAbs).length) p177_c2, .slice p177_3 ((words (spD x y)).length) p177_c3]) hA hS 7 rfl rfl rfl (sets_store rfl rfl rfl (by kernel_rfl) hS 0 rfl rfl rfl) 0 rfl rfl rfl rfl ?_)
     intro w184 hS
     refine ⟨(hS.partD (.cons _ (.cons _ (.cons_cons _ (.cons_cons _ (.cons_cons _ .slnil))))) 6 rfl (.refl _)), ?_⟩
     refine any_end (by kernel_rfl) ?_
     refine hJ58 _ _ ⟨g141, g169, p171_1, p171_c1, p171_2, p171_c2, p171_3, p171_c3, p177_1, p177_c1, p177_2, p177_c2, p177_3, p177_c3, hA.keep _ ⟨rfl, rfl, rfl, rfl, rfl, rfl, rfl, rfl, rfl, rfl, rfl, rfl, rfl, rfl, rfl, trivial⟩, (St.pickRL hS ⟨⟨0, rfl⟩, ⟨⟨1, rfl⟩, ⟨⟨2, rfl⟩, ⟨⟨3, rfl⟩, ⟨⟨4, rfl⟩, ⟨⟨5, rfl⟩, ⟨⟨6, rfl⟩, ⟨⟨7, rfl⟩, ⟨⟨8, rfl⟩, ⟨⟨9, rfl⟩, ⟨⟨10, rfl⟩, ⟨⟨11, rfl⟩, ⟨⟨12, rfl⟩, ⟨⟨13, rfl⟩, trivial⟩⟩⟩⟩⟩⟩⟩⟩⟩⟩⟩⟩⟩⟩ [0, 1, 2, 3, 4] rfl (by decide)), hs180.nil, hs180.cap, hs179.nil, hs179.cap, hs178.nil, hs178.cap, hs174.nil, hs174.cap, hs173.nil, hs173.cap, hs172.nil, hs172.cap⟩
 · refine op_new (vs := [.bool false, .slice none 0 0, .bool false, .slice none 0 0, .slice none 0 0]) (t := 62) hA hS 5 rfl rfl rfl rfl (fun g => .pointer (some ⟨g, 0, none⟩)) (does_alloc (z := .agg #[.bool false, .slice none 0 0, .bool false, .slice none 0 0, .slice none 0 0]) (by kernel_rfl) rfl) rfl ?_
   intro g185 w186 hS
   refine ⟨(hS.partD (.cons _ (.cons_cons _ (.cons_cons _ (.cons_cons _ .slnil)))) 0 rfl (.refl _)), ?_⟩
   intro a hA
   refine any_many (rs := [1, 4]) (by kernel_rfl) (by simp) ⟨?_, ?_, trivial⟩
   · refine op_call hA 1 rfl rfl rfl rfl (enters_func  rfl rfl (fun w => by kernel_rfl)) (zspread_any (show Nm _ (Q6.rat u v) a1 ac1 a2 ac2 a3 ac3 a4 ac4 from ⟨⟨(hS.rd 7 rfl), ha.s1.nil, ha.s1.cap⟩, ⟨(hS.rd 6 rfl), ha.s2.nil, ha.s2.cap⟩, ⟨(hS.rd 5 rfl), ha.s3.nil, ha.s3.cap⟩, ⟨(hS.rd 4 rfl), ha.s4.nil, ha.s4.cap⟩⟩) hu hv) ?_
     rintro _ w192 ⟨p187_1, p187_c1, p187_2, p187_c2, p187_3, p187_c3, rfl, hs188, hs189, hs190, hb191⟩
     replace hS := hS.call hb191
     replace hS := hS.addR hs188.rd
     replace hS := hS.addR hs189.rd
     replace hS := hS.addR hs190.rd
     refine ⟨_, rfl, (hS.partD (.cons _ (.cons_cons _ (.cons_cons _ (.cons_cons _ .slnil)))) 3 rfl (.refl _)), ?_⟩
     intro a hA
     refine any_many (rs := [3, 4]) (by kernel_rfl) (by simp) ⟨?_, ?_, trivial⟩
     · refine op_call hA 3 rfl rfl rfl rfl (enters_func  rfl rfl (fun w => by kernel_rfl)) (zspread_any (show Nm _ (Q6.rat x y) u1 uc1 u2 uc2 u3 uc3 u4 uc4 from ⟨⟨(hS.rd 6 rfl), hb.s1.nil, hb.s1.cap⟩, ⟨(hS.rd 5 rfl), hb.s2.nil, hb.s2.cap⟩, ⟨(hS.rd 4 rfl), hb.s3.nil, hb.s3.cap⟩, ⟨(hS.rd 3 rfl), hb.s4.nil, hb.s4.cap⟩⟩) hx hy) ?_
       rintro _ w198 ⟨p193_1, p193_c1, p193_2, p193_c2, p193_3, p193_c3, rfl, hs194, hs195, hs196, hb197⟩
       replace hS := hS.call hb197
       replace hS := hS.addR hs194.rd
       replace hS := hS.addR hs195.rd
       replace hS := hS.addR hs196.rd
       refine ⟨_, rfl, (hS.partD (.cons _ (.cons_cons _ (.cons_cons _ (.cons_cons _ .slnil)))) 6 rfl (.refl _)), ?_⟩
       intro a hA
       refine any_one (by kernel_rfl) (op_new (vs := [.bool false, .slice none 0 0, .bool false, .slice none 0 0, .slice none 0 0]) (t := 62) hA hS 4 rfl rfl rfl rfl (fun g => .pointer (some ⟨g, 0, none⟩)) (does_alloc (z := .agg #[.bool false, .slice none 0 0, .bool false, .slice none 0 0, .slice none 0 0]) (by kernel_rfl) rfl) rfl ?_)
       intro g199 w200 hS
       refine ⟨(hS.partD (.cons _ (.cons _ (.cons_cons _ (.cons_cons _ (.cons_cons _ .slnil))))) 6 rfl (.refl _)), ?_⟩
       intro a hA
       refine any_one (by kernel_rfl) (op_store (us := [.bool ((rb (spX u v))), .slice p187_1 ((words (spX u v).natAbs).length) p187_c1, .bool ((rb (spY u v))), .slice p187_2 ((words (spY u v).natAbs).length) p187_c2, .slice p187_3 ((words (spD u v)).length) p187_c3]) hA hS 6 rfl rfl rfl (sets_store rfl rfl rfl (by kernel_rfl) hS 0 rfl rfl rfl) 0 rfl rfl rfl rfl ?_)
       intro w201 hS
       refine ⟨(hS.partD (.cons _ (.cons _ (.cons_cons _ (.cons_cons _ (.cons_cons _ .slnil))))) 6 rfl (.refl _)), ?_⟩
       refine any_one (by kernel_rfl) (op_store (us := [.bool ((rb (spX x y))), .slice p193_1 ((words (spX x y).natAbs).length) p193_c1, .bool ((rb (spY x y))), .slice p193_2 ((words (spY x y).natAbs).length) p193_c2, .slice p193_3 ((words (spD x y)).length) p193_c3]) hA hS 7 rfl rfl rfl (sets_store rfl rfl rfl (by kernel_rfl) hS 1 rfl rfl rfl) 1 rfl rfl rfl rfl ?_)
       intro w202 hS
       refine ⟨(hS.partD (.cons _ (.cons _ (.cons_cons _ (.cons_cons _ (.cons_cons _ .slnil))))) 6 rfl (.refl _)), ?_⟩
       refine any_end (by kernel_rfl) ?_
       refine hJ58 _ _ ⟨g199, g185, p187_1, p187_c1, p187_2, p187_c2, p187_3, p187_c3, p193_1, p193_c1, p193_2, p193_c2, p193_3, p193_c3, hA.keep _ ⟨rfl, rfl, rfl, rfl, rfl, rfl, rfl, rfl, rfl, rfl, rfl, rfl, rfl, rfl, rfl, trivial⟩, (St.pickRL hS ⟨⟨0, rfl⟩, ⟨⟨1, rfl⟩, ⟨⟨2, rfl⟩, ⟨⟨3, rfl⟩, ⟨⟨4, rfl⟩, ⟨⟨5, rfl⟩, ⟨⟨6, rfl⟩, ⟨⟨7, rfl⟩, ⟨⟨8, rfl⟩, ⟨⟨9, rfl⟩, ⟨⟨10, rfl⟩, ⟨⟨11, rfl⟩, ⟨⟨12, rfl⟩, ⟨⟨13, rfl⟩, trivial⟩⟩⟩⟩⟩⟩⟩⟩⟩⟩⟩⟩⟩⟩ [1, 0, 2, 3, 4] rfl (by decide)), hs196.nil, hs196.cap, hs195.nil, hs195.cap, hs194.nil, hs194.cap, hs190.nil, hs190.cap, hs189.nil, hs189.cap, hs188.nil, hs188.cap⟩
     · refine op_new (vs := [.bool false, .slice none 0 0, .bool false, .slice none 0 0, .slice none 0 0]) (t := 62) hA hS 4 rfl rfl rfl rfl (fun g => .pointer (some ⟨g, 0, none⟩)) (does_alloc (z := .agg #[.bool false, .slice none 0 0, .bool false, .slice none 0 0, .slice none 0 0]) (by kernel_rfl) rfl) rfl ?_
       intro g203 w204 hS
       refine ⟨(hS.partD (.cons _ (.cons _ (.cons_cons _ (.cons_cons _ (.cons_cons _ .slnil))))) 3 rfl (.refl _)), ?_⟩
       intro a hA
       refine any_one (by kernel_rfl) (op_call hA 3 rfl rfl rfl rfl (enters_func  rfl rfl (fun w => by kernel_rfl)) (zspread_any (show Nm _ (Q6.rat x y) u1 uc1 u2 uc2 u3 uc3 u4 uc4 from ⟨⟨(hS.rd 6 rfl), hb.s1.nil, hb.s1.cap⟩, ⟨(hS.rd 5 rfl), hb.s2.nil, hb.s2.cap⟩, ⟨(hS.rd 4 rfl), hb.s3.nil, hb.s3.cap⟩, ⟨(hS.rd 3 rfl), hb.s4.nil, hb.s4.cap⟩⟩) hx hy) ?_)
       rintro _ w210 ⟨p205_1, p205_c1, p205_2, p205_c2, p205_3, p205_c3, rfl, hs206, hs207, hs208, hb209⟩
       replace hS := hS.call hb209
       replace hS := hS.addR hs206.rd
       replace hS := hS.addR hs207.rd
       replace hS := hS.addR hs208.rd
       refine ⟨_, rfl, (hS.partD (.cons _ (.cons _ (.cons_cons _ (.cons_cons _ (.cons_cons _ .slnil))))) 6 rfl (.refl _)), ?_⟩
       intro a hA
       refine any_one (by kernel_rfl) (op_store (us := [.bool ((rb (spX u v))), .slice p187_1 ((words (spX u v).natAbs).length) p187_c1, .bool ((rb (spY u v))), .slice p187_2 ((words (spY u v).natAbs).length) p187_c2, .slice p187_3 ((words (spD u v)).length) p187_c3]) hA hS 6 rfl rfl rfl (sets_store rfl rfl rfl (by kernel_rfl) hS 0 rfl rfl rfl) 0 rfl rfl rfl rfl ?_)
       intro w211 hS
       refine ⟨(hS.partD (.cons _ (.cons _ (.cons_cons _ (.cons_cons _ (.cons_cons _ .slnil))))) 6 rfl (.refl _)), ?_⟩
       refine any_one (by kernel_rfl) (op_store (us := [.bool ((rb (spX x y))), .slice p205_1 ((words (spX x y).natAbs).length) p205_c1, .bool ((rb (spY x y))), .slice p205_2 ((words (spY x y).natAbs).length) p205_c2, .slice p205_3 ((words (spD x y)).length) p205_c3]) hA hS 7 rfl rfl rfl (sets_store rfl rfl rfl (by kernel_rfl) hS 1 rfl rfl rfl) 1 rfl rfl rfl rfl ?_)
       intro w212 hS
       refine ⟨(hS.partD (.cons _ (.cons _ (.cons_cons _ (.cons_cons _ (.cons_cons _ .slnil))))) 6 rfl (.refl _)), ?_⟩
       refine any_end (by kernel_rfl) ?_
       refine hJ58 _ _ ⟨g203, g185, p187_1, p187_c1, p187_2, p187_c2, p187_3, p187_c3, p205_1, p205_c1, p205_2, p205_c2, p205_3, p205_c3, hA.keep _ ⟨rfl, rfl, rfl, rfl, rfl, rfl, rfl, rfl, rfl, rfl, rfl, rfl, rfl, rfl, rfl, trivial⟩, (St.pickRL hS ⟨⟨0, rfl⟩, ⟨⟨1, rfl⟩, ⟨⟨2, rfl⟩, ⟨⟨3, rfl⟩, ⟨⟨4, rfl⟩, ⟨⟨5, rfl⟩, ⟨⟨6, rfl⟩, ⟨⟨7, rfl⟩, ⟨⟨8, rfl⟩, ⟨⟨9, rfl⟩, ⟨⟨10, rfl⟩, ⟨⟨11, rfl⟩, ⟨⟨12, rfl⟩, ⟨⟨13, rfl⟩, trivial⟩⟩⟩⟩⟩⟩⟩⟩⟩⟩⟩⟩⟩⟩ [1, 0, 2, 3, 4] rfl (by decide)), hs208.nil, hs208.cap, hs207.nil, hs207.cap, hs206.nil, hs206.cap, hs190.nil, hs190.cap, hs189.nil, hs189.cap, hs188.nil, hs188.cap⟩
   · refine op_new (vs := [.bool false, .slice none 0 0, .bool false, .slice none 0 0, .slice none 0 0]) (t := 62) hA hS 4 rfl rfl rfl rfl (fun g => .pointer (some ⟨g, 0, none⟩)) (does_alloc (z := .agg #[.bool false, .slice none 0 0, .bool false, .slice none 0 0, .slice none 0 0]) (by kernel_rfl) rfl) rfl ?_
     intro g213 w214 hS
     refine ⟨(hS.partD (.cons _ (.cons _ (.cons_cons _ (.cons_cons _ (.cons_cons _ .slnil))))) 0 rfl (.refl _)), ?_⟩
     intro a hA
     refine any_one (by kernel_rfl) (op_call hA 1 rfl rfl rfl rfl (enters_func  rfl rfl (fun w => by kernel_rfl)) (zspread_any (show Nm _ (Q6.rat u v) a1 ac1 a2 ac2 a3 ac3 a4 ac4 from ⟨⟨(hS.rd 7 rfl), ha.s1.nil, ha.s1.cap⟩, ⟨(hS.rd 6 rfl), ha.s2.nil, ha.s2.cap⟩, ⟨(hS.rd 5 rfl), ha.s3.nil, ha.s3.cap⟩, ⟨(hS.rd 4 rfl), ha.s4.nil, ha.s4.cap⟩⟩) hu hv) ?_)
     rintro _ w220 ⟨p215_1, p215_c1, p215_2, p215_c2, p215_3, p215_c3, rfl, hs216, hs217, hs218, hb219⟩
     replace hS := hS.call hb219
     replace hS := hS.addR hs216.rd
     replace hS := hS.addR hs217.rd
     replace hS := hS.addR hs218.rd
     refine ⟨_, rfl, (hS.partD (.cons _ (.cons _ (.cons_cons _ (.cons_cons _ (.cons_cons _ .slnil))))) 3 rfl (.refl _)), ?_⟩
     intro a hA
     refine any_one (by kernel_rfl) (op_call hA 3 rfl rfl rfl rfl (enters_func  rfl rfl (fun w => by kernel_rfl)) (zspread_any (show Nm _ (Q6.rat x y) u1 uc1 u2 uc2 u3 uc3 u4 uc4 from ⟨⟨(hS.rd 6 rfl), hb.s1.nil, hb.s1.cap⟩, ⟨(hS.rd 5 rfl), hb.s2.nil, hb.s2.cap⟩, ⟨(hS.rd 4 rfl), hb.s3.nil, hb.s3.cap⟩, ⟨(hS.rd 3 rfl), hb.s4.nil, hb.s4.cap⟩⟩) hx hy) ?_)
     rintro _ w226 ⟨p221_1, p221_c1, p221_2, p221_c2, p221_3, p221_c3, rfl, hs222, hs223, hs224, hb225⟩
     replace hS := hS.call hb225
     replace hS := hS.addR hs222.rd
     replace hS := hS.addR hs223.rd
     replace hS := hS.addR hs224.rd
     refine ⟨_, rfl, (hS.partD (.cons _ (.cons _ (.cons_cons _ (.cons_cons _ (.cons_cons _ .slnil))))) 6 rfl (.refl _)), ?_⟩
     intro a hA
     refine any_one (by kernel_rfl) (op_store (us := [.bool ((rb (spX u v))), .slice p215_1 ((words (spX u v).natAbs).length) p215_c1, .bool ((rb (spY u v))), .slice p215_2 ((words (spY u v).natAbs).length) p215_c2, .slice p215_3 ((words (spD u v)).length) p215_c3]) hA hS 6 rfl rfl rfl (sets_store rfl rfl rfl (by kernel_rfl) hS 0 rfl rfl rfl) 0 rfl rfl rfl rfl ?_)
     intro w227 hS
     refine ⟨(hS.partD (.cons _ (.cons _ (.cons_cons _ (.cons_cons _ (.cons_cons _ .slnil))))) 6 rfl (.refl _)), ?_⟩
     refine any_one (by kernel_rfl) (op_store (us := [.bool ((rb (spX x y))), .slice p221_1 ((words (spX x y).natAbs).length) p221_c1, .bool ((rb (spY x y))), .slice p221_2 ((words (spY x y).natAbs).length) p221_c2, .slice p221_3 ((words (spD x y)).length) p221_c3]) hA hS 7 rfl rfl rfl (sets_store rfl rfl rfl (by kernel_rfl) hS 1 rfl rfl rfl) 1 rfl rfl rfl rfl ?_)
     intro w228 hS
     refine ⟨(hS.partD (.cons _ (.cons _ (.cons_cons _ (.cons_cons _ (.cons_cons _ .slnil))))) 6 rfl (.refl _)), ?_⟩
     refine any_end (by kernel_rfl) ?_
     refine hJ58 _ _ ⟨g213, g185, p215_1, p215_c1, p215_2, p215_c2, p215_3, p215_c3, p221_1, p221_c1, p221_2, p221_c2, p221_3, p221_c3, hA.keep _ ⟨rfl, rfl, rfl, rfl, rfl, rfl, rfl, rfl, rfl, rfl, rfl, rfl, rfl, rfl, rfl, trivial⟩, (St.pickRL hS ⟨⟨0, rfl⟩, ⟨⟨1, rfl⟩, ⟨⟨2, rfl⟩, ⟨⟨3, rfl⟩, ⟨⟨4, rfl⟩, ⟨⟨5, rfl⟩, ⟨⟨6, rfl⟩, ⟨⟨7, rfl⟩, ⟨⟨8, rfl⟩, ⟨⟨9, rfl⟩, ⟨⟨10, rfl⟩, ⟨⟨11, rfl⟩, ⟨⟨12, rfl⟩, ⟨⟨13, rfl⟩, trivial⟩⟩⟩⟩⟩⟩⟩⟩⟩⟩⟩⟩⟩⟩ [1, 0, 2, 3, 4] rfl (by decide)), hs224.nil, hs224.cap, hs223.nil, hs223.cap, hs222.nil, hs222.cap, hs218.nil, hs218.cap, hs217.nil, hs217.cap, hs216.nil, hs216.cap⟩
theorem cmpQ_any {w : World} {p q : Q6} {a1 a2 a3 a4 : Option Addr} {ac1 ac2 ac3 ac4 : Nat} (ha : Nm w p a1 ac1 a2 ac2 a3 ac3 a4 ac4) (hl : LenQ p) {u1 u2 u3 u4 : Option Addr} {uc1 uc2 uc3 uc4 : Nat} (hb : Nm w q u1 uc1 u2 uc2 u3 uc3 u4 uc4) (hm : LenQ q) : Calls Tryd.prog 13 #[numV p a1 ac1 a2 ac2 a3 ac3 a4 ac4, numV q u1 uc1 u2 uc2 u3 uc3 u4 uc4] w fun e w' => e = .returned (.tuple #[.int .i64 (cmpQ p q).1, .int .i64 (cmpQ p q).2]) ∧ Below w.heap.size w w' := by
  unfold cmpQ
  by_cases hw : wantR2 p q = 0
  · rw [if_pos hw]
    obtain ⟨s1, s2⟩ := wantR2_ok hw
    obtain ⟨u, v, rfl, hu, hv⟩ := sound_rat ha.s1.rd.dig ha.s2.rd.dig ha.s3.rd.dig ha.s4.rd.dig s1
    obtain ⟨x, y, rfl, hx, hy⟩ := sound_rat hb.s1.rd.dig hb.s2.rd.dig hb.s3.rd.dig hb.s4.rd.dig s2
    rw [reQ_rat, reQ_rat]
    exact cmpW_any ha hb hu hv hx hy hw
  · rw [if_neg hw]
    exact cmpE_any ha hl hb hm (bne_of hw)
end Go.Proofs.YtbajcflbimmnhaaDoor
namespace Go.Proofs.YtbajcflbimmnhaaDoor
open Go.RowKit
set_option linter.unusedVariables false
set_option linter.unusedSimpArgs false
set_option maxRecDepth 100000

end Go.Proofs.YtbajcflbimmnhaaDoor
namespace Go.Proofs.YtbajcflbimmnhaaDoor
open Go.RowKit
set_option linter.unusedVariables false
set_option linter.unusedSimpArgs false
set_option maxRecDepth 100000


end Go.Proofs.YtbajcflbimmnhaaDoor
namespace Go.Proofs.YtbajcflbimmnhaaDoor
open Go.RowKit
set_option linter.unusedVariables false
set_option linter.unusedSimpArgs false
end Go.Proofs.YtbajcflbimmnhaaDoor
namespace Go.Proofs.YtbajcflbimmnhaaDoor
open Go.RowKit
set_option linter.unusedVariables false
set_option linter.unusedSimpArgs false
set_option maxRecDepth 100000


end Go.Proofs.YtbajcflbimmnhaaDoor
namespace Go.Proofs.YtbajcflbimmnhaaDoor
open Go.RowKit
set_option linter.unusedVariables false
set_option linter.unusedSimpArgs false
end Go.Proofs.YtbajcflbimmnhaaDoor
namespace Go.Proofs.YtbajcflbimmnhaaDoor
open Go.RowKit
set_option linter.unusedVariables false
set_option linter.unusedSimpArgs false
set_option maxRecDepth 100000


end Go.Proofs.YtbajcflbimmnhaaDoor
namespace Go.Proofs.YtbajcflbimmnhaaDoor
open Go.RowKit
set_option linter.unusedVariables false
set_option linter.unusedSimpArgs false
/-- The powers of u + v i. -/
def pwR (u v : Rat) : Nat → Rat × Rat
  | 0 => (1, 0)
  | n + 1 => ((pwR u v n).1 * u - (pwR u v n).2 * v, (pwR u v n).1 * v + (pwR u v n).2 * u)
def fitB (z : Rat × Rat) : Bool := decide (fitR z.1 ∧ fitR z.2)
/-- None of the powers from 1 on is too long. -/
def pwB (u v : Rat) : Nat → Bool
  | 0 => true
  | n + 1 => pwB u v n && fitB (pwR u v (n + 1))
def ivR (z : Rat × Rat) : Rat × Rat := (z.1 / (z.1 * z.1 + z.2 * z.2), -z.2 / (z.1 * z.1 + z.2 * z.2))
def exptQ (q : Q6) (n : Int) : Q6 × Int :=
  if soundQ q = true then
    if n < -1024 ∨ 1024 < n then (Q6.zero, 1)
    else if n = 0 then (Q6.whole false 1, 0)
    else if n < 0 ∧ (reQ q = 0 ∧ imQ q = 0) then (Q6.zero, 3)
    else if pwB (reQ q) (imQ q) n.natAbs = true then
      (if n < 0 then ratS (ivR (pwR (reQ q) (imQ q) n.natAbs)).1 (ivR (pwR (reQ q) (imQ q) n.natAbs)).2 else ratS (pwR (reQ q) (imQ q) n.natAbs).1 (pwR (reQ q) (imQ q) n.natAbs).2)
    else (Q6.zero, 4)
  else (Q6.zero, 2)
theorem pwR_one (u v : Rat) : pwR u v 1 = (u, v) := by
  show (1 * u - 0 * v, 1 * v + 0 * u) = (u, v)
  rw [Rat.one_mul, Rat.zero_mul, Rat.one_mul, Rat.zero_mul, Rat.add_zero]
  congr 1
  grind
theorem sq_ne {u v : Rat} (h : ¬ (u = 0 ∧ v = 0)) : u * u + v * v ≠ 0 := (iv_mk (spD_ne u v) (sp_ne h) (spX_mk u v) (spY_mk u v)).2.2
theorem sq_zero {u v : Rat} (h : u * u + v * v ≠ 0) : ¬ (u = 0 ∧ v = 0) := by
  rintro ⟨rfl, rfl⟩
  exact h (by decide +kernel)
theorem pwR_ne {u v : Rat} (h : ¬ (u = 0 ∧ v = 0)) (n : Nat) : ¬ ((pwR u v n).1 = 0 ∧ (pwR u v n).2 = 0) := by
  induction n with
  | zero => rintro ⟨h1, _⟩; exact absurd h1 (by show ¬ (1 : Rat) = 0; decide +kernel)
  | succ n ih =>
    have h1 := sq_ne h
    have h2 := sq_ne ih
    apply sq_zero
    show ((pwR u v n).1 * u - (pwR u v n).2 * v) * ((pwR u v n).1 * u - (pwR u v n).2 * v) + ((pwR u v n).1 * v + (pwR u v n).2 * u) * ((pwR u v n).1 * v + (pwR u v n).2 * u) ≠ 0
    generalize (pwR u v n).1 = a at *
    generalize (pwR u v n).2 = b at *
    have e : (a * u - b * v) * (a * u - b * v) + (a * v + b * u) * (a * v + b * u) = (a * a + b * b) * (u * u + v * v) := by grind
    rw [e]
    exact fun k => (Rat.mul_eq_zero.1 k).elim h2 h1
theorem pwB_fit {u v : Rat} {n : Nat} (h : pwB u v n = true) : ∀ k, k ≤ n → fitR (pwR u v k).1 ∧ fitR (pwR u v k).2 := by
  induction n with
  | zero =>
    intro k hk
    obtain rfl : k = 0 := by omega
    refine ⟨?_, fitR_zero⟩
    show fitR 1
    unfold fitR
    rw [show (1 : Rat).num.natAbs = 1 from rfl, show (1 : Rat).den = 1 from rfl]
    exact ⟨one_len, one_len⟩
  | succ n ih =>
    rw [pwB, Bool.and_eq_true] at h
    intro k hk
    by_cases e : k = n + 1
    · rw [e]
      have := h.2
      unfold fitB at this
      exact of_decide_eq_true this
    · exact ih h.1 k (by omega)
theorem pwB_step {u v : Rat} {n : Nat} (h : pwB u v n = true) (h1 : fitR (pwR u v (n + 1)).1) (h2 : fitR (pwR u v (n + 1)).2) : pwB u v (n + 1) = true := by
  rw [pwB, h, Bool.true_and]
  unfold fitB
  exact decide_eq_true ⟨h1, h2⟩
theorem pwB_stop {u v : Rat} {n k : Nat} (hk : k ≤ n) (h : ¬ (fitR (pwR u v k).1 ∧ fitR (pwR u v k).2)) : pwB u v n = false := by
  cases e : pwB u v n with
  | false => rfl
  | true => exact absurd (pwB_fit e k hk) h
theorem exptQ_neg {u v : Rat} (hu : fitR u) (hv : fitR v) {n : Nat} (h0 : n ≠ 0) (hn : n ≤ 1024) (hz : ¬ (u = 0 ∧ v = 0)) :
    exptQ (Q6.rat u v) (-(n : Int)) = (if pwB u v n = true then ratS (ivR (pwR u v n)).1 (ivR (pwR u v n)).2 else (Q6.zero, 4)) := by
  unfold exptQ
  rw [if_pos (soundQ_rat hu hv), if_neg (by omega), if_neg (by omega), reQ_rat, imQ_rat, if_neg (fun k => hz k.2), Int.natAbs_neg, Int.natAbs_natCast, if_pos (show -(n : Int) < 0 by omega)]
/-- A step of the powers, over one bottom. -/
theorem pw_step {u v : Rat} {X Y x y : Int} {D d n : Nat} (hD : D ≠ 0) (hd : d ≠ 0) (h1 : mkRat X D = (pwR u v n).1) (h2 : mkRat Y D = (pwR u v n).2) (hu : mkRat x d = u) (hv : mkRat y d = v) :
    mkRat (X * x + -(Y * y)) (D * d) = (pwR u v (n + 1)).1 ∧ mkRat (X * y + Y * x) (D * d) = (pwR u v (n + 1)).2 := by
  show _ = (pwR u v n).1 * u - (pwR u v n).2 * v ∧ _ = (pwR u v n).1 * v + (pwR u v n).2 * u
  have h := Nat.mul_ne_zero hD hd
  rw [← h1, ← h2, ← hu, ← hv, Rat.sub_eq_add_neg, Rat.mkRat_mul_mkRat, Rat.mkRat_mul_mkRat, Rat.mkRat_mul_mkRat, Rat.mkRat_mul_mkRat, Rat.neg_mkRat, mk_add h, mk_add h]
  exact ⟨rfl, rfl⟩
theorem fit_mk {x : Int} {d : Nat} (hd : d ≠ 0) (h1 : (words x.natAbs).length ≤ 512) (h2 : (words d).length ≤ 512) {u : Rat} (hu : mkRat x d = u) : fitR u := by
  subst hu
  unfold fitR
  rw [← rt_mk x hd, ← rq_mk x hd]
  exact ⟨div_len h1, div_len h2⟩
/-- A power over one bottom and an error's number are answered. -/
def PwOut (u v : Rat) (n : Nat) (X Y : Int) (D : Nat) : Prop := D ≠ 0 ∧ mkRat X D = (pwR u v n).1 ∧ mkRat Y D = (pwR u v n).2 ∧ (words X.natAbs).length ≤ 1024 ∧ (words Y.natAbs).length ≤ 1024 ∧ (words D).length ≤ 1024
def AnsPw (w : World) (u v : Rat) (n : Nat) (e : Ending) (w' : World) : Prop :=
  (pwB u v n = true ∧ ∃ X Y D, PwOut u v n X Y D ∧ ∃ o1 c1 o2 c2 o3 c3, e = .returned (.tuple #[.agg #[.bool (rb X), .slice o1 (words X.natAbs).length c1, .bool (rb Y), .slice o2 (words Y.natAbs).length c2, .slice o3 (words D).length c3], .int .i64 0]) ∧ Sc w' o1 c1 (words X.natAbs) ∧ Sc w' o2 c2 (words Y.natAbs) ∧ Sc w' o3 c3 (words D) ∧ Below w.heap.size w w') ∨
  (pwB u v n = false ∧ e = .returned (.tuple #[.agg #[.bool false, .slice none 0 0, .bool false, .slice none 0 0, .slice none 0 0], .int .i64 4]) ∧ Below w.heap.size w w')
theorem run_maxI {P : Program} {ts : Array TypeId} {ty : TypeId} {x y z : Int} (h : (if y > x then y else x) = z) : ∀ w cs, (builtin .max ts ty cs #[.int .i64 x, .int .i64 y]).run P w = .ok (.value (.int .i64 z)) w := fun w cs => by
  rw [BigFrame.builtin_max]
  simp only [Builtin.max_, List.foldlM_cons, List.foldlM_nil, Builtin.max2, Sem.run_bind, Sem.run_pure, Result.andThen_ok, h]
theorem mk_ne {X Y : Int} {D : Nat} {z : Rat × Rat} (hX : mkRat X D = z.1) (hY : mkRat Y D = z.2) (h : ¬ (z.1 = 0 ∧ z.2 = 0)) : X ≠ 0 ∨ Y ≠ 0 := by
  apply Classical.byContradiction
  intro k
  have h1 : X = 0 := Classical.byContradiction fun c => k (.inl c)
  have h2 : Y = 0 := Classical.byContradiction fun c => k (.inr c)
  rw [h1, Rat.zero_mkRat] at hX
  rw [h2, Rat.zero_mkRat] at hY
  exact h ⟨hX.symm, hY.symm⟩
theorem set_iv {X Y : Int} {D : Nat} {z : Rat × Rat} (hD : D ≠ 0) (hX : mkRat X D = z.1) (hY : mkRat Y D = z.2) (h : X ≠ 0 ∨ Y ≠ 0) : setQ (ivX X Y D) (ivY X Y D) (ivD X Y) = ratS (ivR z).1 (ivR z).2 := by
  obtain ⟨a, b, _⟩ := iv_mk hD h hX hY
  rw [setQ_rat _ _ (ivD_ne h), a, b]
  rfl
theorem exptQ_pos {u v : Rat} (hu : fitR u) (hv : fitR v) {N : Nat} (h1 : 1 ≤ N) (h2 : N ≤ 1024) : exptQ (Q6.rat u v) ((N : Nat) : Int) = (if pwB u v N = true then ratS (pwR u v N).1 (pwR u v N).2 else (Q6.zero, 4)) := by
  unfold exptQ
  rw [if_pos (soundQ_rat hu hv), if_neg (by omega), if_neg (by omega), if_neg (by omega), reQ_rat, imQ_rat, Int.natAbs_natCast, if_neg (show ¬ ((N : Nat) : Int) < 0 by omega)]
theorem exptQ_bad {q : Q6} {n : Int} (h : soundQ q = false) : exptQ q n = (Q6.zero, 2) := if_neg (by rw [h]; decide)
theorem exptQ_arg {u v : Rat} (hu : fitR u) (hv : fitR v) {n : Int} (h : n < -1024 ∨ 1024 < n) : exptQ (Q6.rat u v) n = (Q6.zero, 1) := by
  unfold exptQ
  rw [if_pos (soundQ_rat hu hv), if_pos h]
theorem exptQ_0 {u v : Rat} (hu : fitR u) (hv : fitR v) : exptQ (Q6.rat u v) 0 = (Q6.whole false 1, 0) := by
  unfold exptQ
  rw [if_pos (soundQ_rat hu hv), if_neg (by omega), if_pos rfl]
theorem exptQ_z {u v : Rat} (hu : fitR u) (hv : fitR v) {N : Nat} (h1 : 1 ≤ N) (h2 : N ≤ 1024) (hz : u = 0 ∧ v = 0) : exptQ (Q6.rat u v) (-((N : Nat) : Int)) = (Q6.zero, 3) := by
  unfold exptQ
  rw [if_pos (soundQ_rat hu hv), if_neg (by omega), if_neg (by omega), if_pos ⟨by omega, by rw [reQ_rat, imQ_rat]; exact hz⟩]
section
variable {P : Program} {md : Region.Mode} {ops : List Oper} {Q : Exit → Act → World → Prop} {S : World → Prop} {fuel : Nat} {listed : Array Bool} {a : Act} {w w' : World} {n : Nat} {l : List (Nat × Value)} {o : Oper} {v : Value}
end
section
variable {P : Program} {t : TypeId} {a b : Operand}
end
/-- What a slice's room says. -/
def Ncap (o : Option Addr) (c : Nat) (l : List Nat) : Prop := (o = none → c = 0) ∧ l.length ≤ c
theorem Sc.ncap {w : World} {o : Option Addr} {c : Nat} {l : List Nat} (h : Sc w o c l) : Ncap o c l := ⟨h.nil, h.cap⟩
theorem soundB_any {w : World} {ao : Option Addr} {n : Nat} (cap : Nat) (h : Rd w ao (words n)) (hn : (words n).length ≤ 9223372036854775807) {r : Bool} (hr : decide ((words n).length ≤ 512) = r) :
    Calls Tryd.prog 56 #[.slice ao (words n).length cap] w fun e w' => e = .returned (.bool r) ∧ w' = w := by
  subst hr
  rw [← sound_len]
  exact sound_any cap h hn
theorem set_pw {X Y : Int} {D : Nat} {z : Rat × Rat} (hD : D ≠ 0) (h1 : mkRat X D = z.1) (h2 : mkRat Y D = z.2) : setQ X Y D = ratS z.1 z.2 := by rw [setQ_rat _ _ hD, h1, h2]
theorem fitB_ok {z : Rat × Rat} (h : fitB z = true) : fitR z.1 ∧ fitR z.2 := of_decide_eq_true h
theorem fitB_no {z : Rat × Rat} (h : fitB z = false) : ¬ (fitR z.1 ∧ fitR z.2) := of_decide_eq_false h
theorem ratS_no {u v : Rat} (h : ¬ (fitR u ∧ fitR v)) : ratS u v = (Q6.zero, 4) := if_neg h
theorem pwOut_first {u v : Rat} {x y : Int} {d : Nat} (hd : d ≠ 0) (hu : mkRat x d = u) (hv : mkRat y d = v) (l1 : (words x.natAbs).length ≤ 1024) (l2 : (words y.natAbs).length ≤ 1024) (l3 : (words d).length ≤ 1024) : PwOut u v (0 + 1) x y d := by
  refine ⟨hd, ?_, ?_, l1, l2, l3⟩
  · rw [hu, show 0 + 1 = 1 from rfl, pwR_one]
  · rw [hv, show 0 + 1 = 1 from rfl, pwR_one]
theorem pwB_first {u v : Rat} (hu : fitR u) (hv : fitR v) : pwB u v (0 + 1) = true := pwB_step (n := 0) rfl (by rw [show 0 + 1 = 1 from rfl, pwR_one]; exact hu) (by rw [show 0 + 1 = 1 from rfl, pwR_one]; exact hv)
end Go.Proofs.YtbajcflbimmnhaaDoor
namespace Go.Proofs.YtbajcflbimmnhaaDoor
open Go.RowKit
set_option linter.unusedVariables false
set_option linter.unusedSimpArgs false
set_option maxRecDepth 100000
theorem ExU_is1_23 : Is1 Tryd.prog 23 := ⟨⟨_, Tryd.underlying23, rfl⟩, by kernel_rfl⟩
theorem ExU_fld_60_1 : FieldAt Tryd.prog 60 1 1 := ⟨_, _, Tryd.underlying60, rfl, rfl, by kernel_rfl⟩
theorem ExU_fld_62_0 : FieldAt Tryd.prog 62 0 0 := ⟨_, _, Tryd.underlying62, rfl, rfl, by kernel_rfl⟩
theorem ExU_fld_62_1 : FieldAt Tryd.prog 62 1 2 := ⟨_, _, Tryd.underlying62, rfl, rfl, by kernel_rfl⟩
theorem ExU_fld_62_2 : FieldAt Tryd.prog 62 2 4 := ⟨_, _, Tryd.underlying62, rfl, rfl, by kernel_rfl⟩
theorem ExU_isS_27 : IsS Tryd.prog 27 6 := ⟨⟨_, Tryd.underlying27⟩, by kernel_rfl⟩
theorem ExU_isS_62 : IsS Tryd.prog 62 5 := ⟨⟨_, Tryd.underlying62⟩, by kernel_rfl⟩
set_option maxHeartbeats 1000000 in
theorem zpower_any {w : World} {x y : Int} {d n : Nat} {a1 a2 a3 : Option Addr} {ac1 ac2 ac3 : Nat} (ha1 : Sc w a1 ac1 (words x.natAbs)) (ha2 : Sc w a2 ac2 (words y.natAbs)) (ha3 : Sc w a3 ac3 (words d)) (l1 : (words x.natAbs).length ≤ 1024) (l2 : (words y.natAbs).length ≤ 1024) (l3 : (words d).length ≤ 1024) (hd : d ≠ 0) {u v : Rat} (hu : mkRat x d = u) (hv : mkRat y d = v) (fu : fitR u) (fv : fitR v) (hn1 : 1 ≤ n) (hn2 : n ≤ 1024) : Calls Tryd.prog 31 #[.agg #[.bool (rb x), .slice a1 (words x.natAbs).length ac1, .bool (rb y), .slice a2 (words y.natAbs).length ac2, .slice a3 (words d).length ac3], .int .i64 ((n : Nat) : Int)] w (AnsPw w u v n) := by
 have hS : St w w [] [(a3, words d), (a2, words y.natAbs), (a1, words x.natAbs)] [] := (((St.start w).addR ha1.rd).addR ha2.rd).addR ha3.rd
 refine walk_of (l := [(0, .agg #[.bool ((rb x)), .slice a1 ((words x.natAbs).length) ac1, .bool ((rb y)), .slice a2 ((words y.natAbs).length) ac2, .slice a3 ((words d).length) ac3]), (1, .int .i64 (((n : Nat) : Int)))]) Tryd.func31 rfl Tryd.ntmps31 rfl rfl ?_
 intro Q hret hnorm hP a hA
 refine wp_seq_k (fun K1 hK1 => ?_)
 refine wp_region_lit ?_
 refine seq_new hA hS rfl rfl rfl (fun g => .pointer (some ⟨g, 0, none⟩)) (does_box rfl rfl) rfl ?_
 intro g2 w3 hS a hA
 refine seq_new (vs := [.bool false, .slice none 0 0, .bool false, .slice none 0 0, .slice none 0 0]) (t := 62) hA hS rfl rfl rfl (fun g => .pointer (some ⟨g, 0, none⟩)) (does_alloc (z := .agg #[.bool false, .slice none 0 0, .bool false, .slice none 0 0, .slice none 0 0]) (by kernel_rfl) rfl) rfl ?_
 intro g4 w5 hS a hA
 refine seq_do hA rfl rfl rfl (does_assign rfl) ?_
 intro a hA
 refine seq_end ?_
 refine hK1 _ _ ?_
 refine wp_seq_k (fun K6 hK6 => ?_)
 refine wp_region_lit ?_
 refine seq_do hA rfl rfl rfl (does_loadS hS ExU_isS_62 rfl 1 rfl (cs := [.bool ((rb x)), .slice a1 ((words x.natAbs).length) ac1, .bool ((rb y)), .slice a2 ((words y.natAbs).length) ac2, .slice a3 ((words d).length) ac3]) rfl rfl) ?_
 intro a hA
 refine seq_new (vs := [.bool false, .slice none 0 0, .bool false, .slice none 0 0, .slice none 0 0]) (t := 62) hA hS rfl rfl rfl (fun g => .pointer (some ⟨g, 0, none⟩)) (does_alloc (z := .agg #[.bool false, .slice none 0 0, .bool false, .slice none 0 0, .slice none 0 0]) (by kernel_rfl) rfl) rfl ?_
 intro g7 w8 hS a hA
 refine seq_store (us := [.bool ((rb x)), .slice a1 ((words x.natAbs).length) ac1, .bool ((rb y)), .slice a2 ((words y.natAbs).length) ac2, .slice a3 ((words d).length) ac3]) hA hS rfl rfl (sets_store rfl rfl rfl (by kernel_rfl) hS 0 rfl rfl rfl) 0 rfl rfl rfl rfl ?_
 intro w9 hS
 refine seq_end ?_
 refine hK6 _ _ ?_
 refine wp_seq_k (fun K10 hK10 => ?_)
 refine wp_seq_k (fun K11 hK11 => ?_)
 refine wp_region_lit ?_
 refine seq_do hA rfl rfl rfl (does_move rfl) ?_
 intro a hA
 refine seq_do (v := .int .i64 (((n - 1 : Nat) : Int))) hA rfl rfl rfl (does_bin rfl rfl (fun w => (bin_sub (i64In (by omega) (by omega)) w).trans (by rw [show (((n : Nat) : Int) - 1 : Int) = ((n - 1 : Nat) : Int) from by omega]))) ?_
 intro a hA
 refine seq_do hA rfl rfl rfl (does_move rfl) ?_
 intro a hA
 refine seq_end ?_
 refine hK11 _ _ ?_
 refine wp_block ?_
 refine wp_loop_n (fun m a w1 => ∃ (i : Nat) (X : Int) (Y : Int) (D : Nat) (po1 : Option Addr) (poc1 : Nat) (po2 : Option Addr) (poc2 : Nat) (po3 : Option Addr) (poc3 : Nat), m = n - 1 - i ∧ (i + 1 ≤ n ∧ pwB u v (i + 1) = true ∧ PwOut u v (i + 1) X Y D ∧ Ncap po1 poc1 (words X.natAbs) ∧ Ncap po2 poc2 (words Y.natAbs) ∧ Ncap po3 poc3 (words D)) ∧ Sl a 45 [(0, .agg #[.bool ((rb x)), .slice a1 ((words x.natAbs).length) ac1, .bool ((rb y)), .slice a2 ((words y.natAbs).length) ac2, .slice a3 ((words d).length) ac3]), (1, .int .i64 (((n : Nat) : Int))), (2, .pointer (some ⟨g2, 0, none⟩)), (4, .pointer (some ⟨g4, 0, none⟩)), (6, .pointer (some ⟨g7, 0, none⟩)), (9, .agg #[.bool ((rb x)), .slice a1 ((words x.natAbs).length) ac1, .bool ((rb y)), .slice a2 ((words y.natAbs).length) ac2, .slice a3 ((words d).length) ac3]), (10, .int .i64 (((n : Nat) : Int))), (11, .int .i64 (((n - 1 : Nat) : Int))), (12, .int .i64 (((i : Nat) : Int)))] ∧ St w w1 [(g7, [.bool ((rb X)), .slice po1 ((words X.natAbs).length) poc1, .bool ((rb Y)), .slice po2 ((words Y.natAbs).length) poc2, .slice po3 ((words D).length) poc3]), (g4, [.bool false, .slice none 0 0, .bool false, .slice none 0 0, .slice none 0 0]), (g2, [.bool ((rb x)), .slice a1 ((words x.natAbs).length) ac1, .bool ((rb y)), .slice a2 ((words y.natAbs).length) ac2, .slice a3 ((words d).length) ac3])] [(po1, words X.natAbs), (po2, words Y.natAbs), (po3, words D), (a3, words d), (a2, words y.natAbs), (a1, words x.natAbs)] []) _ ⟨0, x, y, d, a1, ac1, a2, ac2, a3, ac3, rfl, ⟨hn1, pwB_first fu fv, pwOut_first hd hu hv l1 l2 l3, ha1.ncap, ha2.ncap, ha3.ncap⟩, hA.keep _ ⟨rfl, rfl, rfl, rfl, rfl, rfl, rfl, rfl, rfl, trivial⟩, ((hS.pickR [(a1, words x.natAbs), (a2, words y.natAbs), (a3, words d), (a3, words d), (a2, words y.natAbs), (a1, words x.natAbs)] ⟨⟨2, rfl⟩, ⟨⟨1, rfl⟩, ⟨⟨0, rfl⟩, ⟨⟨0, rfl⟩, ⟨⟨1, rfl⟩, ⟨⟨2, rfl⟩, trivial⟩⟩⟩⟩⟩⟩).subL _ (.refl _))⟩ ?_
 clear hS hA
 rintro m a w12 ⟨i, X, Y, D, po1, poc1, po2, poc2, po3, poc3, rfl, hinv14, hA, hS⟩ K13 hK13
 obtain ⟨hi9, hB9, ⟨hD9, hX9, hY9, lX9, lY9, lD9⟩, kn1, kn2, kn3⟩ := hinv14
 have hS9 := pw_step hD9 hd hX9 hY9 hu hv
 have q1 := abs_mul_len lX9 l1
 have q2 := abs_mul_len lY9 l2
 have q3 := abs_mul_len lX9 l2
 have q4 := abs_mul_len lY9 l1
 have q5 := abs_add_len q1 (neg_len q2)
 have q6 := abs_add_len q3 q4
 have q7 := words_mul_length lD9 l3
 refine wp_seq_k (fun K15 hK15 => ?_)
 refine wp_region_lit ?_
 rcases Bool.eq_false_or_eq_true (decide (((i : Nat) : Int) < ((n - 1 : Nat) : Int))) with hb16 | hb16
 · have hb16' := of_decide_eq_true hb16
   refine seq_do (v := .bool true) hA rfl rfl rfl (does_bin rfl rfl (fun w => (bin_lss w).trans (by rw [hb16]))) ?_
   intro a hA
   refine seq_end ?_
   refine hK15 _ _ ?_
   refine wp_seq_k (fun K17 hK17 => ?_)
   refine wp_cond_true (hA.ev rfl) ?_
   refine wp_skip ?_
   refine hK17 _ _ ?_
   refine wp_seq_k (fun K18 hK18 => ?_)
   refine wp_block ?_
   refine wp_seq_k (fun K19 hK19 => ?_)
   refine wp_region_lit ?_
   refine seq_do hA rfl rfl rfl (does_loadS hS ExU_isS_62 rfl 0 rfl (cs := [.bool ((rb X)), .slice po1 ((words X.natAbs).length) poc1, .bool ((rb Y)), .slice po2 ((words Y.natAbs).length) poc2, .slice po3 ((words D).length) poc3]) rfl rfl) ?_
   intro a hA
   refine seq_do hA rfl rfl rfl (does_loadS hS ExU_isS_62 rfl 2 rfl (cs := [.bool ((rb x)), .slice a1 ((words x.natAbs).length) ac1, .bool ((rb y)), .slice a2 ((words y.natAbs).length) ac2, .slice a3 ((words d).length) ac3]) rfl rfl) ?_
   intro a hA
   refine seq_call hA rfl rfl rfl (enters_func  rfl rfl (fun w => by kernel_rfl)) (zproduct_any ⟨(hS.rd 0 rfl), kn1.1, kn1.2⟩ ⟨(hS.rd 1 rfl), kn2.1, kn2.2⟩ ⟨(hS.rd 2 rfl), kn3.1, kn3.2⟩ ⟨(hS.rd 5 rfl), ha1.nil, ha1.cap⟩ ⟨(hS.rd 4 rfl), ha2.nil, ha2.cap⟩ ⟨(hS.rd 3 rfl), ha3.nil, ha3.cap⟩ (by omega) (by omega) (by omega) (by omega) (by omega) (by omega)) ?_
   rintro _ w25 ⟨p20_1, p20_c1, p20_2, p20_c2, p20_3, p20_c3, rfl, hs21, hs22, hs23, hb24⟩
   replace hS := hS.call hb24
   replace hS := hS.addR hs21.rd
   replace hS := hS.addR hs22.rd
   replace hS := hS.addR hs23.rd
   refine ⟨_, rfl, ?_⟩
   intro a hA
   refine seq_store (us := [.bool ((rb (X * x + -(Y * y)))), .slice p20_1 ((words (X * x + -(Y * y)).natAbs).length) p20_c1, .bool ((rb (X * y + Y * x))), .slice p20_2 ((words (X * y + Y * x).natAbs).length) p20_c2, .slice p20_3 ((words (D * d)).length) p20_c3]) hA hS rfl rfl (sets_store rfl rfl rfl (by kernel_rfl) hS 0 rfl rfl rfl) 0 rfl rfl rfl rfl ?_
   intro w26 hS
   refine seq_end ?_
   refine hK19 _ _ ?_
   refine wp_seq_k (fun K27 hK27 => ?_)
   refine wp_seq_k (fun K28 hK28 => ?_)
   refine wp_region_lit ?_
   refine seq_do (v := .pointer (some ⟨g7, 0, none⟩)) hA rfl rfl rfl (does_field ExU_fld_62_0 rfl rfl) ?_
   intro a hA
   refine seq_do (v := .pointer (some ⟨g7, 1, none⟩)) hA rfl rfl rfl (does_field ExU_fld_60_1 rfl rfl) ?_
   intro a hA
   refine seq_do hA rfl rfl rfl (does_load1 hS ExU_is1_23 rfl 0 rfl rfl) ?_
   intro a hA
   rcases Bool.eq_false_or_eq_true (decide ((words (X * x + -(Y * y)).natAbs).length ≤ 512)) with hb29 | hb29
   · have hb29' := of_decide_eq_true hb29
     refine seq_call hA rfl rfl rfl (enters_func  rfl rfl (fun w => by kernel_rfl)) (soundB_any _ (hS.rd 2 rfl) (by omega) hb29) ?_
     rintro _ w31 ⟨rfl, hb30⟩
     replace hb30 := below_eq hb30
     replace hS := hS.call hb30
     refine ⟨_, rfl, ?_⟩
     intro a hA
     refine seq_do hA rfl rfl rfl (does_move rfl) ?_
     intro a hA
     refine seq_do (v := .pointer (some ⟨g7, 2, none⟩)) hA rfl rfl rfl (does_field ExU_fld_62_1 rfl rfl) ?_
     intro a hA
     refine seq_do (v := .pointer (some ⟨g7, 3, none⟩)) hA rfl rfl rfl (does_field ExU_fld_60_1 rfl rfl) ?_
     intro a hA
     refine seq_do hA rfl rfl rfl (does_load1 hS ExU_is1_23 rfl 0 rfl rfl) ?_
     intro a hA
     rcases Bool.eq_false_or_eq_true (decide ((words (X * y + Y * x).natAbs).length ≤ 512)) with hb32 | hb32
     · have hb32' := of_decide_eq_true hb32
       refine seq_call hA rfl rfl rfl (enters_func  rfl rfl (fun w => by kernel_rfl)) (soundB_any _ (hS.rd 1 rfl) (by omega) hb32) ?_
       rintro _ w34 ⟨rfl, hb33⟩
       replace hb33 := below_eq hb33
       replace hS := hS.call hb33
       refine ⟨_, rfl, ?_⟩
       intro a hA
       refine seq_do (v := .bool true) hA rfl rfl rfl (does_pick rfl rfl rfl rfl) ?_
       intro a hA
       refine seq_do hA rfl rfl rfl (does_move rfl) ?_
       intro a hA
       refine seq_do (v := .pointer (some ⟨g7, 4, none⟩)) hA rfl rfl rfl (does_field ExU_fld_62_2 rfl rfl) ?_
       intro a hA
       refine seq_do hA rfl rfl rfl (does_load1 hS ExU_is1_23 rfl 0 rfl rfl) ?_
       intro a hA
       rcases Bool.eq_false_or_eq_true (decide ((words (D * d)).length ≤ 512)) with hb35 | hb35
       · have hb35' := of_decide_eq_true hb35
         refine seq_call hA rfl rfl rfl (enters_func  rfl rfl (fun w => by kernel_rfl)) (soundB_any _ (hS.rd 0 rfl) (by omega) hb35) ?_
         rintro _ w37 ⟨rfl, hb36⟩
         replace hb36 := below_eq hb36
         replace hS := hS.call hb36
         refine ⟨_, rfl, ?_⟩
         intro a hA
         refine seq_do (v := .bool true) hA rfl rfl rfl (does_pick rfl rfl rfl rfl) ?_
         intro a hA
         refine seq_end ?_
         refine hK28 _ _ ?_
         refine wp_cond_true (hA.ev rfl) ?_
         refine wp_exit ?_
         refine hK18 _ _ ?_
         refine wp_region_lit ?_
         refine seq_do (v := .int .i64 (((i + 1 : Nat) : Int))) hA rfl rfl rfl (does_bin rfl rfl (fun w => (bin_add (i64In (by omega) (by omega)) w).trans (by rw [show (((i : Nat) : Int) + 1 : Int) = ((i + 1 : Nat) : Int) from by omega]))) ?_
         intro a hA
         refine seq_do hA rfl rfl rfl (does_move rfl) ?_
         intro a hA
         refine seq_end ?_
         refine hK13 _ _ _ (by omega) ⟨i + 1, X * x + -(Y * y), X * y + Y * x, D * d, p20_1, p20_c1, p20_2, p20_c2, p20_3, p20_c3, rfl, ⟨by omega, pwB_step hB9 (fit_mk (Nat.mul_ne_zero hD9 hd) (of_decide_eq_true hb29) (of_decide_eq_true hb35) hS9.1) (fit_mk (Nat.mul_ne_zero hD9 hd) (of_decide_eq_true hb32) (of_decide_eq_true hb35) hS9.2), ⟨Nat.mul_ne_zero hD9 hd, hS9.1, hS9.2, Nat.le_trans (of_decide_eq_true hb29) (by decide), Nat.le_trans (of_decide_eq_true hb32) (by decide), Nat.le_trans (of_decide_eq_true hb35) (by decide)⟩, ⟨hs21.nil, hs21.cap⟩, ⟨hs22.nil, hs22.cap⟩, ⟨hs23.nil, hs23.cap⟩⟩, hA.keep _ ⟨rfl, rfl, rfl, rfl, rfl, rfl, rfl, rfl, rfl, trivial⟩, ((hS.pickR [(p20_1, words (X * x + -(Y * y)).natAbs), (p20_2, words (X * y + Y * x).natAbs), (p20_3, words (D * d)), (a3, words d), (a2, words y.natAbs), (a1, words x.natAbs)] ⟨⟨2, rfl⟩, ⟨⟨1, rfl⟩, ⟨⟨0, rfl⟩, ⟨⟨6, rfl⟩, ⟨⟨7, rfl⟩, ⟨⟨8, rfl⟩, trivial⟩⟩⟩⟩⟩⟩).subL _ (.refl _))⟩
       · have hb35' := of_decide_eq_false hb35
         refine seq_call hA rfl rfl rfl (enters_func  rfl rfl (fun w => by kernel_rfl)) (soundB_any _ (hS.rd 0 rfl) (by omega) hb35) ?_
         rintro _ w39 ⟨rfl, hb38⟩
         replace hb38 := below_eq hb38
         replace hS := hS.call hb38
         refine ⟨_, rfl, ?_⟩
         intro a hA
         refine seq_do (v := .bool false) hA rfl rfl rfl (does_pick rfl rfl rfl rfl) ?_
         intro a hA
         refine seq_end ?_
         refine hK28 _ _ ?_
         refine wp_cond_false (hA.ev rfl) ?_
         refine wp_skip ?_
         refine hK27 _ _ ?_
         refine wp_seq_k (fun K40 hK40 => ?_)
         refine wp_region_lit ?_
         refine seq_do hA rfl rfl rfl (does_loadS hS ExU_isS_62 rfl 0 rfl (cs := [.bool ((rb (X * x + -(Y * y)))), .slice p20_1 ((words (X * x + -(Y * y)).natAbs).length) p20_c1, .bool ((rb (X * y + Y * x))), .slice p20_2 ((words (X * y + Y * x).natAbs).length) p20_c2, .slice p20_3 ((words (D * d)).length) p20_c3]) rfl rfl) ?_
         intro a hA
         rcases Bool.eq_false_or_eq_true (fitB (pwR u v (i + 1 + 1))) with hb41 | hb41
         · refine seq_call hA rfl rfl rfl (enters_func  rfl rfl (fun w => by kernel_rfl)) (zsettle_as ⟨(hS.rd 2 rfl), hs21.nil, hs21.cap⟩ ⟨(hS.rd 1 rfl), hs22.nil, hs22.cap⟩ ⟨(hS.rd 0 rfl), hs23.nil, hs23.cap⟩ ((set_pw (Nat.mul_ne_zero hD9 hd) hS9.1 hS9.2).trans (ratS_fit (fitB_ok hb41).1 (fitB_ok hb41).2)) (by omega) (by omega) (by omega) (Nat.mul_ne_zero hD9 hd)) ?_
           rintro _ w45 ⟨p42_1, p42_c1, p42_2, p42_c2, p42_3, p42_c3, p42_4, p42_c4, rfl, hn43, hb44⟩
           replace hS := hS.call hb44
           replace hS := hS.addR hn43.s1.rd
           replace hS := hS.addR hn43.s2.rd
           replace hS := hS.addR hn43.s3.rd
           replace hS := hS.addR hn43.s4.rd
           refine ⟨_, rfl, ?_⟩
           intro a hA
           refine seq_do hA rfl rfl rfl (does_move rfl) ?_
           intro a hA
           refine seq_do (v := .agg #[.bool (rb (pwR u v (i + 1 + 1)).1.num), .slice p42_1 ((words (pwR u v (i + 1 + 1)).1.num.natAbs).length) p42_c1, .slice p42_2 ((words (pwR u v (i + 1 + 1)).1.den).length) p42_c2, .bool (rb (pwR u v (i + 1 + 1)).2.num), .slice p42_3 ((words (pwR u v (i + 1 + 1)).2.num.natAbs).length) p42_c3, .slice p42_4 ((words (pwR u v (i + 1 + 1)).2.den).length) p42_c4]) hA rfl rfl rfl (does_extract (vs := [.agg #[.bool (rb (pwR u v (i + 1 + 1)).1.num), .slice p42_1 ((words (pwR u v (i + 1 + 1)).1.num.natAbs).length) p42_c1, .slice p42_2 ((words (pwR u v (i + 1 + 1)).1.den).length) p42_c2, .bool (rb (pwR u v (i + 1 + 1)).2.num), .slice p42_3 ((words (pwR u v (i + 1 + 1)).2.num.natAbs).length) p42_c3, .slice p42_4 ((words (pwR u v (i + 1 + 1)).2.den).length) p42_c4], .int .i64 0]) rfl rfl) ?_
           intro a hA
           refine seq_do (v := .int .i64 0) hA rfl rfl rfl (does_extract (vs := [.agg #[.bool (rb (pwR u v (i + 1 + 1)).1.num), .slice p42_1 ((words (pwR u v (i + 1 + 1)).1.num.natAbs).length) p42_c1, .slice p42_2 ((words (pwR u v (i + 1 + 1)).1.den).length) p42_c2, .bool (rb (pwR u v (i + 1 + 1)).2.num), .slice p42_3 ((words (pwR u v (i + 1 + 1)).2.num.natAbs).length) p42_c3, .slice p42_4 ((words (pwR u v (i + 1 + 1)).2.den).length) p42_c4], .int .i64 0]) rfl rfl) ?_
           intro a hA
           refine seq_new (vs := [.bool false, .slice none 0 0, .slice none 0 0, .bool false, .slice none 0 0, .slice none 0 0]) (t := 27) hA hS rfl rfl rfl (fun g => .pointer (some ⟨g, 0, none⟩)) (does_alloc (z := .agg #[.bool false, .slice none 0 0, .slice none 0 0, .bool false, .slice none 0 0, .slice none 0 0]) (by kernel_rfl) rfl) rfl ?_
           intro g46 w47 hS a hA
           refine seq_store (us := [.bool (rb (pwR u v (i + 1 + 1)).1.num), .slice p42_1 ((words (pwR u v (i + 1 + 1)).1.num.natAbs).length) p42_c1, .slice p42_2 ((words (pwR u v (i + 1 + 1)).1.den).length) p42_c2, .bool (rb (pwR u v (i + 1 + 1)).2.num), .slice p42_3 ((words (pwR u v (i + 1 + 1)).2.num.natAbs).length) p42_c3, .slice p42_4 ((words (pwR u v (i + 1 + 1)).2.den).length) p42_c4]) hA hS rfl rfl (sets_store rfl rfl rfl (by kernel_rfl) hS 0 rfl rfl rfl) 0 rfl rfl rfl rfl ?_
           intro w48 hS
           refine seq_do hA rfl rfl rfl (does_assign rfl) ?_
           intro a hA
           refine seq_end ?_
           refine hK40 _ _ ?_
           refine wp_seq_k (fun K49 hK49 => ?_)
           refine wp_seq_k (fun K50 hK50 => ?_)
           refine wp_region_lit ?_
           refine seq_do hA rfl rfl rfl (does_move rfl) ?_
           intro a hA
           refine seq_do (v := .bool false) hA rfl rfl rfl (does_bin rfl rfl (fun w => by kernel_rfl)) ?_
           intro a hA
           refine seq_end ?_
           refine hK50 _ _ ?_
           refine wp_cond_false (hA.ev rfl) ?_
           refine wp_skip ?_
           refine hK49 _ _ ?_
           refine wp_region_lit ?_
           refine seq_do hA rfl rfl rfl (does_loadS hS ExU_isS_27 rfl 0 rfl (cs := [.bool (rb (pwR u v (i + 1 + 1)).1.num), .slice p42_1 ((words (pwR u v (i + 1 + 1)).1.num.natAbs).length) p42_c1, .slice p42_2 ((words (pwR u v (i + 1 + 1)).1.den).length) p42_c2, .bool (rb (pwR u v (i + 1 + 1)).2.num), .slice p42_3 ((words (pwR u v (i + 1 + 1)).2.num.natAbs).length) p42_c3, .slice p42_4 ((words (pwR u v (i + 1 + 1)).2.den).length) p42_c4]) rfl rfl) ?_
           intro a hA
           refine seq_call hA rfl rfl rfl (enters_func  rfl rfl (fun w => by kernel_rfl)) (zspread_any (u := (pwR u v (i + 1 + 1)).1) (v := (pwR u v (i + 1 + 1)).2) (show Nm _ (Q6.rat (pwR u v (i + 1 + 1)).1 (pwR u v (i + 1 + 1)).2) p42_1 p42_c1 p42_2 p42_c2 p42_3 p42_c3 p42_4 p42_c4 from ⟨⟨(hS.rd 3 rfl), hn43.s1.nil, hn43.s1.cap⟩, ⟨(hS.rd 2 rfl), hn43.s2.nil, hn43.s2.cap⟩, ⟨(hS.rd 1 rfl), hn43.s3.nil, hn43.s3.cap⟩, ⟨(hS.rd 0 rfl), hn43.s4.nil, hn43.s4.cap⟩⟩) (fitB_ok hb41).1 (fitB_ok hb41).2) ?_
           rintro _ w56 ⟨p51_1, p51_c1, p51_2, p51_c2, p51_3, p51_c3, rfl, hs52, hs53, hs54, hb55⟩
           replace hS := hS.call hb55
           replace hS := hS.addR hs52.rd
           replace hS := hS.addR hs53.rd
           replace hS := hS.addR hs54.rd
           refine ⟨_, rfl, ?_⟩
           intro a hA
           refine seq_store (us := [.bool ((rb (spX (pwR u v (i + 1 + 1)).1 (pwR u v (i + 1 + 1)).2))), .slice p51_1 ((words (spX (pwR u v (i + 1 + 1)).1 (pwR u v (i + 1 + 1)).2).natAbs).length) p51_c1, .bool ((rb (spY (pwR u v (i + 1 + 1)).1 (pwR u v (i + 1 + 1)).2))), .slice p51_2 ((words (spY (pwR u v (i + 1 + 1)).1 (pwR u v (i + 1 + 1)).2).natAbs).length) p51_c2, .slice p51_3 ((words (spD (pwR u v (i + 1 + 1)).1 (pwR u v (i + 1 + 1)).2)).length) p51_c3]) hA hS rfl rfl (sets_store rfl rfl rfl (by kernel_rfl) hS 1 rfl rfl rfl) 1 rfl rfl rfl rfl ?_
           intro w57 hS
           refine seq_end ?_
           refine hK18 _ _ ?_
           refine wp_region_lit ?_
           refine seq_do (v := .int .i64 (((i + 1 : Nat) : Int))) hA rfl rfl rfl (does_bin rfl rfl (fun w => (bin_add (i64In (by omega) (by omega)) w).trans (by rw [show (((i : Nat) : Int) + 1 : Int) = ((i + 1 : Nat) : Int) from by omega]))) ?_
           intro a hA
           refine seq_do hA rfl rfl rfl (does_move rfl) ?_
           intro a hA
           refine seq_end ?_
           refine hK13 _ _ _ (by omega) ⟨i + 1, spX (pwR u v (i + 1 + 1)).1 (pwR u v (i + 1 + 1)).2, spY (pwR u v (i + 1 + 1)).1 (pwR u v (i + 1 + 1)).2, spD (pwR u v (i + 1 + 1)).1 (pwR u v (i + 1 + 1)).2, p51_1, p51_c1, p51_2, p51_c2, p51_3, p51_c3, rfl, ⟨by omega, pwB_step hB9 (fitB_ok hb41).1 (fitB_ok hb41).2, ⟨spD_ne _ _, spX_mk _ _, spY_mk _ _, spX_len (fitB_ok hb41).1 (fitB_ok hb41).2, spY_len (fitB_ok hb41).1 (fitB_ok hb41).2, spD_len (fitB_ok hb41).1 (fitB_ok hb41).2⟩, ⟨hs52.nil, hs52.cap⟩, ⟨hs53.nil, hs53.cap⟩, ⟨hs54.nil, hs54.cap⟩⟩, hA.keep _ ⟨rfl, rfl, rfl, rfl, rfl, rfl, rfl, rfl, rfl, trivial⟩, ((hS.pickR [(p51_1, words (spX (pwR u v (i + 1 + 1)).1 (pwR u v (i + 1 + 1)).2).natAbs), (p51_2, words (spY (pwR u v (i + 1 + 1)).1 (pwR u v (i + 1 + 1)).2).natAbs), (p51_3, words (spD (pwR u v (i + 1 + 1)).1 (pwR u v (i + 1 + 1)).2)), (a3, words d), (a2, words y.natAbs), (a1, words x.natAbs)] ⟨⟨2, rfl⟩, ⟨⟨1, rfl⟩, ⟨⟨0, rfl⟩, ⟨⟨13, rfl⟩, ⟨⟨14, rfl⟩, ⟨⟨15, rfl⟩, trivial⟩⟩⟩⟩⟩⟩).subL _ (.cons _ (.cons_cons _ (.cons_cons _ (.cons_cons _ .slnil)))))⟩
         · refine seq_call hA rfl rfl rfl (enters_func  rfl rfl (fun w => by kernel_rfl)) (zsettle_as ⟨(hS.rd 2 rfl), hs21.nil, hs21.cap⟩ ⟨(hS.rd 1 rfl), hs22.nil, hs22.cap⟩ ⟨(hS.rd 0 rfl), hs23.nil, hs23.cap⟩ ((set_pw (Nat.mul_ne_zero hD9 hd) hS9.1 hS9.2).trans (ratS_no (fitB_no hb41))) (by omega) (by omega) (by omega) (Nat.mul_ne_zero hD9 hd)) ?_
           rintro _ w61 ⟨p58_1, p58_c1, p58_2, p58_c2, p58_3, p58_c3, p58_4, p58_c4, rfl, hn59, hb60⟩
           replace hS := hS.call hb60
           replace hS := hS.addR hn59.s1.rd
           replace hS := hS.addR hn59.s2.rd
           replace hS := hS.addR hn59.s3.rd
           replace hS := hS.addR hn59.s4.rd
           refine ⟨_, rfl, ?_⟩
           intro a hA
           refine seq_do hA rfl rfl rfl (does_move rfl) ?_
           intro a hA
           refine seq_do (v := .agg #[.bool false, .slice p58_1 0 p58_c1, .slice p58_2 0 p58_c2, .bool false, .slice p58_3 0 p58_c3, .slice p58_4 0 p58_c4]) hA rfl rfl rfl (does_extract (vs := [.agg #[.bool false, .slice p58_1 0 p58_c1, .slice p58_2 0 p58_c2, .bool false, .slice p58_3 0 p58_c3, .slice p58_4 0 p58_c4], .int .i64 4]) rfl rfl) ?_
           intro a hA
           refine seq_do (v := .int .i64 4) hA rfl rfl rfl (does_extract (vs := [.agg #[.bool false, .slice p58_1 0 p58_c1, .slice p58_2 0 p58_c2, .bool false, .slice p58_3 0 p58_c3, .slice p58_4 0 p58_c4], .int .i64 4]) rfl rfl) ?_
           intro a hA
           refine seq_new (vs := [.bool false, .slice none 0 0, .slice none 0 0, .bool false, .slice none 0 0, .slice none 0 0]) (t := 27) hA hS rfl rfl rfl (fun g => .pointer (some ⟨g, 0, none⟩)) (does_alloc (z := .agg #[.bool false, .slice none 0 0, .slice none 0 0, .bool false, .slice none 0 0, .slice none 0 0]) (by kernel_rfl) rfl) rfl ?_
           intro g62 w63 hS a hA
           refine seq_store (us := [.bool false, .slice p58_1 0 p58_c1, .slice p58_2 0 p58_c2, .bool false, .slice p58_3 0 p58_c3, .slice p58_4 0 p58_c4]) hA hS rfl rfl (sets_store rfl rfl rfl (by kernel_rfl) hS 0 rfl rfl rfl) 0 rfl rfl rfl rfl ?_
           intro w64 hS
           refine seq_do hA rfl rfl rfl (does_assign rfl) ?_
           intro a hA
           refine seq_end ?_
           refine hK40 _ _ ?_
           refine wp_seq_k (fun K65 hK65 => ?_)
           refine wp_seq_k (fun K66 hK66 => ?_)
           refine wp_region_lit ?_
           refine seq_do hA rfl rfl rfl (does_move rfl) ?_
           intro a hA
           refine seq_do (v := .bool true) hA rfl rfl rfl (does_bin rfl rfl (fun w => by kernel_rfl)) ?_
           intro a hA
           refine seq_end ?_
           refine hK66 _ _ ?_
           refine wp_cond_true (hA.ev rfl) ?_
           refine wp_seq_k (fun K67 hK67 => ?_)
           refine wp_region_lit ?_
           refine seq_do (v := .agg #[.bool false, .slice none 0 0, .bool false, .slice none 0 0, .slice none 0 0]) hA rfl rfl rfl (does_build rfl (fun w => by kernel_rfl)) ?_
           intro a hA
           refine seq_do hA rfl rfl rfl (does_move rfl) ?_
           intro a hA
           refine seq_store (us := [.bool false, .slice none 0 0, .bool false, .slice none 0 0, .slice none 0 0]) hA hS rfl rfl (sets_store rfl rfl rfl (by kernel_rfl) hS 2 rfl rfl rfl) 2 rfl rfl rfl rfl ?_
           intro w68 hS
           refine seq_do hA rfl rfl rfl (does_assign rfl) ?_
           intro a hA
           refine seq_end ?_
           refine hK67 _ _ ?_
           refine wp_ret ?_
           refine hret _ _ ?_
           refine ends (v := .tuple #[.agg #[.bool false, .slice none 0 0, .bool false, .slice none 0 0, .slice none 0 0], .int .i64 4]) hA rfl (.cons (res_cell hS ExU_isS_62 rfl 2 rfl (cs := [.bool false, .slice none 0 0, .bool false, .slice none 0 0, .slice none 0 0]) rfl rfl) (.cons (res_tmp rfl) .nil)) rfl ?_
           exact .inr ⟨pwB_stop (k := i + 1 + 1) (by omega) (fitB_no hb41), rfl, hS.bel⟩
     · have hb32' := of_decide_eq_false hb32
       refine seq_call hA rfl rfl rfl (enters_func  rfl rfl (fun w => by kernel_rfl)) (soundB_any _ (hS.rd 1 rfl) (by omega) hb32) ?_
       rintro _ w70 ⟨rfl, hb69⟩
       replace hb69 := below_eq hb69
       replace hS := hS.call hb69
       refine ⟨_, rfl, ?_⟩
       intro a hA
       refine seq_do (v := .bool false) hA rfl rfl rfl (does_pick rfl rfl rfl rfl) ?_
       intro a hA
       refine seq_do hA rfl rfl rfl (does_move rfl) ?_
       intro a hA
       refine seq_skip hA rfl rfl rfl ?_
       intro a hA
       refine seq_skip hA rfl rfl rfl ?_
       intro a hA
       refine seq_skip hA rfl rfl rfl ?_
       intro a hA
       refine seq_do (v := .bool false) hA rfl rfl rfl (does_pick rfl rfl rfl rfl) ?_
       intro a hA
       refine seq_end ?_
       refine hK28 _ _ ?_
       refine wp_cond_false (hA.ev rfl) ?_
       refine wp_skip ?_
       refine hK27 _ _ ?_
       refine wp_seq_k (fun K71 hK71 => ?_)
       refine wp_region_lit ?_
       refine seq_do hA rfl rfl rfl (does_loadS hS ExU_isS_62 rfl 0 rfl (cs := [.bool ((rb (X * x + -(Y * y)))), .slice p20_1 ((words (X * x + -(Y * y)).natAbs).length) p20_c1, .bool ((rb (X * y + Y * x))), .slice p20_2 ((words (X * y + Y * x).natAbs).length) p20_c2, .slice p20_3 ((words (D * d)).length) p20_c3]) rfl rfl) ?_
       intro a hA
       rcases Bool.eq_false_or_eq_true (fitB (pwR u v (i + 1 + 1))) with hb72 | hb72
       · refine seq_call hA rfl rfl rfl (enters_func  rfl rfl (fun w => by kernel_rfl)) (zsettle_as ⟨(hS.rd 2 rfl), hs21.nil, hs21.cap⟩ ⟨(hS.rd 1 rfl), hs22.nil, hs22.cap⟩ ⟨(hS.rd 0 rfl), hs23.nil, hs23.cap⟩ ((set_pw (Nat.mul_ne_zero hD9 hd) hS9.1 hS9.2).trans (ratS_fit (fitB_ok hb72).1 (fitB_ok hb72).2)) (by omega) (by omega) (by omega) (Nat.mul_ne_zero hD9 hd)) ?_
         rintro _ w76 ⟨p73_1, p73_c1, p73_2, p73_c2, p73_3, p73_c3, p73_4, p73_c4, rfl, hn74, hb75⟩
         replace hS := hS.call hb75
         replace hS := hS.addR hn74.s1.rd
         replace hS := hS.addR hn74.s2.rd
         replace hS := hS.addR hn74.s3.rd
         replace hS := hS.addR hn74.s4.rd
         refine ⟨_, rfl, ?_⟩
         intro a hA
         refine seq_do hA rfl rfl rfl (does_move rfl) ?_
         intro a hA
         refine seq_do (v := .agg #[.bool (rb (pwR u v (i + 1 + 1)).1.num), .slice p73_1 ((words (pwR u v (i + 1 + 1)).1.num.natAbs).length) p73_c1, .slice p73_2 ((words (pwR u v (i + 1 + 1)).1.den).length) p73_c2, .bool (rb (pwR u v (i + 1 + 1)).2.num), .slice p73_3 ((words (pwR u v (i + 1 + 1)).2.num.natAbs).length) p73_c3, .slice p73_4 ((words (pwR u v (i + 1 + 1)).2.den).length) p73_c4]) hA rfl rfl rfl (does_extract (vs := [.agg #[.bool (rb (pwR u v (i + 1 + 1)).1.num), .slice p73_1 ((words (pwR u v (i + 1 + 1)).1.num.natAbs).length) p73_c1, .slice p73_2 ((words (pwR u v (i + 1 + 1)).1.den).length) p73_c2, .bool (rb (pwR u v (i + 1 + 1)).2.num), .slice p73_3 ((words (pwR u v (i + 1 + 1)).2.num.natAbs).length) p73_c3, .slice p73_4 ((words (pwR u v (i + 1 + 1)).2.den).length) p73_c4], .int .i64 0]) rfl rfl) ?_
         intro a hA
         refine seq_do (v := .int .i64 0) hA rfl rfl rfl (does_extract (vs := [.agg #[.bool (rb (pwR u v (i + 1 + 1)).1.num), .slice p73_1 ((words (pwR u v (i + 1 + 1)).1.num.natAbs).length) p73_c1, .slice p73_2 ((words (pwR u v (i + 1 + 1)).1.den).length) p73_c2, .bool (rb (pwR u v (i + 1 + 1)).2.num), .slice p73_3 ((words (pwR u v (i + 1 + 1)).2.num.natAbs).length) p73_c3, .slice p73_4 ((words (pwR u v (i + 1 + 1)).2.den).length) p73_c4], .int .i64 0]) rfl rfl) ?_
         intro a hA
         refine seq_new (vs := [.bool false, .slice none 0 0, .slice none 0 0, .bool false, .slice none 0 0, .slice none 0 0]) (t := 27) hA hS rfl rfl rfl (fun g => .pointer (some ⟨g, 0, none⟩)) (does_alloc (z := .agg #[.bool false, .slice none 0 0, .slice none 0 0, .bool false, .slice none 0 0, .slice none 0 0]) (by kernel_rfl) rfl) rfl ?_
         intro g77 w78 hS a hA
         refine seq_store (us := [.bool (rb (pwR u v (i + 1 + 1)).1.num), .slice p73_1 ((words (pwR u v (i + 1 + 1)).1.num.natAbs).length) p73_c1, .slice p73_2 ((words (pwR u v (i + 1 + 1)).1.den).length) p73_c2, .bool (rb (pwR u v (i + 1 + 1)).2.num), .slice p73_3 ((words (pwR u v (i + 1 + 1)).2.num.natAbs).length) p73_c3, .slice p73_4 ((words (pwR u v (i + 1 + 1)).2.den).length) p73_c4]) hA hS rfl rfl (sets_store rfl rfl rfl (by kernel_rfl) hS 0 rfl rfl rfl) 0 rfl rfl rfl rfl ?_
         intro w79 hS
         refine seq_do hA rfl rfl rfl (does_assign rfl) ?_
         intro a hA
         refine seq_end ?_
         refine hK71 _ _ ?_
         refine wp_seq_k (fun K80 hK80 => ?_)
         refine wp_seq_k (fun K81 hK81 => ?_)
         refine wp_region_lit ?_
         refine seq_do hA rfl rfl rfl (does_move rfl) ?_
         intro a hA
         refine seq_do (v := .bool false) hA rfl rfl rfl (does_bin rfl rfl (fun w => by kernel_rfl)) ?_
         intro a hA
         refine seq_end ?_
         refine hK81 _ _ ?_
         refine wp_cond_false (hA.ev rfl) ?_
         refine wp_skip ?_
         refine hK80 _ _ ?_
         refine wp_region_lit ?_
         refine seq_do hA rfl rfl rfl (does_loadS hS ExU_isS_27 rfl 0 rfl (cs := [.bool (rb (pwR u v (i + 1 + 1)).1.num), .slice p73_1 ((words (pwR u v (i + 1 + 1)).1.num.natAbs).length) p73_c1, .slice p73_2 ((words (pwR u v (i + 1 + 1)).1.den).length) p73_c2, .bool (rb (pwR u v (i + 1 + 1)).2.num), .slice p73_3 ((words (pwR u v (i + 1 + 1)).2.num.natAbs).length) p73_c3, .slice p73_4 ((words (pwR u v (i + 1 + 1)).2.den).length) p73_c4]) rfl rfl) ?_
         intro a hA
         refine seq_call hA rfl rfl rfl (enters_func  rfl rfl (fun w => by kernel_rfl)) (zspread_any (u := (pwR u v (i + 1 + 1)).1) (v := (pwR u v (i + 1 + 1)).2) (show Nm _ (Q6.rat (pwR u v (i + 1 + 1)).1 (pwR u v (i + 1 + 1)).2) p73_1 p73_c1 p73_2 p73_c2 p73_3 p73_c3 p73_4 p73_c4 from ⟨⟨(hS.rd 3 rfl), hn74.s1.nil, hn74.s1.cap⟩, ⟨(hS.rd 2 rfl), hn74.s2.nil, hn74.s2.cap⟩, ⟨(hS.rd 1 rfl), hn74.s3.nil, hn74.s3.cap⟩, ⟨(hS.rd 0 rfl), hn74.s4.nil, hn74.s4.cap⟩⟩) (fitB_ok hb72).1 (fitB_ok hb72).2) ?_
         rintro _ w87 ⟨p82_1, p82_c1, p82_2, p82_c2, p82_3, p82_c3, rfl, hs83, hs84, hs85, hb86⟩
         replace hS := hS.call hb86
         replace hS := hS.addR hs83.rd
         replace hS := hS.addR hs84.rd
         replace hS := hS.addR hs85.rd
         refine ⟨_, rfl, ?_⟩
         intro a hA
         refine seq_store (us := [.bool ((rb (spX (pwR u v (i + 1 + 1)).1 (pwR u v (i + 1 + 1)).2))), .slice p82_1 ((words (spX (pwR u v (i + 1 + 1)).1 (pwR u v (i + 1 + 1)).2).natAbs).length) p82_c1, .bool ((rb (spY (pwR u v (i + 1 + 1)).1 (pwR u v (i + 1 + 1)).2))), .slice p82_2 ((words (spY (pwR u v (i + 1 + 1)).1 (pwR u v (i + 1 + 1)).2).natAbs).length) p82_c2, .slice p82_3 ((words (spD (pwR u v (i + 1 + 1)).1 (pwR u v (i + 1 + 1)).2)).length) p82_c3]) hA hS rfl rfl (sets_store rfl rfl rfl (by kernel_rfl) hS 1 rfl rfl rfl) 1 rfl rfl rfl rfl ?_
         intro w88 hS
         refine seq_end ?_
         refine hK18 _ _ ?_
         refine wp_region_lit ?_
         refine seq_do (v := .int .i64 (((i + 1 : Nat) : Int))) hA rfl rfl rfl (does_bin rfl rfl (fun w => (bin_add (i64In (by omega) (by omega)) w).trans (by rw [show (((i : Nat) : Int) + 1 : Int) = ((i + 1 : Nat) : Int) from by omega]))) ?_
         intro a hA
         refine seq_do hA rfl rfl rfl (does_move rfl) ?_
         intro a hA
         refine seq_end ?_
         refine hK13 _ _ _ (by omega) ⟨i + 1, spX (pwR u v (i + 1 + 1)).1 (pwR u v (i + 1 + 1)).2, spY (pwR u v (i + 1 + 1)).1 (pwR u v (i + 1 + 1)).2, spD (pwR u v (i + 1 + 1)).1 (pwR u v (i + 1 + 1)).2, p82_1, p82_c1, p82_2, p82_c2, p82_3, p82_c3, rfl, ⟨by omega, pwB_step hB9 (fitB_ok hb72).1 (fitB_ok hb72).2, ⟨spD_ne _ _, spX_mk _ _, spY_mk _ _, spX_len (fitB_ok hb72).1 (fitB_ok hb72).2, spY_len (fitB_ok hb72).1 (fitB_ok hb72).2, spD_len (fitB_ok hb72).1 (fitB_ok hb72).2⟩, ⟨hs83.nil, hs83.cap⟩, ⟨hs84.nil, hs84.cap⟩, ⟨hs85.nil, hs85.cap⟩⟩, hA.keep _ ⟨rfl, rfl, rfl, rfl, rfl, rfl, rfl, rfl, rfl, trivial⟩, ((hS.pickR [(p82_1, words (spX (pwR u v (i + 1 + 1)).1 (pwR u v (i + 1 + 1)).2).natAbs), (p82_2, words (spY (pwR u v (i + 1 + 1)).1 (pwR u v (i + 1 + 1)).2).natAbs), (p82_3, words (spD (pwR u v (i + 1 + 1)).1 (pwR u v (i + 1 + 1)).2)), (a3, words d), (a2, words y.natAbs), (a1, words x.natAbs)] ⟨⟨2, rfl⟩, ⟨⟨1, rfl⟩, ⟨⟨0, rfl⟩, ⟨⟨13, rfl⟩, ⟨⟨14, rfl⟩, ⟨⟨15, rfl⟩, trivial⟩⟩⟩⟩⟩⟩).subL _ (.cons _ (.cons_cons _ (.cons_cons _ (.cons_cons _ .slnil)))))⟩
       · refine seq_call hA rfl rfl rfl (enters_func  rfl rfl (fun w => by kernel_rfl)) (zsettle_as ⟨(hS.rd 2 rfl), hs21.nil, hs21.cap⟩ ⟨(hS.rd 1 rfl), hs22.nil, hs22.cap⟩ ⟨(hS.rd 0 rfl), hs23.nil, hs23.cap⟩ ((set_pw (Nat.mul_ne_zero hD9 hd) hS9.1 hS9.2).trans (ratS_no (fitB_no hb72))) (by omega) (by omega) (by omega) (Nat.mul_ne_zero hD9 hd)) ?_
         rintro _ w92 ⟨p89_1, p89_c1, p89_2, p89_c2, p89_3, p89_c3, p89_4, p89_c4, rfl, hn90, hb91⟩
         replace hS := hS.call hb91
         replace hS := hS.addR hn90.s1.rd
         replace hS := hS.addR hn90.s2.rd
         replace hS := hS.addR hn90.s3.rd
         replace hS := hS.addR hn90.s4.rd
         refine ⟨_, rfl, ?_⟩
         intro a hA
         refine seq_do hA rfl rfl rfl (does_move rfl) ?_
         intro a hA
         refine seq_do (v := .agg #[.bool false, .slice p89_1 0 p89_c1, .slice p89_2 0 p89_c2, .bool false, .slice p89_3 0 p89_c3, .slice p89_4 0 p89_c4]) hA rfl rfl rfl (does_extract (vs := [.agg #[.bool false, .slice p89_1 0 p89_c1, .slice p89_2 0 p89_c2, .bool false, .slice p89_3 0 p89_c3, .slice p89_4 0 p89_c4], .int .i64 4]) rfl rfl) ?_
         intro a hA
         refine seq_do (v := .int .i64 4) hA rfl rfl rfl (does_extract (vs := [.agg #[.bool false, .slice p89_1 0 p89_c1, .slice p89_2 0 p89_c2, .bool false, .slice p89_3 0 p89_c3, .slice p89_4 0 p89_c4], .int .i64 4]) rfl rfl) ?_
         intro a hA
         refine seq_new (vs := [.bool false, .slice none 0 0, .slice none 0 0, .bool false, .slice none 0 0, .slice none 0 0]) (t := 27) hA hS rfl rfl rfl (fun g => .pointer (some ⟨g, 0, none⟩)) (does_alloc (z := .agg #[.bool false, .slice none 0 0, .slice none 0 0, .bool false, .slice none 0 0, .slice none 0 0]) (by kernel_rfl) rfl) rfl ?_
         intro g93 w94 hS a hA
         refine seq_store (us := [.bool false, .slice p89_1 0 p89_c1, .slice p89_2 0 p89_c2, .bool false, .slice p89_3 0 p89_c3, .slice p89_4 0 p89_c4]) hA hS rfl rfl (sets_store rfl rfl rfl (by kernel_rfl) hS 0 rfl rfl rfl) 0 rfl rfl rfl rfl ?_
         intro w95 hS
         refine seq_do hA rfl rfl rfl (does_assign rfl) ?_
         intro a hA
         refine seq_end ?_
         refine hK71 _ _ ?_
         refine wp_seq_k (fun K96 hK96 => ?_)
         refine wp_seq_k (fun K97 hK97 => ?_)
         refine wp_region_lit ?_
         refine seq_do hA rfl rfl rfl (does_move rfl) ?_
         intro a hA
         refine seq_do (v := .bool true) hA rfl rfl rfl (does_bin rfl rfl (fun w => by kernel_rfl)) ?_
         intro a hA
         refine seq_end ?_
         refine hK97 _ _ ?_
         refine wp_cond_true (hA.ev rfl) ?_
         refine wp_seq_k (fun K98 hK98 => ?_)
         refine wp_region_lit ?_
         refine seq_do (v := .agg #[.bool false, .slice none 0 0, .bool false, .slice none 0 0, .slice none 0 0]) hA rfl rfl rfl (does_build rfl (fun w => by kernel_rfl)) ?_
         intro a hA
         refine seq_do hA rfl rfl rfl (does_move rfl) ?_
         intro a hA
         refine seq_store (us := [.bool false, .slice none 0 0, .bool false, .slice none 0 0, .slice none 0 0]) hA hS rfl rfl (sets_store rfl rfl rfl (by kernel_rfl) hS 2 rfl rfl rfl) 2 rfl rfl rfl rfl ?_
         intro w99 hS
         refine seq_do hA rfl rfl rfl (does_assign rfl) ?_
         intro a hA
         refine seq_end ?_
         refine hK98 _ _ ?_
         refine wp_ret ?_
         refine hret _ _ ?_
         refine ends (v := .tuple #[.agg #[.bool false, .slice none 0 0, .bool false, .slice none 0 0, .slice none 0 0], .int .i64 4]) hA rfl (.cons (res_cell hS ExU_isS_62 rfl 2 rfl (cs := [.bool false, .slice none 0 0, .bool false, .slice none 0 0, .slice none 0 0]) rfl rfl) (.cons (res_tmp rfl) .nil)) rfl ?_
         exact .inr ⟨pwB_stop (k := i + 1 + 1) (by omega) (fitB_no hb72), rfl, hS.bel⟩
   · have hb29' := of_decide_eq_false hb29
     refine seq_call hA rfl rfl rfl (enters_func  rfl rfl (fun w => by kernel_rfl)) (soundB_any _ (hS.rd 2 rfl) (by omega) hb29) ?_
     rintro _ w101 ⟨rfl, hb100⟩
     replace hb100 := below_eq hb100
     replace hS := hS.call hb100
     refine ⟨_, rfl, ?_⟩
     intro a hA
     refine seq_do hA rfl rfl rfl (does_move rfl) ?_
     intro a hA
     refine seq_skip hA rfl rfl rfl ?_
     intro a hA
     refine seq_skip hA rfl rfl rfl ?_
     intro a hA
     refine seq_skip hA rfl rfl rfl ?_
     intro a hA
     refine seq_skip hA rfl rfl rfl ?_
     intro a hA
     refine seq_do (v := .bool false) hA rfl rfl rfl (does_pick rfl rfl rfl rfl) ?_
     intro a hA
     refine seq_do hA rfl rfl rfl (does_move rfl) ?_
     intro a hA
     refine seq_skip hA rfl rfl rfl ?_
     intro a hA
     refine seq_skip hA rfl rfl rfl ?_
     intro a hA
     refine seq_skip hA rfl rfl rfl ?_
     intro a hA
     refine seq_do (v := .bool false) hA rfl rfl rfl (does_pick rfl rfl rfl rfl) ?_
     intro a hA
     refine seq_end ?_
     refine hK28 _ _ ?_
     refine wp_cond_false (hA.ev rfl) ?_
     refine wp_skip ?_
     refine hK27 _ _ ?_
     refine wp_seq_k (fun K102 hK102 => ?_)
     refine wp_region_lit ?_
     refine seq_do hA rfl rfl rfl (does_loadS hS ExU_isS_62 rfl 0 rfl (cs := [.bool ((rb (X * x + -(Y * y)))), .slice p20_1 ((words (X * x + -(Y * y)).natAbs).length) p20_c1, .bool ((rb (X * y + Y * x))), .slice p20_2 ((words (X * y + Y * x).natAbs).length) p20_c2, .slice p20_3 ((words (D * d)).length) p20_c3]) rfl rfl) ?_
     intro a hA
     rcases Bool.eq_false_or_eq_true (fitB (pwR u v (i + 1 + 1))) with hb103 | hb103
     · refine seq_call hA rfl rfl rfl (enters_func  rfl rfl (fun w => by kernel_rfl)) (zsettle_as ⟨(hS.rd 2 rfl), hs21.nil, hs21.cap⟩ ⟨(hS.rd 1 rfl), hs22.nil, hs22.cap⟩ ⟨(hS.rd 0 rfl), hs23.nil, hs23.cap⟩ ((set_pw (Nat.mul_ne_zero hD9 hd) hS9.1 hS9.2).trans (ratS_fit (fitB_ok hb103).1 (fitB_ok hb103).2)) (by omega) (by omega) (by omega) (Nat.mul_ne_zero hD9 hd)) ?_
       rintro _ w107 ⟨p104_1, p104_c1, p104_2, p104_c2, p104_3, p104_c3, p104_4, p104_c4, rfl, hn105, hb106⟩
       replace hS := hS.call hb106
       replace hS := hS.addR hn105.s1.rd
       replace hS := hS.addR hn105.s2.rd
       replace hS := hS.addR hn105.s3.rd
       replace hS := hS.addR hn105.s4.rd
       refine ⟨_, rfl, ?_⟩
       intro a hA
       refine seq_do hA rfl rfl rfl (does_move rfl) ?_
       intro a hA
       refine seq_do (v := .agg #[.bool (rb (pwR u v (i + 1 + 1)).1.num), .slice p104_1 ((words (pwR u v (i + 1 + 1)).1.num.natAbs).length) p104_c1, .slice p104_2 ((words (pwR u v (i + 1 + 1)).1.den).length) p104_c2, .bool (rb (pwR u v (i + 1 + 1)).2.num), .slice p104_3 ((words (pwR u v (i + 1 + 1)).2.num.natAbs).length) p104_c3, .slice p104_4 ((words (pwR u v (i + 1 + 1)).2.den).length) p104_c4]) hA rfl rfl rfl (does_extract (vs := [.agg #[.bool (rb (pwR u v (i + 1 + 1)).1.num), .slice p104_1 ((words (pwR u v (i + 1 + 1)).1.num.natAbs).length) p104_c1, .slice p104_2 ((words (pwR u v (i + 1 + 1)).1.den).length) p104_c2, .bool (rb (pwR u v (i + 1 + 1)).2.num), .slice p104_3 ((words (pwR u v (i + 1 + 1)).2.num.natAbs).length) p104_c3, .slice p104_4 ((words (pwR u v (i + 1 + 1)).2.den).length) p104_c4], .int .i64 0]) rfl rfl) ?_
       intro a hA
       refine seq_do (v := .int .i64 0) hA rfl rfl rfl (does_extract (vs := [.agg #[.bool (rb (pwR u v (i + 1 + 1)).1.num), .slice p104_1 ((words (pwR u v (i + 1 + 1)).1.num.natAbs).length) p104_c1, .slice p104_2 ((words (pwR u v (i + 1 + 1)).1.den).length) p104_c2, .bool (rb (pwR u v (i + 1 + 1)).2.num), .slice p104_3 ((words (pwR u v (i + 1 + 1)).2.num.natAbs).length) p104_c3, .slice p104_4 ((words (pwR u v (i + 1 + 1)).2.den).length) p104_c4], .int .i64 0]) rfl rfl) ?_
       intro a hA
       refine seq_new (vs := [.bool false, .slice none 0 0, .slice none 0 0, .bool false, .slice none 0 0, .slice none 0 0]) (t := 27) hA hS rfl rfl rfl (fun g => .pointer (some ⟨g, 0, none⟩)) (does_alloc (z := .agg #[.bool false, .slice none 0 0, .slice none 0 0, .bool false, .slice none 0 0, .slice none 0 0]) (by kernel_rfl) rfl) rfl ?_
       intro g108 w109 hS a hA
       refine seq_store (us := [.bool (rb (pwR u v (i + 1 + 1)).1.num), .slice p104_1 ((words (pwR u v (i + 1 + 1)).1.num.natAbs).length) p104_c1, .slice p104_2 ((words (pwR u v (i + 1 + 1)).1.den).length) p104_c2, .bool (rb (pwR u v (i + 1 + 1)).2.num), .slice p104_3 ((words (pwR u v (i + 1 + 1)).2.num.natAbs).length) p104_c3, .slice p104_4 ((words (pwR u v (i + 1 + 1)).2.den).length) p104_c4]) hA hS rfl rfl (sets_store rfl rfl rfl (by kernel_rfl) hS 0 rfl rfl rfl) 0 rfl rfl rfl rfl ?_
       intro w110 hS
       refine seq_do hA rfl rfl rfl (does_assign rfl) ?_
       intro a hA
       refine seq_end ?_
       refine hK102 _ _ ?_
       refine wp_seq_k (fun K111 hK111 => ?_)
       refine wp_seq_k (fun K112 hK112 => ?_)
       refine wp_region_lit ?_
       refine seq_do hA rfl rfl rfl (does_move rfl) ?_
       intro a hA
       refine seq_do (v := .bool false) hA rfl rfl rfl (does_bin rfl rfl (fun w => by kernel_rfl)) ?_
       intro a hA
       refine seq_end ?_
       refine hK112 _ _ ?_
       refine wp_cond_false (hA.ev rfl) ?_
       refine wp_skip ?_
       refine hK111 _ _ ?_
       refine wp_region_lit ?_
       refine seq_do hA rfl rfl rfl (does_loadS hS ExU_isS_27 rfl 0 rfl (cs := [.bool (rb (pwR u v (i + 1 + 1)).1.num), .slice p104_1 ((words (pwR u v (i + 1 + 1)).1.num.natAbs).length) p104_c1, .slice p104_2 ((words (pwR u v (i + 1 + 1)).1.den).length) p104_c2, .bool (rb (pwR u v (i + 1 + 1)).2.num), .slice p104_3 ((words (pwR u v (i + 1 + 1)).2.num.natAbs).length) p104_c3, .slice p104_4 ((words (pwR u v (i + 1 + 1)).2.den).length) p104_c4]) rfl rfl) ?_
       intro a hA
       refine seq_call hA rfl rfl rfl (enters_func  rfl rfl (fun w => by kernel_rfl)) (zspread_any (u := (pwR u v (i + 1 + 1)).1) (v := (pwR u v (i + 1 + 1)).2) (show Nm _ (Q6.rat (pwR u v (i + 1 + 1)).1 (pwR u v (i + 1 + 1)).2) p104_1 p104_c1 p104_2 p104_c2 p104_3 p104_c3 p104_4 p104_c4 from ⟨⟨(hS.rd 3 rfl), hn105.s1.nil, hn105.s1.cap⟩, ⟨(hS.rd 2 rfl), hn105.s2.nil, hn105.s2.cap⟩, ⟨(hS.rd 1 rfl), hn105.s3.nil, hn105.s3.cap⟩, ⟨(hS.rd 0 rfl), hn105.s4.nil, hn105.s4.cap⟩⟩) (fitB_ok hb103).1 (fitB_ok hb103).2) ?_
       rintro _ w118 ⟨p113_1, p113_c1, p113_2, p113_c2, p113_3, p113_c3, rfl, hs114, hs115, hs116, hb117⟩
       replace hS := hS.call hb117
       replace hS := hS.addR hs114.rd
       replace hS := hS.addR hs115.rd
       replace hS := hS.addR hs116.rd
       refine ⟨_, rfl, ?_⟩
       intro a hA
       refine seq_store (us := [.bool ((rb (spX (pwR u v (i + 1 + 1)).1 (pwR u v (i + 1 + 1)).2))), .slice p113_1 ((words (spX (pwR u v (i + 1 + 1)).1 (pwR u v (i + 1 + 1)).2).natAbs).length) p113_c1, .bool ((rb (spY (pwR u v (i + 1 + 1)).1 (pwR u v (i + 1 + 1)).2))), .slice p113_2 ((words (spY (pwR u v (i + 1 + 1)).1 (pwR u v (i + 1 + 1)).2).natAbs).length) p113_c2, .slice p113_3 ((words (spD (pwR u v (i + 1 + 1)).1 (pwR u v (i + 1 + 1)).2)).length) p113_c3]) hA hS rfl rfl (sets_store rfl rfl rfl (by kernel_rfl) hS 1 rfl rfl rfl) 1 rfl rfl rfl rfl ?_
       intro w119 hS
       refine seq_end ?_
       refine hK18 _ _ ?_
       refine wp_region_lit ?_
       refine seq_do (v := .int .i64 (((i + 1 : Nat) : Int))) hA rfl rfl rfl (does_bin rfl rfl (fun w => (bin_add (i64In (by omega) (by omega)) w).trans (by rw [show (((i : Nat) : Int) + 1 : Int) = ((i + 1 : Nat) : Int) from by omega]))) ?_
       intro a hA
       refine seq_do hA rfl rfl rfl (does_move rfl) ?_
       intro a hA
       refine seq_end ?_
       refine hK13 _ _ _ (by omega) ⟨i + 1, spX (pwR u v (i + 1 + 1)).1 (pwR u v (i + 1 + 1)).2, spY (pwR u v (i + 1 + 1)).1 (pwR u v (i + 1 + 1)).2, spD (pwR u v (i + 1 + 1)).1 (pwR u v (i + 1 + 1)).2, p113_1, p113_c1, p113_2, p113_c2, p113_3, p113_c3, rfl, ⟨by omega, pwB_step hB9 (fitB_ok hb103).1 (fitB_ok hb103).2, ⟨spD_ne _ _, spX_mk _ _, spY_mk _ _, spX_len (fitB_ok hb103).1 (fitB_ok hb103).2, spY_len (fitB_ok hb103).1 (fitB_ok hb103).2, spD_len (fitB_ok hb103).1 (fitB_ok hb103).2⟩, ⟨hs114.nil, hs114.cap⟩, ⟨hs115.nil, hs115.cap⟩, ⟨hs116.nil, hs116.cap⟩⟩, hA.keep _ ⟨rfl, rfl, rfl, rfl, rfl, rfl, rfl, rfl, rfl, trivial⟩, ((hS.pickR [(p113_1, words (spX (pwR u v (i + 1 + 1)).1 (pwR u v (i + 1 + 1)).2).natAbs), (p113_2, words (spY (pwR u v (i + 1 + 1)).1 (pwR u v (i + 1 + 1)).2).natAbs), (p113_3, words (spD (pwR u v (i + 1 + 1)).1 (pwR u v (i + 1 + 1)).2)), (a3, words d), (a2, words y.natAbs), (a1, words x.natAbs)] ⟨⟨2, rfl⟩, ⟨⟨1, rfl⟩, ⟨⟨0, rfl⟩, ⟨⟨13, rfl⟩, ⟨⟨14, rfl⟩, ⟨⟨15, rfl⟩, trivial⟩⟩⟩⟩⟩⟩).subL _ (.cons _ (.cons_cons _ (.cons_cons _ (.cons_cons _ .slnil)))))⟩
     · refine seq_call hA rfl rfl rfl (enters_func  rfl rfl (fun w => by kernel_rfl)) (zsettle_as ⟨(hS.rd 2 rfl), hs21.nil, hs21.cap⟩ ⟨(hS.rd 1 rfl), hs22.nil, hs22.cap⟩ ⟨(hS.rd 0 rfl), hs23.nil, hs23.cap⟩ ((set_pw (Nat.mul_ne_zero hD9 hd) hS9.1 hS9.2).trans (ratS_no (fitB_no hb103))) (by omega) (by omega) (by omega) (Nat.mul_ne_zero hD9 hd)) ?_
       rintro _ w123 ⟨p120_1, p120_c1, p120_2, p120_c2, p120_3, p120_c3, p120_4, p120_c4, rfl, hn121, hb122⟩
       replace hS := hS.call hb122
       replace hS := hS.addR hn121.s1.rd
       replace hS := hS.addR hn121.s2.rd
       replace hS := hS.addR hn121.s3.rd
       replace hS := hS.addR hn121.s4.rd
       refine ⟨_, rfl, ?_⟩
       intro a hA
       refine seq_do hA rfl rfl rfl (does_move rfl) ?_
       intro a hA
       refine seq_do (v := .agg #[.bool false, .slice p120_1 0 p120_c1, .slice p120_2 0 p120_c2, .bool false, .slice p120_3 0 p120_c3, .slice p120_4 0 p120_c4]) hA rfl rfl rfl (does_extract (vs := [.agg #[.bool false, .slice p120_1 0 p120_c1, .slice p120_2 0 p120_c2, .bool false, .slice p120_3 0 p120_c3, .slice p120_4 0 p120_c4], .int .i64 4]) rfl rfl) ?_
       intro a hA
       refine seq_do (v := .int .i64 4) hA rfl rfl rfl (does_extract (vs := [.agg #[.bool false, .slice p120_1 0 p120_c1, .slice p120_2 0 p120_c2, .bool false, .slice p120_3 0 p120_c3, .slice p120_4 0 p120_c4], .int .i64 4]) rfl rfl) ?_
       intro a hA
       refine seq_new (vs := [.bool false, .slice none 0 0, .slice none 0 0, .bool false, .slice none 0 0, .slice none 0 0]) (t := 27) hA hS rfl rfl rfl (fun g => .pointer (some ⟨g, 0, none⟩)) (does_alloc (z := .agg #[.bool false, .slice none 0 0, .slice none 0 0, .bool false, .slice none 0 0, .slice none 0 0]) (by kernel_rfl) rfl) rfl ?_
       intro g124 w125 hS a hA
       refine seq_store (us := [.bool false, .slice p120_1 0 p120_c1, .slice p120_2 0 p120_c2, .bool false, .slice p120_3 0 p120_c3, .slice p120_4 0 p120_c4]) hA hS rfl rfl (sets_store rfl rfl rfl (by kernel_rfl) hS 0 rfl rfl rfl) 0 rfl rfl rfl rfl ?_
       intro w126 hS
       refine seq_do hA rfl rfl rfl (does_assign rfl) ?_
       intro a hA
       refine seq_end ?_
       refine hK102 _ _ ?_
       refine wp_seq_k (fun K127 hK127 => ?_)
       refine wp_seq_k (fun K128 hK128 => ?_)
       refine wp_region_lit ?_
       refine seq_do hA rfl rfl rfl (does_move rfl) ?_
       intro a hA
       refine seq_do (v := .bool true) hA rfl rfl rfl (does_bin rfl rfl (fun w => by kernel_rfl)) ?_
       intro a hA
       refine seq_end ?_
       refine hK128 _ _ ?_
       refine wp_cond_true (hA.ev rfl) ?_
       refine wp_seq_k (fun K129 hK129 => ?_)
       refine wp_region_lit ?_
       refine seq_do (v := .agg #[.bool false, .slice none 0 0, .bool false, .slice none 0 0, .slice none 0 0]) hA rfl rfl rfl (does_build rfl (fun w => by kernel_rfl)) ?_
       intro a hA
       refine seq_do hA rfl rfl rfl (does_move rfl) ?_
       intro a hA
       refine seq_store (us := [.bool false, .slice none 0 0, .bool false, .slice none 0 0, .slice none 0 0]) hA hS rfl rfl (sets_store rfl rfl rfl (by kernel_rfl) hS 2 rfl rfl rfl) 2 rfl rfl rfl rfl ?_
       intro w130 hS
       refine seq_do hA rfl rfl rfl (does_assign rfl) ?_
       intro a hA
       refine seq_end ?_
       refine hK129 _ _ ?_
       refine wp_ret ?_
       refine hret _ _ ?_
       refine ends (v := .tuple #[.agg #[.bool false, .slice none 0 0, .bool false, .slice none 0 0, .slice none 0 0], .int .i64 4]) hA rfl (.cons (res_cell hS ExU_isS_62 rfl 2 rfl (cs := [.bool false, .slice none 0 0, .bool false, .slice none 0 0, .slice none 0 0]) rfl rfl) (.cons (res_tmp rfl) .nil)) rfl ?_
       exact .inr ⟨pwB_stop (k := i + 1 + 1) (by omega) (fitB_no hb103), rfl, hS.bel⟩
 · have hb16' := of_decide_eq_false hb16
   refine seq_do (v := .bool false) hA rfl rfl rfl (does_bin rfl rfl (fun w => (bin_lss w).trans (by rw [hb16]))) ?_
   intro a hA
   refine seq_end ?_
   refine hK15 _ _ ?_
   refine wp_seq_k (fun K131 hK131 => ?_)
   refine wp_cond_false (hA.ev rfl) ?_
   refine wp_exit ?_
   refine hK10 _ _ ?_
   refine wp_seq_k (fun K132 hK132 => ?_)
   refine wp_region_lit ?_
   refine seq_do hA rfl rfl rfl (does_loadS hS ExU_isS_62 rfl 0 rfl (cs := [.bool ((rb X)), .slice po1 ((words X.natAbs).length) poc1, .bool ((rb Y)), .slice po2 ((words Y.natAbs).length) poc2, .slice po3 ((words D).length) poc3]) rfl rfl) ?_
   intro a hA
   refine seq_store (us := [.bool ((rb X)), .slice po1 ((words X.natAbs).length) poc1, .bool ((rb Y)), .slice po2 ((words Y.natAbs).length) poc2, .slice po3 ((words D).length) poc3]) hA hS rfl rfl (sets_store rfl rfl rfl (by kernel_rfl) hS 1 rfl rfl rfl) 1 rfl rfl rfl rfl ?_
   intro w133 hS
   refine seq_do hA rfl rfl rfl (does_assign rfl) ?_
   intro a hA
   refine seq_end ?_
   refine hK132 _ _ ?_
   refine wp_ret ?_
   refine hret _ _ ?_
   refine ends (v := .tuple #[.agg #[.bool ((rb X)), .slice po1 ((words X.natAbs).length) poc1, .bool ((rb Y)), .slice po2 ((words Y.natAbs).length) poc2, .slice po3 ((words D).length) poc3], .int .i64 0]) hA rfl (.cons (res_cell hS ExU_isS_62 rfl 1 rfl (cs := [.bool ((rb X)), .slice po1 ((words X.natAbs).length) poc1, .bool ((rb Y)), .slice po2 ((words Y.natAbs).length) poc2, .slice po3 ((words D).length) poc3]) rfl rfl) (.cons (res_tmp rfl) .nil)) rfl ?_
   obtain rfl : n = i + 1 := by omega
   exact .inl ⟨hB9, X, Y, D, ⟨hD9, hX9, hY9, lX9, lY9, lD9⟩, po1, poc1, po2, poc2, po3, poc3, rfl, ⟨(hS.rd 0 rfl), kn1.1, kn1.2⟩, ⟨(hS.rd 1 rfl), kn2.1, kn2.2⟩, ⟨(hS.rd 2 rfl), kn3.1, kn3.2⟩, hS.bel⟩
end Go.Proofs.YtbajcflbimmnhaaDoor
