/- Walks of the document's products and inverses. The document's -a - 1, and shifts of numbers. Walks of the document's -a - 1, and of shifts. How long numbers are in bits, and their opposites less one. Walks of the document's shifts, of lengths, of opposites less one, and of questions of sameness. How many bits of a number are 1. Walks of how many bits are 1. Rows of bits put together word by word. Walks of rows of bits put together. Numbers put together bit by bit. Walks of numbers put together bit by bit, and of Not. The fixed fact on bits. Walks of the fixed fact, and of sameness by the document. Walks of the document's Mul and Div, and the law on products. Numbers that come in as arguments. -/
import Derived.Test.YthempjanedhbpaaPexactp13a
import Derived.Test.YthempjanedhbpaaPexactp13b
import Derived.Test.YthempjanedhbpaaShiftRef2
import Derived.Test.YthempjanedhbpaaNatQ
import Derived.Test.YthempjanedhbpaaBits
import Derived.Test.YthempjanedhbpaaNatA
import Derived.Test.YthempjanedhbpaaArgs
import Derived.WalkKit
import Derived.ProofKit
import Derived.OpenShut
import Derived.ChangeOld
import Derived.Lib.SmallJoins
import Derived.Deep.Strs
namespace Go.Proofs.Ythempjanedhbpaa
open Go.RowKit
set_option linter.unusedVariables false
set_option linter.unusedSimpArgs false
set_option maxRecDepth 100000
theorem RfA_is1_22 : Is1 Try.prog 22 := ⟨⟨_, Try.underlying22, rfl⟩, by kernel_rfl⟩
theorem RfA_is1_4 : Is1 Try.prog 4 := ⟨⟨_, Try.underlying4, rfl⟩, by kernel_rfl⟩
theorem RfA_fld_24_0 : FieldAt Try.prog 24 0 0 := ⟨_, _, Try.underlying24, rfl, rfl, by kernel_rfl⟩
theorem RfA_fld_24_1 : FieldAt Try.prog 24 1 1 := ⟨_, _, Try.underlying24, rfl, rfl, by kernel_rfl⟩
theorem RfA_fld_24_2 : FieldAt Try.prog 24 2 2 := ⟨_, _, Try.underlying24, rfl, rfl, by kernel_rfl⟩
theorem RfA_fld_26_0 : FieldAt Try.prog 26 0 0 := ⟨_, _, Try.underlying26, rfl, rfl, by kernel_rfl⟩
theorem RfA_fld_26_1 : FieldAt Try.prog 26 1 3 := ⟨_, _, Try.underlying26, rfl, rfl, by kernel_rfl⟩
theorem RfA_isS_24 : IsS Try.prog 24 3 := ⟨⟨_, Try.underlying24⟩, by kernel_rfl⟩
theorem RfA_isS_26 : IsS Try.prog 26 6 := ⟨⟨_, Try.underlying26⟩, by kernel_rfl⟩
theorem prod_mk {u v r : Rat} (hr : u * v = r) : mkRat (sgn (!(rb u.num == rb v.num)) (u.num.natAbs * v.num.natAbs)) (u.den * v.den) = r := by rw [zs_times, mul_mk, hr]
theorem rprodR_any {w : World} {u v : Rat} {a1 a2 : Option Addr} {ac1 ac2 : Nat} (ha1 : Sc w a1 ac1 (words u.num.natAbs)) (ha2 : Sc w a2 ac2 (words u.den)) {u1 u2 : Option Addr} {uc1 uc2 : Nat} (hu1 : Sc w u1 uc1 (words v.num.natAbs)) (hu2 : Sc w u2 uc2 (words v.den)) (l1 : LenR 4000 u) (l2 : LenR 4000 v) {r : Rat} (hr : u * v = r) : Calls Try.prog 32 #[.agg #[.bool (rb u.num), .slice a1 (words u.num.natAbs).length ac1, .slice a2 (words u.den).length ac2], .agg #[.bool (rb v.num), .slice u1 (words v.num.natAbs).length uc1, .slice u2 (words v.den).length uc2]] w (AnsFR w r) := by
  have k1 := l1.1
  have k2 := l1.2
  have k3 := l2.1
  have k4 := l2.2
  have k5 := words_mul_length k1 k3
  have k6 := words_mul_length k2 k4
  have hS : St w w [] [(u2, words v.den), (u1, words v.num.natAbs), (a2, words u.den), (a1, words u.num.natAbs)] [] := ((((St.start w).addR ha1.rd).addR ha2.rd).addR hu1.rd).addR hu2.rd
  refine walk_of (l := [(0, .agg #[.bool ((rb u.num)), .slice a1 ((words u.num.natAbs).length) ac1, .slice a2 ((words u.den).length) ac2]), (1, .agg #[.bool ((rb v.num)), .slice u1 ((words v.num.natAbs).length) uc1, .slice u2 ((words v.den).length) uc2])]) Try.func32 rfl Try.ntmps32 rfl rfl ?_
  intro Q hret hnorm hP a hA
  refine wp_seq_k (fun K1 hK1 => ?_)
  refine wp_region_lit ?_
  refine seq_new (vs := [.bool ((rb u.num)), .slice a1 ((words u.num.natAbs).length) ac1, .slice a2 ((words u.den).length) ac2]) (t := 24) hA hS rfl rfl rfl (fun g => .pointer (some ⟨g, 0, none⟩)) (does_box rfl rfl) rfl ?_
  intro g2 w3 hS a hA
  refine seq_new (vs := [.bool ((rb v.num)), .slice u1 ((words v.num.natAbs).length) uc1, .slice u2 ((words v.den).length) uc2]) (t := 24) hA hS rfl rfl rfl (fun g => .pointer (some ⟨g, 0, none⟩)) (does_box rfl rfl) rfl ?_
  intro g4 w5 hS a hA
  refine seq_new (vs := [.bool false, .slice none 0 0, .slice none 0 0]) (t := 24) hA hS rfl rfl rfl (fun g => .pointer (some ⟨g, 0, none⟩)) (does_alloc (z := .agg #[.bool false, .slice none 0 0, .slice none 0 0]) (by kernel_rfl) rfl) rfl ?_
  intro g6 w7 hS a hA
  refine seq_end ?_
  refine hK1 _ _ ?_
  refine wp_seq_k (fun K8 hK8 => ?_)
  refine wp_draw (S := fun w1 => St w w1 [(g4, [.bool ((rb v.num)), .slice u1 ((words v.num.natAbs).length) uc1, .slice u2 ((words v.den).length) uc2]), (g2, [.bool ((rb u.num)), .slice a1 ((words u.num.natAbs).length) ac1, .slice a2 ((words u.den).length) ac2])] [(u2, words v.den), (u1, words v.num.natAbs), (a2, words u.den), (a1, words u.num.natAbs)] []) (by kernel_rfl) ?_
  replace hS := hS.drew
  refine any_take (v := .pointer (some ⟨g2, 0, none⟩)) hA 0 rfl rfl rfl rfl (by kernel_rfl) (by kernel_rfl) (by kernel_rfl) (fun c a w h => hP c a _ _ w h) (hS.partD (.cons _ (.cons_cons _ (.cons_cons _ .slnil))) 0 rfl (.refl _)) (fun w1 hS => does_field RfA_fld_24_0 rfl rfl) ?_
  intro a hA
  refine any_take hA 1 rfl rfl rfl rfl (by kernel_rfl) (by kernel_rfl) (by kernel_rfl) (fun c a w h => hP c a _ _ w h) (hS.partD (.cons _ (.cons_cons _ (.cons_cons _ .slnil))) 0 rfl (.refl _)) (fun w1 hS => does_load1 hS RfA_is1_4 rfl 1 rfl rfl) ?_
  intro a hA
  refine any_take (v := .pointer (some ⟨g4, 0, none⟩)) hA 2 rfl rfl rfl rfl (by kernel_rfl) (by kernel_rfl) (by kernel_rfl) (fun c a w h => hP c a _ _ w h) (hS.partD (.cons _ (.cons_cons _ (.cons_cons _ .slnil))) 0 rfl (.refl _)) (fun w1 hS => does_field RfA_fld_24_0 rfl rfl) ?_
  intro a hA
  refine any_take hA 3 rfl rfl rfl rfl (by kernel_rfl) (by kernel_rfl) (by kernel_rfl) (fun c a w h => hP c a _ _ w h) (hS.partD (.cons _ (.cons_cons _ (.cons_cons _ .slnil))) 0 rfl (.refl _)) (fun w1 hS => does_load1 hS RfA_is1_4 rfl 0 rfl rfl) ?_
  intro a hA
  refine any_take (v := .bool (!((rb u.num) == (rb v.num)))) hA 4 rfl rfl rfl rfl (by kernel_rfl) (by kernel_rfl) (by kernel_rfl) (fun c a w h => hP c a _ _ w h) (hS.partD (.cons _ (.cons_cons _ (.cons_cons _ .slnil))) 0 rfl (.refl _)) (fun w1 hS => does_bin rfl rfl (bin_neqB Try.underlying4)) ?_
  intro a hA
  refine any_take (v := .pointer (some ⟨g2, 1, none⟩)) hA 5 rfl rfl rfl rfl (by kernel_rfl) (by kernel_rfl) (by kernel_rfl) (fun c a w h => hP c a _ _ w h) (hS.partD (.cons _ (.cons_cons _ (.cons_cons _ .slnil))) 0 rfl (.refl _)) (fun w1 hS => does_field RfA_fld_24_1 rfl rfl) ?_
  intro a hA
  refine any_take hA 6 rfl rfl rfl rfl (by kernel_rfl) (by kernel_rfl) (by kernel_rfl) (fun c a w h => hP c a _ _ w h) (hS.partD (.cons _ (.cons_cons _ (.cons_cons _ .slnil))) 0 rfl (.refl _)) (fun w1 hS => does_load1 hS RfA_is1_22 rfl 1 rfl rfl) ?_
  intro a hA
  refine any_take (v := .pointer (some ⟨g4, 1, none⟩)) hA 7 rfl rfl rfl rfl (by kernel_rfl) (by kernel_rfl) (by kernel_rfl) (fun c a w h => hP c a _ _ w h) (hS.partD (.cons _ (.cons_cons _ (.cons_cons _ .slnil))) 0 rfl (.refl _)) (fun w1 hS => does_field RfA_fld_24_1 rfl rfl) ?_
  intro a hA
  refine any_take hA 8 rfl rfl rfl rfl (by kernel_rfl) (by kernel_rfl) (by kernel_rfl) (fun c a w h => hP c a _ _ w h) (hS.partD (.cons _ (.cons_cons _ (.cons_cons _ .slnil))) 0 rfl (.refl _)) (fun w1 hS => does_load1 hS RfA_is1_22 rfl 0 rfl rfl) ?_
  intro a hA
  refine any_take (v := .pointer (some ⟨g2, 2, none⟩)) hA 10 rfl rfl rfl rfl (by kernel_rfl) (by kernel_rfl) (by kernel_rfl) (fun c a w h => hP c a _ _ w h) (hS.partD (.cons _ (.cons_cons _ (.cons_cons _ .slnil))) 0 rfl (.refl _)) (fun w1 hS => does_field RfA_fld_24_2 rfl rfl) ?_
  intro a hA
  refine any_take hA 11 rfl rfl rfl rfl (by kernel_rfl) (by kernel_rfl) (by kernel_rfl) (fun c a w h => hP c a _ _ w h) (hS.partD (.cons _ (.cons_cons _ (.cons_cons _ .slnil))) 0 rfl (.refl _)) (fun w1 hS => does_load1 hS RfA_is1_22 rfl 1 rfl rfl) ?_
  intro a hA
  refine any_take (v := .pointer (some ⟨g4, 2, none⟩)) hA 12 rfl rfl rfl rfl (by kernel_rfl) (by kernel_rfl) (by kernel_rfl) (fun c a w h => hP c a _ _ w h) (hS.partD (.cons _ (.cons_cons _ (.cons_cons _ .slnil))) 0 rfl (.refl _)) (fun w1 hS => does_field RfA_fld_24_2 rfl rfl) ?_
  intro a hA
  refine any_take hA 13 rfl rfl rfl rfl (by kernel_rfl) (by kernel_rfl) (by kernel_rfl) (fun c a w h => hP c a _ _ w h) (hS.partD (.cons _ (.cons_cons _ (.cons_cons _ .slnil))) 0 rfl (.refl _)) (fun w1 hS => does_load1 hS RfA_is1_22 rfl 0 rfl rfl) ?_
  intro a hA
  refine any_one (by kernel_rfl) (op_call hA 9 rfl rfl rfl rfl (enters_func  rfl rfl (fun w => by kernel_rfl)) (rtimes_any _ _ (hS.rd 3 rfl) (hS.rd 1 rfl) (by omega) (by omega)) ?_)
  rintro _ w13 ⟨ro9, rc10, rfl, ho11, hb12⟩
  replace hS := hS.call hb12
  replace hS := hS.addR ho11.rd
  refine ⟨_, rfl, (hS.partD (.cons _ (.cons_cons _ (.cons_cons _ .slnil))) 1 rfl (.refl _)), ?_⟩
  intro a hA
  refine any_one (by kernel_rfl) (op_call hA 14 rfl rfl rfl rfl (enters_func  rfl rfl (fun w => by kernel_rfl)) (rtimes_any _ _ (hS.rd 3 rfl) (hS.rd 1 rfl) (by omega) (by omega)) ?_)
  rintro _ w18 ⟨ro14, rc15, rfl, ho16, hb17⟩
  replace hS := hS.call hb17
  replace hS := hS.addR ho16.rd
  refine ⟨_, rfl, (hS.partD (.cons _ (.cons_cons _ (.cons_cons _ .slnil))) 2 rfl (.refl _)), ?_⟩
  intro a hA
  refine any_one (by kernel_rfl) (op_call hA 15 rfl rfl rfl rfl (enters_func  rfl rfl (fun w => by kernel_rfl)) (rratR_any (!(rb u.num == rb v.num)) ⟨(hS.rd 1 rfl), ho11.nocap, ho11.caps⟩ ⟨(hS.rd 0 rfl), ho16.nocap, ho16.caps⟩ (by omega) (by omega) (Nat.mul_ne_zero u.den_nz v.den_nz) (prod_mk hr)) ?_)
  rintro _ w23 ⟨f19_1, f19_c1, f19_2, f19_c2, rfl, hs20, hs21, hb22⟩
  replace hS := hS.call hb22
  replace hS := hS.addR hs20.rd
  replace hS := hS.addR hs21.rd
  refine ⟨_, rfl, (hS.partD (.cons _ (.cons_cons _ (.cons_cons _ .slnil))) 4 rfl (.refl _)), ?_⟩
  intro a hA
  refine any_one (by kernel_rfl) (op_store (us := [.bool ((rb r.num)), .slice f19_1 ((words r.num.natAbs).length) f19_c1, .slice f19_2 ((words r.den).length) f19_c2]) hA hS 16 rfl rfl rfl (sets_store (cs := [.bool ((rb r.num)), .slice f19_1 ((words r.num.natAbs).length) f19_c1, .slice f19_2 ((words r.den).length) f19_c2]) rfl rfl rfl (by kernel_rfl) hS 0 rfl rfl rfl) 0 rfl rfl rfl rfl ?_)
  intro w24 hS
  refine ⟨(hS.partD (.cons _ (.cons_cons _ (.cons_cons _ .slnil))) 4 rfl (.refl _)), ?_⟩
  refine any_end (by kernel_rfl) ?_
  refine hK8 _ _ ?_
  refine wp_ret ?_
  refine hret _ _ ?_
  refine ends (v := .agg #[.bool ((rb r.num)), .slice f19_1 ((words r.num.natAbs).length) f19_c1, .slice f19_2 ((words r.den).length) f19_c2]) hA rfl (.cons (res_cell hS RfA_isS_24 rfl 0 rfl (cs := [.bool ((rb r.num)), .slice f19_1 ((words r.num.natAbs).length) f19_c1, .slice f19_2 ((words r.den).length) f19_c2]) rfl rfl) .nil) rfl ?_
  exact ⟨f19_1, f19_c1, f19_2, f19_c2, rfl, ⟨(hS.rd 1 rfl), hs20.nil, hs20.cap⟩, ⟨(hS.rd 0 rfl), hs21.nil, hs21.cap⟩, hS.bel⟩
set_option maxHeartbeats 1000000 in
theorem rtimesV_any {w : World} {u v x y : Rat} {a1 a2 a3 a4 : Option Addr} {ac1 ac2 ac3 ac4 : Nat} (ha : Nm w (Q6.rat u v) a1 ac1 a2 ac2 a3 ac3 a4 ac4) {u1 u2 u3 u4 : Option Addr} {uc1 uc2 uc3 uc4 : Nat} (hb : Nm w (Q6.rat x y) u1 uc1 u2 uc2 u3 uc3 u4 uc4) (LR_u : LenR 512 u) (LR_v : LenR 512 v) (LR_x : LenR 3000 x) (LR_y : LenR 3000 y) {r1 r2 r3 r4 m2 re im : Rat} (e1 : u * x = r1) (e2 : v * y = r2) (e3 : -r2 = m2) (e4 : r1 + m2 = re) (e5 : u * y = r3) (e6 : v * x = r4) (e7 : r3 + r4 = im) (LR_r1 : LenR 3512 r1) (LR_m2 : LenR 3512 m2) (LR_r3 : LenR 3512 r3) (LR_r4 : LenR 3512 r4) : Calls Try.prog 14 #[numV (Q6.rat u v) a1 ac1 a2 ac2 a3 ac3 a4 ac4, numV (Q6.rat x y) u1 uc1 u2 uc2 u3 uc3 u4 uc4] w (AnsV w (Q6.rat re im)) := by
  have hS : St w w [] [(u4, words y.den), (u3, words y.num.natAbs), (u2, words x.den), (u1, words x.num.natAbs), (a4, words v.den), (a3, words v.num.natAbs), (a2, words u.den), (a1, words u.num.natAbs)] [] := ((((((((St.start w).addR ha.s1.rd).addR ha.s2.rd).addR ha.s3.rd).addR ha.s4.rd).addR hb.s1.rd).addR hb.s2.rd).addR hb.s3.rd).addR hb.s4.rd
  refine walk_of (l := [(0, .agg #[.bool (rb u.num), .slice a1 ((words u.num.natAbs).length) ac1, .slice a2 ((words u.den).length) ac2, .bool (rb v.num), .slice a3 ((words v.num.natAbs).length) ac3, .slice a4 ((words v.den).length) ac4]), (1, .agg #[.bool (rb x.num), .slice u1 ((words x.num.natAbs).length) uc1, .slice u2 ((words x.den).length) uc2, .bool (rb y.num), .slice u3 ((words y.num.natAbs).length) uc3, .slice u4 ((words y.den).length) uc4])]) Try.func14 rfl Try.ntmps14 rfl rfl ?_
  intro Q hret hnorm hP a hA
  refine wp_seq_k (fun K1 hK1 => ?_)
  refine wp_region_lit ?_
  refine seq_new (vs := [.bool (rb u.num), .slice a1 ((words u.num.natAbs).length) ac1, .slice a2 ((words u.den).length) ac2, .bool (rb v.num), .slice a3 ((words v.num.natAbs).length) ac3, .slice a4 ((words v.den).length) ac4]) (t := 26) hA hS rfl rfl rfl (fun g => .pointer (some ⟨g, 0, none⟩)) (does_box rfl rfl) rfl ?_
  intro g2 w3 hS a hA
  refine seq_new (vs := [.bool (rb x.num), .slice u1 ((words x.num.natAbs).length) uc1, .slice u2 ((words x.den).length) uc2, .bool (rb y.num), .slice u3 ((words y.num.natAbs).length) uc3, .slice u4 ((words y.den).length) uc4]) (t := 26) hA hS rfl rfl rfl (fun g => .pointer (some ⟨g, 0, none⟩)) (does_box rfl rfl) rfl ?_
  intro g4 w5 hS a hA
  refine seq_new (vs := [.bool false, .slice none 0 0, .slice none 0 0, .bool false, .slice none 0 0, .slice none 0 0]) (t := 26) hA hS rfl rfl rfl (fun g => .pointer (some ⟨g, 0, none⟩)) (does_alloc (z := .agg #[.bool false, .slice none 0 0, .slice none 0 0, .bool false, .slice none 0 0, .slice none 0 0]) (by kernel_rfl) rfl) rfl ?_
  intro g6 w7 hS a hA
  refine seq_end ?_
  refine hK1 _ _ ?_
  refine wp_seq_k (fun K8 hK8 => ?_)
  have hJ41 : ∀ a w1, (∃ (J32g : Nat) (J33 : Option Addr) (J34 : Nat) (J35 : Option Addr) (J36 : Nat), Sl a 33 [(0, .agg #[.bool (rb u.num), .slice a1 ((words u.num.natAbs).length) ac1, .slice a2 ((words u.den).length) ac2, .bool (rb v.num), .slice a3 ((words v.num.natAbs).length) ac3, .slice a4 ((words v.den).length) ac4]), (1, .agg #[.bool (rb x.num), .slice u1 ((words x.num.natAbs).length) uc1, .slice u2 ((words x.den).length) uc2, .bool (rb y.num), .slice u3 ((words y.num.natAbs).length) uc3, .slice u4 ((words y.den).length) uc4]), (2, .pointer (some ⟨g2, 0, none⟩)), (3, .pointer (some ⟨g4, 0, none⟩)), (4, .pointer (some ⟨g6, 0, none⟩)), (5, .pointer (some ⟨J32g, 0, none⟩))] ∧ St w w1 [(J32g, [.bool ((rb re.num)), .slice J33 ((words re.num.natAbs).length) J34, .slice J35 ((words re.den).length) J36]), (g6, [.bool false, .slice none 0 0, .slice none 0 0, .bool false, .slice none 0 0, .slice none 0 0]), (g4, [.bool (rb x.num), .slice u1 ((words x.num.natAbs).length) uc1, .slice u2 ((words x.den).length) uc2, .bool (rb y.num), .slice u3 ((words y.num.natAbs).length) uc3, .slice u4 ((words y.den).length) uc4]), (g2, [.bool (rb u.num), .slice a1 ((words u.num.natAbs).length) ac1, .slice a2 ((words u.den).length) ac2, .bool (rb v.num), .slice a3 ((words v.num.natAbs).length) ac3, .slice a4 ((words v.den).length) ac4])] [(J35, words re.den), (J33, words re.num.natAbs), (u4, words y.den), (u3, words y.num.natAbs), (u2, words x.den), (u1, words x.num.natAbs), (a4, words v.den), (a3, words v.num.natAbs), (a2, words u.den), (a1, words u.num.natAbs)] [] ∧ (J35 = none → J36 = 0) ∧ (words re.den : List Nat).length ≤ J36 ∧ (J33 = none → J34 = 0) ∧ (words re.num.natAbs : List Nat).length ≤ J34) → K8 a w1 := by
    clear hA hS
    rintro a w42 ⟨J32g, J33, J34, J35, J36, hA, hS, hn37, hc38, hn39, hc40⟩
    refine hK8 _ _ ?_
    refine wp_seq_k (fun K43 hK43 => ?_)
    have hJ71 : ∀ a w1, (∃ (J62g : Nat) (J63 : Option Addr) (J64 : Nat) (J65 : Option Addr) (J66 : Nat), Sl a 33 [(0, .agg #[.bool (rb u.num), .slice a1 ((words u.num.natAbs).length) ac1, .slice a2 ((words u.den).length) ac2, .bool (rb v.num), .slice a3 ((words v.num.natAbs).length) ac3, .slice a4 ((words v.den).length) ac4]), (1, .agg #[.bool (rb x.num), .slice u1 ((words x.num.natAbs).length) uc1, .slice u2 ((words x.den).length) uc2, .bool (rb y.num), .slice u3 ((words y.num.natAbs).length) uc3, .slice u4 ((words y.den).length) uc4]), (2, .pointer (some ⟨g2, 0, none⟩)), (3, .pointer (some ⟨g4, 0, none⟩)), (4, .pointer (some ⟨g6, 0, none⟩)), (5, .pointer (some ⟨J32g, 0, none⟩)), (6, .pointer (some ⟨J62g, 0, none⟩))] ∧ St w w1 [(J62g, [.bool ((rb im.num)), .slice J63 ((words im.num.natAbs).length) J64, .slice J65 ((words im.den).length) J66]), (J32g, [.bool ((rb re.num)), .slice J33 ((words re.num.natAbs).length) J34, .slice J35 ((words re.den).length) J36]), (g6, [.bool false, .slice none 0 0, .slice none 0 0, .bool false, .slice none 0 0, .slice none 0 0]), (g4, [.bool (rb x.num), .slice u1 ((words x.num.natAbs).length) uc1, .slice u2 ((words x.den).length) uc2, .bool (rb y.num), .slice u3 ((words y.num.natAbs).length) uc3, .slice u4 ((words y.den).length) uc4]), (g2, [.bool (rb u.num), .slice a1 ((words u.num.natAbs).length) ac1, .slice a2 ((words u.den).length) ac2, .bool (rb v.num), .slice a3 ((words v.num.natAbs).length) ac3, .slice a4 ((words v.den).length) ac4])] [(J65, words im.den), (J63, words im.num.natAbs), (J35, words re.den), (J33, words re.num.natAbs), (u4, words y.den), (u3, words y.num.natAbs), (u2, words x.den), (u1, words x.num.natAbs), (a4, words v.den), (a3, words v.num.natAbs), (a2, words u.den), (a1, words u.num.natAbs)] [] ∧ (J65 = none → J66 = 0) ∧ (words im.den : List Nat).length ≤ J66 ∧ (J63 = none → J64 = 0) ∧ (words im.num.natAbs : List Nat).length ≤ J64) → K43 a w1 := by
      clear hA hS
      rintro a w72 ⟨J62g, J63, J64, J65, J66, hA, hS, hn67, hc68, hn69, hc70⟩
      refine hK43 _ _ ?_
      refine wp_seq_k (fun K73 hK73 => ?_)
      refine wp_region_lit ?_
      refine seq_do (v := .agg #[.bool ((rb re.num)), .slice J33 ((words re.num.natAbs).length) J34, .slice J35 ((words re.den).length) J36]) hA rfl rfl rfl (does_loadS hS RfA_isS_24 rfl 1 rfl (cs := [.bool ((rb re.num)), .slice J33 ((words re.num.natAbs).length) J34, .slice J35 ((words re.den).length) J36]) rfl rfl) ?_
      intro a hA
      refine seq_do (v := .agg #[.bool ((rb im.num)), .slice J63 ((words im.num.natAbs).length) J64, .slice J65 ((words im.den).length) J66]) hA rfl rfl rfl (does_loadS hS RfA_isS_24 rfl 0 rfl (cs := [.bool ((rb im.num)), .slice J63 ((words im.num.natAbs).length) J64, .slice J65 ((words im.den).length) J66]) rfl rfl) ?_
      intro a hA
      refine seq_do (v := .agg #[.bool ((rb re.num)), .slice J33 ((words re.num.natAbs).length) J34, .slice J35 ((words re.den).length) J36, .bool ((rb im.num)), .slice J63 ((words im.num.natAbs).length) J64, .slice J65 ((words im.den).length) J66]) hA rfl rfl rfl (does_build rfl (fun w => by kernel_rfl)) ?_
      intro a hA
      refine seq_store (us := [.bool ((rb re.num)), .slice J33 ((words re.num.natAbs).length) J34, .slice J35 ((words re.den).length) J36, .bool ((rb im.num)), .slice J63 ((words im.num.natAbs).length) J64, .slice J65 ((words im.den).length) J66]) hA hS rfl rfl (sets_store (cs := [.bool ((rb re.num)), .slice J33 ((words re.num.natAbs).length) J34, .slice J35 ((words re.den).length) J36, .bool ((rb im.num)), .slice J63 ((words im.num.natAbs).length) J64, .slice J65 ((words im.den).length) J66]) rfl rfl rfl (by kernel_rfl) hS 2 rfl rfl rfl) 2 rfl rfl rfl rfl ?_
      intro w74 hS
      refine seq_end ?_
      refine hK73 _ _ ?_
      refine wp_ret ?_
      refine hret _ _ ?_
      refine ends (v := .agg #[.bool ((rb re.num)), .slice J33 ((words re.num.natAbs).length) J34, .slice J35 ((words re.den).length) J36, .bool ((rb im.num)), .slice J63 ((words im.num.natAbs).length) J64, .slice J65 ((words im.den).length) J66]) hA rfl (.cons (res_cell hS RfA_isS_26 rfl 2 rfl (cs := [.bool ((rb re.num)), .slice J33 ((words re.num.natAbs).length) J34, .slice J35 ((words re.den).length) J36, .bool ((rb im.num)), .slice J63 ((words im.num.natAbs).length) J64, .slice J65 ((words im.den).length) J66]) rfl rfl) .nil) rfl ?_
      exact ⟨J33, J34, J35, J36, J63, J64, J65, J66, rfl, ⟨⟨(hS.rd 3 rfl), hn39, hc40⟩, ⟨(hS.rd 2 rfl), hn37, hc38⟩, ⟨(hS.rd 1 rfl), hn69, hc70⟩, ⟨(hS.rd 0 rfl), hn67, hc68⟩⟩, hS.bel⟩
    refine wp_draw (S := fun w1 => St w w1 [(J32g, [.bool ((rb re.num)), .slice J33 ((words re.num.natAbs).length) J34, .slice J35 ((words re.den).length) J36]), (g6, [.bool false, .slice none 0 0, .slice none 0 0, .bool false, .slice none 0 0, .slice none 0 0]), (g4, [.bool (rb x.num), .slice u1 ((words x.num.natAbs).length) uc1, .slice u2 ((words x.den).length) uc2, .bool (rb y.num), .slice u3 ((words y.num.natAbs).length) uc3, .slice u4 ((words y.den).length) uc4]), (g2, [.bool (rb u.num), .slice a1 ((words u.num.natAbs).length) ac1, .slice a2 ((words u.den).length) ac2, .bool (rb v.num), .slice a3 ((words v.num.natAbs).length) ac3, .slice a4 ((words v.den).length) ac4])] [(J35, words re.den), (J33, words re.num.natAbs), (u4, words y.den), (u3, words y.num.natAbs), (u2, words x.den), (u1, words x.num.natAbs), (a4, words v.den), (a3, words v.num.natAbs), (a2, words u.den), (a1, words u.num.natAbs)] []) (by kernel_rfl) ?_
    replace hS := hS.drew
    refine any_take (v := .pointer (some ⟨g2, 0, none⟩)) hA 0 rfl rfl rfl rfl (by kernel_rfl) (by kernel_rfl) (by kernel_rfl) (fun c a w h => hP c a _ _ w h) hS (fun w1 hS => does_field RfA_fld_26_0 rfl rfl) ?_
    intro a hA
    refine any_take (v := .agg #[.bool (rb u.num), .slice a1 ((words u.num.natAbs).length) ac1, .slice a2 ((words u.den).length) ac2]) hA 1 rfl rfl rfl rfl (by kernel_rfl) (by kernel_rfl) (by kernel_rfl) (fun c a w h => hP c a _ _ w h) hS (fun w1 hS => does_loadS hS RfA_isS_24 rfl 3 rfl (cs := [.bool (rb u.num), .slice a1 ((words u.num.natAbs).length) ac1, .slice a2 ((words u.den).length) ac2]) rfl rfl) ?_
    intro a hA
    refine any_take (v := .pointer (some ⟨g4, 3, none⟩)) hA 2 rfl rfl rfl rfl (by kernel_rfl) (by kernel_rfl) (by kernel_rfl) (fun c a w h => hP c a _ _ w h) hS (fun w1 hS => does_field RfA_fld_26_1 rfl rfl) ?_
    intro a hA
    refine any_take (v := .agg #[.bool (rb y.num), .slice u3 ((words y.num.natAbs).length) uc3, .slice u4 ((words y.den).length) uc4]) hA 3 rfl rfl rfl rfl (by kernel_rfl) (by kernel_rfl) (by kernel_rfl) (fun c a w h => hP c a _ _ w h) hS (fun w1 hS => does_loadS hS RfA_isS_24 rfl 2 rfl (cs := [.bool (rb y.num), .slice u3 ((words y.num.natAbs).length) uc3, .slice u4 ((words y.den).length) uc4]) rfl rfl) ?_
    intro a hA
    refine any_take (v := .pointer (some ⟨g2, 3, none⟩)) hA 5 rfl rfl rfl rfl (by kernel_rfl) (by kernel_rfl) (by kernel_rfl) (fun c a w h => hP c a _ _ w h) hS (fun w1 hS => does_field RfA_fld_26_1 rfl rfl) ?_
    intro a hA
    refine any_take (v := .agg #[.bool (rb v.num), .slice a3 ((words v.num.natAbs).length) ac3, .slice a4 ((words v.den).length) ac4]) hA 6 rfl rfl rfl rfl (by kernel_rfl) (by kernel_rfl) (by kernel_rfl) (fun c a w h => hP c a _ _ w h) hS (fun w1 hS => does_loadS hS RfA_isS_24 rfl 3 rfl (cs := [.bool (rb v.num), .slice a3 ((words v.num.natAbs).length) ac3, .slice a4 ((words v.den).length) ac4]) rfl rfl) ?_
    intro a hA
    refine any_take (v := .pointer (some ⟨g4, 0, none⟩)) hA 7 rfl rfl rfl rfl (by kernel_rfl) (by kernel_rfl) (by kernel_rfl) (fun c a w h => hP c a _ _ w h) hS (fun w1 hS => does_field RfA_fld_26_0 rfl rfl) ?_
    intro a hA
    refine any_take (v := .agg #[.bool (rb x.num), .slice u1 ((words x.num.natAbs).length) uc1, .slice u2 ((words x.den).length) uc2]) hA 8 rfl rfl rfl rfl (by kernel_rfl) (by kernel_rfl) (by kernel_rfl) (fun c a w h => hP c a _ _ w h) hS (fun w1 hS => does_loadS hS RfA_isS_24 rfl 2 rfl (cs := [.bool (rb x.num), .slice u1 ((words x.num.natAbs).length) uc1, .slice u2 ((words x.den).length) uc2]) rfl rfl) ?_
    intro a hA
    refine any_many (rs := [4, 11]) (by kernel_rfl) (by simp) ⟨?_, ?_, trivial⟩
    · refine op_call hA 4 rfl rfl rfl rfl (enters_func  rfl rfl (fun w => by kernel_rfl)) (rprodR_any ⟨(hS.rd 9 rfl), ha.s1.nil, ha.s1.cap⟩ ⟨(hS.rd 8 rfl), ha.s2.nil, ha.s2.cap⟩ ⟨(hS.rd 3 rfl), hb.s3.nil, hb.s3.cap⟩ ⟨(hS.rd 2 rfl), hb.s4.nil, hb.s4.cap⟩ (LR_u.mono (by decide)) (LR_y.mono (by decide)) e5) ?_
      rintro _ w79 ⟨f75_1, f75_c1, f75_2, f75_c2, rfl, hs76, hs77, hb78⟩
      replace hS := hS.call hb78
      replace hS := hS.addR hs76.rd
      replace hS := hS.addR hs77.rd
      refine ⟨_, rfl, (hS.partD (.refl _) 2 rfl (.refl _)), ?_⟩
      intro a hA
      refine any_many (rs := [9, 11]) (by kernel_rfl) (by simp) ⟨?_, ?_, trivial⟩
      · refine op_call hA 9 rfl rfl rfl rfl (enters_func  rfl rfl (fun w => by kernel_rfl)) (rprodR_any ⟨(hS.rd 9 rfl), ha.s3.nil, ha.s3.cap⟩ ⟨(hS.rd 8 rfl), ha.s4.nil, ha.s4.cap⟩ ⟨(hS.rd 7 rfl), hb.s1.nil, hb.s1.cap⟩ ⟨(hS.rd 6 rfl), hb.s2.nil, hb.s2.cap⟩ (LR_v.mono (by decide)) (LR_x.mono (by decide)) e6) ?_
        rintro _ w84 ⟨f80_1, f80_c1, f80_2, f80_c2, rfl, hs81, hs82, hb83⟩
        replace hS := hS.call hb83
        replace hS := hS.addR hs81.rd
        replace hS := hS.addR hs82.rd
        refine ⟨_, rfl, (hS.partD (.refl _) 4 rfl (.refl _)), ?_⟩
        intro a hA
        refine any_many (rs := [10, 11]) (by kernel_rfl) (by simp) ⟨?_, ?_, trivial⟩
        · refine op_call hA 10 rfl rfl rfl rfl (enters_func  rfl rfl (fun w => by kernel_rfl)) (rsumR_any ⟨(hS.rd 3 rfl), hs76.nil, hs76.cap⟩ ⟨(hS.rd 2 rfl), hs77.nil, hs77.cap⟩ ⟨(hS.rd 1 rfl), hs81.nil, hs81.cap⟩ ⟨(hS.rd 0 rfl), hs82.nil, hs82.cap⟩ (LR_r3.mono (by decide)) (LR_r4.mono (by decide)) e7) ?_
          rintro _ w89 ⟨f85_1, f85_c1, f85_2, f85_c2, rfl, hs86, hs87, hb88⟩
          replace hS := hS.call hb88
          replace hS := hS.addR hs86.rd
          replace hS := hS.addR hs87.rd
          refine ⟨_, rfl, (hS.partD (.refl _) 6 rfl (.refl _)), ?_⟩
          intro a hA
          refine any_one (by kernel_rfl) (op_new (vs := [.bool false, .slice none 0 0, .slice none 0 0]) (t := 24) hA hS 11 rfl rfl rfl rfl (fun g => .pointer (some ⟨g, 0, none⟩)) (does_alloc (z := .agg #[.bool false, .slice none 0 0, .slice none 0 0]) (by kernel_rfl) rfl) rfl ?_)
          intro g90 w91 hS
          refine ⟨(hS.partD (.cons _ (.cons_cons _ (.cons_cons _ (.cons_cons _ (.cons_cons _ .slnil))))) 6 rfl (.refl _)), ?_⟩
          intro a hA
          refine any_one (by kernel_rfl) (op_store (us := [.bool ((rb im.num)), .slice f85_1 ((words im.num.natAbs).length) f85_c1, .slice f85_2 ((words im.den).length) f85_c2]) hA hS 12 rfl rfl rfl (sets_store (cs := [.bool ((rb im.num)), .slice f85_1 ((words im.num.natAbs).length) f85_c1, .slice f85_2 ((words im.den).length) f85_c2]) rfl rfl rfl (by kernel_rfl) hS 0 rfl rfl rfl) 0 rfl rfl rfl rfl ?_)
          intro w92 hS
          refine ⟨(hS.partD (.cons _ (.cons_cons _ (.cons_cons _ (.cons_cons _ (.cons_cons _ .slnil))))) 6 rfl (.refl _)), ?_⟩
          refine any_end (by kernel_rfl) ?_
          refine hJ71 _ _ ⟨g90, f85_1, f85_c1, f85_2, f85_c2, hA.keep _ ⟨rfl, rfl, rfl, rfl, rfl, rfl, rfl, trivial⟩, ((hS.pickR [(f85_2, words im.den), (f85_1, words im.num.natAbs), (J35, words re.den), (J33, words re.num.natAbs), (u4, words y.den), (u3, words y.num.natAbs), (u2, words x.den), (u1, words x.num.natAbs), (a4, words v.den), (a3, words v.num.natAbs), (a2, words u.den), (a1, words u.num.natAbs)] ⟨⟨0, rfl⟩, ⟨⟨1, rfl⟩, ⟨⟨6, rfl⟩, ⟨⟨7, rfl⟩, ⟨⟨8, rfl⟩, ⟨⟨9, rfl⟩, ⟨⟨10, rfl⟩, ⟨⟨11, rfl⟩, ⟨⟨12, rfl⟩, ⟨⟨13, rfl⟩, ⟨⟨14, rfl⟩, ⟨⟨15, rfl⟩, trivial⟩⟩⟩⟩⟩⟩⟩⟩⟩⟩⟩⟩).pickL [(g90, [.bool ((rb im.num)), .slice f85_1 ((words im.num.natAbs).length) f85_c1, .slice f85_2 ((words im.den).length) f85_c2]), (J32g, [.bool ((rb re.num)), .slice J33 ((words re.num.natAbs).length) J34, .slice J35 ((words re.den).length) J36]), (g6, [.bool false, .slice none 0 0, .slice none 0 0, .bool false, .slice none 0 0, .slice none 0 0]), (g4, [.bool (rb x.num), .slice u1 ((words x.num.natAbs).length) uc1, .slice u2 ((words x.den).length) uc2, .bool (rb y.num), .slice u3 ((words y.num.natAbs).length) uc3, .slice u4 ((words y.den).length) uc4]), (g2, [.bool (rb u.num), .slice a1 ((words u.num.natAbs).length) ac1, .slice a2 ((words u.den).length) ac2, .bool (rb v.num), .slice a3 ((words v.num.natAbs).length) ac3, .slice a4 ((words v.den).length) ac4])] [0, 1, 2, 3, 4] rfl (by decide)), hs87.nil, hs87.cap, hs86.nil, hs86.cap⟩
        · refine op_new (vs := [.bool false, .slice none 0 0, .slice none 0 0]) (t := 24) hA hS 11 rfl rfl rfl rfl (fun g => .pointer (some ⟨g, 0, none⟩)) (does_alloc (z := .agg #[.bool false, .slice none 0 0, .slice none 0 0]) (by kernel_rfl) rfl) rfl ?_
          intro g93 w94 hS
          refine ⟨(hS.partD (.cons _ (.cons_cons _ (.cons_cons _ (.cons_cons _ (.cons_cons _ .slnil))))) 4 rfl (.refl _)), ?_⟩
          intro a hA
          refine any_one (by kernel_rfl) (op_call hA 10 rfl rfl rfl rfl (enters_func  rfl rfl (fun w => by kernel_rfl)) (rsumR_any ⟨(hS.rd 3 rfl), hs76.nil, hs76.cap⟩ ⟨(hS.rd 2 rfl), hs77.nil, hs77.cap⟩ ⟨(hS.rd 1 rfl), hs81.nil, hs81.cap⟩ ⟨(hS.rd 0 rfl), hs82.nil, hs82.cap⟩ (LR_r3.mono (by decide)) (LR_r4.mono (by decide)) e7) ?_)
          rintro _ w99 ⟨f95_1, f95_c1, f95_2, f95_c2, rfl, hs96, hs97, hb98⟩
          replace hS := hS.call hb98
          replace hS := hS.addR hs96.rd
          replace hS := hS.addR hs97.rd
          refine ⟨_, rfl, (hS.partD (.cons _ (.cons_cons _ (.cons_cons _ (.cons_cons _ (.cons_cons _ .slnil))))) 6 rfl (.refl _)), ?_⟩
          intro a hA
          refine any_one (by kernel_rfl) (op_store (us := [.bool ((rb im.num)), .slice f95_1 ((words im.num.natAbs).length) f95_c1, .slice f95_2 ((words im.den).length) f95_c2]) hA hS 12 rfl rfl rfl (sets_store (cs := [.bool ((rb im.num)), .slice f95_1 ((words im.num.natAbs).length) f95_c1, .slice f95_2 ((words im.den).length) f95_c2]) rfl rfl rfl (by kernel_rfl) hS 0 rfl rfl rfl) 0 rfl rfl rfl rfl ?_)
          intro w100 hS
          refine ⟨(hS.partD (.cons _ (.cons_cons _ (.cons_cons _ (.cons_cons _ (.cons_cons _ .slnil))))) 6 rfl (.refl _)), ?_⟩
          refine any_end (by kernel_rfl) ?_
          refine hJ71 _ _ ⟨g93, f95_1, f95_c1, f95_2, f95_c2, hA.keep _ ⟨rfl, rfl, rfl, rfl, rfl, rfl, rfl, trivial⟩, ((hS.pickR [(f95_2, words im.den), (f95_1, words im.num.natAbs), (J35, words re.den), (J33, words re.num.natAbs), (u4, words y.den), (u3, words y.num.natAbs), (u2, words x.den), (u1, words x.num.natAbs), (a4, words v.den), (a3, words v.num.natAbs), (a2, words u.den), (a1, words u.num.natAbs)] ⟨⟨0, rfl⟩, ⟨⟨1, rfl⟩, ⟨⟨6, rfl⟩, ⟨⟨7, rfl⟩, ⟨⟨8, rfl⟩, ⟨⟨9, rfl⟩, ⟨⟨10, rfl⟩, ⟨⟨11, rfl⟩, ⟨⟨12, rfl⟩, ⟨⟨13, rfl⟩, ⟨⟨14, rfl⟩, ⟨⟨15, rfl⟩, trivial⟩⟩⟩⟩⟩⟩⟩⟩⟩⟩⟩⟩).pickL [(g93, [.bool ((rb im.num)), .slice f95_1 ((words im.num.natAbs).length) f95_c1, .slice f95_2 ((words im.den).length) f95_c2]), (J32g, [.bool ((rb re.num)), .slice J33 ((words re.num.natAbs).length) J34, .slice J35 ((words re.den).length) J36]), (g6, [.bool false, .slice none 0 0, .slice none 0 0, .bool false, .slice none 0 0, .slice none 0 0]), (g4, [.bool (rb x.num), .slice u1 ((words x.num.natAbs).length) uc1, .slice u2 ((words x.den).length) uc2, .bool (rb y.num), .slice u3 ((words y.num.natAbs).length) uc3, .slice u4 ((words y.den).length) uc4]), (g2, [.bool (rb u.num), .slice a1 ((words u.num.natAbs).length) ac1, .slice a2 ((words u.den).length) ac2, .bool (rb v.num), .slice a3 ((words v.num.natAbs).length) ac3, .slice a4 ((words v.den).length) ac4])] [0, 1, 2, 3, 4] rfl (by decide)), hs97.nil, hs97.cap, hs96.nil, hs96.cap⟩
      · refine op_new (vs := [.bool false, .slice none 0 0, .slice none 0 0]) (t := 24) hA hS 11 rfl rfl rfl rfl (fun g => .pointer (some ⟨g, 0, none⟩)) (does_alloc (z := .agg #[.bool false, .slice none 0 0, .slice none 0 0]) (by kernel_rfl) rfl) rfl ?_
        intro g101 w102 hS
        refine ⟨(hS.partD (.cons _ (.cons_cons _ (.cons_cons _ (.cons_cons _ (.cons_cons _ .slnil))))) 2 rfl (.refl _)), ?_⟩
        intro a hA
        refine any_one (by kernel_rfl) (op_call hA 9 rfl rfl rfl rfl (enters_func  rfl rfl (fun w => by kernel_rfl)) (rprodR_any ⟨(hS.rd 9 rfl), ha.s3.nil, ha.s3.cap⟩ ⟨(hS.rd 8 rfl), ha.s4.nil, ha.s4.cap⟩ ⟨(hS.rd 7 rfl), hb.s1.nil, hb.s1.cap⟩ ⟨(hS.rd 6 rfl), hb.s2.nil, hb.s2.cap⟩ (LR_v.mono (by decide)) (LR_x.mono (by decide)) e6) ?_)
        rintro _ w107 ⟨f103_1, f103_c1, f103_2, f103_c2, rfl, hs104, hs105, hb106⟩
        replace hS := hS.call hb106
        replace hS := hS.addR hs104.rd
        replace hS := hS.addR hs105.rd
        refine ⟨_, rfl, (hS.partD (.cons _ (.cons_cons _ (.cons_cons _ (.cons_cons _ (.cons_cons _ .slnil))))) 4 rfl (.refl _)), ?_⟩
        intro a hA
        refine any_one (by kernel_rfl) (op_call hA 10 rfl rfl rfl rfl (enters_func  rfl rfl (fun w => by kernel_rfl)) (rsumR_any ⟨(hS.rd 3 rfl), hs76.nil, hs76.cap⟩ ⟨(hS.rd 2 rfl), hs77.nil, hs77.cap⟩ ⟨(hS.rd 1 rfl), hs104.nil, hs104.cap⟩ ⟨(hS.rd 0 rfl), hs105.nil, hs105.cap⟩ (LR_r3.mono (by decide)) (LR_r4.mono (by decide)) e7) ?_)
        rintro _ w112 ⟨f108_1, f108_c1, f108_2, f108_c2, rfl, hs109, hs110, hb111⟩
        replace hS := hS.call hb111
        replace hS := hS.addR hs109.rd
        replace hS := hS.addR hs110.rd
        refine ⟨_, rfl, (hS.partD (.cons _ (.cons_cons _ (.cons_cons _ (.cons_cons _ (.cons_cons _ .slnil))))) 6 rfl (.refl _)), ?_⟩
        intro a hA
        refine any_one (by kernel_rfl) (op_store (us := [.bool ((rb im.num)), .slice f108_1 ((words im.num.natAbs).length) f108_c1, .slice f108_2 ((words im.den).length) f108_c2]) hA hS 12 rfl rfl rfl (sets_store (cs := [.bool ((rb im.num)), .slice f108_1 ((words im.num.natAbs).length) f108_c1, .slice f108_2 ((words im.den).length) f108_c2]) rfl rfl rfl (by kernel_rfl) hS 0 rfl rfl rfl) 0 rfl rfl rfl rfl ?_)
        intro w113 hS
        refine ⟨(hS.partD (.cons _ (.cons_cons _ (.cons_cons _ (.cons_cons _ (.cons_cons _ .slnil))))) 6 rfl (.refl _)), ?_⟩
        refine any_end (by kernel_rfl) ?_
        refine hJ71 _ _ ⟨g101, f108_1, f108_c1, f108_2, f108_c2, hA.keep _ ⟨rfl, rfl, rfl, rfl, rfl, rfl, rfl, trivial⟩, ((hS.pickR [(f108_2, words im.den), (f108_1, words im.num.natAbs), (J35, words re.den), (J33, words re.num.natAbs), (u4, words y.den), (u3, words y.num.natAbs), (u2, words x.den), (u1, words x.num.natAbs), (a4, words v.den), (a3, words v.num.natAbs), (a2, words u.den), (a1, words u.num.natAbs)] ⟨⟨0, rfl⟩, ⟨⟨1, rfl⟩, ⟨⟨6, rfl⟩, ⟨⟨7, rfl⟩, ⟨⟨8, rfl⟩, ⟨⟨9, rfl⟩, ⟨⟨10, rfl⟩, ⟨⟨11, rfl⟩, ⟨⟨12, rfl⟩, ⟨⟨13, rfl⟩, ⟨⟨14, rfl⟩, ⟨⟨15, rfl⟩, trivial⟩⟩⟩⟩⟩⟩⟩⟩⟩⟩⟩⟩).pickL [(g101, [.bool ((rb im.num)), .slice f108_1 ((words im.num.natAbs).length) f108_c1, .slice f108_2 ((words im.den).length) f108_c2]), (J32g, [.bool ((rb re.num)), .slice J33 ((words re.num.natAbs).length) J34, .slice J35 ((words re.den).length) J36]), (g6, [.bool false, .slice none 0 0, .slice none 0 0, .bool false, .slice none 0 0, .slice none 0 0]), (g4, [.bool (rb x.num), .slice u1 ((words x.num.natAbs).length) uc1, .slice u2 ((words x.den).length) uc2, .bool (rb y.num), .slice u3 ((words y.num.natAbs).length) uc3, .slice u4 ((words y.den).length) uc4]), (g2, [.bool (rb u.num), .slice a1 ((words u.num.natAbs).length) ac1, .slice a2 ((words u.den).length) ac2, .bool (rb v.num), .slice a3 ((words v.num.natAbs).length) ac3, .slice a4 ((words v.den).length) ac4])] [0, 1, 2, 3, 4] rfl (by decide)), hs110.nil, hs110.cap, hs109.nil, hs109.cap⟩
    · refine op_new (vs := [.bool false, .slice none 0 0, .slice none 0 0]) (t := 24) hA hS 11 rfl rfl rfl rfl (fun g => .pointer (some ⟨g, 0, none⟩)) (does_alloc (z := .agg #[.bool false, .slice none 0 0, .slice none 0 0]) (by kernel_rfl) rfl) rfl ?_
      intro g114 w115 hS
      refine ⟨(hS.partD (.cons _ (.cons_cons _ (.cons_cons _ (.cons_cons _ (.cons_cons _ .slnil))))) 0 rfl (.refl _)), ?_⟩
      intro a hA
      refine any_one (by kernel_rfl) (op_call hA 4 rfl rfl rfl rfl (enters_func  rfl rfl (fun w => by kernel_rfl)) (rprodR_any ⟨(hS.rd 9 rfl), ha.s1.nil, ha.s1.cap⟩ ⟨(hS.rd 8 rfl), ha.s2.nil, ha.s2.cap⟩ ⟨(hS.rd 3 rfl), hb.s3.nil, hb.s3.cap⟩ ⟨(hS.rd 2 rfl), hb.s4.nil, hb.s4.cap⟩ (LR_u.mono (by decide)) (LR_y.mono (by decide)) e5) ?_)
      rintro _ w120 ⟨f116_1, f116_c1, f116_2, f116_c2, rfl, hs117, hs118, hb119⟩
      replace hS := hS.call hb119
      replace hS := hS.addR hs117.rd
      replace hS := hS.addR hs118.rd
      refine ⟨_, rfl, (hS.partD (.cons _ (.cons_cons _ (.cons_cons _ (.cons_cons _ (.cons_cons _ .slnil))))) 2 rfl (.refl _)), ?_⟩
      intro a hA
      refine any_one (by kernel_rfl) (op_call hA 9 rfl rfl rfl rfl (enters_func  rfl rfl (fun w => by kernel_rfl)) (rprodR_any ⟨(hS.rd 9 rfl), ha.s3.nil, ha.s3.cap⟩ ⟨(hS.rd 8 rfl), ha.s4.nil, ha.s4.cap⟩ ⟨(hS.rd 7 rfl), hb.s1.nil, hb.s1.cap⟩ ⟨(hS.rd 6 rfl), hb.s2.nil, hb.s2.cap⟩ (LR_v.mono (by decide)) (LR_x.mono (by decide)) e6) ?_)
      rintro _ w125 ⟨f121_1, f121_c1, f121_2, f121_c2, rfl, hs122, hs123, hb124⟩
      replace hS := hS.call hb124
      replace hS := hS.addR hs122.rd
      replace hS := hS.addR hs123.rd
      refine ⟨_, rfl, (hS.partD (.cons _ (.cons_cons _ (.cons_cons _ (.cons_cons _ (.cons_cons _ .slnil))))) 4 rfl (.refl _)), ?_⟩
      intro a hA
      refine any_one (by kernel_rfl) (op_call hA 10 rfl rfl rfl rfl (enters_func  rfl rfl (fun w => by kernel_rfl)) (rsumR_any ⟨(hS.rd 3 rfl), hs117.nil, hs117.cap⟩ ⟨(hS.rd 2 rfl), hs118.nil, hs118.cap⟩ ⟨(hS.rd 1 rfl), hs122.nil, hs122.cap⟩ ⟨(hS.rd 0 rfl), hs123.nil, hs123.cap⟩ (LR_r3.mono (by decide)) (LR_r4.mono (by decide)) e7) ?_)
      rintro _ w130 ⟨f126_1, f126_c1, f126_2, f126_c2, rfl, hs127, hs128, hb129⟩
      replace hS := hS.call hb129
      replace hS := hS.addR hs127.rd
      replace hS := hS.addR hs128.rd
      refine ⟨_, rfl, (hS.partD (.cons _ (.cons_cons _ (.cons_cons _ (.cons_cons _ (.cons_cons _ .slnil))))) 6 rfl (.refl _)), ?_⟩
      intro a hA
      refine any_one (by kernel_rfl) (op_store (us := [.bool ((rb im.num)), .slice f126_1 ((words im.num.natAbs).length) f126_c1, .slice f126_2 ((words im.den).length) f126_c2]) hA hS 12 rfl rfl rfl (sets_store (cs := [.bool ((rb im.num)), .slice f126_1 ((words im.num.natAbs).length) f126_c1, .slice f126_2 ((words im.den).length) f126_c2]) rfl rfl rfl (by kernel_rfl) hS 0 rfl rfl rfl) 0 rfl rfl rfl rfl ?_)
      intro w131 hS
      refine ⟨(hS.partD (.cons _ (.cons_cons _ (.cons_cons _ (.cons_cons _ (.cons_cons _ .slnil))))) 6 rfl (.refl _)), ?_⟩
      refine any_end (by kernel_rfl) ?_
      refine hJ71 _ _ ⟨g114, f126_1, f126_c1, f126_2, f126_c2, hA.keep _ ⟨rfl, rfl, rfl, rfl, rfl, rfl, rfl, trivial⟩, ((hS.pickR [(f126_2, words im.den), (f126_1, words im.num.natAbs), (J35, words re.den), (J33, words re.num.natAbs), (u4, words y.den), (u3, words y.num.natAbs), (u2, words x.den), (u1, words x.num.natAbs), (a4, words v.den), (a3, words v.num.natAbs), (a2, words u.den), (a1, words u.num.natAbs)] ⟨⟨0, rfl⟩, ⟨⟨1, rfl⟩, ⟨⟨6, rfl⟩, ⟨⟨7, rfl⟩, ⟨⟨8, rfl⟩, ⟨⟨9, rfl⟩, ⟨⟨10, rfl⟩, ⟨⟨11, rfl⟩, ⟨⟨12, rfl⟩, ⟨⟨13, rfl⟩, ⟨⟨14, rfl⟩, ⟨⟨15, rfl⟩, trivial⟩⟩⟩⟩⟩⟩⟩⟩⟩⟩⟩⟩).pickL [(g114, [.bool ((rb im.num)), .slice f126_1 ((words im.num.natAbs).length) f126_c1, .slice f126_2 ((words im.den).length) f126_c2]), (J32g, [.bool ((rb re.num)), .slice J33 ((words re.num.natAbs).length) J34, .slice J35 ((words re.den).length) J36]), (g6, [.bool false, .slice none 0 0, .slice none 0 0, .bool false, .slice none 0 0, .slice none 0 0]), (g4, [.bool (rb x.num), .slice u1 ((words x.num.natAbs).length) uc1, .slice u2 ((words x.den).length) uc2, .bool (rb y.num), .slice u3 ((words y.num.natAbs).length) uc3, .slice u4 ((words y.den).length) uc4]), (g2, [.bool (rb u.num), .slice a1 ((words u.num.natAbs).length) ac1, .slice a2 ((words u.den).length) ac2, .bool (rb v.num), .slice a3 ((words v.num.natAbs).length) ac3, .slice a4 ((words v.den).length) ac4])] [0, 1, 2, 3, 4] rfl (by decide)), hs128.nil, hs128.cap, hs127.nil, hs127.cap⟩
  refine wp_draw (S := fun w1 => St w w1 [(g6, [.bool false, .slice none 0 0, .slice none 0 0, .bool false, .slice none 0 0, .slice none 0 0]), (g4, [.bool (rb x.num), .slice u1 ((words x.num.natAbs).length) uc1, .slice u2 ((words x.den).length) uc2, .bool (rb y.num), .slice u3 ((words y.num.natAbs).length) uc3, .slice u4 ((words y.den).length) uc4]), (g2, [.bool (rb u.num), .slice a1 ((words u.num.natAbs).length) ac1, .slice a2 ((words u.den).length) ac2, .bool (rb v.num), .slice a3 ((words v.num.natAbs).length) ac3, .slice a4 ((words v.den).length) ac4])] [(u4, words y.den), (u3, words y.num.natAbs), (u2, words x.den), (u1, words x.num.natAbs), (a4, words v.den), (a3, words v.num.natAbs), (a2, words u.den), (a1, words u.num.natAbs)] []) (by kernel_rfl) ?_
  replace hS := hS.drew
  refine any_take (v := .pointer (some ⟨g2, 0, none⟩)) hA 0 rfl rfl rfl rfl (by kernel_rfl) (by kernel_rfl) (by kernel_rfl) (fun c a w h => hP c a _ _ w h) hS (fun w1 hS => does_field RfA_fld_26_0 rfl rfl) ?_
  intro a hA
  refine any_take (v := .agg #[.bool (rb u.num), .slice a1 ((words u.num.natAbs).length) ac1, .slice a2 ((words u.den).length) ac2]) hA 1 rfl rfl rfl rfl (by kernel_rfl) (by kernel_rfl) (by kernel_rfl) (fun c a w h => hP c a _ _ w h) hS (fun w1 hS => does_loadS hS RfA_isS_24 rfl 2 rfl (cs := [.bool (rb u.num), .slice a1 ((words u.num.natAbs).length) ac1, .slice a2 ((words u.den).length) ac2]) rfl rfl) ?_
  intro a hA
  refine any_take (v := .pointer (some ⟨g4, 0, none⟩)) hA 2 rfl rfl rfl rfl (by kernel_rfl) (by kernel_rfl) (by kernel_rfl) (fun c a w h => hP c a _ _ w h) hS (fun w1 hS => does_field RfA_fld_26_0 rfl rfl) ?_
  intro a hA
  refine any_take (v := .agg #[.bool (rb x.num), .slice u1 ((words x.num.natAbs).length) uc1, .slice u2 ((words x.den).length) uc2]) hA 3 rfl rfl rfl rfl (by kernel_rfl) (by kernel_rfl) (by kernel_rfl) (fun c a w h => hP c a _ _ w h) hS (fun w1 hS => does_loadS hS RfA_isS_24 rfl 1 rfl (cs := [.bool (rb x.num), .slice u1 ((words x.num.natAbs).length) uc1, .slice u2 ((words x.den).length) uc2]) rfl rfl) ?_
  intro a hA
  refine any_take (v := .pointer (some ⟨g2, 3, none⟩)) hA 5 rfl rfl rfl rfl (by kernel_rfl) (by kernel_rfl) (by kernel_rfl) (fun c a w h => hP c a _ _ w h) hS (fun w1 hS => does_field RfA_fld_26_1 rfl rfl) ?_
  intro a hA
  refine any_take (v := .agg #[.bool (rb v.num), .slice a3 ((words v.num.natAbs).length) ac3, .slice a4 ((words v.den).length) ac4]) hA 6 rfl rfl rfl rfl (by kernel_rfl) (by kernel_rfl) (by kernel_rfl) (fun c a w h => hP c a _ _ w h) hS (fun w1 hS => does_loadS hS RfA_isS_24 rfl 2 rfl (cs := [.bool (rb v.num), .slice a3 ((words v.num.natAbs).length) ac3, .slice a4 ((words v.den).length) ac4]) rfl rfl) ?_
  intro a hA
  refine any_take (v := .pointer (some ⟨g4, 3, none⟩)) hA 7 rfl rfl rfl rfl (by kernel_rfl) (by kernel_rfl) (by kernel_rfl) (fun c a w h => hP c a _ _ w h) hS (fun w1 hS => does_field RfA_fld_26_1 rfl rfl) ?_
  intro a hA
  refine any_take (v := .agg #[.bool (rb y.num), .slice u3 ((words y.num.natAbs).length) uc3, .slice u4 ((words y.den).length) uc4]) hA 8 rfl rfl rfl rfl (by kernel_rfl) (by kernel_rfl) (by kernel_rfl) (fun c a w h => hP c a _ _ w h) hS (fun w1 hS => does_loadS hS RfA_isS_24 rfl 1 rfl (cs := [.bool (rb y.num), .slice u3 ((words y.num.natAbs).length) uc3, .slice u4 ((words y.den).length) uc4]) rfl rfl) ?_
  intro a hA
  refine any_many (rs := [4, 12]) (by kernel_rfl) (by simp) ⟨?_, ?_, trivial⟩
  · refine op_call hA 4 rfl rfl rfl rfl (enters_func  rfl rfl (fun w => by kernel_rfl)) (rprodR_any ⟨(hS.rd 7 rfl), ha.s1.nil, ha.s1.cap⟩ ⟨(hS.rd 6 rfl), ha.s2.nil, ha.s2.cap⟩ ⟨(hS.rd 3 rfl), hb.s1.nil, hb.s1.cap⟩ ⟨(hS.rd 2 rfl), hb.s2.nil, hb.s2.cap⟩ (LR_u.mono (by decide)) (LR_x.mono (by decide)) e1) ?_
    rintro _ w136 ⟨f132_1, f132_c1, f132_2, f132_c2, rfl, hs133, hs134, hb135⟩
    replace hS := hS.call hb135
    replace hS := hS.addR hs133.rd
    replace hS := hS.addR hs134.rd
    refine ⟨_, rfl, (hS.partD (.refl _) 2 rfl (.refl _)), ?_⟩
    intro a hA
    refine any_many (rs := [9, 12]) (by kernel_rfl) (by simp) ⟨?_, ?_, trivial⟩
    · refine op_call hA 9 rfl rfl rfl rfl (enters_func  rfl rfl (fun w => by kernel_rfl)) (rprodR_any ⟨(hS.rd 7 rfl), ha.s3.nil, ha.s3.cap⟩ ⟨(hS.rd 6 rfl), ha.s4.nil, ha.s4.cap⟩ ⟨(hS.rd 3 rfl), hb.s3.nil, hb.s3.cap⟩ ⟨(hS.rd 2 rfl), hb.s4.nil, hb.s4.cap⟩ (LR_v.mono (by decide)) (LR_y.mono (by decide)) e2) ?_
      rintro _ w141 ⟨f137_1, f137_c1, f137_2, f137_c2, rfl, hs138, hs139, hb140⟩
      replace hS := hS.call hb140
      replace hS := hS.addR hs138.rd
      replace hS := hS.addR hs139.rd
      refine ⟨_, rfl, (hS.partD (.refl _) 4 rfl (.refl _)), ?_⟩
      intro a hA
      refine any_many (rs := [10, 12]) (by kernel_rfl) (by simp) ⟨?_, ?_, trivial⟩
      · refine op_call hA 10 rfl rfl rfl rfl (enters_func  rfl rfl (fun w => by kernel_rfl)) (rminusR_any ⟨(hS.rd 1 rfl), hs138.nil, hs138.cap⟩ ⟨(hS.rd 0 rfl), hs139.nil, hs139.cap⟩ e3) ?_
        rintro _ w146 ⟨f142_1, f142_c1, f142_2, f142_c2, rfl, hs143, hs144, hb145⟩
        replace hS := hS.call hb145
        replace hS := hS.addR hs143.rd
        replace hS := hS.addR hs144.rd
        refine ⟨_, rfl, (hS.partD (.refl _) 6 rfl (.refl _)), ?_⟩
        intro a hA
        refine any_many (rs := [11, 12]) (by kernel_rfl) (by simp) ⟨?_, ?_, trivial⟩
        · refine op_call hA 11 rfl rfl rfl rfl (enters_func  rfl rfl (fun w => by kernel_rfl)) (rsumR_any ⟨(hS.rd 5 rfl), hs133.nil, hs133.cap⟩ ⟨(hS.rd 4 rfl), hs134.nil, hs134.cap⟩ ⟨(hS.rd 1 rfl), hs143.nil, hs143.cap⟩ ⟨(hS.rd 0 rfl), hs144.nil, hs144.cap⟩ (LR_r1.mono (by decide)) (LR_m2.mono (by decide)) e4) ?_
          rintro _ w151 ⟨f147_1, f147_c1, f147_2, f147_c2, rfl, hs148, hs149, hb150⟩
          replace hS := hS.call hb150
          replace hS := hS.addR hs148.rd
          replace hS := hS.addR hs149.rd
          refine ⟨_, rfl, (hS.partD (.refl _) 8 rfl (.refl _)), ?_⟩
          intro a hA
          refine any_one (by kernel_rfl) (op_new (vs := [.bool false, .slice none 0 0, .slice none 0 0]) (t := 24) hA hS 12 rfl rfl rfl rfl (fun g => .pointer (some ⟨g, 0, none⟩)) (does_alloc (z := .agg #[.bool false, .slice none 0 0, .slice none 0 0]) (by kernel_rfl) rfl) rfl ?_)
          intro g152 w153 hS
          refine ⟨(hS.partD (.cons _ (.cons_cons _ (.cons_cons _ (.cons_cons _ .slnil)))) 8 rfl (.refl _)), ?_⟩
          intro a hA
          refine any_one (by kernel_rfl) (op_store (us := [.bool ((rb re.num)), .slice f147_1 ((words re.num.natAbs).length) f147_c1, .slice f147_2 ((words re.den).length) f147_c2]) hA hS 13 rfl rfl rfl (sets_store (cs := [.bool ((rb re.num)), .slice f147_1 ((words re.num.natAbs).length) f147_c1, .slice f147_2 ((words re.den).length) f147_c2]) rfl rfl rfl (by kernel_rfl) hS 0 rfl rfl rfl) 0 rfl rfl rfl rfl ?_)
          intro w154 hS
          refine ⟨(hS.partD (.cons _ (.cons_cons _ (.cons_cons _ (.cons_cons _ .slnil)))) 8 rfl (.refl _)), ?_⟩
          refine any_end (by kernel_rfl) ?_
          refine hJ41 _ _ ⟨g152, f147_1, f147_c1, f147_2, f147_c2, hA.keep _ ⟨rfl, rfl, rfl, rfl, rfl, rfl, trivial⟩, ((hS.pickR [(f147_2, words re.den), (f147_1, words re.num.natAbs), (u4, words y.den), (u3, words y.num.natAbs), (u2, words x.den), (u1, words x.num.natAbs), (a4, words v.den), (a3, words v.num.natAbs), (a2, words u.den), (a1, words u.num.natAbs)] ⟨⟨0, rfl⟩, ⟨⟨1, rfl⟩, ⟨⟨8, rfl⟩, ⟨⟨9, rfl⟩, ⟨⟨10, rfl⟩, ⟨⟨11, rfl⟩, ⟨⟨12, rfl⟩, ⟨⟨13, rfl⟩, ⟨⟨14, rfl⟩, ⟨⟨15, rfl⟩, trivial⟩⟩⟩⟩⟩⟩⟩⟩⟩⟩).pickL [(g152, [.bool ((rb re.num)), .slice f147_1 ((words re.num.natAbs).length) f147_c1, .slice f147_2 ((words re.den).length) f147_c2]), (g6, [.bool false, .slice none 0 0, .slice none 0 0, .bool false, .slice none 0 0, .slice none 0 0]), (g4, [.bool (rb x.num), .slice u1 ((words x.num.natAbs).length) uc1, .slice u2 ((words x.den).length) uc2, .bool (rb y.num), .slice u3 ((words y.num.natAbs).length) uc3, .slice u4 ((words y.den).length) uc4]), (g2, [.bool (rb u.num), .slice a1 ((words u.num.natAbs).length) ac1, .slice a2 ((words u.den).length) ac2, .bool (rb v.num), .slice a3 ((words v.num.natAbs).length) ac3, .slice a4 ((words v.den).length) ac4])] [0, 1, 2, 3] rfl (by decide)), hs149.nil, hs149.cap, hs148.nil, hs148.cap⟩
        · refine op_new (vs := [.bool false, .slice none 0 0, .slice none 0 0]) (t := 24) hA hS 12 rfl rfl rfl rfl (fun g => .pointer (some ⟨g, 0, none⟩)) (does_alloc (z := .agg #[.bool false, .slice none 0 0, .slice none 0 0]) (by kernel_rfl) rfl) rfl ?_
          intro g155 w156 hS
          refine ⟨(hS.partD (.cons _ (.cons_cons _ (.cons_cons _ (.cons_cons _ .slnil)))) 6 rfl (.refl _)), ?_⟩
          intro a hA
          refine any_one (by kernel_rfl) (op_call hA 11 rfl rfl rfl rfl (enters_func  rfl rfl (fun w => by kernel_rfl)) (rsumR_any ⟨(hS.rd 5 rfl), hs133.nil, hs133.cap⟩ ⟨(hS.rd 4 rfl), hs134.nil, hs134.cap⟩ ⟨(hS.rd 1 rfl), hs143.nil, hs143.cap⟩ ⟨(hS.rd 0 rfl), hs144.nil, hs144.cap⟩ (LR_r1.mono (by decide)) (LR_m2.mono (by decide)) e4) ?_)
          rintro _ w161 ⟨f157_1, f157_c1, f157_2, f157_c2, rfl, hs158, hs159, hb160⟩
          replace hS := hS.call hb160
          replace hS := hS.addR hs158.rd
          replace hS := hS.addR hs159.rd
          refine ⟨_, rfl, (hS.partD (.cons _ (.cons_cons _ (.cons_cons _ (.cons_cons _ .slnil)))) 8 rfl (.refl _)), ?_⟩
          intro a hA
          refine any_one (by kernel_rfl) (op_store (us := [.bool ((rb re.num)), .slice f157_1 ((words re.num.natAbs).length) f157_c1, .slice f157_2 ((words re.den).length) f157_c2]) hA hS 13 rfl rfl rfl (sets_store (cs := [.bool ((rb re.num)), .slice f157_1 ((words re.num.natAbs).length) f157_c1, .slice f157_2 ((words re.den).length) f157_c2]) rfl rfl rfl (by kernel_rfl) hS 0 rfl rfl rfl) 0 rfl rfl rfl rfl ?_)
          intro w162 hS
          refine ⟨(hS.partD (.cons _ (.cons_cons _ (.cons_cons _ (.cons_cons _ .slnil)))) 8 rfl (.refl _)), ?_⟩
          refine any_end (by kernel_rfl) ?_
          refine hJ41 _ _ ⟨g155, f157_1, f157_c1, f157_2, f157_c2, hA.keep _ ⟨rfl, rfl, rfl, rfl, rfl, rfl, trivial⟩, ((hS.pickR [(f157_2, words re.den), (f157_1, words re.num.natAbs), (u4, words y.den), (u3, words y.num.natAbs), (u2, words x.den), (u1, words x.num.natAbs), (a4, words v.den), (a3, words v.num.natAbs), (a2, words u.den), (a1, words u.num.natAbs)] ⟨⟨0, rfl⟩, ⟨⟨1, rfl⟩, ⟨⟨8, rfl⟩, ⟨⟨9, rfl⟩, ⟨⟨10, rfl⟩, ⟨⟨11, rfl⟩, ⟨⟨12, rfl⟩, ⟨⟨13, rfl⟩, ⟨⟨14, rfl⟩, ⟨⟨15, rfl⟩, trivial⟩⟩⟩⟩⟩⟩⟩⟩⟩⟩).pickL [(g155, [.bool ((rb re.num)), .slice f157_1 ((words re.num.natAbs).length) f157_c1, .slice f157_2 ((words re.den).length) f157_c2]), (g6, [.bool false, .slice none 0 0, .slice none 0 0, .bool false, .slice none 0 0, .slice none 0 0]), (g4, [.bool (rb x.num), .slice u1 ((words x.num.natAbs).length) uc1, .slice u2 ((words x.den).length) uc2, .bool (rb y.num), .slice u3 ((words y.num.natAbs).length) uc3, .slice u4 ((words y.den).length) uc4]), (g2, [.bool (rb u.num), .slice a1 ((words u.num.natAbs).length) ac1, .slice a2 ((words u.den).length) ac2, .bool (rb v.num), .slice a3 ((words v.num.natAbs).length) ac3, .slice a4 ((words v.den).length) ac4])] [0, 1, 2, 3] rfl (by decide)), hs159.nil, hs159.cap, hs158.nil, hs158.cap⟩
      · refine op_new (vs := [.bool false, .slice none 0 0, .slice none 0 0]) (t := 24) hA hS 12 rfl rfl rfl rfl (fun g => .pointer (some ⟨g, 0, none⟩)) (does_alloc (z := .agg #[.bool false, .slice none 0 0, .slice none 0 0]) (by kernel_rfl) rfl) rfl ?_
        intro g163 w164 hS
        refine ⟨(hS.partD (.cons _ (.cons_cons _ (.cons_cons _ (.cons_cons _ .slnil)))) 4 rfl (.refl _)), ?_⟩
        intro a hA
        refine any_one (by kernel_rfl) (op_call hA 10 rfl rfl rfl rfl (enters_func  rfl rfl (fun w => by kernel_rfl)) (rminusR_any ⟨(hS.rd 1 rfl), hs138.nil, hs138.cap⟩ ⟨(hS.rd 0 rfl), hs139.nil, hs139.cap⟩ e3) ?_)
        rintro _ w169 ⟨f165_1, f165_c1, f165_2, f165_c2, rfl, hs166, hs167, hb168⟩
        replace hS := hS.call hb168
        replace hS := hS.addR hs166.rd
        replace hS := hS.addR hs167.rd
        refine ⟨_, rfl, (hS.partD (.cons _ (.cons_cons _ (.cons_cons _ (.cons_cons _ .slnil)))) 6 rfl (.refl _)), ?_⟩
        intro a hA
        refine any_one (by kernel_rfl) (op_call hA 11 rfl rfl rfl rfl (enters_func  rfl rfl (fun w => by kernel_rfl)) (rsumR_any ⟨(hS.rd 5 rfl), hs133.nil, hs133.cap⟩ ⟨(hS.rd 4 rfl), hs134.nil, hs134.cap⟩ ⟨(hS.rd 1 rfl), hs166.nil, hs166.cap⟩ ⟨(hS.rd 0 rfl), hs167.nil, hs167.cap⟩ (LR_r1.mono (by decide)) (LR_m2.mono (by decide)) e4) ?_)
        rintro _ w174 ⟨f170_1, f170_c1, f170_2, f170_c2, rfl, hs171, hs172, hb173⟩
        replace hS := hS.call hb173
        replace hS := hS.addR hs171.rd
        replace hS := hS.addR hs172.rd
        refine ⟨_, rfl, (hS.partD (.cons _ (.cons_cons _ (.cons_cons _ (.cons_cons _ .slnil)))) 8 rfl (.refl _)), ?_⟩
        intro a hA
        refine any_one (by kernel_rfl) (op_store (us := [.bool ((rb re.num)), .slice f170_1 ((words re.num.natAbs).length) f170_c1, .slice f170_2 ((words re.den).length) f170_c2]) hA hS 13 rfl rfl rfl (sets_store (cs := [.bool ((rb re.num)), .slice f170_1 ((words re.num.natAbs).length) f170_c1, .slice f170_2 ((words re.den).length) f170_c2]) rfl rfl rfl (by kernel_rfl) hS 0 rfl rfl rfl) 0 rfl rfl rfl rfl ?_)
        intro w175 hS
        refine ⟨(hS.partD (.cons _ (.cons_cons _ (.cons_cons _ (.cons_cons _ .slnil)))) 8 rfl (.refl _)), ?_⟩
        refine any_end (by kernel_rfl) ?_
        refine hJ41 _ _ ⟨g163, f170_1, f170_c1, f170_2, f170_c2, hA.keep _ ⟨rfl, rfl, rfl, rfl, rfl, rfl, trivial⟩, ((hS.pickR [(f170_2, words re.den), (f170_1, words re.num.natAbs), (u4, words y.den), (u3, words y.num.natAbs), (u2, words x.den), (u1, words x.num.natAbs), (a4, words v.den), (a3, words v.num.natAbs), (a2, words u.den), (a1, words u.num.natAbs)] ⟨⟨0, rfl⟩, ⟨⟨1, rfl⟩, ⟨⟨8, rfl⟩, ⟨⟨9, rfl⟩, ⟨⟨10, rfl⟩, ⟨⟨11, rfl⟩, ⟨⟨12, rfl⟩, ⟨⟨13, rfl⟩, ⟨⟨14, rfl⟩, ⟨⟨15, rfl⟩, trivial⟩⟩⟩⟩⟩⟩⟩⟩⟩⟩).pickL [(g163, [.bool ((rb re.num)), .slice f170_1 ((words re.num.natAbs).length) f170_c1, .slice f170_2 ((words re.den).length) f170_c2]), (g6, [.bool false, .slice none 0 0, .slice none 0 0, .bool false, .slice none 0 0, .slice none 0 0]), (g4, [.bool (rb x.num), .slice u1 ((words x.num.natAbs).length) uc1, .slice u2 ((words x.den).length) uc2, .bool (rb y.num), .slice u3 ((words y.num.natAbs).length) uc3, .slice u4 ((words y.den).length) uc4]), (g2, [.bool (rb u.num), .slice a1 ((words u.num.natAbs).length) ac1, .slice a2 ((words u.den).length) ac2, .bool (rb v.num), .slice a3 ((words v.num.natAbs).length) ac3, .slice a4 ((words v.den).length) ac4])] [0, 1, 2, 3] rfl (by decide)), hs172.nil, hs172.cap, hs171.nil, hs171.cap⟩
    · refine op_new (vs := [.bool false, .slice none 0 0, .slice none 0 0]) (t := 24) hA hS 12 rfl rfl rfl rfl (fun g => .pointer (some ⟨g, 0, none⟩)) (does_alloc (z := .agg #[.bool false, .slice none 0 0, .slice none 0 0]) (by kernel_rfl) rfl) rfl ?_
      intro g176 w177 hS
      refine ⟨(hS.partD (.cons _ (.cons_cons _ (.cons_cons _ (.cons_cons _ .slnil)))) 2 rfl (.refl _)), ?_⟩
      intro a hA
      refine any_one (by kernel_rfl) (op_call hA 9 rfl rfl rfl rfl (enters_func  rfl rfl (fun w => by kernel_rfl)) (rprodR_any ⟨(hS.rd 7 rfl), ha.s3.nil, ha.s3.cap⟩ ⟨(hS.rd 6 rfl), ha.s4.nil, ha.s4.cap⟩ ⟨(hS.rd 3 rfl), hb.s3.nil, hb.s3.cap⟩ ⟨(hS.rd 2 rfl), hb.s4.nil, hb.s4.cap⟩ (LR_v.mono (by decide)) (LR_y.mono (by decide)) e2) ?_)
      rintro _ w182 ⟨f178_1, f178_c1, f178_2, f178_c2, rfl, hs179, hs180, hb181⟩
      replace hS := hS.call hb181
      replace hS := hS.addR hs179.rd
      replace hS := hS.addR hs180.rd
      refine ⟨_, rfl, (hS.partD (.cons _ (.cons_cons _ (.cons_cons _ (.cons_cons _ .slnil)))) 4 rfl (.refl _)), ?_⟩
      intro a hA
      refine any_one (by kernel_rfl) (op_call hA 10 rfl rfl rfl rfl (enters_func  rfl rfl (fun w => by kernel_rfl)) (rminusR_any ⟨(hS.rd 1 rfl), hs179.nil, hs179.cap⟩ ⟨(hS.rd 0 rfl), hs180.nil, hs180.cap⟩ e3) ?_)
      rintro _ w187 ⟨f183_1, f183_c1, f183_2, f183_c2, rfl, hs184, hs185, hb186⟩
      replace hS := hS.call hb186
      replace hS := hS.addR hs184.rd
      replace hS := hS.addR hs185.rd
      refine ⟨_, rfl, (hS.partD (.cons _ (.cons_cons _ (.cons_cons _ (.cons_cons _ .slnil)))) 6 rfl (.refl _)), ?_⟩
      intro a hA
      refine any_one (by kernel_rfl) (op_call hA 11 rfl rfl rfl rfl (enters_func  rfl rfl (fun w => by kernel_rfl)) (rsumR_any ⟨(hS.rd 5 rfl), hs133.nil, hs133.cap⟩ ⟨(hS.rd 4 rfl), hs134.nil, hs134.cap⟩ ⟨(hS.rd 1 rfl), hs184.nil, hs184.cap⟩ ⟨(hS.rd 0 rfl), hs185.nil, hs185.cap⟩ (LR_r1.mono (by decide)) (LR_m2.mono (by decide)) e4) ?_)
      rintro _ w192 ⟨f188_1, f188_c1, f188_2, f188_c2, rfl, hs189, hs190, hb191⟩
      replace hS := hS.call hb191
      replace hS := hS.addR hs189.rd
      replace hS := hS.addR hs190.rd
      refine ⟨_, rfl, (hS.partD (.cons _ (.cons_cons _ (.cons_cons _ (.cons_cons _ .slnil)))) 8 rfl (.refl _)), ?_⟩
      intro a hA
      refine any_one (by kernel_rfl) (op_store (us := [.bool ((rb re.num)), .slice f188_1 ((words re.num.natAbs).length) f188_c1, .slice f188_2 ((words re.den).length) f188_c2]) hA hS 13 rfl rfl rfl (sets_store (cs := [.bool ((rb re.num)), .slice f188_1 ((words re.num.natAbs).length) f188_c1, .slice f188_2 ((words re.den).length) f188_c2]) rfl rfl rfl (by kernel_rfl) hS 0 rfl rfl rfl) 0 rfl rfl rfl rfl ?_)
      intro w193 hS
      refine ⟨(hS.partD (.cons _ (.cons_cons _ (.cons_cons _ (.cons_cons _ .slnil)))) 8 rfl (.refl _)), ?_⟩
      refine any_end (by kernel_rfl) ?_
      refine hJ41 _ _ ⟨g176, f188_1, f188_c1, f188_2, f188_c2, hA.keep _ ⟨rfl, rfl, rfl, rfl, rfl, rfl, trivial⟩, ((hS.pickR [(f188_2, words re.den), (f188_1, words re.num.natAbs), (u4, words y.den), (u3, words y.num.natAbs), (u2, words x.den), (u1, words x.num.natAbs), (a4, words v.den), (a3, words v.num.natAbs), (a2, words u.den), (a1, words u.num.natAbs)] ⟨⟨0, rfl⟩, ⟨⟨1, rfl⟩, ⟨⟨8, rfl⟩, ⟨⟨9, rfl⟩, ⟨⟨10, rfl⟩, ⟨⟨11, rfl⟩, ⟨⟨12, rfl⟩, ⟨⟨13, rfl⟩, ⟨⟨14, rfl⟩, ⟨⟨15, rfl⟩, trivial⟩⟩⟩⟩⟩⟩⟩⟩⟩⟩).pickL [(g176, [.bool ((rb re.num)), .slice f188_1 ((words re.num.natAbs).length) f188_c1, .slice f188_2 ((words re.den).length) f188_c2]), (g6, [.bool false, .slice none 0 0, .slice none 0 0, .bool false, .slice none 0 0, .slice none 0 0]), (g4, [.bool (rb x.num), .slice u1 ((words x.num.natAbs).length) uc1, .slice u2 ((words x.den).length) uc2, .bool (rb y.num), .slice u3 ((words y.num.natAbs).length) uc3, .slice u4 ((words y.den).length) uc4]), (g2, [.bool (rb u.num), .slice a1 ((words u.num.natAbs).length) ac1, .slice a2 ((words u.den).length) ac2, .bool (rb v.num), .slice a3 ((words v.num.natAbs).length) ac3, .slice a4 ((words v.den).length) ac4])] [0, 1, 2, 3] rfl (by decide)), hs190.nil, hs190.cap, hs189.nil, hs189.cap⟩
  · refine op_new (vs := [.bool false, .slice none 0 0, .slice none 0 0]) (t := 24) hA hS 12 rfl rfl rfl rfl (fun g => .pointer (some ⟨g, 0, none⟩)) (does_alloc (z := .agg #[.bool false, .slice none 0 0, .slice none 0 0]) (by kernel_rfl) rfl) rfl ?_
    intro g194 w195 hS
    refine ⟨(hS.partD (.cons _ (.cons_cons _ (.cons_cons _ (.cons_cons _ .slnil)))) 0 rfl (.refl _)), ?_⟩
    intro a hA
    refine any_one (by kernel_rfl) (op_call hA 4 rfl rfl rfl rfl (enters_func  rfl rfl (fun w => by kernel_rfl)) (rprodR_any ⟨(hS.rd 7 rfl), ha.s1.nil, ha.s1.cap⟩ ⟨(hS.rd 6 rfl), ha.s2.nil, ha.s2.cap⟩ ⟨(hS.rd 3 rfl), hb.s1.nil, hb.s1.cap⟩ ⟨(hS.rd 2 rfl), hb.s2.nil, hb.s2.cap⟩ (LR_u.mono (by decide)) (LR_x.mono (by decide)) e1) ?_)
    rintro _ w200 ⟨f196_1, f196_c1, f196_2, f196_c2, rfl, hs197, hs198, hb199⟩
    replace hS := hS.call hb199
    replace hS := hS.addR hs197.rd
    replace hS := hS.addR hs198.rd
    refine ⟨_, rfl, (hS.partD (.cons _ (.cons_cons _ (.cons_cons _ (.cons_cons _ .slnil)))) 2 rfl (.refl _)), ?_⟩
    intro a hA
    refine any_one (by kernel_rfl) (op_call hA 9 rfl rfl rfl rfl (enters_func  rfl rfl (fun w => by kernel_rfl)) (rprodR_any ⟨(hS.rd 7 rfl), ha.s3.nil, ha.s3.cap⟩ ⟨(hS.rd 6 rfl), ha.s4.nil, ha.s4.cap⟩ ⟨(hS.rd 3 rfl), hb.s3.nil, hb.s3.cap⟩ ⟨(hS.rd 2 rfl), hb.s4.nil, hb.s4.cap⟩ (LR_v.mono (by decide)) (LR_y.mono (by decide)) e2) ?_)
    rintro _ w205 ⟨f201_1, f201_c1, f201_2, f201_c2, rfl, hs202, hs203, hb204⟩
    replace hS := hS.call hb204
    replace hS := hS.addR hs202.rd
    replace hS := hS.addR hs203.rd
    refine ⟨_, rfl, (hS.partD (.cons _ (.cons_cons _ (.cons_cons _ (.cons_cons _ .slnil)))) 4 rfl (.refl _)), ?_⟩
    intro a hA
    refine any_one (by kernel_rfl) (op_call hA 10 rfl rfl rfl rfl (enters_func  rfl rfl (fun w => by kernel_rfl)) (rminusR_any ⟨(hS.rd 1 rfl), hs202.nil, hs202.cap⟩ ⟨(hS.rd 0 rfl), hs203.nil, hs203.cap⟩ e3) ?_)
    rintro _ w210 ⟨f206_1, f206_c1, f206_2, f206_c2, rfl, hs207, hs208, hb209⟩
    replace hS := hS.call hb209
    replace hS := hS.addR hs207.rd
    replace hS := hS.addR hs208.rd
    refine ⟨_, rfl, (hS.partD (.cons _ (.cons_cons _ (.cons_cons _ (.cons_cons _ .slnil)))) 6 rfl (.refl _)), ?_⟩
    intro a hA
    refine any_one (by kernel_rfl) (op_call hA 11 rfl rfl rfl rfl (enters_func  rfl rfl (fun w => by kernel_rfl)) (rsumR_any ⟨(hS.rd 5 rfl), hs197.nil, hs197.cap⟩ ⟨(hS.rd 4 rfl), hs198.nil, hs198.cap⟩ ⟨(hS.rd 1 rfl), hs207.nil, hs207.cap⟩ ⟨(hS.rd 0 rfl), hs208.nil, hs208.cap⟩ (LR_r1.mono (by decide)) (LR_m2.mono (by decide)) e4) ?_)
    rintro _ w215 ⟨f211_1, f211_c1, f211_2, f211_c2, rfl, hs212, hs213, hb214⟩
    replace hS := hS.call hb214
    replace hS := hS.addR hs212.rd
    replace hS := hS.addR hs213.rd
    refine ⟨_, rfl, (hS.partD (.cons _ (.cons_cons _ (.cons_cons _ (.cons_cons _ .slnil)))) 8 rfl (.refl _)), ?_⟩
    intro a hA
    refine any_one (by kernel_rfl) (op_store (us := [.bool ((rb re.num)), .slice f211_1 ((words re.num.natAbs).length) f211_c1, .slice f211_2 ((words re.den).length) f211_c2]) hA hS 13 rfl rfl rfl (sets_store (cs := [.bool ((rb re.num)), .slice f211_1 ((words re.num.natAbs).length) f211_c1, .slice f211_2 ((words re.den).length) f211_c2]) rfl rfl rfl (by kernel_rfl) hS 0 rfl rfl rfl) 0 rfl rfl rfl rfl ?_)
    intro w216 hS
    refine ⟨(hS.partD (.cons _ (.cons_cons _ (.cons_cons _ (.cons_cons _ .slnil)))) 8 rfl (.refl _)), ?_⟩
    refine any_end (by kernel_rfl) ?_
    refine hJ41 _ _ ⟨g194, f211_1, f211_c1, f211_2, f211_c2, hA.keep _ ⟨rfl, rfl, rfl, rfl, rfl, rfl, trivial⟩, ((hS.pickR [(f211_2, words re.den), (f211_1, words re.num.natAbs), (u4, words y.den), (u3, words y.num.natAbs), (u2, words x.den), (u1, words x.num.natAbs), (a4, words v.den), (a3, words v.num.natAbs), (a2, words u.den), (a1, words u.num.natAbs)] ⟨⟨0, rfl⟩, ⟨⟨1, rfl⟩, ⟨⟨8, rfl⟩, ⟨⟨9, rfl⟩, ⟨⟨10, rfl⟩, ⟨⟨11, rfl⟩, ⟨⟨12, rfl⟩, ⟨⟨13, rfl⟩, ⟨⟨14, rfl⟩, ⟨⟨15, rfl⟩, trivial⟩⟩⟩⟩⟩⟩⟩⟩⟩⟩).pickL [(g194, [.bool ((rb re.num)), .slice f211_1 ((words re.num.natAbs).length) f211_c1, .slice f211_2 ((words re.den).length) f211_c2]), (g6, [.bool false, .slice none 0 0, .slice none 0 0, .bool false, .slice none 0 0, .slice none 0 0]), (g4, [.bool (rb x.num), .slice u1 ((words x.num.natAbs).length) uc1, .slice u2 ((words x.den).length) uc2, .bool (rb y.num), .slice u3 ((words y.num.natAbs).length) uc3, .slice u4 ((words y.den).length) uc4]), (g2, [.bool (rb u.num), .slice a1 ((words u.num.natAbs).length) ac1, .slice a2 ((words u.den).length) ac2, .bool (rb v.num), .slice a3 ((words v.num.natAbs).length) ac3, .slice a4 ((words v.den).length) ac4])] [0, 1, 2, 3] rfl (by decide)), hs213.nil, hs213.cap, hs212.nil, hs212.cap⟩
theorem rtimesQ_any {w : World} {u v x y : Rat} {a1 a2 a3 a4 : Option Addr} {ac1 ac2 ac3 ac4 : Nat} (ha : Nm w (Q6.rat u v) a1 ac1 a2 ac2 a3 ac3 a4 ac4) {u1 u2 u3 u4 : Option Addr} {uc1 uc2 uc3 uc4 : Nat} (hb : Nm w (Q6.rat x y) u1 uc1 u2 uc2 u3 uc3 u4 uc4) (LR_u : LenR 512 u) (LR_v : LenR 512 v) (LR_x : LenR 3000 x) (LR_y : LenR 3000 y) : Calls Try.prog 14 #[numV (Q6.rat u v) a1 ac1 a2 ac2 a3 ac3 a4 ac4, numV (Q6.rat x y) u1 uc1 u2 uc2 u3 uc3 u4 uc4] w (AnsV w (Q6.rat (u * x - v * y) (u * y + v * x))) :=
  rtimesV_any ha hb LR_u LR_v LR_x LR_y rfl rfl rfl (Rat.sub_eq_add_neg _ _).symm rfl rfl rfl (lenR_mul LR_u LR_x) (lenR_neg (lenR_mul LR_v LR_y)) (lenR_mul LR_u LR_y) (lenR_mul LR_v LR_x)
theorem rlarge_any {w : World} {u v : Rat} {a1 a2 a3 a4 : Option Addr} {ac1 ac2 ac3 ac4 : Nat} (ha : Nm w (Q6.rat u v) a1 ac1 a2 ac2 a3 ac3 a4 ac4) (LR_u : LenR 9000 u) (LR_v : LenR 9000 v) {r : Bool} (hr : decide (¬ (fitR u ∧ fitR v)) = r) : Calls Try.prog 30 #[numV (Q6.rat u v) a1 ac1 a2 ac2 a3 ac3 a4 ac4] w fun e w' => e = .returned (.bool r) ∧ Below w.heap.size w w' := by
  have k1 := LR_u.1
  have k2 := LR_u.2
  have k3 := LR_v.1
  have k4 := LR_v.2
  have hS : St w w [] [(a4, words v.den), (a3, words v.num.natAbs), (a2, words u.den), (a1, words u.num.natAbs)] [] := ((((St.start w).addR ha.s1.rd).addR ha.s2.rd).addR ha.s3.rd).addR ha.s4.rd
  refine walk_of (l := [(0, .agg #[.bool (rb u.num), .slice a1 ((words u.num.natAbs).length) ac1, .slice a2 ((words u.den).length) ac2, .bool (rb v.num), .slice a3 ((words v.num.natAbs).length) ac3, .slice a4 ((words v.den).length) ac4])]) Try.func30 rfl Try.ntmps30 rfl rfl ?_
  intro Q hret hnorm hP a hA
  refine wp_seq_k (fun K1 hK1 => ?_)
  refine wp_region_lit ?_
  refine seq_new (vs := [.bool (rb u.num), .slice a1 ((words u.num.natAbs).length) ac1, .slice a2 ((words u.den).length) ac2, .bool (rb v.num), .slice a3 ((words v.num.natAbs).length) ac3, .slice a4 ((words v.den).length) ac4]) (t := 26) hA hS rfl rfl rfl (fun g => .pointer (some ⟨g, 0, none⟩)) (does_box rfl rfl) rfl ?_
  intro g2 w3 hS a hA
  refine seq_do hA rfl rfl rfl (does_assign rfl) ?_
  intro a hA
  refine seq_end ?_
  refine hK1 _ _ ?_
  refine wp_seq_k (fun K4 hK4 => ?_)
  refine wp_region_lit ?_
  refine seq_do (v := .pointer (some ⟨g2, 0, none⟩)) hA rfl rfl rfl (does_field RfA_fld_26_0 rfl rfl) ?_
  intro a hA
  refine seq_do (v := .pointer (some ⟨g2, 1, none⟩)) hA rfl rfl rfl (does_field RfA_fld_24_1 rfl rfl) ?_
  intro a hA
  refine seq_do hA rfl rfl rfl (does_load1 hS RfA_is1_22 rfl 0 rfl rfl) ?_
  intro a hA
  refine seq_do (v := .int .i64 ((((words u.num.natAbs).length : Nat) : Int))) hA rfl rfl rfl (does_len Try.underlying22 rfl) ?_
  intro a hA
  rcases Bool.eq_false_or_eq_true (decide (512 < (((words u.num.natAbs).length : Nat) : Int))) with hb5 | hb5
  · have hb5' := of_decide_eq_true hb5
    refine seq_do (v := .bool true) hA rfl rfl rfl (does_bin rfl rfl (fun w => (bin_gtr w).trans (by rw [hb5]))) ?_
    intro a hA
    refine seq_do hA rfl rfl rfl (does_move rfl) ?_
    intro a hA
    refine seq_skip hA rfl rfl rfl ?_
    intro a hA
    refine seq_skip hA rfl rfl rfl ?_
    intro a hA
    refine seq_skip hA rfl rfl rfl ?_
    intro a hA
    refine seq_skip hA rfl rfl rfl ?_
    intro a hA
    refine seq_skip hA rfl rfl rfl ?_
    intro a hA
    refine seq_do (v := .bool true) hA rfl rfl rfl (does_pick rfl rfl rfl rfl) ?_
    intro a hA
    refine seq_do hA rfl rfl rfl (does_move rfl) ?_
    intro a hA
    refine seq_skip hA rfl rfl rfl ?_
    intro a hA
    refine seq_skip hA rfl rfl rfl ?_
    intro a hA
    refine seq_skip hA rfl rfl rfl ?_
    intro a hA
    refine seq_skip hA rfl rfl rfl ?_
    intro a hA
    refine seq_skip hA rfl rfl rfl ?_
    intro a hA
    refine seq_do (v := .bool true) hA rfl rfl rfl (does_pick rfl rfl rfl rfl) ?_
    intro a hA
    refine seq_do hA rfl rfl rfl (does_move rfl) ?_
    intro a hA
    refine seq_skip hA rfl rfl rfl ?_
    intro a hA
    refine seq_skip hA rfl rfl rfl ?_
    intro a hA
    refine seq_skip hA rfl rfl rfl ?_
    intro a hA
    refine seq_skip hA rfl rfl rfl ?_
    intro a hA
    refine seq_skip hA rfl rfl rfl ?_
    intro a hA
    refine seq_do (v := .bool true) hA rfl rfl rfl (does_pick rfl rfl rfl rfl) ?_
    intro a hA
    refine seq_do hA rfl rfl rfl (does_assign rfl) ?_
    intro a hA
    refine seq_end ?_
    refine hK4 _ _ ?_
    refine wp_ret ?_
    refine hret _ _ ?_
    refine ends (v := .bool true) hA rfl (.cons (res_tmp rfl) .nil) rfl ?_
    subst hr
    exact ⟨by rw [decide_eq_true (show ¬ (fitR u ∧ fitR v) from fun k => by have := k.1.1; have := k.1.2; have := k.2.1; have := k.2.2; omega)], hS.bel⟩
  · have hb5' := of_decide_eq_false hb5
    refine seq_do (v := .bool false) hA rfl rfl rfl (does_bin rfl rfl (fun w => (bin_gtr w).trans (by rw [hb5]))) ?_
    intro a hA
    refine seq_do hA rfl rfl rfl (does_move rfl) ?_
    intro a hA
    refine seq_do (v := .pointer (some ⟨g2, 0, none⟩)) hA rfl rfl rfl (does_field RfA_fld_26_0 rfl rfl) ?_
    intro a hA
    refine seq_do (v := .pointer (some ⟨g2, 2, none⟩)) hA rfl rfl rfl (does_field RfA_fld_24_2 rfl rfl) ?_
    intro a hA
    refine seq_do hA rfl rfl rfl (does_load1 hS RfA_is1_22 rfl 0 rfl rfl) ?_
    intro a hA
    refine seq_do (v := .int .i64 ((((words u.den).length : Nat) : Int))) hA rfl rfl rfl (does_len Try.underlying22 rfl) ?_
    intro a hA
    rcases Bool.eq_false_or_eq_true (decide (512 < (((words u.den).length : Nat) : Int))) with hb6 | hb6
    · have hb6' := of_decide_eq_true hb6
      refine seq_do (v := .bool true) hA rfl rfl rfl (does_bin rfl rfl (fun w => (bin_gtr w).trans (by rw [hb6]))) ?_
      intro a hA
      refine seq_do (v := .bool true) hA rfl rfl rfl (does_pick rfl rfl rfl rfl) ?_
      intro a hA
      refine seq_do hA rfl rfl rfl (does_move rfl) ?_
      intro a hA
      refine seq_skip hA rfl rfl rfl ?_
      intro a hA
      refine seq_skip hA rfl rfl rfl ?_
      intro a hA
      refine seq_skip hA rfl rfl rfl ?_
      intro a hA
      refine seq_skip hA rfl rfl rfl ?_
      intro a hA
      refine seq_skip hA rfl rfl rfl ?_
      intro a hA
      refine seq_do (v := .bool true) hA rfl rfl rfl (does_pick rfl rfl rfl rfl) ?_
      intro a hA
      refine seq_do hA rfl rfl rfl (does_move rfl) ?_
      intro a hA
      refine seq_skip hA rfl rfl rfl ?_
      intro a hA
      refine seq_skip hA rfl rfl rfl ?_
      intro a hA
      refine seq_skip hA rfl rfl rfl ?_
      intro a hA
      refine seq_skip hA rfl rfl rfl ?_
      intro a hA
      refine seq_skip hA rfl rfl rfl ?_
      intro a hA
      refine seq_do (v := .bool true) hA rfl rfl rfl (does_pick rfl rfl rfl rfl) ?_
      intro a hA
      refine seq_do hA rfl rfl rfl (does_assign rfl) ?_
      intro a hA
      refine seq_end ?_
      refine hK4 _ _ ?_
      refine wp_ret ?_
      refine hret _ _ ?_
      refine ends (v := .bool true) hA rfl (.cons (res_tmp rfl) .nil) rfl ?_
      subst hr
      exact ⟨by rw [decide_eq_true (show ¬ (fitR u ∧ fitR v) from fun k => by have := k.1.1; have := k.1.2; have := k.2.1; have := k.2.2; omega)], hS.bel⟩
    · have hb6' := of_decide_eq_false hb6
      refine seq_do (v := .bool false) hA rfl rfl rfl (does_bin rfl rfl (fun w => (bin_gtr w).trans (by rw [hb6]))) ?_
      intro a hA
      refine seq_do (v := .bool false) hA rfl rfl rfl (does_pick rfl rfl rfl rfl) ?_
      intro a hA
      refine seq_do hA rfl rfl rfl (does_move rfl) ?_
      intro a hA
      refine seq_do (v := .pointer (some ⟨g2, 3, none⟩)) hA rfl rfl rfl (does_field RfA_fld_26_1 rfl rfl) ?_
      intro a hA
      refine seq_do (v := .pointer (some ⟨g2, 4, none⟩)) hA rfl rfl rfl (does_field RfA_fld_24_1 rfl rfl) ?_
      intro a hA
      refine seq_do hA rfl rfl rfl (does_load1 hS RfA_is1_22 rfl 0 rfl rfl) ?_
      intro a hA
      refine seq_do (v := .int .i64 ((((words v.num.natAbs).length : Nat) : Int))) hA rfl rfl rfl (does_len Try.underlying22 rfl) ?_
      intro a hA
      rcases Bool.eq_false_or_eq_true (decide (512 < (((words v.num.natAbs).length : Nat) : Int))) with hb7 | hb7
      · have hb7' := of_decide_eq_true hb7
        refine seq_do (v := .bool true) hA rfl rfl rfl (does_bin rfl rfl (fun w => (bin_gtr w).trans (by rw [hb7]))) ?_
        intro a hA
        refine seq_do (v := .bool true) hA rfl rfl rfl (does_pick rfl rfl rfl rfl) ?_
        intro a hA
        refine seq_do hA rfl rfl rfl (does_move rfl) ?_
        intro a hA
        refine seq_skip hA rfl rfl rfl ?_
        intro a hA
        refine seq_skip hA rfl rfl rfl ?_
        intro a hA
        refine seq_skip hA rfl rfl rfl ?_
        intro a hA
        refine seq_skip hA rfl rfl rfl ?_
        intro a hA
        refine seq_skip hA rfl rfl rfl ?_
        intro a hA
        refine seq_do (v := .bool true) hA rfl rfl rfl (does_pick rfl rfl rfl rfl) ?_
        intro a hA
        refine seq_do hA rfl rfl rfl (does_assign rfl) ?_
        intro a hA
        refine seq_end ?_
        refine hK4 _ _ ?_
        refine wp_ret ?_
        refine hret _ _ ?_
        refine ends (v := .bool true) hA rfl (.cons (res_tmp rfl) .nil) rfl ?_
        subst hr
        exact ⟨by rw [decide_eq_true (show ¬ (fitR u ∧ fitR v) from fun k => by have := k.1.1; have := k.1.2; have := k.2.1; have := k.2.2; omega)], hS.bel⟩
      · have hb7' := of_decide_eq_false hb7
        refine seq_do (v := .bool false) hA rfl rfl rfl (does_bin rfl rfl (fun w => (bin_gtr w).trans (by rw [hb7]))) ?_
        intro a hA
        refine seq_do (v := .bool false) hA rfl rfl rfl (does_pick rfl rfl rfl rfl) ?_
        intro a hA
        refine seq_do hA rfl rfl rfl (does_move rfl) ?_
        intro a hA
        refine seq_do (v := .pointer (some ⟨g2, 3, none⟩)) hA rfl rfl rfl (does_field RfA_fld_26_1 rfl rfl) ?_
        intro a hA
        refine seq_do (v := .pointer (some ⟨g2, 5, none⟩)) hA rfl rfl rfl (does_field RfA_fld_24_2 rfl rfl) ?_
        intro a hA
        refine seq_do hA rfl rfl rfl (does_load1 hS RfA_is1_22 rfl 0 rfl rfl) ?_
        intro a hA
        refine seq_do (v := .int .i64 ((((words v.den).length : Nat) : Int))) hA rfl rfl rfl (does_len Try.underlying22 rfl) ?_
        intro a hA
        rcases Bool.eq_false_or_eq_true (decide (512 < (((words v.den).length : Nat) : Int))) with hb8 | hb8
        · have hb8' := of_decide_eq_true hb8
          refine seq_do (v := .bool true) hA rfl rfl rfl (does_bin rfl rfl (fun w => (bin_gtr w).trans (by rw [hb8]))) ?_
          intro a hA
          refine seq_do (v := .bool true) hA rfl rfl rfl (does_pick rfl rfl rfl rfl) ?_
          intro a hA
          refine seq_do hA rfl rfl rfl (does_assign rfl) ?_
          intro a hA
          refine seq_end ?_
          refine hK4 _ _ ?_
          refine wp_ret ?_
          refine hret _ _ ?_
          refine ends (v := .bool true) hA rfl (.cons (res_tmp rfl) .nil) rfl ?_
          subst hr
          exact ⟨by rw [decide_eq_true (show ¬ (fitR u ∧ fitR v) from fun k => by have := k.1.1; have := k.1.2; have := k.2.1; have := k.2.2; omega)], hS.bel⟩
        · have hb8' := of_decide_eq_false hb8
          refine seq_do (v := .bool false) hA rfl rfl rfl (does_bin rfl rfl (fun w => (bin_gtr w).trans (by rw [hb8]))) ?_
          intro a hA
          refine seq_do (v := .bool false) hA rfl rfl rfl (does_pick rfl rfl rfl rfl) ?_
          intro a hA
          refine seq_do hA rfl rfl rfl (does_assign rfl) ?_
          intro a hA
          refine seq_end ?_
          refine hK4 _ _ ?_
          refine wp_ret ?_
          refine hret _ _ ?_
          refine ends (v := .bool false) hA rfl (.cons (res_tmp rfl) .nil) rfl ?_
          subst hr
          exact ⟨by rw [decide_eq_false (show ¬ ¬ (fitR u ∧ fitR v) from fun k => k ⟨⟨by omega, by omega⟩, ⟨by omega, by omega⟩⟩)], hS.bel⟩
theorem rfit_any {w : World} {u v : Rat} {a1 a2 a3 a4 : Option Addr} {ac1 ac2 ac3 ac4 : Nat} (ha : Nm w (Q6.rat u v) a1 ac1 a2 ac2 a3 ac3 a4 ac4) (LR_u : LenR 9000 u) (LR_v : LenR 9000 v) : Calls Try.prog 13 #[numV (Q6.rat u v) a1 ac1 a2 ac2 a3 ac3 a4 ac4] w (AnsN w (ratS u v)) := by
  have hS : St w w [] [(a4, words v.den), (a3, words v.num.natAbs), (a2, words u.den), (a1, words u.num.natAbs)] [] := ((((St.start w).addR ha.s1.rd).addR ha.s2.rd).addR ha.s3.rd).addR ha.s4.rd
  refine walk_of (l := [(0, .agg #[.bool (rb u.num), .slice a1 ((words u.num.natAbs).length) ac1, .slice a2 ((words u.den).length) ac2, .bool (rb v.num), .slice a3 ((words v.num.natAbs).length) ac3, .slice a4 ((words v.den).length) ac4])]) Try.func13 rfl Try.ntmps13 rfl rfl ?_
  intro Q hret hnorm hP a hA
  refine wp_seq_k (fun K1 hK1 => ?_)
  refine wp_region_lit ?_
  refine seq_new (vs := [.bool (rb u.num), .slice a1 ((words u.num.natAbs).length) ac1, .slice a2 ((words u.den).length) ac2, .bool (rb v.num), .slice a3 ((words v.num.natAbs).length) ac3, .slice a4 ((words v.den).length) ac4]) (t := 26) hA hS rfl rfl rfl (fun g => .pointer (some ⟨g, 0, none⟩)) (does_box rfl rfl) rfl ?_
  intro g2 w3 hS a hA
  refine seq_new (vs := [.bool false, .slice none 0 0, .slice none 0 0, .bool false, .slice none 0 0, .slice none 0 0]) (t := 26) hA hS rfl rfl rfl (fun g => .pointer (some ⟨g, 0, none⟩)) (does_alloc (z := .agg #[.bool false, .slice none 0 0, .slice none 0 0, .bool false, .slice none 0 0, .slice none 0 0]) (by kernel_rfl) rfl) rfl ?_
  intro g4 w5 hS a hA
  refine seq_do hA rfl rfl rfl (does_assign rfl) ?_
  intro a hA
  refine seq_end ?_
  refine hK1 _ _ ?_
  refine wp_seq_k (fun K6 hK6 => ?_)
  refine wp_seq_k (fun K7 hK7 => ?_)
  refine wp_region_lit ?_
  refine seq_do (v := .agg #[.bool (rb u.num), .slice a1 ((words u.num.natAbs).length) ac1, .slice a2 ((words u.den).length) ac2, .bool (rb v.num), .slice a3 ((words v.num.natAbs).length) ac3, .slice a4 ((words v.den).length) ac4]) hA rfl rfl rfl (does_loadS hS RfA_isS_26 rfl 1 rfl (cs := [.bool (rb u.num), .slice a1 ((words u.num.natAbs).length) ac1, .slice a2 ((words u.den).length) ac2, .bool (rb v.num), .slice a3 ((words v.num.natAbs).length) ac3, .slice a4 ((words v.den).length) ac4]) rfl rfl) ?_
  intro a hA
  rcases Bool.eq_false_or_eq_true (decide (¬ (fitR u ∧ fitR v))) with hb8 | hb8
  · have hb8' := of_decide_eq_true hb8
    refine seq_call hA rfl rfl rfl (enters_func  rfl rfl (fun w => by kernel_rfl)) (rlarge_any (show Nm _ (Q6.rat u v) a1 ac1 a2 ac2 a3 ac3 a4 ac4 from ⟨⟨(hS.rd 3 rfl), ha.s1.nil, ha.s1.cap⟩, ⟨(hS.rd 2 rfl), ha.s2.nil, ha.s2.cap⟩, ⟨(hS.rd 1 rfl), ha.s3.nil, ha.s3.cap⟩, ⟨(hS.rd 0 rfl), ha.s4.nil, ha.s4.cap⟩⟩) LR_u LR_v hb8) ?_
    rintro _ w10 ⟨rfl, hb9⟩
    replace hS := hS.call hb9
    refine ⟨_, rfl, ?_⟩
    intro a hA
    refine seq_end ?_
    refine hK7 _ _ ?_
    refine wp_cond_true (hA.ev rfl) ?_
    refine wp_seq_k (fun K11 hK11 => ?_)
    refine wp_region_lit ?_
    refine seq_do (v := .agg #[.bool false, .slice none 0 0, .slice none 0 0, .bool false, .slice none 0 0, .slice none 0 0]) hA rfl rfl rfl (does_build rfl (fun w => by kernel_rfl)) ?_
    intro a hA
    refine seq_store (us := [.bool false, .slice none 0 0, .slice none 0 0, .bool false, .slice none 0 0, .slice none 0 0]) hA hS rfl rfl (sets_store (cs := [.bool false, .slice none 0 0, .slice none 0 0, .bool false, .slice none 0 0, .slice none 0 0]) rfl rfl rfl (by kernel_rfl) hS 0 rfl rfl rfl) 0 rfl rfl rfl rfl ?_
    intro w12 hS
    refine seq_do hA rfl rfl rfl (does_assign rfl) ?_
    intro a hA
    refine seq_end ?_
    refine hK11 _ _ ?_
    refine wp_ret ?_
    refine hret _ _ ?_
    refine ends (v := .tuple #[.agg #[.bool false, .slice none 0 0, .slice none 0 0, .bool false, .slice none 0 0, .slice none 0 0], .int .i64 4]) hA rfl (.cons (res_cell hS RfA_isS_26 rfl 0 rfl (cs := [.bool false, .slice none 0 0, .slice none 0 0, .bool false, .slice none 0 0, .slice none 0 0]) rfl rfl) (.cons (res_tmp rfl) .nil)) rfl ?_
    rw [show ratS u v = (Q6.zero, 4) from if_neg (of_decide_eq_true hb8)]
    exact ⟨none, 0, none, 0, none, 0, none, 0, rfl, ⟨(Sc.none _), (Sc.none _), (Sc.none _), (Sc.none _)⟩, hS.bel⟩
  · have hb8' := of_decide_eq_false hb8
    refine seq_call hA rfl rfl rfl (enters_func  rfl rfl (fun w => by kernel_rfl)) (rlarge_any (show Nm _ (Q6.rat u v) a1 ac1 a2 ac2 a3 ac3 a4 ac4 from ⟨⟨(hS.rd 3 rfl), ha.s1.nil, ha.s1.cap⟩, ⟨(hS.rd 2 rfl), ha.s2.nil, ha.s2.cap⟩, ⟨(hS.rd 1 rfl), ha.s3.nil, ha.s3.cap⟩, ⟨(hS.rd 0 rfl), ha.s4.nil, ha.s4.cap⟩⟩) LR_u LR_v hb8) ?_
    rintro _ w14 ⟨rfl, hb13⟩
    replace hS := hS.call hb13
    refine ⟨_, rfl, ?_⟩
    intro a hA
    refine seq_end ?_
    refine hK7 _ _ ?_
    refine wp_cond_false (hA.ev rfl) ?_
    refine wp_skip ?_
    refine hK6 _ _ ?_
    refine wp_seq_k (fun K15 hK15 => ?_)
    refine wp_region_lit ?_
    refine seq_do (v := .agg #[.bool (rb u.num), .slice a1 ((words u.num.natAbs).length) ac1, .slice a2 ((words u.den).length) ac2, .bool (rb v.num), .slice a3 ((words v.num.natAbs).length) ac3, .slice a4 ((words v.den).length) ac4]) hA rfl rfl rfl (does_loadS hS RfA_isS_26 rfl 1 rfl (cs := [.bool (rb u.num), .slice a1 ((words u.num.natAbs).length) ac1, .slice a2 ((words u.den).length) ac2, .bool (rb v.num), .slice a3 ((words v.num.natAbs).length) ac3, .slice a4 ((words v.den).length) ac4]) rfl rfl) ?_
    intro a hA
    refine seq_store (us := [.bool (rb u.num), .slice a1 ((words u.num.natAbs).length) ac1, .slice a2 ((words u.den).length) ac2, .bool (rb v.num), .slice a3 ((words v.num.natAbs).length) ac3, .slice a4 ((words v.den).length) ac4]) hA hS rfl rfl (sets_store (cs := [.bool (rb u.num), .slice a1 ((words u.num.natAbs).length) ac1, .slice a2 ((words u.den).length) ac2, .bool (rb v.num), .slice a3 ((words v.num.natAbs).length) ac3, .slice a4 ((words v.den).length) ac4]) rfl rfl rfl (by kernel_rfl) hS 0 rfl rfl rfl) 0 rfl rfl rfl rfl ?_
    intro w16 hS
    refine seq_do hA rfl rfl rfl (does_assign rfl) ?_
    intro a hA
    refine seq_end ?_
    refine hK15 _ _ ?_
    refine wp_ret ?_
    refine hret _ _ ?_
    refine ends (v := .tuple #[.agg #[.bool (rb u.num), .slice a1 ((words u.num.natAbs).length) ac1, .slice a2 ((words u.den).length) ac2, .bool (rb v.num), .slice a3 ((words v.num.natAbs).length) ac3, .slice a4 ((words v.den).length) ac4], .int .i64 0]) hA rfl (.cons (res_cell hS RfA_isS_26 rfl 0 rfl (cs := [.bool (rb u.num), .slice a1 ((words u.num.natAbs).length) ac1, .slice a2 ((words u.den).length) ac2, .bool (rb v.num), .slice a3 ((words v.num.natAbs).length) ac3, .slice a4 ((words v.den).length) ac4]) rfl rfl) (.cons (res_tmp rfl) .nil)) rfl ?_
    rw [show ratS u v = (Q6.rat u v, 0) from if_pos (Decidable.not_not.1 (of_decide_eq_false hb8))]
    exact ⟨a1, ac1, a2, ac2, a3, ac3, a4, ac4, rfl, ⟨⟨(hS.rd 3 rfl), ha.s1.nil, ha.s1.cap⟩, ⟨(hS.rd 2 rfl), ha.s2.nil, ha.s2.cap⟩, ⟨(hS.rd 1 rfl), ha.s3.nil, ha.s3.cap⟩, ⟨(hS.rd 0 rfl), ha.s4.nil, ha.s4.cap⟩⟩, hS.bel⟩
end Go.Proofs.Ythempjanedhbpaa
namespace Go.Proofs.Ythempjanedhbpaa
open Go.RowKit
set_option linter.unusedVariables false
set_option linter.unusedSimpArgs false

end Go.Proofs.Ythempjanedhbpaa
namespace Go.Proofs.Ythempjanedhbpaa
open Go.RowKit
set_option linter.unusedVariables false
set_option linter.unusedSimpArgs false
set_option maxRecDepth 100000


end Go.Proofs.Ythempjanedhbpaa
namespace Go.Proofs.Ythempjanedhbpaa
open Go.RowKit
set_option linter.unusedVariables false
set_option linter.unusedSimpArgs false

end Go.Proofs.Ythempjanedhbpaa
namespace Go.Proofs.Ythempjanedhbpaa
open Go.RowKit
set_option linter.unusedVariables false
set_option linter.unusedSimpArgs false
set_option maxRecDepth 100000


end Go.Proofs.Ythempjanedhbpaa
namespace Go.Proofs.Ythempjanedhbpaa
open Go.RowKit
set_option linter.unusedVariables false
set_option linter.unusedSimpArgs false

section
variable {P : Program} {l : List (Nat × Value)} {dst : Option Tmp} {ty t : TypeId} {pos : String} {after : Array Edge} {guard : Option (Nat × Bool)} {w : World} {x y : Operand}
end
end Go.Proofs.Ythempjanedhbpaa
namespace Go.Proofs.Ythempjanedhbpaa
open Go.RowKit
set_option linter.unusedVariables false
set_option linter.unusedSimpArgs false
set_option maxRecDepth 100000


end Go.Proofs.Ythempjanedhbpaa
namespace Go.Proofs.Ythempjanedhbpaa
open Go.RowKit
set_option linter.unusedVariables false
set_option linter.unusedSimpArgs false

section
variable {fop : Nat → Nat → Nat} {fb : Bool → Bool → Bool} {b1 b2 : Bool} {y1 y2 : Nat}
end
section
variable {P : Program} {t : TypeId} {a b : Operand} {x y : Nat}
end
end Go.Proofs.Ythempjanedhbpaa
namespace Go.Proofs.Ythempjanedhbpaa
open Go.RowKit
set_option linter.unusedVariables false
set_option linter.unusedSimpArgs false
set_option maxRecDepth 100000


end Go.Proofs.Ythempjanedhbpaa
namespace Go.Proofs.Ythempjanedhbpaa
open Go.RowKit
set_option linter.unusedVariables false
set_option linter.unusedSimpArgs false

end Go.Proofs.Ythempjanedhbpaa
namespace Go.Proofs.Ythempjanedhbpaa
open Go.RowKit
set_option linter.unusedVariables false
set_option linter.unusedSimpArgs false
set_option maxRecDepth 100000


end Go.Proofs.Ythempjanedhbpaa
namespace Go.Proofs.Ythempjanedhbpaa
open Go.RowKit
set_option linter.unusedVariables false
set_option linter.unusedSimpArgs false
end Go.Proofs.Ythempjanedhbpaa
namespace Go.Proofs.Ythempjanedhbpaa
open Go.RowKit
set_option linter.unusedVariables false
set_option linter.unusedSimpArgs false
set_option maxRecDepth 100000
theorem BiK_is1_22 : Is1 Try.prog 22 := ⟨⟨_, Try.underlying22, rfl⟩, by kernel_rfl⟩
theorem BiK_is1_4 : Is1 Try.prog 4 := ⟨⟨_, Try.underlying4, rfl⟩, by kernel_rfl⟩
theorem BiK_fld_24_0 : FieldAt Try.prog 24 0 0 := ⟨_, _, Try.underlying24, rfl, rfl, by kernel_rfl⟩
theorem BiK_fld_24_1 : FieldAt Try.prog 24 1 1 := ⟨_, _, Try.underlying24, rfl, rfl, by kernel_rfl⟩
theorem BiK_fld_24_2 : FieldAt Try.prog 24 2 2 := ⟨_, _, Try.underlying24, rfl, rfl, by kernel_rfl⟩
theorem BiK_fld_26_0 : FieldAt Try.prog 26 0 0 := ⟨_, _, Try.underlying26, rfl, rfl, by kernel_rfl⟩
theorem BiK_fld_26_1 : FieldAt Try.prog 26 1 3 := ⟨_, _, Try.underlying26, rfl, rfl, by kernel_rfl⟩
theorem BiK_isS_24 : IsS Try.prog 24 3 := ⟨⟨_, Try.underlying24⟩, by kernel_rfl⟩
theorem ratSame_any {w : World} {b b' : Bool} {t q t' q' : List Nat} {a1 a2 : Option Addr} {ac1 ac2 : Nat} (ha1 : Sc w a1 ac1 t) (ha2 : Sc w a2 ac2 q) {u1 u2 : Option Addr} {uc1 uc2 : Nat} (hu1 : Sc w u1 uc1 t') (hu2 : Sc w u2 uc2 q') (l1 : t.length ≤ 9223372036854775807) (l2 : q.length ≤ 9223372036854775807) (l3 : t'.length ≤ 9223372036854775807) (l4 : q'.length ≤ 9223372036854775807) {r : Bool} (hr : sameF b t q b' t' q' = r) :
    Calls Try.prog 24 #[.agg #[.bool b, .slice a1 t.length ac1, .slice a2 q.length ac2], .agg #[.bool b', .slice u1 t'.length uc1, .slice u2 q'.length uc2]] w fun e w' => e = .returned (.bool r) ∧ Below w.heap.size w w' := by
  have hS : St w w [] [(u2, q'), (u1, t'), (a2, q), (a1, t)] [] := ((((St.start w).addR ha1.rd).addR ha2.rd).addR hu1.rd).addR hu2.rd
  refine walk_of (l := [(0, .agg #[.bool b, .slice a1 t.length ac1, .slice a2 q.length ac2]), (1, .agg #[.bool b', .slice u1 t'.length uc1, .slice u2 q'.length uc2])]) Try.func24 rfl Try.ntmps24 rfl rfl ?_
  intro Q hret hnorm hP a hA
  refine wp_seq_k (fun K1 hK1 => ?_)
  refine wp_region_lit ?_
  refine seq_new (vs := [.bool b, .slice a1 t.length ac1, .slice a2 q.length ac2]) (t := 24) hA hS rfl rfl rfl (fun g => .pointer (some ⟨g, 0, none⟩)) (does_box rfl rfl) rfl ?_
  intro g2 w3 hS a hA
  refine seq_new (vs := [.bool b', .slice u1 t'.length uc1, .slice u2 q'.length uc2]) (t := 24) hA hS rfl rfl rfl (fun g => .pointer (some ⟨g, 0, none⟩)) (does_box rfl rfl) rfl ?_
  intro g4 w5 hS a hA
  refine seq_do hA rfl rfl rfl (does_assign rfl) ?_
  intro a hA
  refine seq_end ?_
  refine hK1 _ _ ?_
  refine wp_seq_k (fun K6 hK6 => ?_)
  refine wp_region_lit ?_
  refine seq_do (v := .pointer (some ⟨g2, 0, none⟩)) hA rfl rfl rfl (does_field BiK_fld_24_0 rfl rfl) ?_
  intro a hA
  refine seq_do hA rfl rfl rfl (does_load1 hS BiK_is1_4 rfl 1 rfl rfl) ?_
  intro a hA
  refine seq_do (v := .pointer (some ⟨g4, 0, none⟩)) hA rfl rfl rfl (does_field BiK_fld_24_0 rfl rfl) ?_
  intro a hA
  refine seq_do hA rfl rfl rfl (does_load1 hS BiK_is1_4 rfl 0 rfl rfl) ?_
  intro a hA
  rcases Bool.eq_false_or_eq_true ((b == b')) with hb7 | hb7
  · have hb7' := eq_of_beq hb7
    refine seq_do (v := .bool true) hA rfl rfl rfl (does_bin rfl rfl (fun w => ((bin_eqlB Try.underlying4) w).trans (by rw [hb7]))) ?_
    intro a hA
    refine seq_do hA rfl rfl rfl (does_move rfl) ?_
    intro a hA
    refine seq_do (v := .pointer (some ⟨g2, 1, none⟩)) hA rfl rfl rfl (does_field BiK_fld_24_1 rfl rfl) ?_
    intro a hA
    refine seq_do hA rfl rfl rfl (does_load1 hS BiK_is1_22 rfl 1 rfl rfl) ?_
    intro a hA
    refine seq_do (v := .pointer (some ⟨g4, 1, none⟩)) hA rfl rfl rfl (does_field BiK_fld_24_1 rfl rfl) ?_
    intro a hA
    refine seq_do hA rfl rfl rfl (does_load1 hS BiK_is1_22 rfl 0 rfl rfl) ?_
    intro a hA
    rcases Bool.eq_false_or_eq_true (decide (t = t')) with hb8 | hb8
    · have hb8' := of_decide_eq_true hb8
      refine seq_call hA rfl rfl rfl (enters_func  rfl rfl (fun w => by kernel_rfl)) (rsameB_any _ _ (hS.rd 3 rfl) (hS.rd 1 rfl) l1 l3 hb8) ?_
      rintro _ w10 ⟨rfl, hb9⟩
      replace hS := hS.call hb9
      refine ⟨_, rfl, ?_⟩
      intro a hA
      refine seq_do (v := .bool true) hA rfl rfl rfl (does_pick rfl rfl rfl rfl) ?_
      intro a hA
      refine seq_do hA rfl rfl rfl (does_move rfl) ?_
      intro a hA
      refine seq_do (v := .pointer (some ⟨g2, 2, none⟩)) hA rfl rfl rfl (does_field BiK_fld_24_2 rfl rfl) ?_
      intro a hA
      refine seq_do hA rfl rfl rfl (does_load1 hS BiK_is1_22 rfl 1 rfl rfl) ?_
      intro a hA
      refine seq_do (v := .pointer (some ⟨g4, 2, none⟩)) hA rfl rfl rfl (does_field BiK_fld_24_2 rfl rfl) ?_
      intro a hA
      refine seq_do hA rfl rfl rfl (does_load1 hS BiK_is1_22 rfl 0 rfl rfl) ?_
      intro a hA
      rcases Bool.eq_false_or_eq_true (decide (q = q')) with hb11 | hb11
      · have hb11' := of_decide_eq_true hb11
        refine seq_call hA rfl rfl rfl (enters_func  rfl rfl (fun w => by kernel_rfl)) (rsameB_any _ _ (hS.rd 2 rfl) (hS.rd 0 rfl) l2 l4 hb11) ?_
        rintro _ w13 ⟨rfl, hb12⟩
        replace hS := hS.call hb12
        refine ⟨_, rfl, ?_⟩
        intro a hA
        refine seq_do (v := .bool true) hA rfl rfl rfl (does_pick rfl rfl rfl rfl) ?_
        intro a hA
        refine seq_do hA rfl rfl rfl (does_assign rfl) ?_
        intro a hA
        refine seq_end ?_
        refine hK6 _ _ ?_
        refine wp_ret ?_
        refine hret _ _ ?_
        refine ends (v := .bool true) hA rfl (.cons (res_tmp rfl) .nil) rfl ?_
        subst hr
        exact ⟨by unfold sameF; rw [hb7, hb8, hb11]; try rfl, hS.bel⟩
      · have hb11' := of_decide_eq_false hb11
        refine seq_call hA rfl rfl rfl (enters_func  rfl rfl (fun w => by kernel_rfl)) (rsameB_any _ _ (hS.rd 2 rfl) (hS.rd 0 rfl) l2 l4 hb11) ?_
        rintro _ w15 ⟨rfl, hb14⟩
        replace hS := hS.call hb14
        refine ⟨_, rfl, ?_⟩
        intro a hA
        refine seq_do (v := .bool false) hA rfl rfl rfl (does_pick rfl rfl rfl rfl) ?_
        intro a hA
        refine seq_do hA rfl rfl rfl (does_assign rfl) ?_
        intro a hA
        refine seq_end ?_
        refine hK6 _ _ ?_
        refine wp_ret ?_
        refine hret _ _ ?_
        refine ends (v := .bool false) hA rfl (.cons (res_tmp rfl) .nil) rfl ?_
        subst hr
        exact ⟨by unfold sameF; rw [hb7, hb8, hb11]; try rfl, hS.bel⟩
    · have hb8' := of_decide_eq_false hb8
      refine seq_call hA rfl rfl rfl (enters_func  rfl rfl (fun w => by kernel_rfl)) (rsameB_any _ _ (hS.rd 3 rfl) (hS.rd 1 rfl) l1 l3 hb8) ?_
      rintro _ w17 ⟨rfl, hb16⟩
      replace hS := hS.call hb16
      refine ⟨_, rfl, ?_⟩
      intro a hA
      refine seq_do (v := .bool false) hA rfl rfl rfl (does_pick rfl rfl rfl rfl) ?_
      intro a hA
      refine seq_do hA rfl rfl rfl (does_move rfl) ?_
      intro a hA
      refine seq_skip hA rfl rfl rfl ?_
      intro a hA
      refine seq_skip hA rfl rfl rfl ?_
      intro a hA
      refine seq_skip hA rfl rfl rfl ?_
      intro a hA
      refine seq_skip hA rfl rfl rfl ?_
      intro a hA
      refine seq_skip hA rfl rfl rfl ?_
      intro a hA
      refine seq_do (v := .bool false) hA rfl rfl rfl (does_pick rfl rfl rfl rfl) ?_
      intro a hA
      refine seq_do hA rfl rfl rfl (does_assign rfl) ?_
      intro a hA
      refine seq_end ?_
      refine hK6 _ _ ?_
      refine wp_ret ?_
      refine hret _ _ ?_
      refine ends (v := .bool false) hA rfl (.cons (res_tmp rfl) .nil) rfl ?_
      subst hr
      exact ⟨by unfold sameF; rw [hb7, hb8]; try rfl, hS.bel⟩
  · have hb7' := ne_of_beq_false hb7
    refine seq_do (v := .bool false) hA rfl rfl rfl (does_bin rfl rfl (fun w => ((bin_eqlB Try.underlying4) w).trans (by rw [hb7]))) ?_
    intro a hA
    refine seq_do hA rfl rfl rfl (does_move rfl) ?_
    intro a hA
    refine seq_skip hA rfl rfl rfl ?_
    intro a hA
    refine seq_skip hA rfl rfl rfl ?_
    intro a hA
    refine seq_skip hA rfl rfl rfl ?_
    intro a hA
    refine seq_skip hA rfl rfl rfl ?_
    intro a hA
    refine seq_skip hA rfl rfl rfl ?_
    intro a hA
    refine seq_do (v := .bool false) hA rfl rfl rfl (does_pick rfl rfl rfl rfl) ?_
    intro a hA
    refine seq_do hA rfl rfl rfl (does_move rfl) ?_
    intro a hA
    refine seq_skip hA rfl rfl rfl ?_
    intro a hA
    refine seq_skip hA rfl rfl rfl ?_
    intro a hA
    refine seq_skip hA rfl rfl rfl ?_
    intro a hA
    refine seq_skip hA rfl rfl rfl ?_
    intro a hA
    refine seq_skip hA rfl rfl rfl ?_
    intro a hA
    refine seq_do (v := .bool false) hA rfl rfl rfl (does_pick rfl rfl rfl rfl) ?_
    intro a hA
    refine seq_do hA rfl rfl rfl (does_assign rfl) ?_
    intro a hA
    refine seq_end ?_
    refine hK6 _ _ ?_
    refine wp_ret ?_
    refine hret _ _ ?_
    refine ends (v := .bool false) hA rfl (.cons (res_tmp rfl) .nil) rfl ?_
    subst hr
    exact ⟨by unfold sameF; rw [hb7]; try rfl, hS.bel⟩
theorem alike_any {w : World} {q : Q6} {a1 a2 a3 a4 : Option Addr} {ac1 ac2 ac3 ac4 : Nat} (ha : Nm w q a1 ac1 a2 ac2 a3 ac3 a4 ac4) (hl : LenQ q) {u1 u2 u3 u4 : Option Addr} {uc1 uc2 uc3 uc4 : Nat} (hu : Nm w q u1 uc1 u2 uc2 u3 uc3 u4 uc4) : Calls Try.prog 9 #[numV q a1 ac1 a2 ac2 a3 ac3 a4 ac4, numV q u1 uc1 u2 uc2 u3 uc3 u4 uc4] w fun e w' => e = .returned (.bool true) ∧ Below w.heap.size w w' := by
  have hS : St w w [] [(u4, q.q2), (u3, q.t2), (u2, q.q1), (u1, q.t1), (a4, q.q2), (a3, q.t2), (a2, q.q1), (a1, q.t1)] [] := ((((((((St.start w).addR ha.s1.rd).addR ha.s2.rd).addR ha.s3.rd).addR ha.s4.rd).addR hu.s1.rd).addR hu.s2.rd).addR hu.s3.rd).addR hu.s4.rd
  refine walk_of (l := [(0, .agg #[.bool q.b1, .slice a1 q.t1.length ac1, .slice a2 q.q1.length ac2, .bool q.b2, .slice a3 q.t2.length ac3, .slice a4 q.q2.length ac4]), (1, .agg #[.bool q.b1, .slice u1 q.t1.length uc1, .slice u2 q.q1.length uc2, .bool q.b2, .slice u3 q.t2.length uc3, .slice u4 q.q2.length uc4])]) Try.func9 rfl Try.ntmps9 rfl rfl ?_
  intro Q hret hnorm hP a hA
  refine wp_seq_k (fun K1 hK1 => ?_)
  refine wp_region_lit ?_
  refine seq_new (vs := [.bool q.b1, .slice a1 q.t1.length ac1, .slice a2 q.q1.length ac2, .bool q.b2, .slice a3 q.t2.length ac3, .slice a4 q.q2.length ac4]) (t := 26) hA hS rfl rfl rfl (fun g => .pointer (some ⟨g, 0, none⟩)) (does_box rfl rfl) rfl ?_
  intro g2 w3 hS a hA
  refine seq_new (vs := [.bool q.b1, .slice u1 q.t1.length uc1, .slice u2 q.q1.length uc2, .bool q.b2, .slice u3 q.t2.length uc3, .slice u4 q.q2.length uc4]) (t := 26) hA hS rfl rfl rfl (fun g => .pointer (some ⟨g, 0, none⟩)) (does_box rfl rfl) rfl ?_
  intro g4 w5 hS a hA
  refine seq_do hA rfl rfl rfl (does_assign rfl) ?_
  intro a hA
  refine seq_end ?_
  refine hK1 _ _ ?_
  refine wp_seq_k (fun K6 hK6 => ?_)
  refine wp_region_lit ?_
  refine seq_do (v := .pointer (some ⟨g2, 0, none⟩)) hA rfl rfl rfl (does_field BiK_fld_26_0 rfl rfl) ?_
  intro a hA
  refine seq_do (v := .agg #[.bool q.b1, .slice a1 q.t1.length ac1, .slice a2 q.q1.length ac2]) hA rfl rfl rfl (does_loadS hS BiK_isS_24 rfl 1 rfl (cs := [.bool q.b1, .slice a1 q.t1.length ac1, .slice a2 q.q1.length ac2]) rfl rfl) ?_
  intro a hA
  refine seq_do (v := .pointer (some ⟨g4, 0, none⟩)) hA rfl rfl rfl (does_field BiK_fld_26_0 rfl rfl) ?_
  intro a hA
  refine seq_do (v := .agg #[.bool q.b1, .slice u1 q.t1.length uc1, .slice u2 q.q1.length uc2]) hA rfl rfl rfl (does_loadS hS BiK_isS_24 rfl 0 rfl (cs := [.bool q.b1, .slice u1 q.t1.length uc1, .slice u2 q.q1.length uc2]) rfl rfl) ?_
  intro a hA
  refine seq_call hA rfl rfl rfl (enters_func  rfl rfl (fun w => by kernel_rfl)) (ratSame_any ⟨(hS.rd 7 rfl), ha.s1.nil, ha.s1.cap⟩ ⟨(hS.rd 6 rfl), ha.s2.nil, ha.s2.cap⟩ ⟨(hS.rd 3 rfl), hu.s1.nil, hu.s1.cap⟩ ⟨(hS.rd 2 rfl), hu.s2.nil, hu.s2.cap⟩ hl.l1 hl.l2 hl.l1 hl.l2 (sameF_refl _ _ _)) ?_
  rintro _ w8 ⟨rfl, hb7⟩
  replace hS := hS.call hb7
  refine ⟨_, rfl, ?_⟩
  intro a hA
  refine seq_do hA rfl rfl rfl (does_move rfl) ?_
  intro a hA
  refine seq_do (v := .pointer (some ⟨g2, 3, none⟩)) hA rfl rfl rfl (does_field BiK_fld_26_1 rfl rfl) ?_
  intro a hA
  refine seq_do (v := .agg #[.bool q.b2, .slice a3 q.t2.length ac3, .slice a4 q.q2.length ac4]) hA rfl rfl rfl (does_loadS hS BiK_isS_24 rfl 1 rfl (cs := [.bool q.b2, .slice a3 q.t2.length ac3, .slice a4 q.q2.length ac4]) rfl rfl) ?_
  intro a hA
  refine seq_do (v := .pointer (some ⟨g4, 3, none⟩)) hA rfl rfl rfl (does_field BiK_fld_26_1 rfl rfl) ?_
  intro a hA
  refine seq_do (v := .agg #[.bool q.b2, .slice u3 q.t2.length uc3, .slice u4 q.q2.length uc4]) hA rfl rfl rfl (does_loadS hS BiK_isS_24 rfl 0 rfl (cs := [.bool q.b2, .slice u3 q.t2.length uc3, .slice u4 q.q2.length uc4]) rfl rfl) ?_
  intro a hA
  refine seq_call hA rfl rfl rfl (enters_func  rfl rfl (fun w => by kernel_rfl)) (ratSame_any ⟨(hS.rd 5 rfl), ha.s3.nil, ha.s3.cap⟩ ⟨(hS.rd 4 rfl), ha.s4.nil, ha.s4.cap⟩ ⟨(hS.rd 1 rfl), hu.s3.nil, hu.s3.cap⟩ ⟨(hS.rd 0 rfl), hu.s4.nil, hu.s4.cap⟩ hl.l3 hl.l4 hl.l3 hl.l4 (sameF_refl _ _ _)) ?_
  rintro _ w10 ⟨rfl, hb9⟩
  replace hS := hS.call hb9
  refine ⟨_, rfl, ?_⟩
  intro a hA
  refine seq_do (v := .bool true) hA rfl rfl rfl (does_pick rfl rfl rfl rfl) ?_
  intro a hA
  refine seq_do hA rfl rfl rfl (does_assign rfl) ?_
  intro a hA
  refine seq_end ?_
  refine hK6 _ _ ?_
  refine wp_ret ?_
  refine hret _ _ ?_
  refine ends (v := .bool true) hA rfl (.cons (res_tmp rfl) .nil) rfl ?_
  exact ⟨rfl, hS.bel⟩
end Go.Proofs.Ythempjanedhbpaa
namespace Go.Proofs.Ythempjanedhbpaa
open Go.RowKit
set_option linter.unusedVariables false
set_option linter.unusedSimpArgs false
set_option maxRecDepth 100000
theorem RfB_is1_22 : Is1 Try.prog 22 := ⟨⟨_, Try.underlying22, rfl⟩, by kernel_rfl⟩
theorem RfB_fld_24_1 : FieldAt Try.prog 24 1 1 := ⟨_, _, Try.underlying24, rfl, rfl, by kernel_rfl⟩
theorem RfB_fld_24_2 : FieldAt Try.prog 24 2 2 := ⟨_, _, Try.underlying24, rfl, rfl, by kernel_rfl⟩
theorem RfB_fld_26_0 : FieldAt Try.prog 26 0 0 := ⟨_, _, Try.underlying26, rfl, rfl, by kernel_rfl⟩
theorem RfB_fld_26_1 : FieldAt Try.prog 26 1 3 := ⟨_, _, Try.underlying26, rfl, rfl, by kernel_rfl⟩
theorem RfB_isS_24 : IsS Try.prog 24 3 := ⟨⟨_, Try.underlying24⟩, by kernel_rfl⟩
theorem RfB_isS_26 : IsS Try.prog 26 6 := ⟨⟨_, Try.underlying26⟩, by kernel_rfl⟩
theorem rprodO_any {w : World} {u v : Rat} {N M : Nat} {a1 a2 : Option Addr} {ac1 ac2 : Nat} (ha1 : Sc w a1 ac1 (words u.num.natAbs)) (ha2 : Sc w a2 ac2 (words u.den)) {u1 u2 : Option Addr} {uc1 uc2 : Nat} (hu1 : Sc w u1 uc1 (words N)) (hu2 : Sc w u2 uc2 (words M)) (hN : v.num.natAbs = N) (hM : v.den = M) (hb : rb v.num = false) (l1 : LenR 4000 u) (l2 : LenR 4000 v) {r : Rat} (hr : u * v = r) : Calls Try.prog 32 #[.agg #[.bool (rb u.num), .slice a1 (words u.num.natAbs).length ac1, .slice a2 (words u.den).length ac2], .agg #[.bool false, .slice u1 (words N).length uc1, .slice u2 (words M).length uc2]] w (AnsFR w r) := by
  subst hN hM
  rw [← hb]
  exact rprodR_any ha1 ha2 hu1 hu2 l1 l2 hr
set_option maxHeartbeats 1000000 in
theorem rinvV_any {w : World} {u v : Rat} {a1 a2 a3 a4 : Option Addr} {ac1 ac2 ac3 ac4 : Nat} (ha : Nm w (Q6.rat u v) a1 ac1 a2 ac2 a3 ac3 a4 ac4) (LR_u : LenR 512 u) (LR_v : LenR 512 v) {r1 r2 n o m p1 p2 : Rat} (e1 : u * u = r1) (e2 : v * v = r2) (e3 : r1 + r2 = n) (i1 : o.num.natAbs = n.den) (i2 : o.den = n.num.natAbs) (i3 : rb o.num = false) (e4 : u * o = p1) (e5 : -v = m) (e6 : m * o = p2) (LR_r1 : LenR 1024 r1) (LR_r2 : LenR 1024 r2) (LR_o : LenR 2049 o) (LR_m : LenR 512 m) : Calls Try.prog 21 #[numV (Q6.rat u v) a1 ac1 a2 ac2 a3 ac3 a4 ac4] w (AnsV w (Q6.rat p1 p2)) := by
  have hS : St w w [] [(a4, words v.den), (a3, words v.num.natAbs), (a2, words u.den), (a1, words u.num.natAbs)] [] := ((((St.start w).addR ha.s1.rd).addR ha.s2.rd).addR ha.s3.rd).addR ha.s4.rd
  refine walk_of (l := [(0, .agg #[.bool (rb u.num), .slice a1 ((words u.num.natAbs).length) ac1, .slice a2 ((words u.den).length) ac2, .bool (rb v.num), .slice a3 ((words v.num.natAbs).length) ac3, .slice a4 ((words v.den).length) ac4])]) Try.func21 rfl Try.ntmps21 rfl rfl ?_
  intro Q hret hnorm hP a hA
  refine wp_seq_k (fun K1 hK1 => ?_)
  refine wp_region_lit ?_
  refine seq_new (vs := [.bool (rb u.num), .slice a1 ((words u.num.natAbs).length) ac1, .slice a2 ((words u.den).length) ac2, .bool (rb v.num), .slice a3 ((words v.num.natAbs).length) ac3, .slice a4 ((words v.den).length) ac4]) (t := 26) hA hS rfl rfl rfl (fun g => .pointer (some ⟨g, 0, none⟩)) (does_box rfl rfl) rfl ?_
  intro g2 w3 hS a hA
  refine seq_new (vs := [.bool false, .slice none 0 0, .slice none 0 0, .bool false, .slice none 0 0, .slice none 0 0]) (t := 26) hA hS rfl rfl rfl (fun g => .pointer (some ⟨g, 0, none⟩)) (does_alloc (z := .agg #[.bool false, .slice none 0 0, .slice none 0 0, .bool false, .slice none 0 0, .slice none 0 0]) (by kernel_rfl) rfl) rfl ?_
  intro g4 w5 hS a hA
  refine seq_end ?_
  refine hK1 _ _ ?_
  refine wp_seq_k (fun K6 hK6 => ?_)
  have hJ34 : ∀ a w1, (∃ (J25g : Nat) (J26 : Option Addr) (J27 : Nat) (J28 : Option Addr) (J29 : Nat), Sl a 31 [(0, .agg #[.bool (rb u.num), .slice a1 ((words u.num.natAbs).length) ac1, .slice a2 ((words u.den).length) ac2, .bool (rb v.num), .slice a3 ((words v.num.natAbs).length) ac3, .slice a4 ((words v.den).length) ac4]), (1, .pointer (some ⟨g2, 0, none⟩)), (2, .pointer (some ⟨g4, 0, none⟩)), (3, .pointer (some ⟨J25g, 0, none⟩))] ∧ St w w1 [(J25g, [.bool ((rb n.num)), .slice J26 ((words n.num.natAbs).length) J27, .slice J28 ((words n.den).length) J29]), (g4, [.bool false, .slice none 0 0, .slice none 0 0, .bool false, .slice none 0 0, .slice none 0 0]), (g2, [.bool (rb u.num), .slice a1 ((words u.num.natAbs).length) ac1, .slice a2 ((words u.den).length) ac2, .bool (rb v.num), .slice a3 ((words v.num.natAbs).length) ac3, .slice a4 ((words v.den).length) ac4])] [(J28, words n.den), (J26, words n.num.natAbs), (a4, words v.den), (a3, words v.num.natAbs), (a2, words u.den), (a1, words u.num.natAbs)] [] ∧ (J28 = none → J29 = 0) ∧ (words n.den : List Nat).length ≤ J29 ∧ (J26 = none → J27 = 0) ∧ (words n.num.natAbs : List Nat).length ≤ J27) → K6 a w1 := by
    clear hA hS
    rintro a w35 ⟨J25g, J26, J27, J28, J29, hA, hS, hn30, hc31, hn32, hc33⟩
    refine hK6 _ _ ?_
    refine wp_seq_k (fun K36 hK36 => ?_)
    refine wp_region_lit ?_
    refine seq_do (v := .pointer (some ⟨J25g, 2, none⟩)) hA rfl rfl rfl (does_field RfB_fld_24_2 rfl rfl) ?_
    intro a hA
    refine seq_do hA rfl rfl rfl (does_load1 hS RfB_is1_22 rfl 0 rfl rfl) ?_
    intro a hA
    refine seq_do (v := .pointer (some ⟨J25g, 1, none⟩)) hA rfl rfl rfl (does_field RfB_fld_24_1 rfl rfl) ?_
    intro a hA
    refine seq_do hA rfl rfl rfl (does_load1 hS RfB_is1_22 rfl 0 rfl rfl) ?_
    intro a hA
    refine seq_do (v := .agg #[.bool false, .slice J28 ((words n.den).length) J29, .slice J26 ((words n.num.natAbs).length) J27]) hA rfl rfl rfl (does_build rfl (fun w => by kernel_rfl)) ?_
    intro a hA
    refine seq_new (vs := [.bool false, .slice none 0 0, .slice none 0 0]) (t := 24) hA hS rfl rfl rfl (fun g => .pointer (some ⟨g, 0, none⟩)) (does_alloc (z := .agg #[.bool false, .slice none 0 0, .slice none 0 0]) (by kernel_rfl) rfl) rfl ?_
    intro g37 w38 hS a hA
    refine seq_store (us := [.bool false, .slice J28 ((words n.den).length) J29, .slice J26 ((words n.num.natAbs).length) J27]) hA hS rfl rfl (sets_store (cs := [.bool false, .slice J28 ((words n.den).length) J29, .slice J26 ((words n.num.natAbs).length) J27]) rfl rfl rfl (by kernel_rfl) hS 0 rfl rfl rfl) 0 rfl rfl rfl rfl ?_
    intro w39 hS
    refine seq_end ?_
    refine hK36 _ _ ?_
    refine wp_seq_k (fun K40 hK40 => ?_)
    refine wp_draw (S := fun w1 => St w w1 [(g37, [.bool false, .slice J28 ((words n.den).length) J29, .slice J26 ((words n.num.natAbs).length) J27]), (J25g, [.bool ((rb n.num)), .slice J26 ((words n.num.natAbs).length) J27, .slice J28 ((words n.den).length) J29]), (g2, [.bool (rb u.num), .slice a1 ((words u.num.natAbs).length) ac1, .slice a2 ((words u.den).length) ac2, .bool (rb v.num), .slice a3 ((words v.num.natAbs).length) ac3, .slice a4 ((words v.den).length) ac4])] [(J28, words n.den), (J26, words n.num.natAbs), (a4, words v.den), (a3, words v.num.natAbs), (a2, words u.den), (a1, words u.num.natAbs)] []) (by kernel_rfl) ?_
    replace hS := hS.drew
    refine any_take (v := .pointer (some ⟨g2, 0, none⟩)) hA 0 rfl rfl rfl rfl (by kernel_rfl) (by kernel_rfl) (by kernel_rfl) (fun c a w h => hP c a _ _ w h) (hS.partD (.cons_cons _ (.cons_cons _ (.cons _ (.cons_cons _ .slnil)))) 0 rfl (.refl _)) (fun w1 hS => does_field RfB_fld_26_0 rfl rfl) ?_
    intro a hA
    refine any_take (v := .agg #[.bool (rb u.num), .slice a1 ((words u.num.natAbs).length) ac1, .slice a2 ((words u.den).length) ac2]) hA 1 rfl rfl rfl rfl (by kernel_rfl) (by kernel_rfl) (by kernel_rfl) (fun c a w h => hP c a _ _ w h) (hS.partD (.cons_cons _ (.cons_cons _ (.cons _ (.cons_cons _ .slnil)))) 0 rfl (.refl _)) (fun w1 hS => does_loadS hS RfB_isS_24 rfl 2 rfl (cs := [.bool (rb u.num), .slice a1 ((words u.num.natAbs).length) ac1, .slice a2 ((words u.den).length) ac2]) rfl rfl) ?_
    intro a hA
    refine any_take (v := .agg #[.bool false, .slice J28 ((words n.den).length) J29, .slice J26 ((words n.num.natAbs).length) J27]) hA 2 rfl rfl rfl rfl (by kernel_rfl) (by kernel_rfl) (by kernel_rfl) (fun c a w h => hP c a _ _ w h) (hS.partD (.cons_cons _ (.cons_cons _ (.cons _ (.cons_cons _ .slnil)))) 0 rfl (.refl _)) (fun w1 hS => does_loadS hS RfB_isS_24 rfl 0 rfl (cs := [.bool false, .slice J28 ((words n.den).length) J29, .slice J26 ((words n.num.natAbs).length) J27]) rfl rfl) ?_
    intro a hA
    refine any_take (v := .pointer (some ⟨g2, 3, none⟩)) hA 4 rfl rfl rfl rfl (by kernel_rfl) (by kernel_rfl) (by kernel_rfl) (fun c a w h => hP c a _ _ w h) (hS.partD (.cons_cons _ (.cons_cons _ (.cons _ (.cons_cons _ .slnil)))) 0 rfl (.refl _)) (fun w1 hS => does_field RfB_fld_26_1 rfl rfl) ?_
    intro a hA
    refine any_take (v := .agg #[.bool (rb v.num), .slice a3 ((words v.num.natAbs).length) ac3, .slice a4 ((words v.den).length) ac4]) hA 5 rfl rfl rfl rfl (by kernel_rfl) (by kernel_rfl) (by kernel_rfl) (fun c a w h => hP c a _ _ w h) (hS.partD (.cons_cons _ (.cons_cons _ (.cons _ (.cons_cons _ .slnil)))) 0 rfl (.refl _)) (fun w1 hS => does_loadS hS RfB_isS_24 rfl 2 rfl (cs := [.bool (rb v.num), .slice a3 ((words v.num.natAbs).length) ac3, .slice a4 ((words v.den).length) ac4]) rfl rfl) ?_
    intro a hA
    refine any_take (v := .agg #[.bool false, .slice J28 ((words n.den).length) J29, .slice J26 ((words n.num.natAbs).length) J27]) hA 7 rfl rfl rfl rfl (by kernel_rfl) (by kernel_rfl) (by kernel_rfl) (fun c a w h => hP c a _ _ w h) (hS.partD (.cons_cons _ (.cons_cons _ (.cons _ (.cons_cons _ .slnil)))) 0 rfl (.refl _)) (fun w1 hS => does_loadS hS RfB_isS_24 rfl 0 rfl (cs := [.bool false, .slice J28 ((words n.den).length) J29, .slice J26 ((words n.num.natAbs).length) J27]) rfl rfl) ?_
    intro a hA
    refine any_one (by kernel_rfl) (op_call hA 3 rfl rfl rfl rfl (enters_func  rfl rfl (fun w => by kernel_rfl)) (rprodO_any (v := o) ⟨(hS.rd 5 rfl), ha.s1.nil, ha.s1.cap⟩ ⟨(hS.rd 4 rfl), ha.s2.nil, ha.s2.cap⟩ ⟨(hS.rd 0 rfl), hn30, hc31⟩ ⟨(hS.rd 1 rfl), hn32, hc33⟩ i1 i2 i3 (LR_u.mono (by decide)) (LR_o.mono (by decide)) e4) ?_)
    rintro _ w45 ⟨f41_1, f41_c1, f41_2, f41_c2, rfl, hs42, hs43, hb44⟩
    replace hS := hS.call hb44
    replace hS := hS.addR hs42.rd
    replace hS := hS.addR hs43.rd
    refine ⟨_, rfl, (hS.partD (.cons_cons _ (.cons_cons _ (.cons _ (.cons_cons _ .slnil)))) 2 rfl (.refl _)), ?_⟩
    intro a hA
    refine any_one (by kernel_rfl) (op_call hA 6 rfl rfl rfl rfl (enters_func  rfl rfl (fun w => by kernel_rfl)) (rminusR_any ⟨(hS.rd 5 rfl), ha.s3.nil, ha.s3.cap⟩ ⟨(hS.rd 4 rfl), ha.s4.nil, ha.s4.cap⟩ e5) ?_)
    rintro _ w50 ⟨f46_1, f46_c1, f46_2, f46_c2, rfl, hs47, hs48, hb49⟩
    replace hS := hS.call hb49
    replace hS := hS.addR hs47.rd
    replace hS := hS.addR hs48.rd
    refine ⟨_, rfl, (hS.partD (.cons_cons _ (.cons_cons _ (.cons _ (.cons_cons _ .slnil)))) 4 rfl (.refl _)), ?_⟩
    intro a hA
    refine any_one (by kernel_rfl) (op_call hA 8 rfl rfl rfl rfl (enters_func  rfl rfl (fun w => by kernel_rfl)) (rprodO_any (v := o) ⟨(hS.rd 1 rfl), hs47.nil, hs47.cap⟩ ⟨(hS.rd 0 rfl), hs48.nil, hs48.cap⟩ ⟨(hS.rd 4 rfl), hn30, hc31⟩ ⟨(hS.rd 5 rfl), hn32, hc33⟩ i1 i2 i3 (LR_m.mono (by decide)) (LR_o.mono (by decide)) e6) ?_)
    rintro _ w55 ⟨f51_1, f51_c1, f51_2, f51_c2, rfl, hs52, hs53, hb54⟩
    replace hS := hS.call hb54
    replace hS := hS.addR hs52.rd
    replace hS := hS.addR hs53.rd
    refine ⟨_, rfl, (hS.partD (.cons_cons _ (.cons_cons _ (.cons _ (.cons_cons _ .slnil)))) 6 rfl (.refl _)), ?_⟩
    intro a hA
    refine any_take (v := .agg #[.bool ((rb p1.num)), .slice f41_1 ((words p1.num.natAbs).length) f41_c1, .slice f41_2 ((words p1.den).length) f41_c2, .bool ((rb p2.num)), .slice f51_1 ((words p2.num.natAbs).length) f51_c1, .slice f51_2 ((words p2.den).length) f51_c2]) hA 9 rfl rfl rfl rfl (by kernel_rfl) (by kernel_rfl) (by kernel_rfl) (fun c a w h => hP c a _ _ w h) (hS.partD (.cons_cons _ (.cons_cons _ (.cons _ (.cons_cons _ .slnil)))) 6 rfl (.refl _)) (fun w1 hS => does_build rfl (fun w => by kernel_rfl)) ?_
    intro a hA
    refine any_one (by kernel_rfl) (op_store (us := [.bool ((rb p1.num)), .slice f41_1 ((words p1.num.natAbs).length) f41_c1, .slice f41_2 ((words p1.den).length) f41_c2, .bool ((rb p2.num)), .slice f51_1 ((words p2.num.natAbs).length) f51_c1, .slice f51_2 ((words p2.den).length) f51_c2]) hA hS 10 rfl rfl rfl (sets_store (cs := [.bool ((rb p1.num)), .slice f41_1 ((words p1.num.natAbs).length) f41_c1, .slice f41_2 ((words p1.den).length) f41_c2, .bool ((rb p2.num)), .slice f51_1 ((words p2.num.natAbs).length) f51_c1, .slice f51_2 ((words p2.den).length) f51_c2]) rfl rfl rfl (by kernel_rfl) hS 2 rfl rfl rfl) 2 rfl rfl rfl rfl ?_)
    intro w56 hS
    refine ⟨(hS.partD (.cons_cons _ (.cons_cons _ (.cons _ (.cons_cons _ .slnil)))) 6 rfl (.refl _)), ?_⟩
    refine any_end (by kernel_rfl) ?_
    refine hK40 _ _ ?_
    refine wp_ret ?_
    refine hret _ _ ?_
    refine ends (v := .agg #[.bool ((rb p1.num)), .slice f41_1 ((words p1.num.natAbs).length) f41_c1, .slice f41_2 ((words p1.den).length) f41_c2, .bool ((rb p2.num)), .slice f51_1 ((words p2.num.natAbs).length) f51_c1, .slice f51_2 ((words p2.den).length) f51_c2]) hA rfl (.cons (res_cell hS RfB_isS_26 rfl 2 rfl (cs := [.bool ((rb p1.num)), .slice f41_1 ((words p1.num.natAbs).length) f41_c1, .slice f41_2 ((words p1.den).length) f41_c2, .bool ((rb p2.num)), .slice f51_1 ((words p2.num.natAbs).length) f51_c1, .slice f51_2 ((words p2.den).length) f51_c2]) rfl rfl) .nil) rfl ?_
    exact ⟨f41_1, f41_c1, f41_2, f41_c2, f51_1, f51_c1, f51_2, f51_c2, rfl, ⟨⟨(hS.rd 5 rfl), hs42.nil, hs42.cap⟩, ⟨(hS.rd 4 rfl), hs43.nil, hs43.cap⟩, ⟨(hS.rd 1 rfl), hs52.nil, hs52.cap⟩, ⟨(hS.rd 0 rfl), hs53.nil, hs53.cap⟩⟩, hS.bel⟩
  refine wp_draw (S := fun w1 => St w w1 [(g4, [.bool false, .slice none 0 0, .slice none 0 0, .bool false, .slice none 0 0, .slice none 0 0]), (g2, [.bool (rb u.num), .slice a1 ((words u.num.natAbs).length) ac1, .slice a2 ((words u.den).length) ac2, .bool (rb v.num), .slice a3 ((words v.num.natAbs).length) ac3, .slice a4 ((words v.den).length) ac4])] [(a4, words v.den), (a3, words v.num.natAbs), (a2, words u.den), (a1, words u.num.natAbs)] []) (by kernel_rfl) ?_
  replace hS := hS.drew
  refine any_take (v := .pointer (some ⟨g2, 0, none⟩)) hA 0 rfl rfl rfl rfl (by kernel_rfl) (by kernel_rfl) (by kernel_rfl) (fun c a w h => hP c a _ _ w h) hS (fun w1 hS => does_field RfB_fld_26_0 rfl rfl) ?_
  intro a hA
  refine any_take (v := .agg #[.bool (rb u.num), .slice a1 ((words u.num.natAbs).length) ac1, .slice a2 ((words u.den).length) ac2]) hA 1 rfl rfl rfl rfl (by kernel_rfl) (by kernel_rfl) (by kernel_rfl) (fun c a w h => hP c a _ _ w h) hS (fun w1 hS => does_loadS hS RfB_isS_24 rfl 1 rfl (cs := [.bool (rb u.num), .slice a1 ((words u.num.natAbs).length) ac1, .slice a2 ((words u.den).length) ac2]) rfl rfl) ?_
  intro a hA
  refine any_take (v := .pointer (some ⟨g2, 0, none⟩)) hA 2 rfl rfl rfl rfl (by kernel_rfl) (by kernel_rfl) (by kernel_rfl) (fun c a w h => hP c a _ _ w h) hS (fun w1 hS => does_field RfB_fld_26_0 rfl rfl) ?_
  intro a hA
  refine any_take (v := .agg #[.bool (rb u.num), .slice a1 ((words u.num.natAbs).length) ac1, .slice a2 ((words u.den).length) ac2]) hA 3 rfl rfl rfl rfl (by kernel_rfl) (by kernel_rfl) (by kernel_rfl) (fun c a w h => hP c a _ _ w h) hS (fun w1 hS => does_loadS hS RfB_isS_24 rfl 1 rfl (cs := [.bool (rb u.num), .slice a1 ((words u.num.natAbs).length) ac1, .slice a2 ((words u.den).length) ac2]) rfl rfl) ?_
  intro a hA
  refine any_take (v := .pointer (some ⟨g2, 3, none⟩)) hA 5 rfl rfl rfl rfl (by kernel_rfl) (by kernel_rfl) (by kernel_rfl) (fun c a w h => hP c a _ _ w h) hS (fun w1 hS => does_field RfB_fld_26_1 rfl rfl) ?_
  intro a hA
  refine any_take (v := .agg #[.bool (rb v.num), .slice a3 ((words v.num.natAbs).length) ac3, .slice a4 ((words v.den).length) ac4]) hA 6 rfl rfl rfl rfl (by kernel_rfl) (by kernel_rfl) (by kernel_rfl) (fun c a w h => hP c a _ _ w h) hS (fun w1 hS => does_loadS hS RfB_isS_24 rfl 1 rfl (cs := [.bool (rb v.num), .slice a3 ((words v.num.natAbs).length) ac3, .slice a4 ((words v.den).length) ac4]) rfl rfl) ?_
  intro a hA
  refine any_take (v := .pointer (some ⟨g2, 3, none⟩)) hA 7 rfl rfl rfl rfl (by kernel_rfl) (by kernel_rfl) (by kernel_rfl) (fun c a w h => hP c a _ _ w h) hS (fun w1 hS => does_field RfB_fld_26_1 rfl rfl) ?_
  intro a hA
  refine any_take (v := .agg #[.bool (rb v.num), .slice a3 ((words v.num.natAbs).length) ac3, .slice a4 ((words v.den).length) ac4]) hA 8 rfl rfl rfl rfl (by kernel_rfl) (by kernel_rfl) (by kernel_rfl) (fun c a w h => hP c a _ _ w h) hS (fun w1 hS => does_loadS hS RfB_isS_24 rfl 1 rfl (cs := [.bool (rb v.num), .slice a3 ((words v.num.natAbs).length) ac3, .slice a4 ((words v.den).length) ac4]) rfl rfl) ?_
  intro a hA
  refine any_many (rs := [4, 11]) (by kernel_rfl) (by simp) ⟨?_, ?_, trivial⟩
  · refine op_call hA 4 rfl rfl rfl rfl (enters_func  rfl rfl (fun w => by kernel_rfl)) (rprodR_any ⟨(hS.rd 3 rfl), ha.s1.nil, ha.s1.cap⟩ ⟨(hS.rd 2 rfl), ha.s2.nil, ha.s2.cap⟩ ⟨(hS.rd 3 rfl), ha.s1.nil, ha.s1.cap⟩ ⟨(hS.rd 2 rfl), ha.s2.nil, ha.s2.cap⟩ (LR_u.mono (by decide)) (LR_u.mono (by decide)) e1) ?_
    rintro _ w61 ⟨f57_1, f57_c1, f57_2, f57_c2, rfl, hs58, hs59, hb60⟩
    replace hS := hS.call hb60
    replace hS := hS.addR hs58.rd
    replace hS := hS.addR hs59.rd
    refine ⟨_, rfl, (hS.partD (.refl _) 2 rfl (.refl _)), ?_⟩
    intro a hA
    refine any_many (rs := [9, 11]) (by kernel_rfl) (by simp) ⟨?_, ?_, trivial⟩
    · refine op_call hA 9 rfl rfl rfl rfl (enters_func  rfl rfl (fun w => by kernel_rfl)) (rprodR_any ⟨(hS.rd 3 rfl), ha.s3.nil, ha.s3.cap⟩ ⟨(hS.rd 2 rfl), ha.s4.nil, ha.s4.cap⟩ ⟨(hS.rd 3 rfl), ha.s3.nil, ha.s3.cap⟩ ⟨(hS.rd 2 rfl), ha.s4.nil, ha.s4.cap⟩ (LR_v.mono (by decide)) (LR_v.mono (by decide)) e2) ?_
      rintro _ w66 ⟨f62_1, f62_c1, f62_2, f62_c2, rfl, hs63, hs64, hb65⟩
      replace hS := hS.call hb65
      replace hS := hS.addR hs63.rd
      replace hS := hS.addR hs64.rd
      refine ⟨_, rfl, (hS.partD (.refl _) 4 rfl (.refl _)), ?_⟩
      intro a hA
      refine any_many (rs := [10, 11]) (by kernel_rfl) (by simp) ⟨?_, ?_, trivial⟩
      · refine op_call hA 10 rfl rfl rfl rfl (enters_func  rfl rfl (fun w => by kernel_rfl)) (rsumR_any ⟨(hS.rd 3 rfl), hs58.nil, hs58.cap⟩ ⟨(hS.rd 2 rfl), hs59.nil, hs59.cap⟩ ⟨(hS.rd 1 rfl), hs63.nil, hs63.cap⟩ ⟨(hS.rd 0 rfl), hs64.nil, hs64.cap⟩ (LR_r1.mono (by decide)) (LR_r2.mono (by decide)) e3) ?_
        rintro _ w71 ⟨f67_1, f67_c1, f67_2, f67_c2, rfl, hs68, hs69, hb70⟩
        replace hS := hS.call hb70
        replace hS := hS.addR hs68.rd
        replace hS := hS.addR hs69.rd
        refine ⟨_, rfl, (hS.partD (.refl _) 6 rfl (.refl _)), ?_⟩
        intro a hA
        refine any_one (by kernel_rfl) (op_new (vs := [.bool false, .slice none 0 0, .slice none 0 0]) (t := 24) hA hS 11 rfl rfl rfl rfl (fun g => .pointer (some ⟨g, 0, none⟩)) (does_alloc (z := .agg #[.bool false, .slice none 0 0, .slice none 0 0]) (by kernel_rfl) rfl) rfl ?_)
        intro g72 w73 hS
        refine ⟨(hS.partD (.cons _ (.cons_cons _ (.cons_cons _ .slnil))) 6 rfl (.refl _)), ?_⟩
        intro a hA
        refine any_one (by kernel_rfl) (op_store (us := [.bool ((rb n.num)), .slice f67_1 ((words n.num.natAbs).length) f67_c1, .slice f67_2 ((words n.den).length) f67_c2]) hA hS 12 rfl rfl rfl (sets_store (cs := [.bool ((rb n.num)), .slice f67_1 ((words n.num.natAbs).length) f67_c1, .slice f67_2 ((words n.den).length) f67_c2]) rfl rfl rfl (by kernel_rfl) hS 0 rfl rfl rfl) 0 rfl rfl rfl rfl ?_)
        intro w74 hS
        refine ⟨(hS.partD (.cons _ (.cons_cons _ (.cons_cons _ .slnil))) 6 rfl (.refl _)), ?_⟩
        refine any_end (by kernel_rfl) ?_
        refine hJ34 _ _ ⟨g72, f67_1, f67_c1, f67_2, f67_c2, hA.keep _ ⟨rfl, rfl, rfl, rfl, trivial⟩, ((hS.pickR [(f67_2, words n.den), (f67_1, words n.num.natAbs), (a4, words v.den), (a3, words v.num.natAbs), (a2, words u.den), (a1, words u.num.natAbs)] ⟨⟨0, rfl⟩, ⟨⟨1, rfl⟩, ⟨⟨6, rfl⟩, ⟨⟨7, rfl⟩, ⟨⟨8, rfl⟩, ⟨⟨9, rfl⟩, trivial⟩⟩⟩⟩⟩⟩).pickL [(g72, [.bool ((rb n.num)), .slice f67_1 ((words n.num.natAbs).length) f67_c1, .slice f67_2 ((words n.den).length) f67_c2]), (g4, [.bool false, .slice none 0 0, .slice none 0 0, .bool false, .slice none 0 0, .slice none 0 0]), (g2, [.bool (rb u.num), .slice a1 ((words u.num.natAbs).length) ac1, .slice a2 ((words u.den).length) ac2, .bool (rb v.num), .slice a3 ((words v.num.natAbs).length) ac3, .slice a4 ((words v.den).length) ac4])] [0, 1, 2] rfl (by decide)), hs69.nil, hs69.cap, hs68.nil, hs68.cap⟩
      · refine op_new (vs := [.bool false, .slice none 0 0, .slice none 0 0]) (t := 24) hA hS 11 rfl rfl rfl rfl (fun g => .pointer (some ⟨g, 0, none⟩)) (does_alloc (z := .agg #[.bool false, .slice none 0 0, .slice none 0 0]) (by kernel_rfl) rfl) rfl ?_
        intro g75 w76 hS
        refine ⟨(hS.partD (.cons _ (.cons_cons _ (.cons_cons _ .slnil))) 4 rfl (.refl _)), ?_⟩
        intro a hA
        refine any_one (by kernel_rfl) (op_call hA 10 rfl rfl rfl rfl (enters_func  rfl rfl (fun w => by kernel_rfl)) (rsumR_any ⟨(hS.rd 3 rfl), hs58.nil, hs58.cap⟩ ⟨(hS.rd 2 rfl), hs59.nil, hs59.cap⟩ ⟨(hS.rd 1 rfl), hs63.nil, hs63.cap⟩ ⟨(hS.rd 0 rfl), hs64.nil, hs64.cap⟩ (LR_r1.mono (by decide)) (LR_r2.mono (by decide)) e3) ?_)
        rintro _ w81 ⟨f77_1, f77_c1, f77_2, f77_c2, rfl, hs78, hs79, hb80⟩
        replace hS := hS.call hb80
        replace hS := hS.addR hs78.rd
        replace hS := hS.addR hs79.rd
        refine ⟨_, rfl, (hS.partD (.cons _ (.cons_cons _ (.cons_cons _ .slnil))) 6 rfl (.refl _)), ?_⟩
        intro a hA
        refine any_one (by kernel_rfl) (op_store (us := [.bool ((rb n.num)), .slice f77_1 ((words n.num.natAbs).length) f77_c1, .slice f77_2 ((words n.den).length) f77_c2]) hA hS 12 rfl rfl rfl (sets_store (cs := [.bool ((rb n.num)), .slice f77_1 ((words n.num.natAbs).length) f77_c1, .slice f77_2 ((words n.den).length) f77_c2]) rfl rfl rfl (by kernel_rfl) hS 0 rfl rfl rfl) 0 rfl rfl rfl rfl ?_)
        intro w82 hS
        refine ⟨(hS.partD (.cons _ (.cons_cons _ (.cons_cons _ .slnil))) 6 rfl (.refl _)), ?_⟩
        refine any_end (by kernel_rfl) ?_
        refine hJ34 _ _ ⟨g75, f77_1, f77_c1, f77_2, f77_c2, hA.keep _ ⟨rfl, rfl, rfl, rfl, trivial⟩, ((hS.pickR [(f77_2, words n.den), (f77_1, words n.num.natAbs), (a4, words v.den), (a3, words v.num.natAbs), (a2, words u.den), (a1, words u.num.natAbs)] ⟨⟨0, rfl⟩, ⟨⟨1, rfl⟩, ⟨⟨6, rfl⟩, ⟨⟨7, rfl⟩, ⟨⟨8, rfl⟩, ⟨⟨9, rfl⟩, trivial⟩⟩⟩⟩⟩⟩).pickL [(g75, [.bool ((rb n.num)), .slice f77_1 ((words n.num.natAbs).length) f77_c1, .slice f77_2 ((words n.den).length) f77_c2]), (g4, [.bool false, .slice none 0 0, .slice none 0 0, .bool false, .slice none 0 0, .slice none 0 0]), (g2, [.bool (rb u.num), .slice a1 ((words u.num.natAbs).length) ac1, .slice a2 ((words u.den).length) ac2, .bool (rb v.num), .slice a3 ((words v.num.natAbs).length) ac3, .slice a4 ((words v.den).length) ac4])] [0, 1, 2] rfl (by decide)), hs79.nil, hs79.cap, hs78.nil, hs78.cap⟩
    · refine op_new (vs := [.bool false, .slice none 0 0, .slice none 0 0]) (t := 24) hA hS 11 rfl rfl rfl rfl (fun g => .pointer (some ⟨g, 0, none⟩)) (does_alloc (z := .agg #[.bool false, .slice none 0 0, .slice none 0 0]) (by kernel_rfl) rfl) rfl ?_
      intro g83 w84 hS
      refine ⟨(hS.partD (.cons _ (.cons_cons _ (.cons_cons _ .slnil))) 2 rfl (.refl _)), ?_⟩
      intro a hA
      refine any_one (by kernel_rfl) (op_call hA 9 rfl rfl rfl rfl (enters_func  rfl rfl (fun w => by kernel_rfl)) (rprodR_any ⟨(hS.rd 3 rfl), ha.s3.nil, ha.s3.cap⟩ ⟨(hS.rd 2 rfl), ha.s4.nil, ha.s4.cap⟩ ⟨(hS.rd 3 rfl), ha.s3.nil, ha.s3.cap⟩ ⟨(hS.rd 2 rfl), ha.s4.nil, ha.s4.cap⟩ (LR_v.mono (by decide)) (LR_v.mono (by decide)) e2) ?_)
      rintro _ w89 ⟨f85_1, f85_c1, f85_2, f85_c2, rfl, hs86, hs87, hb88⟩
      replace hS := hS.call hb88
      replace hS := hS.addR hs86.rd
      replace hS := hS.addR hs87.rd
      refine ⟨_, rfl, (hS.partD (.cons _ (.cons_cons _ (.cons_cons _ .slnil))) 4 rfl (.refl _)), ?_⟩
      intro a hA
      refine any_one (by kernel_rfl) (op_call hA 10 rfl rfl rfl rfl (enters_func  rfl rfl (fun w => by kernel_rfl)) (rsumR_any ⟨(hS.rd 3 rfl), hs58.nil, hs58.cap⟩ ⟨(hS.rd 2 rfl), hs59.nil, hs59.cap⟩ ⟨(hS.rd 1 rfl), hs86.nil, hs86.cap⟩ ⟨(hS.rd 0 rfl), hs87.nil, hs87.cap⟩ (LR_r1.mono (by decide)) (LR_r2.mono (by decide)) e3) ?_)
      rintro _ w94 ⟨f90_1, f90_c1, f90_2, f90_c2, rfl, hs91, hs92, hb93⟩
      replace hS := hS.call hb93
      replace hS := hS.addR hs91.rd
      replace hS := hS.addR hs92.rd
      refine ⟨_, rfl, (hS.partD (.cons _ (.cons_cons _ (.cons_cons _ .slnil))) 6 rfl (.refl _)), ?_⟩
      intro a hA
      refine any_one (by kernel_rfl) (op_store (us := [.bool ((rb n.num)), .slice f90_1 ((words n.num.natAbs).length) f90_c1, .slice f90_2 ((words n.den).length) f90_c2]) hA hS 12 rfl rfl rfl (sets_store (cs := [.bool ((rb n.num)), .slice f90_1 ((words n.num.natAbs).length) f90_c1, .slice f90_2 ((words n.den).length) f90_c2]) rfl rfl rfl (by kernel_rfl) hS 0 rfl rfl rfl) 0 rfl rfl rfl rfl ?_)
      intro w95 hS
      refine ⟨(hS.partD (.cons _ (.cons_cons _ (.cons_cons _ .slnil))) 6 rfl (.refl _)), ?_⟩
      refine any_end (by kernel_rfl) ?_
      refine hJ34 _ _ ⟨g83, f90_1, f90_c1, f90_2, f90_c2, hA.keep _ ⟨rfl, rfl, rfl, rfl, trivial⟩, ((hS.pickR [(f90_2, words n.den), (f90_1, words n.num.natAbs), (a4, words v.den), (a3, words v.num.natAbs), (a2, words u.den), (a1, words u.num.natAbs)] ⟨⟨0, rfl⟩, ⟨⟨1, rfl⟩, ⟨⟨6, rfl⟩, ⟨⟨7, rfl⟩, ⟨⟨8, rfl⟩, ⟨⟨9, rfl⟩, trivial⟩⟩⟩⟩⟩⟩).pickL [(g83, [.bool ((rb n.num)), .slice f90_1 ((words n.num.natAbs).length) f90_c1, .slice f90_2 ((words n.den).length) f90_c2]), (g4, [.bool false, .slice none 0 0, .slice none 0 0, .bool false, .slice none 0 0, .slice none 0 0]), (g2, [.bool (rb u.num), .slice a1 ((words u.num.natAbs).length) ac1, .slice a2 ((words u.den).length) ac2, .bool (rb v.num), .slice a3 ((words v.num.natAbs).length) ac3, .slice a4 ((words v.den).length) ac4])] [0, 1, 2] rfl (by decide)), hs92.nil, hs92.cap, hs91.nil, hs91.cap⟩
  · refine op_new (vs := [.bool false, .slice none 0 0, .slice none 0 0]) (t := 24) hA hS 11 rfl rfl rfl rfl (fun g => .pointer (some ⟨g, 0, none⟩)) (does_alloc (z := .agg #[.bool false, .slice none 0 0, .slice none 0 0]) (by kernel_rfl) rfl) rfl ?_
    intro g96 w97 hS
    refine ⟨(hS.partD (.cons _ (.cons_cons _ (.cons_cons _ .slnil))) 0 rfl (.refl _)), ?_⟩
    intro a hA
    refine any_one (by kernel_rfl) (op_call hA 4 rfl rfl rfl rfl (enters_func  rfl rfl (fun w => by kernel_rfl)) (rprodR_any ⟨(hS.rd 3 rfl), ha.s1.nil, ha.s1.cap⟩ ⟨(hS.rd 2 rfl), ha.s2.nil, ha.s2.cap⟩ ⟨(hS.rd 3 rfl), ha.s1.nil, ha.s1.cap⟩ ⟨(hS.rd 2 rfl), ha.s2.nil, ha.s2.cap⟩ (LR_u.mono (by decide)) (LR_u.mono (by decide)) e1) ?_)
    rintro _ w102 ⟨f98_1, f98_c1, f98_2, f98_c2, rfl, hs99, hs100, hb101⟩
    replace hS := hS.call hb101
    replace hS := hS.addR hs99.rd
    replace hS := hS.addR hs100.rd
    refine ⟨_, rfl, (hS.partD (.cons _ (.cons_cons _ (.cons_cons _ .slnil))) 2 rfl (.refl _)), ?_⟩
    intro a hA
    refine any_one (by kernel_rfl) (op_call hA 9 rfl rfl rfl rfl (enters_func  rfl rfl (fun w => by kernel_rfl)) (rprodR_any ⟨(hS.rd 3 rfl), ha.s3.nil, ha.s3.cap⟩ ⟨(hS.rd 2 rfl), ha.s4.nil, ha.s4.cap⟩ ⟨(hS.rd 3 rfl), ha.s3.nil, ha.s3.cap⟩ ⟨(hS.rd 2 rfl), ha.s4.nil, ha.s4.cap⟩ (LR_v.mono (by decide)) (LR_v.mono (by decide)) e2) ?_)
    rintro _ w107 ⟨f103_1, f103_c1, f103_2, f103_c2, rfl, hs104, hs105, hb106⟩
    replace hS := hS.call hb106
    replace hS := hS.addR hs104.rd
    replace hS := hS.addR hs105.rd
    refine ⟨_, rfl, (hS.partD (.cons _ (.cons_cons _ (.cons_cons _ .slnil))) 4 rfl (.refl _)), ?_⟩
    intro a hA
    refine any_one (by kernel_rfl) (op_call hA 10 rfl rfl rfl rfl (enters_func  rfl rfl (fun w => by kernel_rfl)) (rsumR_any ⟨(hS.rd 3 rfl), hs99.nil, hs99.cap⟩ ⟨(hS.rd 2 rfl), hs100.nil, hs100.cap⟩ ⟨(hS.rd 1 rfl), hs104.nil, hs104.cap⟩ ⟨(hS.rd 0 rfl), hs105.nil, hs105.cap⟩ (LR_r1.mono (by decide)) (LR_r2.mono (by decide)) e3) ?_)
    rintro _ w112 ⟨f108_1, f108_c1, f108_2, f108_c2, rfl, hs109, hs110, hb111⟩
    replace hS := hS.call hb111
    replace hS := hS.addR hs109.rd
    replace hS := hS.addR hs110.rd
    refine ⟨_, rfl, (hS.partD (.cons _ (.cons_cons _ (.cons_cons _ .slnil))) 6 rfl (.refl _)), ?_⟩
    intro a hA
    refine any_one (by kernel_rfl) (op_store (us := [.bool ((rb n.num)), .slice f108_1 ((words n.num.natAbs).length) f108_c1, .slice f108_2 ((words n.den).length) f108_c2]) hA hS 12 rfl rfl rfl (sets_store (cs := [.bool ((rb n.num)), .slice f108_1 ((words n.num.natAbs).length) f108_c1, .slice f108_2 ((words n.den).length) f108_c2]) rfl rfl rfl (by kernel_rfl) hS 0 rfl rfl rfl) 0 rfl rfl rfl rfl ?_)
    intro w113 hS
    refine ⟨(hS.partD (.cons _ (.cons_cons _ (.cons_cons _ .slnil))) 6 rfl (.refl _)), ?_⟩
    refine any_end (by kernel_rfl) ?_
    refine hJ34 _ _ ⟨g96, f108_1, f108_c1, f108_2, f108_c2, hA.keep _ ⟨rfl, rfl, rfl, rfl, trivial⟩, ((hS.pickR [(f108_2, words n.den), (f108_1, words n.num.natAbs), (a4, words v.den), (a3, words v.num.natAbs), (a2, words u.den), (a1, words u.num.natAbs)] ⟨⟨0, rfl⟩, ⟨⟨1, rfl⟩, ⟨⟨6, rfl⟩, ⟨⟨7, rfl⟩, ⟨⟨8, rfl⟩, ⟨⟨9, rfl⟩, trivial⟩⟩⟩⟩⟩⟩).pickL [(g96, [.bool ((rb n.num)), .slice f108_1 ((words n.num.natAbs).length) f108_c1, .slice f108_2 ((words n.den).length) f108_c2]), (g4, [.bool false, .slice none 0 0, .slice none 0 0, .bool false, .slice none 0 0, .slice none 0 0]), (g2, [.bool (rb u.num), .slice a1 ((words u.num.natAbs).length) ac1, .slice a2 ((words u.den).length) ac2, .bool (rb v.num), .slice a3 ((words v.num.natAbs).length) ac3, .slice a4 ((words v.den).length) ac4])] [0, 1, 2] rfl (by decide)), hs110.nil, hs110.cap, hs109.nil, hs109.cap⟩
theorem sq_gt {u v : Rat} (h : ¬ (u = 0 ∧ v = 0)) : 0 < u * u + v * v := by
  have h1 : 0 ≤ u * u := by
    rcases Rat.le_total (a := 0) (b := u) with k | k
    · exact Rat.mul_nonneg k k
    · have := Rat.mul_nonneg (a := -u) (b := -u) (by grind) (by grind)
      grind
  have h2 : 0 ≤ v * v := by
    rcases Rat.le_total (a := 0) (b := v) with k | k
    · exact Rat.mul_nonneg k k
    · have := Rat.mul_nonneg (a := -v) (b := -v) (by grind) (by grind)
      grind
  have h3 : u * u + v * v ≠ 0 := (iv_mk (spD_ne u v) (sp_ne h) (spX_mk u v) (spY_mk u v)).2.2
  grind
theorem rinvQ_any {w : World} {u v : Rat} {a1 a2 a3 a4 : Option Addr} {ac1 ac2 ac3 ac4 : Nat} (ha : Nm w (Q6.rat u v) a1 ac1 a2 ac2 a3 ac3 a4 ac4) (LR_u : LenR 512 u) (LR_v : LenR 512 v) (hz : ¬ (u = 0 ∧ v = 0)) : Calls Try.prog 21 #[numV (Q6.rat u v) a1 ac1 a2 ac2 a3 ac3 a4 ac4] w (AnsV w (Q6.rat (u * (1 / (u * u + v * v))) (-v * (1 / (u * u + v * v))))) := by
  obtain ⟨i1, i2, i3⟩ := inv_parts (sq_gt hz)
  have ln := lenR_add (lenR_mul LR_u LR_u) (lenR_mul LR_v LR_v)
  exact rinvV_any ha LR_u LR_v rfl rfl rfl i1 i2 i3 rfl rfl rfl (lenR_mul LR_u LR_u) (lenR_mul LR_v LR_v) ⟨by rw [i1]; exact ln.2, by rw [i2]; exact ln.1⟩ (lenR_neg LR_v)
theorem fit_lenR {u : Rat} (h : fitR u) : LenR 512 u := h
theorem rmulE1_any {w : World} {p q : Q6} {a1 a2 a3 a4 : Option Addr} {ac1 ac2 ac3 ac4 : Nat} (ha : Nm w p a1 ac1 a2 ac2 a3 ac3 a4 ac4) (hl : LenQ p) {u1 u2 u3 u4 : Option Addr} {uc1 uc2 uc3 uc4 : Nat} (hb : Nm w q u1 uc1 u2 uc2 u3 uc3 u4 uc4) (hm : LenQ q) (h1 : soundQ p = false) : Calls Try.prog 5 #[numV p a1 ac1 a2 ac2 a3 ac3 a4 ac4, numV q u1 uc1 u2 uc2 u3 uc3 u4 uc4] w (AnsN w (Q6.zero, 2)) := by
  have hS : St w w [] [(u4, q.q2), (u3, q.t2), (u2, q.q1), (u1, q.t1), (a4, p.q2), (a3, p.t2), (a2, p.q1), (a1, p.t1)] [] := ((((((((St.start w).addR ha.s1.rd).addR ha.s2.rd).addR ha.s3.rd).addR ha.s4.rd).addR hb.s1.rd).addR hb.s2.rd).addR hb.s3.rd).addR hb.s4.rd
  refine walk_of (l := [(0, .agg #[.bool p.b1, .slice a1 p.t1.length ac1, .slice a2 p.q1.length ac2, .bool p.b2, .slice a3 p.t2.length ac3, .slice a4 p.q2.length ac4]), (1, .agg #[.bool q.b1, .slice u1 q.t1.length uc1, .slice u2 q.q1.length uc2, .bool q.b2, .slice u3 q.t2.length uc3, .slice u4 q.q2.length uc4])]) Try.func5 rfl Try.ntmps5 rfl rfl ?_
  intro Q hret hnorm hP a hA
  refine wp_seq_k (fun K1 hK1 => ?_)
  refine wp_region_lit ?_
  refine seq_new (vs := [.bool p.b1, .slice a1 p.t1.length ac1, .slice a2 p.q1.length ac2, .bool p.b2, .slice a3 p.t2.length ac3, .slice a4 p.q2.length ac4]) (t := 26) hA hS rfl rfl rfl (fun g => .pointer (some ⟨g, 0, none⟩)) (does_box rfl rfl) rfl ?_
  intro g2 w3 hS a hA
  refine seq_new (vs := [.bool q.b1, .slice u1 q.t1.length uc1, .slice u2 q.q1.length uc2, .bool q.b2, .slice u3 q.t2.length uc3, .slice u4 q.q2.length uc4]) (t := 26) hA hS rfl rfl rfl (fun g => .pointer (some ⟨g, 0, none⟩)) (does_box rfl rfl) rfl ?_
  intro g4 w5 hS a hA
  refine seq_new (vs := [.bool false, .slice none 0 0, .slice none 0 0, .bool false, .slice none 0 0, .slice none 0 0]) (t := 26) hA hS rfl rfl rfl (fun g => .pointer (some ⟨g, 0, none⟩)) (does_alloc (z := .agg #[.bool false, .slice none 0 0, .slice none 0 0, .bool false, .slice none 0 0, .slice none 0 0]) (by kernel_rfl) rfl) rfl ?_
  intro g6 w7 hS a hA
  refine seq_do hA rfl rfl rfl (does_assign rfl) ?_
  intro a hA
  refine seq_end ?_
  refine hK1 _ _ ?_
  refine wp_seq_k (fun K8 hK8 => ?_)
  refine wp_seq_k (fun K9 hK9 => ?_)
  refine wp_region_lit ?_
  refine seq_do (v := .agg #[.bool p.b1, .slice a1 p.t1.length ac1, .slice a2 p.q1.length ac2, .bool p.b2, .slice a3 p.t2.length ac3, .slice a4 p.q2.length ac4]) hA rfl rfl rfl (does_loadS hS RfB_isS_26 rfl 2 rfl (cs := [.bool p.b1, .slice a1 p.t1.length ac1, .slice a2 p.q1.length ac2, .bool p.b2, .slice a3 p.t2.length ac3, .slice a4 p.q2.length ac4]) rfl rfl) ?_
  intro a hA
  refine seq_call hA rfl rfl rfl (enters_func  rfl rfl (fun w => by kernel_rfl)) (rsoundQ_any (show Nm _ p a1 ac1 a2 ac2 a3 ac3 a4 ac4 from ⟨⟨(hS.rd 7 rfl), ha.s1.nil, ha.s1.cap⟩, ⟨(hS.rd 6 rfl), ha.s2.nil, ha.s2.cap⟩, ⟨(hS.rd 5 rfl), ha.s3.nil, ha.s3.cap⟩, ⟨(hS.rd 4 rfl), ha.s4.nil, ha.s4.cap⟩⟩) hl h1) ?_
  rintro _ w11 ⟨rfl, hb10⟩
  replace hS := hS.call hb10
  refine ⟨_, rfl, ?_⟩
  intro a hA
  refine seq_do (v := .bool true) hA rfl rfl rfl (does_un rfl un_not) ?_
  intro a hA
  refine seq_do hA rfl rfl rfl (does_move rfl) ?_
  intro a hA
  refine seq_skip hA rfl rfl rfl ?_
  intro a hA
  refine seq_skip hA rfl rfl rfl ?_
  intro a hA
  refine seq_skip hA rfl rfl rfl ?_
  intro a hA
  refine seq_do (v := .bool true) hA rfl rfl rfl (does_pick rfl rfl rfl rfl) ?_
  intro a hA
  refine seq_end ?_
  refine hK9 _ _ ?_
  refine wp_cond_true (hA.ev rfl) ?_
  refine wp_seq_k (fun K12 hK12 => ?_)
  refine wp_region_lit ?_
  refine seq_do (v := .agg #[.bool false, .slice none 0 0, .slice none 0 0, .bool false, .slice none 0 0, .slice none 0 0]) hA rfl rfl rfl (does_build rfl (fun w => by kernel_rfl)) ?_
  intro a hA
  refine seq_store (us := [.bool false, .slice none 0 0, .slice none 0 0, .bool false, .slice none 0 0, .slice none 0 0]) hA hS rfl rfl (sets_store (cs := [.bool false, .slice none 0 0, .slice none 0 0, .bool false, .slice none 0 0, .slice none 0 0]) rfl rfl rfl (by kernel_rfl) hS 0 rfl rfl rfl) 0 rfl rfl rfl rfl ?_
  intro w13 hS
  refine seq_do hA rfl rfl rfl (does_assign rfl) ?_
  intro a hA
  refine seq_end ?_
  refine hK12 _ _ ?_
  refine wp_ret ?_
  refine hret _ _ ?_
  refine ends (v := .tuple #[.agg #[.bool false, .slice none 0 0, .slice none 0 0, .bool false, .slice none 0 0, .slice none 0 0], .int .i64 2]) hA rfl (.cons (res_cell hS RfB_isS_26 rfl 0 rfl (cs := [.bool false, .slice none 0 0, .slice none 0 0, .bool false, .slice none 0 0, .slice none 0 0]) rfl rfl) (.cons (res_tmp rfl) .nil)) rfl ?_
  exact ⟨none, 0, none, 0, none, 0, none, 0, rfl, ⟨(Sc.none _), (Sc.none _), (Sc.none _), (Sc.none _)⟩, hS.bel⟩
theorem rmulE2_any {w : World} {p q : Q6} {a1 a2 a3 a4 : Option Addr} {ac1 ac2 ac3 ac4 : Nat} (ha : Nm w p a1 ac1 a2 ac2 a3 ac3 a4 ac4) (hl : LenQ p) {u1 u2 u3 u4 : Option Addr} {uc1 uc2 uc3 uc4 : Nat} (hb : Nm w q u1 uc1 u2 uc2 u3 uc3 u4 uc4) (hm : LenQ q) (h1 : soundQ p = true) (h2 : soundQ q = false) : Calls Try.prog 5 #[numV p a1 ac1 a2 ac2 a3 ac3 a4 ac4, numV q u1 uc1 u2 uc2 u3 uc3 u4 uc4] w (AnsN w (Q6.zero, 2)) := by
  have hS : St w w [] [(u4, q.q2), (u3, q.t2), (u2, q.q1), (u1, q.t1), (a4, p.q2), (a3, p.t2), (a2, p.q1), (a1, p.t1)] [] := ((((((((St.start w).addR ha.s1.rd).addR ha.s2.rd).addR ha.s3.rd).addR ha.s4.rd).addR hb.s1.rd).addR hb.s2.rd).addR hb.s3.rd).addR hb.s4.rd
  refine walk_of (l := [(0, .agg #[.bool p.b1, .slice a1 p.t1.length ac1, .slice a2 p.q1.length ac2, .bool p.b2, .slice a3 p.t2.length ac3, .slice a4 p.q2.length ac4]), (1, .agg #[.bool q.b1, .slice u1 q.t1.length uc1, .slice u2 q.q1.length uc2, .bool q.b2, .slice u3 q.t2.length uc3, .slice u4 q.q2.length uc4])]) Try.func5 rfl Try.ntmps5 rfl rfl ?_
  intro Q hret hnorm hP a hA
  refine wp_seq_k (fun K1 hK1 => ?_)
  refine wp_region_lit ?_
  refine seq_new (vs := [.bool p.b1, .slice a1 p.t1.length ac1, .slice a2 p.q1.length ac2, .bool p.b2, .slice a3 p.t2.length ac3, .slice a4 p.q2.length ac4]) (t := 26) hA hS rfl rfl rfl (fun g => .pointer (some ⟨g, 0, none⟩)) (does_box rfl rfl) rfl ?_
  intro g2 w3 hS a hA
  refine seq_new (vs := [.bool q.b1, .slice u1 q.t1.length uc1, .slice u2 q.q1.length uc2, .bool q.b2, .slice u3 q.t2.length uc3, .slice u4 q.q2.length uc4]) (t := 26) hA hS rfl rfl rfl (fun g => .pointer (some ⟨g, 0, none⟩)) (does_box rfl rfl) rfl ?_
  intro g4 w5 hS a hA
  refine seq_new (vs := [.bool false, .slice none 0 0, .slice none 0 0, .bool false, .slice none 0 0, .slice none 0 0]) (t := 26) hA hS rfl rfl rfl (fun g => .pointer (some ⟨g, 0, none⟩)) (does_alloc (z := .agg #[.bool false, .slice none 0 0, .slice none 0 0, .bool false, .slice none 0 0, .slice none 0 0]) (by kernel_rfl) rfl) rfl ?_
  intro g6 w7 hS a hA
  refine seq_do hA rfl rfl rfl (does_assign rfl) ?_
  intro a hA
  refine seq_end ?_
  refine hK1 _ _ ?_
  refine wp_seq_k (fun K8 hK8 => ?_)
  refine wp_seq_k (fun K9 hK9 => ?_)
  refine wp_region_lit ?_
  refine seq_do (v := .agg #[.bool p.b1, .slice a1 p.t1.length ac1, .slice a2 p.q1.length ac2, .bool p.b2, .slice a3 p.t2.length ac3, .slice a4 p.q2.length ac4]) hA rfl rfl rfl (does_loadS hS RfB_isS_26 rfl 2 rfl (cs := [.bool p.b1, .slice a1 p.t1.length ac1, .slice a2 p.q1.length ac2, .bool p.b2, .slice a3 p.t2.length ac3, .slice a4 p.q2.length ac4]) rfl rfl) ?_
  intro a hA
  refine seq_call hA rfl rfl rfl (enters_func  rfl rfl (fun w => by kernel_rfl)) (rsoundQ_any (show Nm _ p a1 ac1 a2 ac2 a3 ac3 a4 ac4 from ⟨⟨(hS.rd 7 rfl), ha.s1.nil, ha.s1.cap⟩, ⟨(hS.rd 6 rfl), ha.s2.nil, ha.s2.cap⟩, ⟨(hS.rd 5 rfl), ha.s3.nil, ha.s3.cap⟩, ⟨(hS.rd 4 rfl), ha.s4.nil, ha.s4.cap⟩⟩) hl h1) ?_
  rintro _ w11 ⟨rfl, hb10⟩
  replace hS := hS.call hb10
  refine ⟨_, rfl, ?_⟩
  intro a hA
  refine seq_do (v := .bool false) hA rfl rfl rfl (does_un rfl un_not) ?_
  intro a hA
  refine seq_do hA rfl rfl rfl (does_move rfl) ?_
  intro a hA
  refine seq_do (v := .agg #[.bool q.b1, .slice u1 q.t1.length uc1, .slice u2 q.q1.length uc2, .bool q.b2, .slice u3 q.t2.length uc3, .slice u4 q.q2.length uc4]) hA rfl rfl rfl (does_loadS hS RfB_isS_26 rfl 1 rfl (cs := [.bool q.b1, .slice u1 q.t1.length uc1, .slice u2 q.q1.length uc2, .bool q.b2, .slice u3 q.t2.length uc3, .slice u4 q.q2.length uc4]) rfl rfl) ?_
  intro a hA
  refine seq_call hA rfl rfl rfl (enters_func  rfl rfl (fun w => by kernel_rfl)) (rsoundQ_any (show Nm _ q u1 uc1 u2 uc2 u3 uc3 u4 uc4 from ⟨⟨(hS.rd 3 rfl), hb.s1.nil, hb.s1.cap⟩, ⟨(hS.rd 2 rfl), hb.s2.nil, hb.s2.cap⟩, ⟨(hS.rd 1 rfl), hb.s3.nil, hb.s3.cap⟩, ⟨(hS.rd 0 rfl), hb.s4.nil, hb.s4.cap⟩⟩) hm h2) ?_
  rintro _ w13 ⟨rfl, hb12⟩
  replace hS := hS.call hb12
  refine ⟨_, rfl, ?_⟩
  intro a hA
  refine seq_do (v := .bool true) hA rfl rfl rfl (does_un rfl un_not) ?_
  intro a hA
  refine seq_do (v := .bool true) hA rfl rfl rfl (does_pick rfl rfl rfl rfl) ?_
  intro a hA
  refine seq_end ?_
  refine hK9 _ _ ?_
  refine wp_cond_true (hA.ev rfl) ?_
  refine wp_seq_k (fun K14 hK14 => ?_)
  refine wp_region_lit ?_
  refine seq_do (v := .agg #[.bool false, .slice none 0 0, .slice none 0 0, .bool false, .slice none 0 0, .slice none 0 0]) hA rfl rfl rfl (does_build rfl (fun w => by kernel_rfl)) ?_
  intro a hA
  refine seq_store (us := [.bool false, .slice none 0 0, .slice none 0 0, .bool false, .slice none 0 0, .slice none 0 0]) hA hS rfl rfl (sets_store (cs := [.bool false, .slice none 0 0, .slice none 0 0, .bool false, .slice none 0 0, .slice none 0 0]) rfl rfl rfl (by kernel_rfl) hS 0 rfl rfl rfl) 0 rfl rfl rfl rfl ?_
  intro w15 hS
  refine seq_do hA rfl rfl rfl (does_assign rfl) ?_
  intro a hA
  refine seq_end ?_
  refine hK14 _ _ ?_
  refine wp_ret ?_
  refine hret _ _ ?_
  refine ends (v := .tuple #[.agg #[.bool false, .slice none 0 0, .slice none 0 0, .bool false, .slice none 0 0, .slice none 0 0], .int .i64 2]) hA rfl (.cons (res_cell hS RfB_isS_26 rfl 0 rfl (cs := [.bool false, .slice none 0 0, .slice none 0 0, .bool false, .slice none 0 0, .slice none 0 0]) rfl rfl) (.cons (res_tmp rfl) .nil)) rfl ?_
  exact ⟨none, 0, none, 0, none, 0, none, 0, rfl, ⟨(Sc.none _), (Sc.none _), (Sc.none _), (Sc.none _)⟩, hS.bel⟩
theorem rdivE1_any {w : World} {p q : Q6} {a1 a2 a3 a4 : Option Addr} {ac1 ac2 ac3 ac4 : Nat} (ha : Nm w p a1 ac1 a2 ac2 a3 ac3 a4 ac4) (hl : LenQ p) {u1 u2 u3 u4 : Option Addr} {uc1 uc2 uc3 uc4 : Nat} (hb : Nm w q u1 uc1 u2 uc2 u3 uc3 u4 uc4) (hm : LenQ q) (h1 : soundQ p = false) : Calls Try.prog 7 #[numV p a1 ac1 a2 ac2 a3 ac3 a4 ac4, numV q u1 uc1 u2 uc2 u3 uc3 u4 uc4] w (AnsN w (Q6.zero, 2)) := by
  have hS : St w w [] [(u4, q.q2), (u3, q.t2), (u2, q.q1), (u1, q.t1), (a4, p.q2), (a3, p.t2), (a2, p.q1), (a1, p.t1)] [] := ((((((((St.start w).addR ha.s1.rd).addR ha.s2.rd).addR ha.s3.rd).addR ha.s4.rd).addR hb.s1.rd).addR hb.s2.rd).addR hb.s3.rd).addR hb.s4.rd
  refine walk_of (l := [(0, .agg #[.bool p.b1, .slice a1 p.t1.length ac1, .slice a2 p.q1.length ac2, .bool p.b2, .slice a3 p.t2.length ac3, .slice a4 p.q2.length ac4]), (1, .agg #[.bool q.b1, .slice u1 q.t1.length uc1, .slice u2 q.q1.length uc2, .bool q.b2, .slice u3 q.t2.length uc3, .slice u4 q.q2.length uc4])]) Try.func7 rfl Try.ntmps7 rfl rfl ?_
  intro Q hret hnorm hP a hA
  refine wp_seq_k (fun K1 hK1 => ?_)
  refine wp_region_lit ?_
  refine seq_new (vs := [.bool p.b1, .slice a1 p.t1.length ac1, .slice a2 p.q1.length ac2, .bool p.b2, .slice a3 p.t2.length ac3, .slice a4 p.q2.length ac4]) (t := 26) hA hS rfl rfl rfl (fun g => .pointer (some ⟨g, 0, none⟩)) (does_box rfl rfl) rfl ?_
  intro g2 w3 hS a hA
  refine seq_new (vs := [.bool q.b1, .slice u1 q.t1.length uc1, .slice u2 q.q1.length uc2, .bool q.b2, .slice u3 q.t2.length uc3, .slice u4 q.q2.length uc4]) (t := 26) hA hS rfl rfl rfl (fun g => .pointer (some ⟨g, 0, none⟩)) (does_box rfl rfl) rfl ?_
  intro g4 w5 hS a hA
  refine seq_new (vs := [.bool false, .slice none 0 0, .slice none 0 0, .bool false, .slice none 0 0, .slice none 0 0]) (t := 26) hA hS rfl rfl rfl (fun g => .pointer (some ⟨g, 0, none⟩)) (does_alloc (z := .agg #[.bool false, .slice none 0 0, .slice none 0 0, .bool false, .slice none 0 0, .slice none 0 0]) (by kernel_rfl) rfl) rfl ?_
  intro g6 w7 hS a hA
  refine seq_do hA rfl rfl rfl (does_assign rfl) ?_
  intro a hA
  refine seq_end ?_
  refine hK1 _ _ ?_
  refine wp_seq_k (fun K8 hK8 => ?_)
  refine wp_seq_k (fun K9 hK9 => ?_)
  refine wp_region_lit ?_
  refine seq_do (v := .agg #[.bool p.b1, .slice a1 p.t1.length ac1, .slice a2 p.q1.length ac2, .bool p.b2, .slice a3 p.t2.length ac3, .slice a4 p.q2.length ac4]) hA rfl rfl rfl (does_loadS hS RfB_isS_26 rfl 2 rfl (cs := [.bool p.b1, .slice a1 p.t1.length ac1, .slice a2 p.q1.length ac2, .bool p.b2, .slice a3 p.t2.length ac3, .slice a4 p.q2.length ac4]) rfl rfl) ?_
  intro a hA
  refine seq_call hA rfl rfl rfl (enters_func  rfl rfl (fun w => by kernel_rfl)) (rsoundQ_any (show Nm _ p a1 ac1 a2 ac2 a3 ac3 a4 ac4 from ⟨⟨(hS.rd 7 rfl), ha.s1.nil, ha.s1.cap⟩, ⟨(hS.rd 6 rfl), ha.s2.nil, ha.s2.cap⟩, ⟨(hS.rd 5 rfl), ha.s3.nil, ha.s3.cap⟩, ⟨(hS.rd 4 rfl), ha.s4.nil, ha.s4.cap⟩⟩) hl h1) ?_
  rintro _ w11 ⟨rfl, hb10⟩
  replace hS := hS.call hb10
  refine ⟨_, rfl, ?_⟩
  intro a hA
  refine seq_do (v := .bool true) hA rfl rfl rfl (does_un rfl un_not) ?_
  intro a hA
  refine seq_do hA rfl rfl rfl (does_move rfl) ?_
  intro a hA
  refine seq_skip hA rfl rfl rfl ?_
  intro a hA
  refine seq_skip hA rfl rfl rfl ?_
  intro a hA
  refine seq_skip hA rfl rfl rfl ?_
  intro a hA
  refine seq_do (v := .bool true) hA rfl rfl rfl (does_pick rfl rfl rfl rfl) ?_
  intro a hA
  refine seq_end ?_
  refine hK9 _ _ ?_
  refine wp_cond_true (hA.ev rfl) ?_
  refine wp_seq_k (fun K12 hK12 => ?_)
  refine wp_region_lit ?_
  refine seq_do (v := .agg #[.bool false, .slice none 0 0, .slice none 0 0, .bool false, .slice none 0 0, .slice none 0 0]) hA rfl rfl rfl (does_build rfl (fun w => by kernel_rfl)) ?_
  intro a hA
  refine seq_store (us := [.bool false, .slice none 0 0, .slice none 0 0, .bool false, .slice none 0 0, .slice none 0 0]) hA hS rfl rfl (sets_store (cs := [.bool false, .slice none 0 0, .slice none 0 0, .bool false, .slice none 0 0, .slice none 0 0]) rfl rfl rfl (by kernel_rfl) hS 0 rfl rfl rfl) 0 rfl rfl rfl rfl ?_
  intro w13 hS
  refine seq_do hA rfl rfl rfl (does_assign rfl) ?_
  intro a hA
  refine seq_end ?_
  refine hK12 _ _ ?_
  refine wp_ret ?_
  refine hret _ _ ?_
  refine ends (v := .tuple #[.agg #[.bool false, .slice none 0 0, .slice none 0 0, .bool false, .slice none 0 0, .slice none 0 0], .int .i64 2]) hA rfl (.cons (res_cell hS RfB_isS_26 rfl 0 rfl (cs := [.bool false, .slice none 0 0, .slice none 0 0, .bool false, .slice none 0 0, .slice none 0 0]) rfl rfl) (.cons (res_tmp rfl) .nil)) rfl ?_
  exact ⟨none, 0, none, 0, none, 0, none, 0, rfl, ⟨(Sc.none _), (Sc.none _), (Sc.none _), (Sc.none _)⟩, hS.bel⟩
theorem rdivE2_any {w : World} {p q : Q6} {a1 a2 a3 a4 : Option Addr} {ac1 ac2 ac3 ac4 : Nat} (ha : Nm w p a1 ac1 a2 ac2 a3 ac3 a4 ac4) (hl : LenQ p) {u1 u2 u3 u4 : Option Addr} {uc1 uc2 uc3 uc4 : Nat} (hb : Nm w q u1 uc1 u2 uc2 u3 uc3 u4 uc4) (hm : LenQ q) (h1 : soundQ p = true) (h2 : soundQ q = false) : Calls Try.prog 7 #[numV p a1 ac1 a2 ac2 a3 ac3 a4 ac4, numV q u1 uc1 u2 uc2 u3 uc3 u4 uc4] w (AnsN w (Q6.zero, 2)) := by
  have hS : St w w [] [(u4, q.q2), (u3, q.t2), (u2, q.q1), (u1, q.t1), (a4, p.q2), (a3, p.t2), (a2, p.q1), (a1, p.t1)] [] := ((((((((St.start w).addR ha.s1.rd).addR ha.s2.rd).addR ha.s3.rd).addR ha.s4.rd).addR hb.s1.rd).addR hb.s2.rd).addR hb.s3.rd).addR hb.s4.rd
  refine walk_of (l := [(0, .agg #[.bool p.b1, .slice a1 p.t1.length ac1, .slice a2 p.q1.length ac2, .bool p.b2, .slice a3 p.t2.length ac3, .slice a4 p.q2.length ac4]), (1, .agg #[.bool q.b1, .slice u1 q.t1.length uc1, .slice u2 q.q1.length uc2, .bool q.b2, .slice u3 q.t2.length uc3, .slice u4 q.q2.length uc4])]) Try.func7 rfl Try.ntmps7 rfl rfl ?_
  intro Q hret hnorm hP a hA
  refine wp_seq_k (fun K1 hK1 => ?_)
  refine wp_region_lit ?_
  refine seq_new (vs := [.bool p.b1, .slice a1 p.t1.length ac1, .slice a2 p.q1.length ac2, .bool p.b2, .slice a3 p.t2.length ac3, .slice a4 p.q2.length ac4]) (t := 26) hA hS rfl rfl rfl (fun g => .pointer (some ⟨g, 0, none⟩)) (does_box rfl rfl) rfl ?_
  intro g2 w3 hS a hA
  refine seq_new (vs := [.bool q.b1, .slice u1 q.t1.length uc1, .slice u2 q.q1.length uc2, .bool q.b2, .slice u3 q.t2.length uc3, .slice u4 q.q2.length uc4]) (t := 26) hA hS rfl rfl rfl (fun g => .pointer (some ⟨g, 0, none⟩)) (does_box rfl rfl) rfl ?_
  intro g4 w5 hS a hA
  refine seq_new (vs := [.bool false, .slice none 0 0, .slice none 0 0, .bool false, .slice none 0 0, .slice none 0 0]) (t := 26) hA hS rfl rfl rfl (fun g => .pointer (some ⟨g, 0, none⟩)) (does_alloc (z := .agg #[.bool false, .slice none 0 0, .slice none 0 0, .bool false, .slice none 0 0, .slice none 0 0]) (by kernel_rfl) rfl) rfl ?_
  intro g6 w7 hS a hA
  refine seq_do hA rfl rfl rfl (does_assign rfl) ?_
  intro a hA
  refine seq_end ?_
  refine hK1 _ _ ?_
  refine wp_seq_k (fun K8 hK8 => ?_)
  refine wp_seq_k (fun K9 hK9 => ?_)
  refine wp_region_lit ?_
  refine seq_do (v := .agg #[.bool p.b1, .slice a1 p.t1.length ac1, .slice a2 p.q1.length ac2, .bool p.b2, .slice a3 p.t2.length ac3, .slice a4 p.q2.length ac4]) hA rfl rfl rfl (does_loadS hS RfB_isS_26 rfl 2 rfl (cs := [.bool p.b1, .slice a1 p.t1.length ac1, .slice a2 p.q1.length ac2, .bool p.b2, .slice a3 p.t2.length ac3, .slice a4 p.q2.length ac4]) rfl rfl) ?_
  intro a hA
  refine seq_call hA rfl rfl rfl (enters_func  rfl rfl (fun w => by kernel_rfl)) (rsoundQ_any (show Nm _ p a1 ac1 a2 ac2 a3 ac3 a4 ac4 from ⟨⟨(hS.rd 7 rfl), ha.s1.nil, ha.s1.cap⟩, ⟨(hS.rd 6 rfl), ha.s2.nil, ha.s2.cap⟩, ⟨(hS.rd 5 rfl), ha.s3.nil, ha.s3.cap⟩, ⟨(hS.rd 4 rfl), ha.s4.nil, ha.s4.cap⟩⟩) hl h1) ?_
  rintro _ w11 ⟨rfl, hb10⟩
  replace hS := hS.call hb10
  refine ⟨_, rfl, ?_⟩
  intro a hA
  refine seq_do (v := .bool false) hA rfl rfl rfl (does_un rfl un_not) ?_
  intro a hA
  refine seq_do hA rfl rfl rfl (does_move rfl) ?_
  intro a hA
  refine seq_do (v := .agg #[.bool q.b1, .slice u1 q.t1.length uc1, .slice u2 q.q1.length uc2, .bool q.b2, .slice u3 q.t2.length uc3, .slice u4 q.q2.length uc4]) hA rfl rfl rfl (does_loadS hS RfB_isS_26 rfl 1 rfl (cs := [.bool q.b1, .slice u1 q.t1.length uc1, .slice u2 q.q1.length uc2, .bool q.b2, .slice u3 q.t2.length uc3, .slice u4 q.q2.length uc4]) rfl rfl) ?_
  intro a hA
  refine seq_call hA rfl rfl rfl (enters_func  rfl rfl (fun w => by kernel_rfl)) (rsoundQ_any (show Nm _ q u1 uc1 u2 uc2 u3 uc3 u4 uc4 from ⟨⟨(hS.rd 3 rfl), hb.s1.nil, hb.s1.cap⟩, ⟨(hS.rd 2 rfl), hb.s2.nil, hb.s2.cap⟩, ⟨(hS.rd 1 rfl), hb.s3.nil, hb.s3.cap⟩, ⟨(hS.rd 0 rfl), hb.s4.nil, hb.s4.cap⟩⟩) hm h2) ?_
  rintro _ w13 ⟨rfl, hb12⟩
  replace hS := hS.call hb12
  refine ⟨_, rfl, ?_⟩
  intro a hA
  refine seq_do (v := .bool true) hA rfl rfl rfl (does_un rfl un_not) ?_
  intro a hA
  refine seq_do (v := .bool true) hA rfl rfl rfl (does_pick rfl rfl rfl rfl) ?_
  intro a hA
  refine seq_end ?_
  refine hK9 _ _ ?_
  refine wp_cond_true (hA.ev rfl) ?_
  refine wp_seq_k (fun K14 hK14 => ?_)
  refine wp_region_lit ?_
  refine seq_do (v := .agg #[.bool false, .slice none 0 0, .slice none 0 0, .bool false, .slice none 0 0, .slice none 0 0]) hA rfl rfl rfl (does_build rfl (fun w => by kernel_rfl)) ?_
  intro a hA
  refine seq_store (us := [.bool false, .slice none 0 0, .slice none 0 0, .bool false, .slice none 0 0, .slice none 0 0]) hA hS rfl rfl (sets_store (cs := [.bool false, .slice none 0 0, .slice none 0 0, .bool false, .slice none 0 0, .slice none 0 0]) rfl rfl rfl (by kernel_rfl) hS 0 rfl rfl rfl) 0 rfl rfl rfl rfl ?_
  intro w15 hS
  refine seq_do hA rfl rfl rfl (does_assign rfl) ?_
  intro a hA
  refine seq_end ?_
  refine hK14 _ _ ?_
  refine wp_ret ?_
  refine hret _ _ ?_
  refine ends (v := .tuple #[.agg #[.bool false, .slice none 0 0, .slice none 0 0, .bool false, .slice none 0 0, .slice none 0 0], .int .i64 2]) hA rfl (.cons (res_cell hS RfB_isS_26 rfl 0 rfl (cs := [.bool false, .slice none 0 0, .slice none 0 0, .bool false, .slice none 0 0, .slice none 0 0]) rfl rfl) (.cons (res_tmp rfl) .nil)) rfl ?_
  exact ⟨none, 0, none, 0, none, 0, none, 0, rfl, ⟨(Sc.none _), (Sc.none _), (Sc.none _), (Sc.none _)⟩, hS.bel⟩
theorem rtimesA_any {w : World} {u v x y : Rat} {a1 a2 a3 a4 : Option Addr} {ac1 ac2 ac3 ac4 : Nat} (ha : Nm w (Q6.rat u v) a1 ac1 a2 ac2 a3 ac3 a4 ac4) {u1 u2 u3 u4 : Option Addr} {uc1 uc2 uc3 uc4 : Nat} (hb : Nm w (Q6.rat x y) u1 uc1 u2 uc2 u3 uc3 u4 uc4) (hu : fitR u) (hv : fitR v) (hx : fitR x) (hy : fitR y) {re im : Rat} (h1 : u * x - v * y = re) (h2 : u * y + v * x = im) : Calls Try.prog 14 #[numV (Q6.rat u v) a1 ac1 a2 ac2 a3 ac3 a4 ac4, numV (Q6.rat x y) u1 uc1 u2 uc2 u3 uc3 u4 uc4] w (AnsV w (Q6.rat re im)) := by
  subst h1 h2
  exact rtimesQ_any ha hb (fit_lenR hu) (fit_lenR hv) ((fit_lenR hx).mono (by decide)) ((fit_lenR hy).mono (by decide))
theorem rmulW_any {w : World} {u v x y : Rat} {a1 a2 a3 a4 : Option Addr} {ac1 ac2 ac3 ac4 : Nat} (ha : Nm w (Q6.rat u v) a1 ac1 a2 ac2 a3 ac3 a4 ac4) {u1 u2 u3 u4 : Option Addr} {uc1 uc2 uc3 uc4 : Nat} (hb : Nm w (Q6.rat x y) u1 uc1 u2 uc2 u3 uc3 u4 uc4) (hu : fitR u) (hv : fitR v) (hx : fitR x) (hy : fitR y) {re im : Rat} (h1 : u * x - v * y = re) (h2 : u * y + v * x = im) (l1 : LenR 9000 re) (l2 : LenR 9000 im) : Calls Try.prog 5 #[numV (Q6.rat u v) a1 ac1 a2 ac2 a3 ac3 a4 ac4, numV (Q6.rat x y) u1 uc1 u2 uc2 u3 uc3 u4 uc4] w (AnsN w (ratS re im)) := by
  have hS : St w w [] [(u4, words y.den), (u3, words y.num.natAbs), (u2, words x.den), (u1, words x.num.natAbs), (a4, words v.den), (a3, words v.num.natAbs), (a2, words u.den), (a1, words u.num.natAbs)] [] := ((((((((St.start w).addR ha.s1.rd).addR ha.s2.rd).addR ha.s3.rd).addR ha.s4.rd).addR hb.s1.rd).addR hb.s2.rd).addR hb.s3.rd).addR hb.s4.rd
  refine walk_of (l := [(0, .agg #[.bool (rb u.num), .slice a1 ((words u.num.natAbs).length) ac1, .slice a2 ((words u.den).length) ac2, .bool (rb v.num), .slice a3 ((words v.num.natAbs).length) ac3, .slice a4 ((words v.den).length) ac4]), (1, .agg #[.bool (rb x.num), .slice u1 ((words x.num.natAbs).length) uc1, .slice u2 ((words x.den).length) uc2, .bool (rb y.num), .slice u3 ((words y.num.natAbs).length) uc3, .slice u4 ((words y.den).length) uc4])]) Try.func5 rfl Try.ntmps5 rfl rfl ?_
  intro Q hret hnorm hP a hA
  refine wp_seq_k (fun K1 hK1 => ?_)
  refine wp_region_lit ?_
  refine seq_new (vs := [.bool (rb u.num), .slice a1 ((words u.num.natAbs).length) ac1, .slice a2 ((words u.den).length) ac2, .bool (rb v.num), .slice a3 ((words v.num.natAbs).length) ac3, .slice a4 ((words v.den).length) ac4]) (t := 26) hA hS rfl rfl rfl (fun g => .pointer (some ⟨g, 0, none⟩)) (does_box rfl rfl) rfl ?_
  intro g2 w3 hS a hA
  refine seq_new (vs := [.bool (rb x.num), .slice u1 ((words x.num.natAbs).length) uc1, .slice u2 ((words x.den).length) uc2, .bool (rb y.num), .slice u3 ((words y.num.natAbs).length) uc3, .slice u4 ((words y.den).length) uc4]) (t := 26) hA hS rfl rfl rfl (fun g => .pointer (some ⟨g, 0, none⟩)) (does_box rfl rfl) rfl ?_
  intro g4 w5 hS a hA
  refine seq_new (vs := [.bool false, .slice none 0 0, .slice none 0 0, .bool false, .slice none 0 0, .slice none 0 0]) (t := 26) hA hS rfl rfl rfl (fun g => .pointer (some ⟨g, 0, none⟩)) (does_alloc (z := .agg #[.bool false, .slice none 0 0, .slice none 0 0, .bool false, .slice none 0 0, .slice none 0 0]) (by kernel_rfl) rfl) rfl ?_
  intro g6 w7 hS a hA
  refine seq_do hA rfl rfl rfl (does_assign rfl) ?_
  intro a hA
  refine seq_end ?_
  refine hK1 _ _ ?_
  refine wp_seq_k (fun K8 hK8 => ?_)
  refine wp_seq_k (fun K9 hK9 => ?_)
  refine wp_region_lit ?_
  refine seq_do (v := .agg #[.bool (rb u.num), .slice a1 ((words u.num.natAbs).length) ac1, .slice a2 ((words u.den).length) ac2, .bool (rb v.num), .slice a3 ((words v.num.natAbs).length) ac3, .slice a4 ((words v.den).length) ac4]) hA rfl rfl rfl (does_loadS hS RfB_isS_26 rfl 2 rfl (cs := [.bool (rb u.num), .slice a1 ((words u.num.natAbs).length) ac1, .slice a2 ((words u.den).length) ac2, .bool (rb v.num), .slice a3 ((words v.num.natAbs).length) ac3, .slice a4 ((words v.den).length) ac4]) rfl rfl) ?_
  intro a hA
  refine seq_call hA rfl rfl rfl (enters_func  rfl rfl (fun w => by kernel_rfl)) (rsoundQ_any (show Nm _ (Q6.rat u v) a1 ac1 a2 ac2 a3 ac3 a4 ac4 from ⟨⟨(hS.rd 7 rfl), ha.s1.nil, ha.s1.cap⟩, ⟨(hS.rd 6 rfl), ha.s2.nil, ha.s2.cap⟩, ⟨(hS.rd 5 rfl), ha.s3.nil, ha.s3.cap⟩, ⟨(hS.rd 4 rfl), ha.s4.nil, ha.s4.cap⟩⟩) (lenQ_rat hu hv) (soundQ_rat hu hv)) ?_
  rintro _ w11 ⟨rfl, hb10⟩
  replace hS := hS.call hb10
  refine ⟨_, rfl, ?_⟩
  intro a hA
  refine seq_do (v := .bool false) hA rfl rfl rfl (does_un rfl un_not) ?_
  intro a hA
  refine seq_do hA rfl rfl rfl (does_move rfl) ?_
  intro a hA
  refine seq_do (v := .agg #[.bool (rb x.num), .slice u1 ((words x.num.natAbs).length) uc1, .slice u2 ((words x.den).length) uc2, .bool (rb y.num), .slice u3 ((words y.num.natAbs).length) uc3, .slice u4 ((words y.den).length) uc4]) hA rfl rfl rfl (does_loadS hS RfB_isS_26 rfl 1 rfl (cs := [.bool (rb x.num), .slice u1 ((words x.num.natAbs).length) uc1, .slice u2 ((words x.den).length) uc2, .bool (rb y.num), .slice u3 ((words y.num.natAbs).length) uc3, .slice u4 ((words y.den).length) uc4]) rfl rfl) ?_
  intro a hA
  refine seq_call hA rfl rfl rfl (enters_func  rfl rfl (fun w => by kernel_rfl)) (rsoundQ_any (show Nm _ (Q6.rat x y) u1 uc1 u2 uc2 u3 uc3 u4 uc4 from ⟨⟨(hS.rd 3 rfl), hb.s1.nil, hb.s1.cap⟩, ⟨(hS.rd 2 rfl), hb.s2.nil, hb.s2.cap⟩, ⟨(hS.rd 1 rfl), hb.s3.nil, hb.s3.cap⟩, ⟨(hS.rd 0 rfl), hb.s4.nil, hb.s4.cap⟩⟩) (lenQ_rat hx hy) (soundQ_rat hx hy)) ?_
  rintro _ w13 ⟨rfl, hb12⟩
  replace hS := hS.call hb12
  refine ⟨_, rfl, ?_⟩
  intro a hA
  refine seq_do (v := .bool false) hA rfl rfl rfl (does_un rfl un_not) ?_
  intro a hA
  refine seq_do (v := .bool false) hA rfl rfl rfl (does_pick rfl rfl rfl rfl) ?_
  intro a hA
  refine seq_end ?_
  refine hK9 _ _ ?_
  refine wp_cond_false (hA.ev rfl) ?_
  refine wp_skip ?_
  refine hK8 _ _ ?_
  refine wp_seq_k (fun K14 hK14 => ?_)
  refine wp_region_lit ?_
  refine seq_do (v := .agg #[.bool (rb u.num), .slice a1 ((words u.num.natAbs).length) ac1, .slice a2 ((words u.den).length) ac2, .bool (rb v.num), .slice a3 ((words v.num.natAbs).length) ac3, .slice a4 ((words v.den).length) ac4]) hA rfl rfl rfl (does_loadS hS RfB_isS_26 rfl 2 rfl (cs := [.bool (rb u.num), .slice a1 ((words u.num.natAbs).length) ac1, .slice a2 ((words u.den).length) ac2, .bool (rb v.num), .slice a3 ((words v.num.natAbs).length) ac3, .slice a4 ((words v.den).length) ac4]) rfl rfl) ?_
  intro a hA
  refine seq_do (v := .agg #[.bool (rb x.num), .slice u1 ((words x.num.natAbs).length) uc1, .slice u2 ((words x.den).length) uc2, .bool (rb y.num), .slice u3 ((words y.num.natAbs).length) uc3, .slice u4 ((words y.den).length) uc4]) hA rfl rfl rfl (does_loadS hS RfB_isS_26 rfl 1 rfl (cs := [.bool (rb x.num), .slice u1 ((words x.num.natAbs).length) uc1, .slice u2 ((words x.den).length) uc2, .bool (rb y.num), .slice u3 ((words y.num.natAbs).length) uc3, .slice u4 ((words y.den).length) uc4]) rfl rfl) ?_
  intro a hA
  refine seq_call hA rfl rfl rfl (enters_func  rfl rfl (fun w => by kernel_rfl)) (rtimesA_any (show Nm _ (Q6.rat u v) a1 ac1 a2 ac2 a3 ac3 a4 ac4 from ⟨⟨(hS.rd 7 rfl), ha.s1.nil, ha.s1.cap⟩, ⟨(hS.rd 6 rfl), ha.s2.nil, ha.s2.cap⟩, ⟨(hS.rd 5 rfl), ha.s3.nil, ha.s3.cap⟩, ⟨(hS.rd 4 rfl), ha.s4.nil, ha.s4.cap⟩⟩) (show Nm _ (Q6.rat x y) u1 uc1 u2 uc2 u3 uc3 u4 uc4 from ⟨⟨(hS.rd 3 rfl), hb.s1.nil, hb.s1.cap⟩, ⟨(hS.rd 2 rfl), hb.s2.nil, hb.s2.cap⟩, ⟨(hS.rd 1 rfl), hb.s3.nil, hb.s3.cap⟩, ⟨(hS.rd 0 rfl), hb.s4.nil, hb.s4.cap⟩⟩) hu hv hx hy h1 h2) ?_
  rintro _ w18 ⟨p15_1, p15_c1, p15_2, p15_c2, p15_3, p15_c3, p15_4, p15_c4, rfl, hn16, hb17⟩
  replace hS := hS.call hb17
  replace hS := hS.addR hn16.s1.rd
  replace hS := hS.addR hn16.s2.rd
  replace hS := hS.addR hn16.s3.rd
  replace hS := hS.addR hn16.s4.rd
  refine ⟨_, rfl, ?_⟩
  intro a hA
  refine seq_call hA rfl rfl rfl (enters_func  rfl rfl (fun w => by kernel_rfl)) (rfit_any (show Nm _ (Q6.rat re im) p15_1 p15_c1 p15_2 p15_c2 p15_3 p15_c3 p15_4 p15_c4 from ⟨⟨(hS.rd 3 rfl), hn16.s1.nil, hn16.s1.cap⟩, ⟨(hS.rd 2 rfl), hn16.s2.nil, hn16.s2.cap⟩, ⟨(hS.rd 1 rfl), hn16.s3.nil, hn16.s3.cap⟩, ⟨(hS.rd 0 rfl), hn16.s4.nil, hn16.s4.cap⟩⟩) l1 l2) ?_
  rintro _ w22 ⟨p19_1, p19_c1, p19_2, p19_c2, p19_3, p19_c3, p19_4, p19_c4, rfl, hn20, hb21⟩
  replace hS := hS.call hb21
  replace hS := hS.addR hn20.s1.rd
  replace hS := hS.addR hn20.s2.rd
  replace hS := hS.addR hn20.s3.rd
  replace hS := hS.addR hn20.s4.rd
  refine ⟨_, rfl, ?_⟩
  intro a hA
  refine seq_do (v := .agg #[.bool ((ratS re im).1.b1), .slice p19_1 (((ratS re im).1.t1).length) p19_c1, .slice p19_2 (((ratS re im).1.q1).length) p19_c2, .bool ((ratS re im).1.b2), .slice p19_3 (((ratS re im).1.t2).length) p19_c3, .slice p19_4 (((ratS re im).1.q2).length) p19_c4]) hA rfl rfl rfl (does_extract (vs := [.agg #[.bool ((ratS re im).1.b1), .slice p19_1 (((ratS re im).1.t1).length) p19_c1, .slice p19_2 (((ratS re im).1.q1).length) p19_c2, .bool ((ratS re im).1.b2), .slice p19_3 (((ratS re im).1.t2).length) p19_c3, .slice p19_4 (((ratS re im).1.q2).length) p19_c4], .int .i64 ((ratS re im).2)]) rfl rfl) ?_
  intro a hA
  refine seq_do (v := .int .i64 ((ratS re im).2)) hA rfl rfl rfl (does_extract (vs := [.agg #[.bool ((ratS re im).1.b1), .slice p19_1 (((ratS re im).1.t1).length) p19_c1, .slice p19_2 (((ratS re im).1.q1).length) p19_c2, .bool ((ratS re im).1.b2), .slice p19_3 (((ratS re im).1.t2).length) p19_c3, .slice p19_4 (((ratS re im).1.q2).length) p19_c4], .int .i64 ((ratS re im).2)]) rfl rfl) ?_
  intro a hA
  refine seq_store (us := [.bool ((ratS re im).1.b1), .slice p19_1 (((ratS re im).1.t1).length) p19_c1, .slice p19_2 (((ratS re im).1.q1).length) p19_c2, .bool ((ratS re im).1.b2), .slice p19_3 (((ratS re im).1.t2).length) p19_c3, .slice p19_4 (((ratS re im).1.q2).length) p19_c4]) hA hS rfl rfl (sets_store (cs := [.bool ((ratS re im).1.b1), .slice p19_1 (((ratS re im).1.t1).length) p19_c1, .slice p19_2 (((ratS re im).1.q1).length) p19_c2, .bool ((ratS re im).1.b2), .slice p19_3 (((ratS re im).1.t2).length) p19_c3, .slice p19_4 (((ratS re im).1.q2).length) p19_c4]) rfl rfl rfl (by kernel_rfl) hS 0 rfl rfl rfl) 0 rfl rfl rfl rfl ?_
  intro w23 hS
  refine seq_do hA rfl rfl rfl (does_assign rfl) ?_
  intro a hA
  refine seq_end ?_
  refine hK14 _ _ ?_
  refine wp_ret ?_
  refine hret _ _ ?_
  refine ends (v := .tuple #[.agg #[.bool ((ratS re im).1.b1), .slice p19_1 (((ratS re im).1.t1).length) p19_c1, .slice p19_2 (((ratS re im).1.q1).length) p19_c2, .bool ((ratS re im).1.b2), .slice p19_3 (((ratS re im).1.t2).length) p19_c3, .slice p19_4 (((ratS re im).1.q2).length) p19_c4], .int .i64 ((ratS re im).2)]) hA rfl (.cons (res_cell hS RfB_isS_26 rfl 0 rfl (cs := [.bool ((ratS re im).1.b1), .slice p19_1 (((ratS re im).1.t1).length) p19_c1, .slice p19_2 (((ratS re im).1.q1).length) p19_c2, .bool ((ratS re im).1.b2), .slice p19_3 (((ratS re im).1.t2).length) p19_c3, .slice p19_4 (((ratS re im).1.q2).length) p19_c4]) rfl rfl) (.cons (res_tmp rfl) .nil)) rfl ?_
  exact ⟨p19_1, p19_c1, p19_2, p19_c2, p19_3, p19_c3, p19_4, p19_c4, rfl, ⟨⟨(hS.rd 3 rfl), hn20.s1.nil, hn20.s1.cap⟩, ⟨(hS.rd 2 rfl), hn20.s2.nil, hn20.s2.cap⟩, ⟨(hS.rd 1 rfl), hn20.s3.nil, hn20.s3.cap⟩, ⟨(hS.rd 0 rfl), hn20.s4.nil, hn20.s4.cap⟩⟩, hS.bel⟩
theorem lenR_sub {u v : Rat} {k : Nat} (hu : LenR k u) (hv : LenR k v) : LenR (k + k + 1) (u - v) := by
  rw [Rat.sub_eq_add_neg]
  exact lenR_add hu (lenR_neg hv)
theorem rmulQ_any {w : World} {p q : Q6} {a1 a2 a3 a4 : Option Addr} {ac1 ac2 ac3 ac4 : Nat} (ha : Nm w p a1 ac1 a2 ac2 a3 ac3 a4 ac4) (hl : LenQ p) {u1 u2 u3 u4 : Option Addr} {uc1 uc2 uc3 uc4 : Nat} (hb : Nm w q u1 uc1 u2 uc2 u3 uc3 u4 uc4) (hm : LenQ q) : Calls Try.prog 5 #[numV p a1 ac1 a2 ac2 a3 ac3 a4 ac4, numV q u1 uc1 u2 uc2 u3 uc3 u4 uc4] w (AnsN w (mulQ p q)) := by
  rcases sound_cases ha with h1 | ⟨u, v, rfl, hu, hv⟩
  · rw [show mulQ p q = (Q6.zero, 2) from if_neg (fun k => by rw [h1] at k; cases k.1)]
    exact rmulE1_any ha hl hb hm h1
  · rcases sound_cases hb with h2 | ⟨x, y, rfl, hx, hy⟩
    · rw [show mulQ _ q = (Q6.zero, 2) from if_neg (fun k => by rw [h2] at k; cases k.2)]
      exact rmulE2_any ha hl hb hm (soundQ_rat hu hv) h2
    · rw [mulQ_rat hu hv hx hy]
      have fu := fit_lenR hu
      have fv := fit_lenR hv
      have fx := fit_lenR hx
      have fy := fit_lenR hy
      exact rmulW_any ha hb hu hv hx hy rfl rfl ((lenR_sub (lenR_mul fu fx) (lenR_mul fv fy)).mono (by decide)) ((lenR_add (lenR_mul fu fy) (lenR_mul fv fx)).mono (by decide))
theorem risZero_any {w : World} {u v : Rat} {a1 a2 a3 a4 : Option Addr} {ac1 ac2 ac3 ac4 : Nat} (ha : Nm w (Q6.rat u v) a1 ac1 a2 ac2 a3 ac3 a4 ac4) (hu : fitR u) (hv : fitR v) {r : Bool} (hr : decide (u = 0 ∧ v = 0) = r) : Calls Try.prog 20 #[numV (Q6.rat u v) a1 ac1 a2 ac2 a3 ac3 a4 ac4] w fun e w' => e = .returned (.bool r) ∧ Below w.heap.size w w' := by
  have k1 : (words u.num.natAbs).length ≤ 512 := hu.1
  have k2 : (words v.num.natAbs).length ≤ 512 := hv.1
  have hS : St w w [] [(a4, words v.den), (a3, words v.num.natAbs), (a2, words u.den), (a1, words u.num.natAbs)] [] := ((((St.start w).addR ha.s1.rd).addR ha.s2.rd).addR ha.s3.rd).addR ha.s4.rd
  refine walk_of (l := [(0, .agg #[.bool (rb u.num), .slice a1 ((words u.num.natAbs).length) ac1, .slice a2 ((words u.den).length) ac2, .bool (rb v.num), .slice a3 ((words v.num.natAbs).length) ac3, .slice a4 ((words v.den).length) ac4])]) Try.func20 rfl Try.ntmps20 rfl rfl ?_
  intro Q hret hnorm hP a hA
  refine wp_seq_k (fun K1 hK1 => ?_)
  refine wp_region_lit ?_
  refine seq_new (vs := [.bool (rb u.num), .slice a1 ((words u.num.natAbs).length) ac1, .slice a2 ((words u.den).length) ac2, .bool (rb v.num), .slice a3 ((words v.num.natAbs).length) ac3, .slice a4 ((words v.den).length) ac4]) (t := 26) hA hS rfl rfl rfl (fun g => .pointer (some ⟨g, 0, none⟩)) (does_box rfl rfl) rfl ?_
  intro g2 w3 hS a hA
  refine seq_do hA rfl rfl rfl (does_assign rfl) ?_
  intro a hA
  refine seq_end ?_
  refine hK1 _ _ ?_
  refine wp_seq_k (fun K4 hK4 => ?_)
  refine wp_region_lit ?_
  refine seq_do (v := .pointer (some ⟨g2, 0, none⟩)) hA rfl rfl rfl (does_field RfB_fld_26_0 rfl rfl) ?_
  intro a hA
  refine seq_do (v := .pointer (some ⟨g2, 1, none⟩)) hA rfl rfl rfl (does_field RfB_fld_24_1 rfl rfl) ?_
  intro a hA
  refine seq_do hA rfl rfl rfl (does_load1 hS RfB_is1_22 rfl 0 rfl rfl) ?_
  intro a hA
  refine seq_do (v := .int .i64 ((((words u.num.natAbs).length : Nat) : Int))) hA rfl rfl rfl (does_len Try.underlying22 rfl) ?_
  intro a hA
  rcases Bool.eq_false_or_eq_true (((((words u.num.natAbs).length : Nat) : Int) == 0)) with hb5 | hb5
  · have hb5' := eq_of_beq hb5
    refine seq_do (v := .bool true) hA rfl rfl rfl (does_bin rfl rfl (fun w => (bin_eql w).trans (by rw [hb5]))) ?_
    intro a hA
    refine seq_do hA rfl rfl rfl (does_move rfl) ?_
    intro a hA
    refine seq_do (v := .pointer (some ⟨g2, 3, none⟩)) hA rfl rfl rfl (does_field RfB_fld_26_1 rfl rfl) ?_
    intro a hA
    refine seq_do (v := .pointer (some ⟨g2, 4, none⟩)) hA rfl rfl rfl (does_field RfB_fld_24_1 rfl rfl) ?_
    intro a hA
    refine seq_do hA rfl rfl rfl (does_load1 hS RfB_is1_22 rfl 0 rfl rfl) ?_
    intro a hA
    refine seq_do (v := .int .i64 ((((words v.num.natAbs).length : Nat) : Int))) hA rfl rfl rfl (does_len Try.underlying22 rfl) ?_
    intro a hA
    rcases Bool.eq_false_or_eq_true (((((words v.num.natAbs).length : Nat) : Int) == 0)) with hb6 | hb6
    · have hb6' := eq_of_beq hb6
      refine seq_do (v := .bool true) hA rfl rfl rfl (does_bin rfl rfl (fun w => (bin_eql w).trans (by rw [hb6]))) ?_
      intro a hA
      refine seq_do (v := .bool true) hA rfl rfl rfl (does_pick rfl rfl rfl rfl) ?_
      intro a hA
      refine seq_do hA rfl rfl rfl (does_assign rfl) ?_
      intro a hA
      refine seq_end ?_
      refine hK4 _ _ ?_
      refine wp_ret ?_
      refine hret _ _ ?_
      refine ends (v := .bool true) hA rfl (.cons (res_tmp rfl) .nil) rfl ?_
      subst hr
      exact ⟨by rw [← zero_rat u v, decide_eq_true (show (words u.num.natAbs).length = 0 from by omega), decide_eq_true (show (words v.num.natAbs).length = 0 from by omega)]; rfl, hS.bel⟩
    · have hb6' := ne_of_beq_false hb6
      refine seq_do (v := .bool false) hA rfl rfl rfl (does_bin rfl rfl (fun w => (bin_eql w).trans (by rw [hb6]))) ?_
      intro a hA
      refine seq_do (v := .bool false) hA rfl rfl rfl (does_pick rfl rfl rfl rfl) ?_
      intro a hA
      refine seq_do hA rfl rfl rfl (does_assign rfl) ?_
      intro a hA
      refine seq_end ?_
      refine hK4 _ _ ?_
      refine wp_ret ?_
      refine hret _ _ ?_
      refine ends (v := .bool false) hA rfl (.cons (res_tmp rfl) .nil) rfl ?_
      subst hr
      exact ⟨by rw [← zero_rat u v, decide_eq_false (show ¬ (words v.num.natAbs).length = 0 from by omega)]; simp, hS.bel⟩
  · have hb5' := ne_of_beq_false hb5
    refine seq_do (v := .bool false) hA rfl rfl rfl (does_bin rfl rfl (fun w => (bin_eql w).trans (by rw [hb5]))) ?_
    intro a hA
    refine seq_do hA rfl rfl rfl (does_move rfl) ?_
    intro a hA
    refine seq_skip hA rfl rfl rfl ?_
    intro a hA
    refine seq_skip hA rfl rfl rfl ?_
    intro a hA
    refine seq_skip hA rfl rfl rfl ?_
    intro a hA
    refine seq_skip hA rfl rfl rfl ?_
    intro a hA
    refine seq_skip hA rfl rfl rfl ?_
    intro a hA
    refine seq_do (v := .bool false) hA rfl rfl rfl (does_pick rfl rfl rfl rfl) ?_
    intro a hA
    refine seq_do hA rfl rfl rfl (does_assign rfl) ?_
    intro a hA
    refine seq_end ?_
    refine hK4 _ _ ?_
    refine wp_ret ?_
    refine hret _ _ ?_
    refine ends (v := .bool false) hA rfl (.cons (res_tmp rfl) .nil) rfl ?_
    subst hr
    exact ⟨by rw [← zero_rat u v, decide_eq_false (show ¬ (words u.num.natAbs).length = 0 from by omega)]; simp, hS.bel⟩
theorem rdivZ_any {w : World} {u v x y : Rat} {a1 a2 a3 a4 : Option Addr} {ac1 ac2 ac3 ac4 : Nat} (ha : Nm w (Q6.rat u v) a1 ac1 a2 ac2 a3 ac3 a4 ac4) {u1 u2 u3 u4 : Option Addr} {uc1 uc2 uc3 uc4 : Nat} (hb : Nm w (Q6.rat x y) u1 uc1 u2 uc2 u3 uc3 u4 uc4) (hu : fitR u) (hv : fitR v) (hx : fitR x) (hy : fitR y) (hz : x = 0 ∧ y = 0) : Calls Try.prog 7 #[numV (Q6.rat u v) a1 ac1 a2 ac2 a3 ac3 a4 ac4, numV (Q6.rat x y) u1 uc1 u2 uc2 u3 uc3 u4 uc4] w (AnsN w (Q6.zero, 3)) := by
  have hS : St w w [] [(u4, words y.den), (u3, words y.num.natAbs), (u2, words x.den), (u1, words x.num.natAbs), (a4, words v.den), (a3, words v.num.natAbs), (a2, words u.den), (a1, words u.num.natAbs)] [] := ((((((((St.start w).addR ha.s1.rd).addR ha.s2.rd).addR ha.s3.rd).addR ha.s4.rd).addR hb.s1.rd).addR hb.s2.rd).addR hb.s3.rd).addR hb.s4.rd
  refine walk_of (l := [(0, .agg #[.bool (rb u.num), .slice a1 ((words u.num.natAbs).length) ac1, .slice a2 ((words u.den).length) ac2, .bool (rb v.num), .slice a3 ((words v.num.natAbs).length) ac3, .slice a4 ((words v.den).length) ac4]), (1, .agg #[.bool (rb x.num), .slice u1 ((words x.num.natAbs).length) uc1, .slice u2 ((words x.den).length) uc2, .bool (rb y.num), .slice u3 ((words y.num.natAbs).length) uc3, .slice u4 ((words y.den).length) uc4])]) Try.func7 rfl Try.ntmps7 rfl rfl ?_
  intro Q hret hnorm hP a hA
  refine wp_seq_k (fun K1 hK1 => ?_)
  refine wp_region_lit ?_
  refine seq_new (vs := [.bool (rb u.num), .slice a1 ((words u.num.natAbs).length) ac1, .slice a2 ((words u.den).length) ac2, .bool (rb v.num), .slice a3 ((words v.num.natAbs).length) ac3, .slice a4 ((words v.den).length) ac4]) (t := 26) hA hS rfl rfl rfl (fun g => .pointer (some ⟨g, 0, none⟩)) (does_box rfl rfl) rfl ?_
  intro g2 w3 hS a hA
  refine seq_new (vs := [.bool (rb x.num), .slice u1 ((words x.num.natAbs).length) uc1, .slice u2 ((words x.den).length) uc2, .bool (rb y.num), .slice u3 ((words y.num.natAbs).length) uc3, .slice u4 ((words y.den).length) uc4]) (t := 26) hA hS rfl rfl rfl (fun g => .pointer (some ⟨g, 0, none⟩)) (does_box rfl rfl) rfl ?_
  intro g4 w5 hS a hA
  refine seq_new (vs := [.bool false, .slice none 0 0, .slice none 0 0, .bool false, .slice none 0 0, .slice none 0 0]) (t := 26) hA hS rfl rfl rfl (fun g => .pointer (some ⟨g, 0, none⟩)) (does_alloc (z := .agg #[.bool false, .slice none 0 0, .slice none 0 0, .bool false, .slice none 0 0, .slice none 0 0]) (by kernel_rfl) rfl) rfl ?_
  intro g6 w7 hS a hA
  refine seq_do hA rfl rfl rfl (does_assign rfl) ?_
  intro a hA
  refine seq_end ?_
  refine hK1 _ _ ?_
  refine wp_seq_k (fun K8 hK8 => ?_)
  refine wp_seq_k (fun K9 hK9 => ?_)
  refine wp_region_lit ?_
  refine seq_do (v := .agg #[.bool (rb u.num), .slice a1 ((words u.num.natAbs).length) ac1, .slice a2 ((words u.den).length) ac2, .bool (rb v.num), .slice a3 ((words v.num.natAbs).length) ac3, .slice a4 ((words v.den).length) ac4]) hA rfl rfl rfl (does_loadS hS RfB_isS_26 rfl 2 rfl (cs := [.bool (rb u.num), .slice a1 ((words u.num.natAbs).length) ac1, .slice a2 ((words u.den).length) ac2, .bool (rb v.num), .slice a3 ((words v.num.natAbs).length) ac3, .slice a4 ((words v.den).length) ac4]) rfl rfl) ?_
  intro a hA
  refine seq_call hA rfl rfl rfl (enters_func  rfl rfl (fun w => by kernel_rfl)) (rsoundQ_any (show Nm _ (Q6.rat u v) a1 ac1 a2 ac2 a3 ac3 a4 ac4 from ⟨⟨(hS.rd 7 rfl), ha.s1.nil, ha.s1.cap⟩, ⟨(hS.rd 6 rfl), ha.s2.nil, ha.s2.cap⟩, ⟨(hS.rd 5 rfl), ha.s3.nil, ha.s3.cap⟩, ⟨(hS.rd 4 rfl), ha.s4.nil, ha.s4.cap⟩⟩) (lenQ_rat hu hv) (soundQ_rat hu hv)) ?_
  rintro _ w11 ⟨rfl, hb10⟩
  replace hS := hS.call hb10
  refine ⟨_, rfl, ?_⟩
  intro a hA
  refine seq_do (v := .bool false) hA rfl rfl rfl (does_un rfl un_not) ?_
  intro a hA
  refine seq_do hA rfl rfl rfl (does_move rfl) ?_
  intro a hA
  refine seq_do (v := .agg #[.bool (rb x.num), .slice u1 ((words x.num.natAbs).length) uc1, .slice u2 ((words x.den).length) uc2, .bool (rb y.num), .slice u3 ((words y.num.natAbs).length) uc3, .slice u4 ((words y.den).length) uc4]) hA rfl rfl rfl (does_loadS hS RfB_isS_26 rfl 1 rfl (cs := [.bool (rb x.num), .slice u1 ((words x.num.natAbs).length) uc1, .slice u2 ((words x.den).length) uc2, .bool (rb y.num), .slice u3 ((words y.num.natAbs).length) uc3, .slice u4 ((words y.den).length) uc4]) rfl rfl) ?_
  intro a hA
  refine seq_call hA rfl rfl rfl (enters_func  rfl rfl (fun w => by kernel_rfl)) (rsoundQ_any (show Nm _ (Q6.rat x y) u1 uc1 u2 uc2 u3 uc3 u4 uc4 from ⟨⟨(hS.rd 3 rfl), hb.s1.nil, hb.s1.cap⟩, ⟨(hS.rd 2 rfl), hb.s2.nil, hb.s2.cap⟩, ⟨(hS.rd 1 rfl), hb.s3.nil, hb.s3.cap⟩, ⟨(hS.rd 0 rfl), hb.s4.nil, hb.s4.cap⟩⟩) (lenQ_rat hx hy) (soundQ_rat hx hy)) ?_
  rintro _ w13 ⟨rfl, hb12⟩
  replace hS := hS.call hb12
  refine ⟨_, rfl, ?_⟩
  intro a hA
  refine seq_do (v := .bool false) hA rfl rfl rfl (does_un rfl un_not) ?_
  intro a hA
  refine seq_do (v := .bool false) hA rfl rfl rfl (does_pick rfl rfl rfl rfl) ?_
  intro a hA
  refine seq_end ?_
  refine hK9 _ _ ?_
  refine wp_cond_false (hA.ev rfl) ?_
  refine wp_skip ?_
  refine hK8 _ _ ?_
  refine wp_seq_k (fun K14 hK14 => ?_)
  refine wp_seq_k (fun K15 hK15 => ?_)
  refine wp_region_lit ?_
  refine seq_do (v := .agg #[.bool (rb x.num), .slice u1 ((words x.num.natAbs).length) uc1, .slice u2 ((words x.den).length) uc2, .bool (rb y.num), .slice u3 ((words y.num.natAbs).length) uc3, .slice u4 ((words y.den).length) uc4]) hA rfl rfl rfl (does_loadS hS RfB_isS_26 rfl 1 rfl (cs := [.bool (rb x.num), .slice u1 ((words x.num.natAbs).length) uc1, .slice u2 ((words x.den).length) uc2, .bool (rb y.num), .slice u3 ((words y.num.natAbs).length) uc3, .slice u4 ((words y.den).length) uc4]) rfl rfl) ?_
  intro a hA
  refine seq_call hA rfl rfl rfl (enters_func  rfl rfl (fun w => by kernel_rfl)) (risZero_any (show Nm _ (Q6.rat x y) u1 uc1 u2 uc2 u3 uc3 u4 uc4 from ⟨⟨(hS.rd 3 rfl), hb.s1.nil, hb.s1.cap⟩, ⟨(hS.rd 2 rfl), hb.s2.nil, hb.s2.cap⟩, ⟨(hS.rd 1 rfl), hb.s3.nil, hb.s3.cap⟩, ⟨(hS.rd 0 rfl), hb.s4.nil, hb.s4.cap⟩⟩) hx hy (decide_eq_true hz)) ?_
  rintro _ w17 ⟨rfl, hb16⟩
  replace hS := hS.call hb16
  refine ⟨_, rfl, ?_⟩
  intro a hA
  refine seq_end ?_
  refine hK15 _ _ ?_
  refine wp_cond_true (hA.ev rfl) ?_
  refine wp_seq_k (fun K18 hK18 => ?_)
  refine wp_region_lit ?_
  refine seq_do (v := .agg #[.bool false, .slice none 0 0, .slice none 0 0, .bool false, .slice none 0 0, .slice none 0 0]) hA rfl rfl rfl (does_build rfl (fun w => by kernel_rfl)) ?_
  intro a hA
  refine seq_store (us := [.bool false, .slice none 0 0, .slice none 0 0, .bool false, .slice none 0 0, .slice none 0 0]) hA hS rfl rfl (sets_store (cs := [.bool false, .slice none 0 0, .slice none 0 0, .bool false, .slice none 0 0, .slice none 0 0]) rfl rfl rfl (by kernel_rfl) hS 0 rfl rfl rfl) 0 rfl rfl rfl rfl ?_
  intro w19 hS
  refine seq_do hA rfl rfl rfl (does_assign rfl) ?_
  intro a hA
  refine seq_end ?_
  refine hK18 _ _ ?_
  refine wp_ret ?_
  refine hret _ _ ?_
  refine ends (v := .tuple #[.agg #[.bool false, .slice none 0 0, .slice none 0 0, .bool false, .slice none 0 0, .slice none 0 0], .int .i64 3]) hA rfl (.cons (res_cell hS RfB_isS_26 rfl 0 rfl (cs := [.bool false, .slice none 0 0, .slice none 0 0, .bool false, .slice none 0 0, .slice none 0 0]) rfl rfl) (.cons (res_tmp rfl) .nil)) rfl ?_
  exact ⟨none, 0, none, 0, none, 0, none, 0, rfl, ⟨(Sc.none _), (Sc.none _), (Sc.none _), (Sc.none _)⟩, hS.bel⟩
theorem rinvA_any {w : World} {x y : Rat} {u1 u2 u3 u4 : Option Addr} {uc1 uc2 uc3 uc4 : Nat} (hb : Nm w (Q6.rat x y) u1 uc1 u2 uc2 u3 uc3 u4 uc4) (hx : fitR x) (hy : fitR y) (hz : ¬ (x = 0 ∧ y = 0)) {i1 i2 : Rat} (j1 : x * (1 / (x * x + y * y)) = i1) (j2 : -y * (1 / (x * x + y * y)) = i2) : Calls Try.prog 21 #[numV (Q6.rat x y) u1 uc1 u2 uc2 u3 uc3 u4 uc4] w (AnsV w (Q6.rat i1 i2)) := by
  subst j1 j2
  exact rinvQ_any hb (fit_lenR hx) (fit_lenR hy) hz
theorem rtimesB_any {w : World} {u v x y : Rat} {a1 a2 a3 a4 : Option Addr} {ac1 ac2 ac3 ac4 : Nat} (ha : Nm w (Q6.rat u v) a1 ac1 a2 ac2 a3 ac3 a4 ac4) {u1 u2 u3 u4 : Option Addr} {uc1 uc2 uc3 uc4 : Nat} (hb : Nm w (Q6.rat x y) u1 uc1 u2 uc2 u3 uc3 u4 uc4) (hu : fitR u) (hv : fitR v) (l3 : LenR 3000 x) (l4 : LenR 3000 y) {re im : Rat} (h1 : u * x - v * y = re) (h2 : u * y + v * x = im) : Calls Try.prog 14 #[numV (Q6.rat u v) a1 ac1 a2 ac2 a3 ac3 a4 ac4, numV (Q6.rat x y) u1 uc1 u2 uc2 u3 uc3 u4 uc4] w (AnsV w (Q6.rat re im)) := by
  subst h1 h2
  exact rtimesQ_any ha hb (fit_lenR hu) (fit_lenR hv) l3 l4
theorem rdivW_any {w : World} {u v x y : Rat} {a1 a2 a3 a4 : Option Addr} {ac1 ac2 ac3 ac4 : Nat} (ha : Nm w (Q6.rat u v) a1 ac1 a2 ac2 a3 ac3 a4 ac4) {u1 u2 u3 u4 : Option Addr} {uc1 uc2 uc3 uc4 : Nat} (hb : Nm w (Q6.rat x y) u1 uc1 u2 uc2 u3 uc3 u4 uc4) (hu : fitR u) (hv : fitR v) (hx : fitR x) (hy : fitR y) (hz : ¬ (x = 0 ∧ y = 0)) {i1 i2 re im : Rat} (j1 : x * (1 / (x * x + y * y)) = i1) (j2 : -y * (1 / (x * x + y * y)) = i2) (h1 : u * i1 - v * i2 = re) (h2 : u * i2 + v * i1 = im) (l3 : LenR 3000 i1) (l4 : LenR 3000 i2) (l1 : LenR 9000 re) (l2 : LenR 9000 im) : Calls Try.prog 7 #[numV (Q6.rat u v) a1 ac1 a2 ac2 a3 ac3 a4 ac4, numV (Q6.rat x y) u1 uc1 u2 uc2 u3 uc3 u4 uc4] w (AnsN w (ratS re im)) := by
  have hS : St w w [] [(u4, words y.den), (u3, words y.num.natAbs), (u2, words x.den), (u1, words x.num.natAbs), (a4, words v.den), (a3, words v.num.natAbs), (a2, words u.den), (a1, words u.num.natAbs)] [] := ((((((((St.start w).addR ha.s1.rd).addR ha.s2.rd).addR ha.s3.rd).addR ha.s4.rd).addR hb.s1.rd).addR hb.s2.rd).addR hb.s3.rd).addR hb.s4.rd
  refine walk_of (l := [(0, .agg #[.bool (rb u.num), .slice a1 ((words u.num.natAbs).length) ac1, .slice a2 ((words u.den).length) ac2, .bool (rb v.num), .slice a3 ((words v.num.natAbs).length) ac3, .slice a4 ((words v.den).length) ac4]), (1, .agg #[.bool (rb x.num), .slice u1 ((words x.num.natAbs).length) uc1, .slice u2 ((words x.den).length) uc2, .bool (rb y.num), .slice u3 ((words y.num.natAbs).length) uc3, .slice u4 ((words y.den).length) uc4])]) Try.func7 rfl Try.ntmps7 rfl rfl ?_
  intro Q hret hnorm hP a hA
  refine wp_seq_k (fun K1 hK1 => ?_)
  refine wp_region_lit ?_
  refine seq_new (vs := [.bool (rb u.num), .slice a1 ((words u.num.natAbs).length) ac1, .slice a2 ((words u.den).length) ac2, .bool (rb v.num), .slice a3 ((words v.num.natAbs).length) ac3, .slice a4 ((words v.den).length) ac4]) (t := 26) hA hS rfl rfl rfl (fun g => .pointer (some ⟨g, 0, none⟩)) (does_box rfl rfl) rfl ?_
  intro g2 w3 hS a hA
  refine seq_new (vs := [.bool (rb x.num), .slice u1 ((words x.num.natAbs).length) uc1, .slice u2 ((words x.den).length) uc2, .bool (rb y.num), .slice u3 ((words y.num.natAbs).length) uc3, .slice u4 ((words y.den).length) uc4]) (t := 26) hA hS rfl rfl rfl (fun g => .pointer (some ⟨g, 0, none⟩)) (does_box rfl rfl) rfl ?_
  intro g4 w5 hS a hA
  refine seq_new (vs := [.bool false, .slice none 0 0, .slice none 0 0, .bool false, .slice none 0 0, .slice none 0 0]) (t := 26) hA hS rfl rfl rfl (fun g => .pointer (some ⟨g, 0, none⟩)) (does_alloc (z := .agg #[.bool false, .slice none 0 0, .slice none 0 0, .bool false, .slice none 0 0, .slice none 0 0]) (by kernel_rfl) rfl) rfl ?_
  intro g6 w7 hS a hA
  refine seq_do hA rfl rfl rfl (does_assign rfl) ?_
  intro a hA
  refine seq_end ?_
  refine hK1 _ _ ?_
  refine wp_seq_k (fun K8 hK8 => ?_)
  refine wp_seq_k (fun K9 hK9 => ?_)
  refine wp_region_lit ?_
  refine seq_do (v := .agg #[.bool (rb u.num), .slice a1 ((words u.num.natAbs).length) ac1, .slice a2 ((words u.den).length) ac2, .bool (rb v.num), .slice a3 ((words v.num.natAbs).length) ac3, .slice a4 ((words v.den).length) ac4]) hA rfl rfl rfl (does_loadS hS RfB_isS_26 rfl 2 rfl (cs := [.bool (rb u.num), .slice a1 ((words u.num.natAbs).length) ac1, .slice a2 ((words u.den).length) ac2, .bool (rb v.num), .slice a3 ((words v.num.natAbs).length) ac3, .slice a4 ((words v.den).length) ac4]) rfl rfl) ?_
  intro a hA
  refine seq_call hA rfl rfl rfl (enters_func  rfl rfl (fun w => by kernel_rfl)) (rsoundQ_any (show Nm _ (Q6.rat u v) a1 ac1 a2 ac2 a3 ac3 a4 ac4 from ⟨⟨(hS.rd 7 rfl), ha.s1.nil, ha.s1.cap⟩, ⟨(hS.rd 6 rfl), ha.s2.nil, ha.s2.cap⟩, ⟨(hS.rd 5 rfl), ha.s3.nil, ha.s3.cap⟩, ⟨(hS.rd 4 rfl), ha.s4.nil, ha.s4.cap⟩⟩) (lenQ_rat hu hv) (soundQ_rat hu hv)) ?_
  rintro _ w11 ⟨rfl, hb10⟩
  replace hS := hS.call hb10
  refine ⟨_, rfl, ?_⟩
  intro a hA
  refine seq_do (v := .bool false) hA rfl rfl rfl (does_un rfl un_not) ?_
  intro a hA
  refine seq_do hA rfl rfl rfl (does_move rfl) ?_
  intro a hA
  refine seq_do (v := .agg #[.bool (rb x.num), .slice u1 ((words x.num.natAbs).length) uc1, .slice u2 ((words x.den).length) uc2, .bool (rb y.num), .slice u3 ((words y.num.natAbs).length) uc3, .slice u4 ((words y.den).length) uc4]) hA rfl rfl rfl (does_loadS hS RfB_isS_26 rfl 1 rfl (cs := [.bool (rb x.num), .slice u1 ((words x.num.natAbs).length) uc1, .slice u2 ((words x.den).length) uc2, .bool (rb y.num), .slice u3 ((words y.num.natAbs).length) uc3, .slice u4 ((words y.den).length) uc4]) rfl rfl) ?_
  intro a hA
  refine seq_call hA rfl rfl rfl (enters_func  rfl rfl (fun w => by kernel_rfl)) (rsoundQ_any (show Nm _ (Q6.rat x y) u1 uc1 u2 uc2 u3 uc3 u4 uc4 from ⟨⟨(hS.rd 3 rfl), hb.s1.nil, hb.s1.cap⟩, ⟨(hS.rd 2 rfl), hb.s2.nil, hb.s2.cap⟩, ⟨(hS.rd 1 rfl), hb.s3.nil, hb.s3.cap⟩, ⟨(hS.rd 0 rfl), hb.s4.nil, hb.s4.cap⟩⟩) (lenQ_rat hx hy) (soundQ_rat hx hy)) ?_
  rintro _ w13 ⟨rfl, hb12⟩
  replace hS := hS.call hb12
  refine ⟨_, rfl, ?_⟩
  intro a hA
  refine seq_do (v := .bool false) hA rfl rfl rfl (does_un rfl un_not) ?_
  intro a hA
  refine seq_do (v := .bool false) hA rfl rfl rfl (does_pick rfl rfl rfl rfl) ?_
  intro a hA
  refine seq_end ?_
  refine hK9 _ _ ?_
  refine wp_cond_false (hA.ev rfl) ?_
  refine wp_skip ?_
  refine hK8 _ _ ?_
  refine wp_seq_k (fun K14 hK14 => ?_)
  refine wp_seq_k (fun K15 hK15 => ?_)
  refine wp_region_lit ?_
  refine seq_do (v := .agg #[.bool (rb x.num), .slice u1 ((words x.num.natAbs).length) uc1, .slice u2 ((words x.den).length) uc2, .bool (rb y.num), .slice u3 ((words y.num.natAbs).length) uc3, .slice u4 ((words y.den).length) uc4]) hA rfl rfl rfl (does_loadS hS RfB_isS_26 rfl 1 rfl (cs := [.bool (rb x.num), .slice u1 ((words x.num.natAbs).length) uc1, .slice u2 ((words x.den).length) uc2, .bool (rb y.num), .slice u3 ((words y.num.natAbs).length) uc3, .slice u4 ((words y.den).length) uc4]) rfl rfl) ?_
  intro a hA
  refine seq_call hA rfl rfl rfl (enters_func  rfl rfl (fun w => by kernel_rfl)) (risZero_any (show Nm _ (Q6.rat x y) u1 uc1 u2 uc2 u3 uc3 u4 uc4 from ⟨⟨(hS.rd 3 rfl), hb.s1.nil, hb.s1.cap⟩, ⟨(hS.rd 2 rfl), hb.s2.nil, hb.s2.cap⟩, ⟨(hS.rd 1 rfl), hb.s3.nil, hb.s3.cap⟩, ⟨(hS.rd 0 rfl), hb.s4.nil, hb.s4.cap⟩⟩) hx hy (decide_eq_false hz)) ?_
  rintro _ w17 ⟨rfl, hb16⟩
  replace hS := hS.call hb16
  refine ⟨_, rfl, ?_⟩
  intro a hA
  refine seq_end ?_
  refine hK15 _ _ ?_
  refine wp_cond_false (hA.ev rfl) ?_
  refine wp_skip ?_
  refine hK14 _ _ ?_
  refine wp_seq_k (fun K18 hK18 => ?_)
  refine wp_draw (S := fun w1 => St w w1 [(g4, [.bool (rb x.num), .slice u1 ((words x.num.natAbs).length) uc1, .slice u2 ((words x.den).length) uc2, .bool (rb y.num), .slice u3 ((words y.num.natAbs).length) uc3, .slice u4 ((words y.den).length) uc4]), (g2, [.bool (rb u.num), .slice a1 ((words u.num.natAbs).length) ac1, .slice a2 ((words u.den).length) ac2, .bool (rb v.num), .slice a3 ((words v.num.natAbs).length) ac3, .slice a4 ((words v.den).length) ac4])] [(u4, words y.den), (u3, words y.num.natAbs), (u2, words x.den), (u1, words x.num.natAbs), (a4, words v.den), (a3, words v.num.natAbs), (a2, words u.den), (a1, words u.num.natAbs)] []) (by kernel_rfl) ?_
  replace hS := hS.drew
  refine any_take (v := .agg #[.bool (rb u.num), .slice a1 ((words u.num.natAbs).length) ac1, .slice a2 ((words u.den).length) ac2, .bool (rb v.num), .slice a3 ((words v.num.natAbs).length) ac3, .slice a4 ((words v.den).length) ac4]) hA 0 rfl rfl rfl rfl (by kernel_rfl) (by kernel_rfl) (by kernel_rfl) (fun c a w h => hP c a _ _ w h) (hS.partD (.cons _ (.cons_cons _ (.cons_cons _ .slnil))) 0 rfl (.refl _)) (fun w1 hS => does_loadS hS RfB_isS_26 rfl 1 rfl (cs := [.bool (rb u.num), .slice a1 ((words u.num.natAbs).length) ac1, .slice a2 ((words u.den).length) ac2, .bool (rb v.num), .slice a3 ((words v.num.natAbs).length) ac3, .slice a4 ((words v.den).length) ac4]) rfl rfl) ?_
  intro a hA
  refine any_take (v := .agg #[.bool (rb x.num), .slice u1 ((words x.num.natAbs).length) uc1, .slice u2 ((words x.den).length) uc2, .bool (rb y.num), .slice u3 ((words y.num.natAbs).length) uc3, .slice u4 ((words y.den).length) uc4]) hA 1 rfl rfl rfl rfl (by kernel_rfl) (by kernel_rfl) (by kernel_rfl) (fun c a w h => hP c a _ _ w h) (hS.partD (.cons _ (.cons_cons _ (.cons_cons _ .slnil))) 0 rfl (.refl _)) (fun w1 hS => does_loadS hS RfB_isS_26 rfl 0 rfl (cs := [.bool (rb x.num), .slice u1 ((words x.num.natAbs).length) uc1, .slice u2 ((words x.den).length) uc2, .bool (rb y.num), .slice u3 ((words y.num.natAbs).length) uc3, .slice u4 ((words y.den).length) uc4]) rfl rfl) ?_
  intro a hA
  refine any_one (by kernel_rfl) (op_call hA 2 rfl rfl rfl rfl (enters_func  rfl rfl (fun w => by kernel_rfl)) (rinvA_any (show Nm _ (Q6.rat x y) u1 uc1 u2 uc2 u3 uc3 u4 uc4 from ⟨⟨(hS.rd 3 rfl), hb.s1.nil, hb.s1.cap⟩, ⟨(hS.rd 2 rfl), hb.s2.nil, hb.s2.cap⟩, ⟨(hS.rd 1 rfl), hb.s3.nil, hb.s3.cap⟩, ⟨(hS.rd 0 rfl), hb.s4.nil, hb.s4.cap⟩⟩) hx hy hz j1 j2) ?_)
  rintro _ w22 ⟨p19_1, p19_c1, p19_2, p19_c2, p19_3, p19_c3, p19_4, p19_c4, rfl, hn20, hb21⟩
  replace hS := hS.call hb21
  replace hS := hS.addR hn20.s1.rd
  replace hS := hS.addR hn20.s2.rd
  replace hS := hS.addR hn20.s3.rd
  replace hS := hS.addR hn20.s4.rd
  refine ⟨_, rfl, (hS.partD (.cons _ (.cons_cons _ (.cons_cons _ .slnil))) 4 rfl (.refl _)), ?_⟩
  intro a hA
  refine any_one (by kernel_rfl) (op_call hA 3 rfl rfl rfl rfl (enters_func  rfl rfl (fun w => by kernel_rfl)) (rtimesB_any (show Nm _ (Q6.rat u v) a1 ac1 a2 ac2 a3 ac3 a4 ac4 from ⟨⟨(hS.rd 11 rfl), ha.s1.nil, ha.s1.cap⟩, ⟨(hS.rd 10 rfl), ha.s2.nil, ha.s2.cap⟩, ⟨(hS.rd 9 rfl), ha.s3.nil, ha.s3.cap⟩, ⟨(hS.rd 8 rfl), ha.s4.nil, ha.s4.cap⟩⟩) (show Nm _ (Q6.rat i1 i2) p19_1 p19_c1 p19_2 p19_c2 p19_3 p19_c3 p19_4 p19_c4 from ⟨⟨(hS.rd 3 rfl), hn20.s1.nil, hn20.s1.cap⟩, ⟨(hS.rd 2 rfl), hn20.s2.nil, hn20.s2.cap⟩, ⟨(hS.rd 1 rfl), hn20.s3.nil, hn20.s3.cap⟩, ⟨(hS.rd 0 rfl), hn20.s4.nil, hn20.s4.cap⟩⟩) hu hv l3 l4 h1 h2) ?_)
  rintro _ w26 ⟨p23_1, p23_c1, p23_2, p23_c2, p23_3, p23_c3, p23_4, p23_c4, rfl, hn24, hb25⟩
  replace hS := hS.call hb25
  replace hS := hS.addR hn24.s1.rd
  replace hS := hS.addR hn24.s2.rd
  replace hS := hS.addR hn24.s3.rd
  replace hS := hS.addR hn24.s4.rd
  refine ⟨_, rfl, (hS.partD (.cons _ (.cons_cons _ (.cons_cons _ .slnil))) 8 rfl (.refl _)), ?_⟩
  intro a hA
  refine any_one (by kernel_rfl) (op_call hA 4 rfl rfl rfl rfl (enters_func  rfl rfl (fun w => by kernel_rfl)) (rfit_any (show Nm _ (Q6.rat re im) p23_1 p23_c1 p23_2 p23_c2 p23_3 p23_c3 p23_4 p23_c4 from ⟨⟨(hS.rd 3 rfl), hn24.s1.nil, hn24.s1.cap⟩, ⟨(hS.rd 2 rfl), hn24.s2.nil, hn24.s2.cap⟩, ⟨(hS.rd 1 rfl), hn24.s3.nil, hn24.s3.cap⟩, ⟨(hS.rd 0 rfl), hn24.s4.nil, hn24.s4.cap⟩⟩) l1 l2) ?_)
  rintro _ w30 ⟨p27_1, p27_c1, p27_2, p27_c2, p27_3, p27_c3, p27_4, p27_c4, rfl, hn28, hb29⟩
  replace hS := hS.call hb29
  replace hS := hS.addR hn28.s1.rd
  replace hS := hS.addR hn28.s2.rd
  replace hS := hS.addR hn28.s3.rd
  replace hS := hS.addR hn28.s4.rd
  refine ⟨_, rfl, (hS.partD (.cons _ (.cons_cons _ (.cons_cons _ .slnil))) 12 rfl (.refl _)), ?_⟩
  intro a hA
  refine any_take (v := .agg #[.bool ((ratS re im).1.b1), .slice p27_1 (((ratS re im).1.t1).length) p27_c1, .slice p27_2 (((ratS re im).1.q1).length) p27_c2, .bool ((ratS re im).1.b2), .slice p27_3 (((ratS re im).1.t2).length) p27_c3, .slice p27_4 (((ratS re im).1.q2).length) p27_c4]) hA 5 rfl rfl rfl rfl (by kernel_rfl) (by kernel_rfl) (by kernel_rfl) (fun c a w h => hP c a _ _ w h) (hS.partD (.cons _ (.cons_cons _ (.cons_cons _ .slnil))) 12 rfl (.refl _)) (fun w1 hS => does_extract (vs := [.agg #[.bool ((ratS re im).1.b1), .slice p27_1 (((ratS re im).1.t1).length) p27_c1, .slice p27_2 (((ratS re im).1.q1).length) p27_c2, .bool ((ratS re im).1.b2), .slice p27_3 (((ratS re im).1.t2).length) p27_c3, .slice p27_4 (((ratS re im).1.q2).length) p27_c4], .int .i64 ((ratS re im).2)]) rfl rfl) ?_
  intro a hA
  refine any_take (v := .int .i64 ((ratS re im).2)) hA 6 rfl rfl rfl rfl (by kernel_rfl) (by kernel_rfl) (by kernel_rfl) (fun c a w h => hP c a _ _ w h) (hS.partD (.cons _ (.cons_cons _ (.cons_cons _ .slnil))) 12 rfl (.refl _)) (fun w1 hS => does_extract (vs := [.agg #[.bool ((ratS re im).1.b1), .slice p27_1 (((ratS re im).1.t1).length) p27_c1, .slice p27_2 (((ratS re im).1.q1).length) p27_c2, .bool ((ratS re im).1.b2), .slice p27_3 (((ratS re im).1.t2).length) p27_c3, .slice p27_4 (((ratS re im).1.q2).length) p27_c4], .int .i64 ((ratS re im).2)]) rfl rfl) ?_
  intro a hA
  refine any_one (by kernel_rfl) (op_store (us := [.bool ((ratS re im).1.b1), .slice p27_1 (((ratS re im).1.t1).length) p27_c1, .slice p27_2 (((ratS re im).1.q1).length) p27_c2, .bool ((ratS re im).1.b2), .slice p27_3 (((ratS re im).1.t2).length) p27_c3, .slice p27_4 (((ratS re im).1.q2).length) p27_c4]) hA hS 7 rfl rfl rfl (sets_store (cs := [.bool ((ratS re im).1.b1), .slice p27_1 (((ratS re im).1.t1).length) p27_c1, .slice p27_2 (((ratS re im).1.q1).length) p27_c2, .bool ((ratS re im).1.b2), .slice p27_3 (((ratS re im).1.t2).length) p27_c3, .slice p27_4 (((ratS re im).1.q2).length) p27_c4]) rfl rfl rfl (by kernel_rfl) hS 0 rfl rfl rfl) 0 rfl rfl rfl rfl ?_)
  intro w31 hS
  refine ⟨(hS.partD (.cons _ (.cons_cons _ (.cons_cons _ .slnil))) 12 rfl (.refl _)), ?_⟩
  refine any_take hA 8 rfl rfl rfl rfl (by kernel_rfl) (by kernel_rfl) (by kernel_rfl) (fun c a w h => hP c a _ _ w h) (hS.partD (.cons _ (.cons_cons _ (.cons_cons _ .slnil))) 12 rfl (.refl _)) (fun w1 hS => does_assign rfl) ?_
  intro a hA
  refine any_end (by kernel_rfl) ?_
  refine hK18 _ _ ?_
  refine wp_ret ?_
  refine hret _ _ ?_
  refine ends (v := .tuple #[.agg #[.bool ((ratS re im).1.b1), .slice p27_1 (((ratS re im).1.t1).length) p27_c1, .slice p27_2 (((ratS re im).1.q1).length) p27_c2, .bool ((ratS re im).1.b2), .slice p27_3 (((ratS re im).1.t2).length) p27_c3, .slice p27_4 (((ratS re im).1.q2).length) p27_c4], .int .i64 ((ratS re im).2)]) hA rfl (.cons (res_cell hS RfB_isS_26 rfl 0 rfl (cs := [.bool ((ratS re im).1.b1), .slice p27_1 (((ratS re im).1.t1).length) p27_c1, .slice p27_2 (((ratS re im).1.q1).length) p27_c2, .bool ((ratS re im).1.b2), .slice p27_3 (((ratS re im).1.t2).length) p27_c3, .slice p27_4 (((ratS re im).1.q2).length) p27_c4]) rfl rfl) (.cons (res_tmp rfl) .nil)) rfl ?_
  exact ⟨p27_1, p27_c1, p27_2, p27_c2, p27_3, p27_c3, p27_4, p27_c4, rfl, ⟨⟨(hS.rd 3 rfl), hn28.s1.nil, hn28.s1.cap⟩, ⟨(hS.rd 2 rfl), hn28.s2.nil, hn28.s2.cap⟩, ⟨(hS.rd 1 rfl), hn28.s3.nil, hn28.s3.cap⟩, ⟨(hS.rd 0 rfl), hn28.s4.nil, hn28.s4.cap⟩⟩, hS.bel⟩
theorem lenR_inv {n : Rat} {k : Nat} (h : 0 < n) (hn : LenR k n) : LenR k (1 / n) := by
  obtain ⟨i1, i2, _⟩ := inv_parts h
  exact ⟨by rw [i1]; exact hn.2, by rw [i2]; exact hn.1⟩
theorem rdivQ_any {w : World} {p q : Q6} {a1 a2 a3 a4 : Option Addr} {ac1 ac2 ac3 ac4 : Nat} (ha : Nm w p a1 ac1 a2 ac2 a3 ac3 a4 ac4) (hl : LenQ p) {u1 u2 u3 u4 : Option Addr} {uc1 uc2 uc3 uc4 : Nat} (hb : Nm w q u1 uc1 u2 uc2 u3 uc3 u4 uc4) (hm : LenQ q) : Calls Try.prog 7 #[numV p a1 ac1 a2 ac2 a3 ac3 a4 ac4, numV q u1 uc1 u2 uc2 u3 uc3 u4 uc4] w (AnsN w (divQ p q)) := by
  rcases sound_cases ha with h1 | ⟨u, v, rfl, hu, hv⟩
  · rw [show divQ p q = (Q6.zero, 2) from if_neg (fun k => by rw [h1] at k; cases k.1)]
    exact rdivE1_any ha hl hb hm h1
  · rcases sound_cases hb with h2 | ⟨x, y, rfl, hx, hy⟩
    · rw [show divQ _ q = (Q6.zero, 2) from if_neg (fun k => by rw [h2] at k; cases k.2)]
      exact rdivE2_any ha hl hb hm (soundQ_rat hu hv) h2
    · by_cases hz : x = 0 ∧ y = 0
      · rw [divQ_zero hu hv hx hy hz]
        exact rdivZ_any ha hb hu hv hx hy hz
      · rw [divQ_rat hu hv hx hy hz]
        have fu := fit_lenR hu
        have fv := fit_lenR hv
        have fx := fit_lenR hx
        have fy := fit_lenR hy
        have hp := sq_gt hz
        have ln := lenR_inv hp (lenR_add (lenR_mul fx fx) (lenR_mul fy fy))
        have li1 := lenR_mul fx ln
        have li2 := lenR_mul (lenR_neg fy) ln
        have e1 : u * (x * (1 / (x * x + y * y))) - v * (-y * (1 / (x * x + y * y))) = (u * x + v * y) / (x * x + y * y) := by grind
        have e2 : u * (-y * (1 / (x * x + y * y))) + v * (x * (1 / (x * x + y * y))) = (v * x - u * y) / (x * x + y * y) := by grind
        rw [← e1, ← e2]
        exact rdivW_any ha hb hu hv hx hy hz rfl rfl rfl rfl (li1.mono (by decide)) (li2.mono (by decide)) ((lenR_sub (lenR_mul fu li1) (lenR_mul fv li2)).mono (by decide)) ((lenR_add (lenR_mul fu li2) (lenR_mul fv li1)).mono (by decide))
theorem rmulQ_as {w : World} {p q : Q6} {a1 a2 a3 a4 : Option Addr} {ac1 ac2 ac3 ac4 : Nat} (ha : Nm w p a1 ac1 a2 ac2 a3 ac3 a4 ac4) (hl : LenQ p) {u1 u2 u3 u4 : Option Addr} {uc1 uc2 uc3 uc4 : Nat} (hb : Nm w q u1 uc1 u2 uc2 u3 uc3 u4 uc4) (hm : LenQ q) {z : Q6 × Int} (hz : mulQ p q = z) : Calls Try.prog 5 #[numV p a1 ac1 a2 ac2 a3 ac3 a4 ac4, numV q u1 uc1 u2 uc2 u3 uc3 u4 uc4] w (AnsN w z) := hz ▸ rmulQ_any ha hl hb hm
theorem rdivQ_as {w : World} {p q : Q6} {a1 a2 a3 a4 : Option Addr} {ac1 ac2 ac3 ac4 : Nat} (ha : Nm w p a1 ac1 a2 ac2 a3 ac3 a4 ac4) (hl : LenQ p) {u1 u2 u3 u4 : Option Addr} {uc1 uc2 uc3 uc4 : Nat} (hb : Nm w q u1 uc1 u2 uc2 u3 uc3 u4 uc4) (hm : LenQ q) {z : Q6 × Int} (hz : divQ p q = z) : Calls Try.prog 7 #[numV p a1 ac1 a2 ac2 a3 ac3 a4 ac4, numV q u1 uc1 u2 uc2 u3 uc3 u4 uc4] w (AnsN w z) := hz ▸ rdivQ_any ha hl hb hm
theorem productsW_any {w : World} {p q : Q6} {a1 a2 a3 a4 : Option Addr} {ac1 ac2 ac3 ac4 : Nat} (ha : Nm w p a1 ac1 a2 ac2 a3 ac3 a4 ac4) (hl : LenQ p) {u1 u2 u3 u4 : Option Addr} {uc1 uc2 uc3 uc4 : Nat} (hb : Nm w q u1 uc1 u2 uc2 u3 uc3 u4 uc4) (hm : LenQ q) {z1 z2 : Q6 × Int} (e1 : mulQ p q = z1) (l1 : LenQ z1.1) (e2 : divQ p q = z2) (l2 : LenQ z2.1) : Calls Try.prog 3 #[numV p a1 ac1 a2 ac2 a3 ac3 a4 ac4, numV q u1 uc1 u2 uc2 u3 uc3 u4 uc4] w fun e w' => e = .returned (.bool true) ∧ Below w.heap.size w w' := by
  have hS : St w w [] [(u4, q.q2), (u3, q.t2), (u2, q.q1), (u1, q.t1), (a4, p.q2), (a3, p.t2), (a2, p.q1), (a1, p.t1)] [] := ((((((((St.start w).addR ha.s1.rd).addR ha.s2.rd).addR ha.s3.rd).addR ha.s4.rd).addR hb.s1.rd).addR hb.s2.rd).addR hb.s3.rd).addR hb.s4.rd
  refine walk_of (l := [(0, .agg #[.bool p.b1, .slice a1 p.t1.length ac1, .slice a2 p.q1.length ac2, .bool p.b2, .slice a3 p.t2.length ac3, .slice a4 p.q2.length ac4]), (1, .agg #[.bool q.b1, .slice u1 q.t1.length uc1, .slice u2 q.q1.length uc2, .bool q.b2, .slice u3 q.t2.length uc3, .slice u4 q.q2.length uc4])]) Try.func3 rfl Try.ntmps3 rfl rfl ?_
  intro Q hret hnorm hP a hA
  refine wp_seq_k (fun K1 hK1 => ?_)
  refine wp_region_lit ?_
  refine seq_new (vs := [.bool p.b1, .slice a1 p.t1.length ac1, .slice a2 p.q1.length ac2, .bool p.b2, .slice a3 p.t2.length ac3, .slice a4 p.q2.length ac4]) (t := 26) hA hS rfl rfl rfl (fun g => .pointer (some ⟨g, 0, none⟩)) (does_box rfl rfl) rfl ?_
  intro g2 w3 hS a hA
  refine seq_new (vs := [.bool q.b1, .slice u1 q.t1.length uc1, .slice u2 q.q1.length uc2, .bool q.b2, .slice u3 q.t2.length uc3, .slice u4 q.q2.length uc4]) (t := 26) hA hS rfl rfl rfl (fun g => .pointer (some ⟨g, 0, none⟩)) (does_box rfl rfl) rfl ?_
  intro g4 w5 hS a hA
  refine seq_do hA rfl rfl rfl (does_assign rfl) ?_
  intro a hA
  refine seq_end ?_
  refine hK1 _ _ ?_
  refine wp_seq_k (fun K6 hK6 => ?_)
  refine wp_region_lit ?_
  refine seq_do (v := .agg #[.bool p.b1, .slice a1 p.t1.length ac1, .slice a2 p.q1.length ac2, .bool p.b2, .slice a3 p.t2.length ac3, .slice a4 p.q2.length ac4]) hA rfl rfl rfl (does_loadS hS RfB_isS_26 rfl 1 rfl (cs := [.bool p.b1, .slice a1 p.t1.length ac1, .slice a2 p.q1.length ac2, .bool p.b2, .slice a3 p.t2.length ac3, .slice a4 p.q2.length ac4]) rfl rfl) ?_
  intro a hA
  refine seq_do (v := .agg #[.bool q.b1, .slice u1 q.t1.length uc1, .slice u2 q.q1.length uc2, .bool q.b2, .slice u3 q.t2.length uc3, .slice u4 q.q2.length uc4]) hA rfl rfl rfl (does_loadS hS RfB_isS_26 rfl 0 rfl (cs := [.bool q.b1, .slice u1 q.t1.length uc1, .slice u2 q.q1.length uc2, .bool q.b2, .slice u3 q.t2.length uc3, .slice u4 q.q2.length uc4]) rfl rfl) ?_
  intro a hA
  refine seq_call hA rfl rfl rfl (enters_func  rfl rfl (fun w => by kernel_rfl)) (mulQ_as (show Nm _ p a1 ac1 a2 ac2 a3 ac3 a4 ac4 from ⟨⟨(hS.rd 7 rfl), ha.s1.nil, ha.s1.cap⟩, ⟨(hS.rd 6 rfl), ha.s2.nil, ha.s2.cap⟩, ⟨(hS.rd 5 rfl), ha.s3.nil, ha.s3.cap⟩, ⟨(hS.rd 4 rfl), ha.s4.nil, ha.s4.cap⟩⟩) hl (show Nm _ q u1 uc1 u2 uc2 u3 uc3 u4 uc4 from ⟨⟨(hS.rd 3 rfl), hb.s1.nil, hb.s1.cap⟩, ⟨(hS.rd 2 rfl), hb.s2.nil, hb.s2.cap⟩, ⟨(hS.rd 1 rfl), hb.s3.nil, hb.s3.cap⟩, ⟨(hS.rd 0 rfl), hb.s4.nil, hb.s4.cap⟩⟩) hm e1) ?_
  rintro _ w10 ⟨p7_1, p7_c1, p7_2, p7_c2, p7_3, p7_c3, p7_4, p7_c4, rfl, hn8, hb9⟩
  replace hS := hS.call hb9
  replace hS := hS.addR hn8.s1.rd
  replace hS := hS.addR hn8.s2.rd
  replace hS := hS.addR hn8.s3.rd
  replace hS := hS.addR hn8.s4.rd
  refine ⟨_, rfl, ?_⟩
  intro a hA
  refine seq_do hA rfl rfl rfl (does_move rfl) ?_
  intro a hA
  refine seq_do (v := .agg #[.bool z1.1.b1, .slice p7_1 z1.1.t1.length p7_c1, .slice p7_2 z1.1.q1.length p7_c2, .bool z1.1.b2, .slice p7_3 z1.1.t2.length p7_c3, .slice p7_4 z1.1.q2.length p7_c4]) hA rfl rfl rfl (does_extract (vs := [.agg #[.bool z1.1.b1, .slice p7_1 z1.1.t1.length p7_c1, .slice p7_2 z1.1.q1.length p7_c2, .bool z1.1.b2, .slice p7_3 z1.1.t2.length p7_c3, .slice p7_4 z1.1.q2.length p7_c4], .int .i64 z1.2]) rfl rfl) ?_
  intro a hA
  refine seq_do (v := .int .i64 z1.2) hA rfl rfl rfl (does_extract (vs := [.agg #[.bool z1.1.b1, .slice p7_1 z1.1.t1.length p7_c1, .slice p7_2 z1.1.q1.length p7_c2, .bool z1.1.b2, .slice p7_3 z1.1.t2.length p7_c3, .slice p7_4 z1.1.q2.length p7_c4], .int .i64 z1.2]) rfl rfl) ?_
  intro a hA
  refine seq_new (vs := [.bool false, .slice none 0 0, .slice none 0 0, .bool false, .slice none 0 0, .slice none 0 0]) (t := 26) hA hS rfl rfl rfl (fun g => .pointer (some ⟨g, 0, none⟩)) (does_alloc (z := .agg #[.bool false, .slice none 0 0, .slice none 0 0, .bool false, .slice none 0 0, .slice none 0 0]) (by kernel_rfl) rfl) rfl ?_
  intro g11 w12 hS a hA
  refine seq_store (us := [.bool z1.1.b1, .slice p7_1 z1.1.t1.length p7_c1, .slice p7_2 z1.1.q1.length p7_c2, .bool z1.1.b2, .slice p7_3 z1.1.t2.length p7_c3, .slice p7_4 z1.1.q2.length p7_c4]) hA hS rfl rfl (sets_store (cs := [.bool z1.1.b1, .slice p7_1 z1.1.t1.length p7_c1, .slice p7_2 z1.1.q1.length p7_c2, .bool z1.1.b2, .slice p7_3 z1.1.t2.length p7_c3, .slice p7_4 z1.1.q2.length p7_c4]) rfl rfl rfl (by kernel_rfl) hS 0 rfl rfl rfl) 0 rfl rfl rfl rfl ?_
  intro w13 hS
  refine seq_do hA rfl rfl rfl (does_assign rfl) ?_
  intro a hA
  refine seq_end ?_
  refine hK6 _ _ ?_
  refine wp_seq_k (fun K14 hK14 => ?_)
  refine wp_region_lit ?_
  refine seq_do (v := .agg #[.bool p.b1, .slice a1 p.t1.length ac1, .slice a2 p.q1.length ac2, .bool p.b2, .slice a3 p.t2.length ac3, .slice a4 p.q2.length ac4]) hA rfl rfl rfl (does_loadS hS RfB_isS_26 rfl 2 rfl (cs := [.bool p.b1, .slice a1 p.t1.length ac1, .slice a2 p.q1.length ac2, .bool p.b2, .slice a3 p.t2.length ac3, .slice a4 p.q2.length ac4]) rfl rfl) ?_
  intro a hA
  refine seq_do (v := .agg #[.bool q.b1, .slice u1 q.t1.length uc1, .slice u2 q.q1.length uc2, .bool q.b2, .slice u3 q.t2.length uc3, .slice u4 q.q2.length uc4]) hA rfl rfl rfl (does_loadS hS RfB_isS_26 rfl 1 rfl (cs := [.bool q.b1, .slice u1 q.t1.length uc1, .slice u2 q.q1.length uc2, .bool q.b2, .slice u3 q.t2.length uc3, .slice u4 q.q2.length uc4]) rfl rfl) ?_
  intro a hA
  refine seq_call hA rfl rfl rfl (enters_func  rfl rfl (fun w => by kernel_rfl)) (rmulQ_as (show Nm _ p a1 ac1 a2 ac2 a3 ac3 a4 ac4 from ⟨⟨(hS.rd 11 rfl), ha.s1.nil, ha.s1.cap⟩, ⟨(hS.rd 10 rfl), ha.s2.nil, ha.s2.cap⟩, ⟨(hS.rd 9 rfl), ha.s3.nil, ha.s3.cap⟩, ⟨(hS.rd 8 rfl), ha.s4.nil, ha.s4.cap⟩⟩) hl (show Nm _ q u1 uc1 u2 uc2 u3 uc3 u4 uc4 from ⟨⟨(hS.rd 7 rfl), hb.s1.nil, hb.s1.cap⟩, ⟨(hS.rd 6 rfl), hb.s2.nil, hb.s2.cap⟩, ⟨(hS.rd 5 rfl), hb.s3.nil, hb.s3.cap⟩, ⟨(hS.rd 4 rfl), hb.s4.nil, hb.s4.cap⟩⟩) hm e1) ?_
  rintro _ w18 ⟨p15_1, p15_c1, p15_2, p15_c2, p15_3, p15_c3, p15_4, p15_c4, rfl, hn16, hb17⟩
  replace hS := hS.call hb17
  replace hS := hS.addR hn16.s1.rd
  replace hS := hS.addR hn16.s2.rd
  replace hS := hS.addR hn16.s3.rd
  replace hS := hS.addR hn16.s4.rd
  refine ⟨_, rfl, ?_⟩
  intro a hA
  refine seq_do hA rfl rfl rfl (does_move rfl) ?_
  intro a hA
  refine seq_do (v := .agg #[.bool z1.1.b1, .slice p15_1 z1.1.t1.length p15_c1, .slice p15_2 z1.1.q1.length p15_c2, .bool z1.1.b2, .slice p15_3 z1.1.t2.length p15_c3, .slice p15_4 z1.1.q2.length p15_c4]) hA rfl rfl rfl (does_extract (vs := [.agg #[.bool z1.1.b1, .slice p15_1 z1.1.t1.length p15_c1, .slice p15_2 z1.1.q1.length p15_c2, .bool z1.1.b2, .slice p15_3 z1.1.t2.length p15_c3, .slice p15_4 z1.1.q2.length p15_c4], .int .i64 z1.2]) rfl rfl) ?_
  intro a hA
  refine seq_do (v := .int .i64 z1.2) hA rfl rfl rfl (does_extract (vs := [.agg #[.bool z1.1.b1, .slice p15_1 z1.1.t1.length p15_c1, .slice p15_2 z1.1.q1.length p15_c2, .bool z1.1.b2, .slice p15_3 z1.1.t2.length p15_c3, .slice p15_4 z1.1.q2.length p15_c4], .int .i64 z1.2]) rfl rfl) ?_
  intro a hA
  refine seq_new (vs := [.bool false, .slice none 0 0, .slice none 0 0, .bool false, .slice none 0 0, .slice none 0 0]) (t := 26) hA hS rfl rfl rfl (fun g => .pointer (some ⟨g, 0, none⟩)) (does_alloc (z := .agg #[.bool false, .slice none 0 0, .slice none 0 0, .bool false, .slice none 0 0, .slice none 0 0]) (by kernel_rfl) rfl) rfl ?_
  intro g19 w20 hS a hA
  refine seq_store (us := [.bool z1.1.b1, .slice p15_1 z1.1.t1.length p15_c1, .slice p15_2 z1.1.q1.length p15_c2, .bool z1.1.b2, .slice p15_3 z1.1.t2.length p15_c3, .slice p15_4 z1.1.q2.length p15_c4]) hA hS rfl rfl (sets_store (cs := [.bool z1.1.b1, .slice p15_1 z1.1.t1.length p15_c1, .slice p15_2 z1.1.q1.length p15_c2, .bool z1.1.b2, .slice p15_3 z1.1.t2.length p15_c3, .slice p15_4 z1.1.q2.length p15_c4]) rfl rfl rfl (by kernel_rfl) hS 0 rfl rfl rfl) 0 rfl rfl rfl rfl ?_
  intro w21 hS
  refine seq_do hA rfl rfl rfl (does_assign rfl) ?_
  intro a hA
  refine seq_end ?_
  refine hK14 _ _ ?_
  refine wp_seq_k (fun K22 hK22 => ?_)
  refine wp_region_lit ?_
  refine seq_do (v := .agg #[.bool p.b1, .slice a1 p.t1.length ac1, .slice a2 p.q1.length ac2, .bool p.b2, .slice a3 p.t2.length ac3, .slice a4 p.q2.length ac4]) hA rfl rfl rfl (does_loadS hS RfB_isS_26 rfl 3 rfl (cs := [.bool p.b1, .slice a1 p.t1.length ac1, .slice a2 p.q1.length ac2, .bool p.b2, .slice a3 p.t2.length ac3, .slice a4 p.q2.length ac4]) rfl rfl) ?_
  intro a hA
  refine seq_do (v := .agg #[.bool q.b1, .slice u1 q.t1.length uc1, .slice u2 q.q1.length uc2, .bool q.b2, .slice u3 q.t2.length uc3, .slice u4 q.q2.length uc4]) hA rfl rfl rfl (does_loadS hS RfB_isS_26 rfl 2 rfl (cs := [.bool q.b1, .slice u1 q.t1.length uc1, .slice u2 q.q1.length uc2, .bool q.b2, .slice u3 q.t2.length uc3, .slice u4 q.q2.length uc4]) rfl rfl) ?_
  intro a hA
  refine seq_call hA rfl rfl rfl (enters_func  rfl rfl (fun w => by kernel_rfl)) (divQ_as (show Nm _ p a1 ac1 a2 ac2 a3 ac3 a4 ac4 from ⟨⟨(hS.rd 15 rfl), ha.s1.nil, ha.s1.cap⟩, ⟨(hS.rd 14 rfl), ha.s2.nil, ha.s2.cap⟩, ⟨(hS.rd 13 rfl), ha.s3.nil, ha.s3.cap⟩, ⟨(hS.rd 12 rfl), ha.s4.nil, ha.s4.cap⟩⟩) hl (show Nm _ q u1 uc1 u2 uc2 u3 uc3 u4 uc4 from ⟨⟨(hS.rd 11 rfl), hb.s1.nil, hb.s1.cap⟩, ⟨(hS.rd 10 rfl), hb.s2.nil, hb.s2.cap⟩, ⟨(hS.rd 9 rfl), hb.s3.nil, hb.s3.cap⟩, ⟨(hS.rd 8 rfl), hb.s4.nil, hb.s4.cap⟩⟩) hm e2) ?_
  rintro _ w26 ⟨p23_1, p23_c1, p23_2, p23_c2, p23_3, p23_c3, p23_4, p23_c4, rfl, hn24, hb25⟩
  replace hS := hS.call hb25
  replace hS := hS.addR hn24.s1.rd
  replace hS := hS.addR hn24.s2.rd
  replace hS := hS.addR hn24.s3.rd
  replace hS := hS.addR hn24.s4.rd
  refine ⟨_, rfl, ?_⟩
  intro a hA
  refine seq_do hA rfl rfl rfl (does_move rfl) ?_
  intro a hA
  refine seq_do (v := .agg #[.bool z2.1.b1, .slice p23_1 z2.1.t1.length p23_c1, .slice p23_2 z2.1.q1.length p23_c2, .bool z2.1.b2, .slice p23_3 z2.1.t2.length p23_c3, .slice p23_4 z2.1.q2.length p23_c4]) hA rfl rfl rfl (does_extract (vs := [.agg #[.bool z2.1.b1, .slice p23_1 z2.1.t1.length p23_c1, .slice p23_2 z2.1.q1.length p23_c2, .bool z2.1.b2, .slice p23_3 z2.1.t2.length p23_c3, .slice p23_4 z2.1.q2.length p23_c4], .int .i64 z2.2]) rfl rfl) ?_
  intro a hA
  refine seq_do (v := .int .i64 z2.2) hA rfl rfl rfl (does_extract (vs := [.agg #[.bool z2.1.b1, .slice p23_1 z2.1.t1.length p23_c1, .slice p23_2 z2.1.q1.length p23_c2, .bool z2.1.b2, .slice p23_3 z2.1.t2.length p23_c3, .slice p23_4 z2.1.q2.length p23_c4], .int .i64 z2.2]) rfl rfl) ?_
  intro a hA
  refine seq_new (vs := [.bool false, .slice none 0 0, .slice none 0 0, .bool false, .slice none 0 0, .slice none 0 0]) (t := 26) hA hS rfl rfl rfl (fun g => .pointer (some ⟨g, 0, none⟩)) (does_alloc (z := .agg #[.bool false, .slice none 0 0, .slice none 0 0, .bool false, .slice none 0 0, .slice none 0 0]) (by kernel_rfl) rfl) rfl ?_
  intro g27 w28 hS a hA
  refine seq_store (us := [.bool z2.1.b1, .slice p23_1 z2.1.t1.length p23_c1, .slice p23_2 z2.1.q1.length p23_c2, .bool z2.1.b2, .slice p23_3 z2.1.t2.length p23_c3, .slice p23_4 z2.1.q2.length p23_c4]) hA hS rfl rfl (sets_store (cs := [.bool z2.1.b1, .slice p23_1 z2.1.t1.length p23_c1, .slice p23_2 z2.1.q1.length p23_c2, .bool z2.1.b2, .slice p23_3 z2.1.t2.length p23_c3, .slice p23_4 z2.1.q2.length p23_c4]) rfl rfl rfl (by kernel_rfl) hS 0 rfl rfl rfl) 0 rfl rfl rfl rfl ?_
  intro w29 hS
  refine seq_do hA rfl rfl rfl (does_assign rfl) ?_
  intro a hA
  refine seq_end ?_
  refine hK22 _ _ ?_
  refine wp_seq_k (fun K30 hK30 => ?_)
  refine wp_region_lit ?_
  refine seq_do (v := .agg #[.bool p.b1, .slice a1 p.t1.length ac1, .slice a2 p.q1.length ac2, .bool p.b2, .slice a3 p.t2.length ac3, .slice a4 p.q2.length ac4]) hA rfl rfl rfl (does_loadS hS RfB_isS_26 rfl 4 rfl (cs := [.bool p.b1, .slice a1 p.t1.length ac1, .slice a2 p.q1.length ac2, .bool p.b2, .slice a3 p.t2.length ac3, .slice a4 p.q2.length ac4]) rfl rfl) ?_
  intro a hA
  refine seq_do (v := .agg #[.bool q.b1, .slice u1 q.t1.length uc1, .slice u2 q.q1.length uc2, .bool q.b2, .slice u3 q.t2.length uc3, .slice u4 q.q2.length uc4]) hA rfl rfl rfl (does_loadS hS RfB_isS_26 rfl 3 rfl (cs := [.bool q.b1, .slice u1 q.t1.length uc1, .slice u2 q.q1.length uc2, .bool q.b2, .slice u3 q.t2.length uc3, .slice u4 q.q2.length uc4]) rfl rfl) ?_
  intro a hA
  refine seq_call hA rfl rfl rfl (enters_func  rfl rfl (fun w => by kernel_rfl)) (rdivQ_as (show Nm _ p a1 ac1 a2 ac2 a3 ac3 a4 ac4 from ⟨⟨(hS.rd 19 rfl), ha.s1.nil, ha.s1.cap⟩, ⟨(hS.rd 18 rfl), ha.s2.nil, ha.s2.cap⟩, ⟨(hS.rd 17 rfl), ha.s3.nil, ha.s3.cap⟩, ⟨(hS.rd 16 rfl), ha.s4.nil, ha.s4.cap⟩⟩) hl (show Nm _ q u1 uc1 u2 uc2 u3 uc3 u4 uc4 from ⟨⟨(hS.rd 15 rfl), hb.s1.nil, hb.s1.cap⟩, ⟨(hS.rd 14 rfl), hb.s2.nil, hb.s2.cap⟩, ⟨(hS.rd 13 rfl), hb.s3.nil, hb.s3.cap⟩, ⟨(hS.rd 12 rfl), hb.s4.nil, hb.s4.cap⟩⟩) hm e2) ?_
  rintro _ w34 ⟨p31_1, p31_c1, p31_2, p31_c2, p31_3, p31_c3, p31_4, p31_c4, rfl, hn32, hb33⟩
  replace hS := hS.call hb33
  replace hS := hS.addR hn32.s1.rd
  replace hS := hS.addR hn32.s2.rd
  replace hS := hS.addR hn32.s3.rd
  replace hS := hS.addR hn32.s4.rd
  refine ⟨_, rfl, ?_⟩
  intro a hA
  refine seq_do hA rfl rfl rfl (does_move rfl) ?_
  intro a hA
  refine seq_do (v := .agg #[.bool z2.1.b1, .slice p31_1 z2.1.t1.length p31_c1, .slice p31_2 z2.1.q1.length p31_c2, .bool z2.1.b2, .slice p31_3 z2.1.t2.length p31_c3, .slice p31_4 z2.1.q2.length p31_c4]) hA rfl rfl rfl (does_extract (vs := [.agg #[.bool z2.1.b1, .slice p31_1 z2.1.t1.length p31_c1, .slice p31_2 z2.1.q1.length p31_c2, .bool z2.1.b2, .slice p31_3 z2.1.t2.length p31_c3, .slice p31_4 z2.1.q2.length p31_c4], .int .i64 z2.2]) rfl rfl) ?_
  intro a hA
  refine seq_do (v := .int .i64 z2.2) hA rfl rfl rfl (does_extract (vs := [.agg #[.bool z2.1.b1, .slice p31_1 z2.1.t1.length p31_c1, .slice p31_2 z2.1.q1.length p31_c2, .bool z2.1.b2, .slice p31_3 z2.1.t2.length p31_c3, .slice p31_4 z2.1.q2.length p31_c4], .int .i64 z2.2]) rfl rfl) ?_
  intro a hA
  refine seq_new (vs := [.bool false, .slice none 0 0, .slice none 0 0, .bool false, .slice none 0 0, .slice none 0 0]) (t := 26) hA hS rfl rfl rfl (fun g => .pointer (some ⟨g, 0, none⟩)) (does_alloc (z := .agg #[.bool false, .slice none 0 0, .slice none 0 0, .bool false, .slice none 0 0, .slice none 0 0]) (by kernel_rfl) rfl) rfl ?_
  intro g35 w36 hS a hA
  refine seq_store (us := [.bool z2.1.b1, .slice p31_1 z2.1.t1.length p31_c1, .slice p31_2 z2.1.q1.length p31_c2, .bool z2.1.b2, .slice p31_3 z2.1.t2.length p31_c3, .slice p31_4 z2.1.q2.length p31_c4]) hA hS rfl rfl (sets_store (cs := [.bool z2.1.b1, .slice p31_1 z2.1.t1.length p31_c1, .slice p31_2 z2.1.q1.length p31_c2, .bool z2.1.b2, .slice p31_3 z2.1.t2.length p31_c3, .slice p31_4 z2.1.q2.length p31_c4]) rfl rfl rfl (by kernel_rfl) hS 0 rfl rfl rfl) 0 rfl rfl rfl rfl ?_
  intro w37 hS
  refine seq_do hA rfl rfl rfl (does_assign rfl) ?_
  intro a hA
  refine seq_end ?_
  refine hK30 _ _ ?_
  refine wp_seq_k (fun K38 hK38 => ?_)
  refine wp_region_lit ?_
  refine seq_call hA rfl rfl rfl (enters_func  rfl rfl (fun w => by kernel_rfl)) (awake3_any) ?_
  rintro _ w40 ⟨rfl, hb39⟩
  replace hS := hS.call hb39
  refine ⟨_, rfl, ?_⟩
  intro a hA
  refine seq_do hA rfl rfl rfl (does_move rfl) ?_
  intro a hA
  refine seq_do (v := .agg #[.bool z1.1.b1, .slice p7_1 z1.1.t1.length p7_c1, .slice p7_2 z1.1.q1.length p7_c2, .bool z1.1.b2, .slice p7_3 z1.1.t2.length p7_c3, .slice p7_4 z1.1.q2.length p7_c4]) hA rfl rfl rfl (does_loadS hS RfB_isS_26 rfl 3 rfl (cs := [.bool z1.1.b1, .slice p7_1 z1.1.t1.length p7_c1, .slice p7_2 z1.1.q1.length p7_c2, .bool z1.1.b2, .slice p7_3 z1.1.t2.length p7_c3, .slice p7_4 z1.1.q2.length p7_c4]) rfl rfl) ?_
  intro a hA
  refine seq_do (v := .agg #[.bool z1.1.b1, .slice p15_1 z1.1.t1.length p15_c1, .slice p15_2 z1.1.q1.length p15_c2, .bool z1.1.b2, .slice p15_3 z1.1.t2.length p15_c3, .slice p15_4 z1.1.q2.length p15_c4]) hA rfl rfl rfl (does_loadS hS RfB_isS_26 rfl 2 rfl (cs := [.bool z1.1.b1, .slice p15_1 z1.1.t1.length p15_c1, .slice p15_2 z1.1.q1.length p15_c2, .bool z1.1.b2, .slice p15_3 z1.1.t2.length p15_c3, .slice p15_4 z1.1.q2.length p15_c4]) rfl rfl) ?_
  intro a hA
  refine seq_call hA rfl rfl rfl (enters_func  rfl rfl (fun w => by kernel_rfl)) (alike_any (show Nm _ z1.1 p7_1 p7_c1 p7_2 p7_c2 p7_3 p7_c3 p7_4 p7_c4 from ⟨⟨(hS.rd 15 rfl), hn8.s1.nil, hn8.s1.cap⟩, ⟨(hS.rd 14 rfl), hn8.s2.nil, hn8.s2.cap⟩, ⟨(hS.rd 13 rfl), hn8.s3.nil, hn8.s3.cap⟩, ⟨(hS.rd 12 rfl), hn8.s4.nil, hn8.s4.cap⟩⟩) l1 ⟨⟨(hS.rd 11 rfl), hn16.s1.nil, hn16.s1.cap⟩, ⟨(hS.rd 10 rfl), hn16.s2.nil, hn16.s2.cap⟩, ⟨(hS.rd 9 rfl), hn16.s3.nil, hn16.s3.cap⟩, ⟨(hS.rd 8 rfl), hn16.s4.nil, hn16.s4.cap⟩⟩) ?_
  rintro _ w42 ⟨rfl, hb41⟩
  replace hS := hS.call hb41
  refine ⟨_, rfl, ?_⟩
  intro a hA
  refine seq_do (v := .bool true) hA rfl rfl rfl (does_pick rfl rfl rfl rfl) ?_
  intro a hA
  refine seq_do hA rfl rfl rfl (does_move rfl) ?_
  intro a hA
  refine seq_do hA rfl rfl rfl (does_move rfl) ?_
  intro a hA
  refine seq_do hA rfl rfl rfl (does_move rfl) ?_
  intro a hA
  refine seq_do (v := .bool true) hA rfl rfl rfl (does_bin rfl rfl (fun w => (bin_eql w).trans (by rw [show ((z1.2 == z1.2)) = true from (beq_self_eq_true _)]))) ?_
  intro a hA
  refine seq_do (v := .bool true) hA rfl rfl rfl (does_pick rfl rfl rfl rfl) ?_
  intro a hA
  refine seq_do hA rfl rfl rfl (does_move rfl) ?_
  intro a hA
  refine seq_do (v := .agg #[.bool z2.1.b1, .slice p23_1 z2.1.t1.length p23_c1, .slice p23_2 z2.1.q1.length p23_c2, .bool z2.1.b2, .slice p23_3 z2.1.t2.length p23_c3, .slice p23_4 z2.1.q2.length p23_c4]) hA rfl rfl rfl (does_loadS hS RfB_isS_26 rfl 1 rfl (cs := [.bool z2.1.b1, .slice p23_1 z2.1.t1.length p23_c1, .slice p23_2 z2.1.q1.length p23_c2, .bool z2.1.b2, .slice p23_3 z2.1.t2.length p23_c3, .slice p23_4 z2.1.q2.length p23_c4]) rfl rfl) ?_
  intro a hA
  refine seq_do (v := .agg #[.bool z2.1.b1, .slice p31_1 z2.1.t1.length p31_c1, .slice p31_2 z2.1.q1.length p31_c2, .bool z2.1.b2, .slice p31_3 z2.1.t2.length p31_c3, .slice p31_4 z2.1.q2.length p31_c4]) hA rfl rfl rfl (does_loadS hS RfB_isS_26 rfl 0 rfl (cs := [.bool z2.1.b1, .slice p31_1 z2.1.t1.length p31_c1, .slice p31_2 z2.1.q1.length p31_c2, .bool z2.1.b2, .slice p31_3 z2.1.t2.length p31_c3, .slice p31_4 z2.1.q2.length p31_c4]) rfl rfl) ?_
  intro a hA
  refine seq_call hA rfl rfl rfl (enters_func  rfl rfl (fun w => by kernel_rfl)) (alike_any (show Nm _ z2.1 p23_1 p23_c1 p23_2 p23_c2 p23_3 p23_c3 p23_4 p23_c4 from ⟨⟨(hS.rd 7 rfl), hn24.s1.nil, hn24.s1.cap⟩, ⟨(hS.rd 6 rfl), hn24.s2.nil, hn24.s2.cap⟩, ⟨(hS.rd 5 rfl), hn24.s3.nil, hn24.s3.cap⟩, ⟨(hS.rd 4 rfl), hn24.s4.nil, hn24.s4.cap⟩⟩) l2 ⟨⟨(hS.rd 3 rfl), hn32.s1.nil, hn32.s1.cap⟩, ⟨(hS.rd 2 rfl), hn32.s2.nil, hn32.s2.cap⟩, ⟨(hS.rd 1 rfl), hn32.s3.nil, hn32.s3.cap⟩, ⟨(hS.rd 0 rfl), hn32.s4.nil, hn32.s4.cap⟩⟩) ?_
  rintro _ w44 ⟨rfl, hb43⟩
  replace hS := hS.call hb43
  refine ⟨_, rfl, ?_⟩
  intro a hA
  refine seq_do (v := .bool true) hA rfl rfl rfl (does_pick rfl rfl rfl rfl) ?_
  intro a hA
  refine seq_do hA rfl rfl rfl (does_move rfl) ?_
  intro a hA
  refine seq_do hA rfl rfl rfl (does_move rfl) ?_
  intro a hA
  refine seq_do hA rfl rfl rfl (does_move rfl) ?_
  intro a hA
  refine seq_do (v := .bool true) hA rfl rfl rfl (does_bin rfl rfl (fun w => (bin_eql w).trans (by rw [show ((z2.2 == z2.2)) = true from (beq_self_eq_true _)]))) ?_
  intro a hA
  refine seq_do (v := .bool true) hA rfl rfl rfl (does_pick rfl rfl rfl rfl) ?_
  intro a hA
  refine seq_do hA rfl rfl rfl (does_assign rfl) ?_
  intro a hA
  refine seq_end ?_
  refine hK38 _ _ ?_
  refine wp_ret ?_
  refine hret _ _ ?_
  refine ends (v := .bool true) hA rfl (.cons (res_tmp rfl) .nil) rfl ?_
  exact ⟨rfl, hS.bel⟩
theorem exactProducts_any {w : World} {p q : Q6} {a1 a2 a3 a4 : Option Addr} {ac1 ac2 ac3 ac4 : Nat} (ha : Nm w p a1 ac1 a2 ac2 a3 ac3 a4 ac4) (hl : LenQ p) {u1 u2 u3 u4 : Option Addr} {uc1 uc2 uc3 uc4 : Nat} (hb : Nm w q u1 uc1 u2 uc2 u3 uc3 u4 uc4) (hm : LenQ q) : Calls Try.prog 3 #[numV p a1 ac1 a2 ac2 a3 ac3 a4 ac4, numV q u1 uc1 u2 uc2 u3 uc3 u4 uc4] w fun e w' => e = .returned (.bool true) ∧ Below w.heap.size w w' := productsW_any ha hl hb hm rfl (lenQ_mul _ _) rfl (lenQ_div _ _)
end Go.Proofs.Ythempjanedhbpaa
namespace Go.Proofs.Ythempjanedhbpaa
open Go.ChangeShapes Go.WideShapes Go.ChangeAt Go.RowKit Go.Joins Go.Deep
set_option linter.unusedVariables false
set_option linter.unusedSimpArgs false
set_option maxRecDepth 100000

section
variable {H : Type} {enc : TypeId × Value → H} {W : World}
theorem trod_bool {fuel : Nat} {v : Value} {x : DataW H × List MemPlace} (h : DataW.trod enc Try.prog W 0 (fun _ => true) true fuel 4 [v] = some x) : ∃ b, v = .bool b := by
  obtain ⟨b, h, _⟩ := DataW.trod_bool Try.underlying4 h
  exact ⟨b, by simpa using h⟩
theorem trod_words {fuel : Nat} {v : Value} {x : DataW H × List MemPlace} (h : DataW.trod enc Try.prog W 0 (fun _ => true) true fuel 22 [v] = some x) : ∃ ao c l, v = .slice ao l.length c ∧ Arg W ao c l := by
  rcases open_ints Try.underlying22 Try.underlying67 (by kernel_rfl) h with ⟨hcs, _⟩ | ⟨x, l, c, zs, hcs, _, hl, hm, hz, hx, hcell, hwz⟩
  · cases hcs
    exact ⟨none, 0, [], rfl, arg_nil W⟩
  · cases hcs
    obtain ⟨us, e, ha⟩ := arg_row hl hm (by simpa using hz) hcell hwz
    subst e
    exact ⟨_, _, us, rfl, ha⟩
theorem trod_rat {fuel : Nat} {v0 v1 v2 : Value} {x : DataW H × List MemPlace} (h : DataW.trod enc Try.prog W 0 (fun _ => true) true fuel 24 [v0, v1, v2] = some x) : ∃ b o1 c1 l1 o2 c2 l2, v0 = .bool b ∧ v1 = .slice o1 l1.length c1 ∧ v2 = .slice o2 l2.length c2 ∧ Arg W o1 c1 l1 ∧ Arg W o2 c2 l2 := by
  obtain ⟨y0, y1, y2, n, _, _, h0, h1, h2⟩ := trod_struct3 Try.underlying24 h
  have e0 : Try.prog.cellsOf 4 = 1 := by kernel_rfl
  have e1 : Try.prog.cellsOf 22 = 1 := by kernel_rfl
  simp only [e0, e1, List.drop_zero, List.take_succ_cons, List.take_zero, List.drop_succ_cons] at h0 h1 h2
  obtain ⟨b, rfl⟩ := trod_bool h0
  obtain ⟨o1, c1, l1, rfl, a1⟩ := trod_words h1
  obtain ⟨o2, c2, l2, rfl, a2⟩ := trod_words h2
  exact ⟨b, o1, c1, l1, o2, c2, l2, rfl, rfl, rfl, a1, a2⟩
theorem open_num {base : Nat} {v : Value} {d : DataW H} {p : List MemPlace} (hv : Value.okWide Try.prog W .any base 26 v) (h : DataW.Trod enc Try.prog W 0 (fun _ => true) true 26 v d p) :
    ∃ q o1 c1 o2 c2 o3 c3 o4 c4, v = numV q o1 c1 o2 c2 o3 c3 o4 c4 ∧ Nm W q o1 c1 o2 c2 o3 c3 o4 c4 ∧ LenQ q := by
  obtain ⟨cs, rfl, hsz⟩ := okWide_struct Try.underlying26 hv
  rw [show Try.prog.cellsOf 26 = 6 from by kernel_rfl] at hsz
  obtain ⟨cs⟩ := cs
  match cs, hsz with
  | [v0, v1, v2, v3, v4, v5], _ =>
    obtain ⟨fuel, hf⟩ := h
    obtain ⟨y0, y1, n, _, _, h0, h1⟩ := trod_struct2 Try.underlying26 hf
    have e : Try.prog.cellsOf 24 = 3 := by kernel_rfl
    simp only [Value.cells, e, List.drop_zero, List.take_succ_cons, List.take_zero, List.drop_succ_cons] at h0 h1
    obtain ⟨b1, o1, c1, l1, o2, c2, l2, rfl, rfl, rfl, a1, a2⟩ := trod_rat h0
    obtain ⟨b2, o3, c3, l3, o4, c4, l4, rfl, rfl, rfl, a3, a4⟩ := trod_rat h1
    exact ⟨⟨b1, l1, l2, b2, l3, l4⟩, o1, c1, o2, c2, o3, c3, o4, c4, rfl, ⟨⟨a1.rd, a1.nil, a1.caps⟩, ⟨a2.rd, a2.nil, a2.caps⟩, ⟨a3.rd, a3.nil, a3.caps⟩, ⟨a4.rd, a4.nil, a4.caps⟩⟩, ⟨a1.len, a2.len, a3.len, a4.len⟩⟩
end
end Go.Proofs.Ythempjanedhbpaa
