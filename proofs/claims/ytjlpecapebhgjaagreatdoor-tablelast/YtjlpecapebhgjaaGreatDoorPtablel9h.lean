/- Walks of Delete. The library's contracts, as theorems of this program. Entries are sorted by their places. Tables: their buckets, one by one. Walks of the keys of a table. The law of what was set last: what the table holds, told by two rows of numbers. Walks of Len, of the law's lists, and keys by state. Walks of the fixed fact, and of TableNil. The walk of TableLast. Transcoders that come in as arguments. Rows of bytes that come in as arguments; the first part of a row, and of a text. Rows of truth values that come in as arguments. -/
import Derived.Test.YtjlpecapebhgjaaGreatDoorPtablel9g
import Derived.Shelf.Strings.Builder1
import Derived.Shelf.Small.Utf8
import Derived.Shelf.Small.Bits
import Derived.Shelf.Small.Strs
import Derived.Shelf.Strings.BuilderF
import Derived.Shelf.Strings.BuilderK
import Derived.Shelf.Strings.BuilderRune
import Derived.Shelf.Utf8.AppendRunePlain
import Derived.Shelf.Strconv.Itoa0
import Derived.Shelf.LaysM
import Derived.Shelf.Strconv.Clone
import Derived.Ground.Names2Prog
import Derived.Shelf.Slices.SearchI
import Derived.Ground.SlgnProg
import Derived.Shelf.SlicesE.Clone
import Derived.Shelf.SlGeneric
import Derived.Ground.SlsfProg
import Derived.Shelf.SlSortCmp.NoneTotal
import Derived.Test.YtjlpecapebhgjaaGreatDoorProg
import Derived.WalkKit
import Derived.Test.YtjlpecapebhgjaaGreatDoorPtablel9f
import Derived.Test.YtjlpecapebhgjaaGreatDoorPtablel9d
import Derived.ProofKit
import Derived.OpenShut
import Derived.ChangeOld
import Derived.Lib.SmallJoins
import Derived.Deep.Strs
import Derived.ChangeArms
namespace Go.Proofs.YtjlpecapebhgjaaGreatDoor.G
open Go.RowKit
set_option linter.unusedVariables false
set_option linter.unusedSimpArgs false
set_option maxRecDepth 100000
theorem TeI_is1_3 : Is1 Tryz.prog 3 := ⟨⟨_, Tryz.underlying3, rfl⟩, by kernel_rfl⟩
theorem TeI_is1_64 : Is1 Tryz.prog 64 := ⟨⟨_, Tryz.underlying64, rfl⟩, by kernel_rfl⟩
theorem TeI_is1_67 : Is1 Tryz.prog 67 := ⟨⟨_, Tryz.underlying67, rfl⟩, by kernel_rfl⟩
theorem TeI_fld_66_1 : FieldAt Tryz.prog 66 1 1 := ⟨_, _, Tryz.underlying66, rfl, rfl, by kernel_rfl⟩
theorem TeI_fld_66_2 : FieldAt Tryz.prog 66 2 2 := ⟨_, _, Tryz.underlying66, rfl, rfl, by kernel_rfl⟩
theorem TeI_fld_69_0 : FieldAt Tryz.prog 69 0 0 := ⟨_, _, Tryz.underlying69, rfl, rfl, by kernel_rfl⟩
theorem TeI_fld_69_1 : FieldAt Tryz.prog 69 1 1 := ⟨_, _, Tryz.underlying69, rfl, rfl, by kernel_rfl⟩
theorem TeI_isS_38 : IsS Tryz.prog 38 11 := ⟨⟨_, Tryz.underlying38⟩, by kernel_rfl⟩
theorem TeI_isS_69 : IsS Tryz.prog 69 2 := ⟨⟨_, Tryz.underlying69⟩, by kernel_rfl⟩
theorem qxa {w0 w : World} {gg ca i : Nat} {xs : List Et} {X : List Ck} (hi : i < xs.length) (hxl : xs.length ≤ 1000000) (hM0 : Mg w0 w (.row 74 23 (.slice (some ⟨gg, 0, none⟩) xs.length ca) xs.length (zk Et.c xs) :: X)) : Calls Tryz.prog 60 #[.slice (some ⟨gg, 0, none⟩) xs.length ca, .int .i64 ((i : Nat) : Int), .int .i64 ((i + 1 : Nat) : Int)] w fun e w' => e = .returned (.slice (some ⟨gg, 0, none⟩) (xs.length - 1) ca) ∧ Mg w0 w' (.row 74 23 (.slice (some ⟨gg, 0, none⟩) (xs.length - 1) ca) (xs.length - 1) (zk Et.c (xs.eraseIdx i)) :: X) := by
 have hcap := qrh (hM0.has 0 rfl)
 have M : Mg w0 w (.row 74 23 (.slice (some ⟨gg, 0, none⟩) xs.length ca) xs.length (zk Et.c xs) :: X) := hM0
 refine qs (l := [(0, .slice (some ⟨gg, 0, none⟩) xs.length ca), (1, .int .i64 (((i : Nat) : Int))), (2, .int .i64 (((i + 1 : Nat) : Int)))]) Tryz.func60 rfl Tryz.ntmps60 rfl rfl ?_
 intro Q hret hnorm hP a H
 refine wsk fun K1 hK1 => wrl (sda H λa H↦?_)
 refine qa (hK1 _ _ (wsk fun K2 hK2 => wrl ?_))
 iterate 4 refine sdm H λa H↦?_
 refine sdo H (qy Tryz.underlying75 rfl) λa H↦?_
 refine sdo (v := .slice (if xs.length = i then some ⟨gg, 0, none⟩ else (some ⟨gg, 0, none⟩ : Option Addr).map (·.add (i * 23))) (i + 1 - i) (xs.length - i)) H (ztg (lo := i) (hi := i + 1) (mx := xs.length) Tryz.underlying75 (by kernel_rfl) rfl rfl rfl rfl rfl rfl rfl (by omega) (by omega) (by omega)) λa H↦?_
 refine qa (hK2 _ _ (wsk fun K3 hK3 => wsk fun K4 hK4 => wrl ?_))
 iterate 2 refine sdm H λa H↦?_
 refine sdo (v := .bool false) H (qg rfl rfl (fun w => (qm w).trans (by rw [show ((((i : Nat) : Int) == ((i + 1 : Nat) : Int))) = false from (beq_false_of_ne (by omega))]))) λa H↦?_
 refine qa (hK4 _ _ (wp_cond_false (H.ev rfl) ?_))
 refine wp_skip (hK3 _ _ (wsk fun K5 hK5 => wrl (sdm H λa H↦?_)))
 refine sdo H (qy Tryz.underlying75 rfl) λa H↦?_
 refine sda H λa H↦?_
 refine qa (hK5 _ _ (wsk fun K6 hK6 => jh (S := fun w1 => Mg w0 w1 ([])) (by kernel_rfl) ?_))
 replace M := M.drew
 refine qe H 0 rfl rfl rfl rfl hP (M.sub (cn (List.nil_sublist _))) (fun w1 M => qp rfl) λa H↦?_
 refine qe H 1 rfl rfl rfl rfl hP (M.sub (cn (List.nil_sublist _))) (fun w1 M => qp rfl) λa H↦?_
 refine qe (v := .slice (some ⟨gg, 0, none⟩) i ca) H 2 rfl rfl rfl rfl hP (M.sub (cn (List.nil_sublist _))) (fun w1 M => zec (sz := 23) (hi := i) Tryz.underlying75 (by kernel_rfl) rfl rfl rfl (by omega)) λa H↦?_
 refine qe H 3 rfl rfl rfl rfl hP (M.sub (cn (List.nil_sublist _))) (fun w1 M => qp rfl) λa H↦?_
 refine qe H 4 rfl rfl rfl rfl hP (M.sub (cn (List.nil_sublist _))) (fun w1 M => qp rfl) λa H↦?_
 refine qe (v := .slice ((if ca = i + 1 then some ⟨gg, 0, none⟩ else (some ⟨gg, 0, none⟩ : Option Addr).map (·.add ((i + 1) * 23)))) ((xs.length - (i + 1))) ((ca - (i + 1)))) H 5 rfl rfl rfl rfl hP (M.sub (cn (List.nil_sublist _))) (fun w1 M => qra (lo := i + 1) Tryz.underlying75 (by kernel_rfl) rfl rfl rfl (by omega)) λa H↦?_
 refine qh (by kernel_rfl) (zzg (v := .slice (some ⟨gg, 0, none⟩) ((xs.length - 1)) ca) (L' := (.row 74 23 (.slice (some ⟨gg, 0, none⟩) ((xs.length - 1)) ca) ((xs.length - 1)) ((zk Et.c xs).take (i * 23) ++ (zk Et.c xs).drop ((i + 1) * 23)) :: X)) H 6 rfl rfl rfl rfl (zxi Tryz.underlying75 (by kernel_rfl) rfl M 0 rfl hcap hi rfl rfl (fun hne => by rw [if_neg (by omega), Option.map_some, xf, Nat.zero_add]) (zag xs)) ?_)
 intro w7 M
 refine ⟨(M.sub (cn (List.nil_sublist _))), ?_⟩
 intro a H
 refine qe H 7 rfl rfl rfl rfl hP (M.sub (cn (List.nil_sublist _))) (fun w1 M => jf rfl) λa H↦?_
 refine ze (by kernel_rfl) ?_
 refine hK6 _ _ (wsk fun K8 hK8 => wrl ?_)
 iterate 2 refine sdm H λa H↦?_
 refine sdo H (qy Tryz.underlying75 rfl) λa H↦?_
 refine sdm H λa H↦?_
 refine sdo (v := .slice (some ⟨gg, (xs.length - 1) * 23, none⟩) 1 ((ca - (xs.length - 1)))) H (zod (lo := xs.length - 1) (hi := xs.length) (m := 1) Tryz.underlying75 (by kernel_rfl) rfl rfl rfl rfl rfl (by omega) (by omega) (by omega) (by omega)) λa H↦?_
 refine ztj H rfl rfl (ztf (z := .agg #[.int .i64 0, .int .i64 0, .int .i64 0, .bool false, .slice none 0 0, .slice none 0 0, .bool false, .slice none 0 0, .slice none 0 0, .string (⟨#[]⟩), .slice none 0 0, .slice none 0 0, .int .i64 0, .int .i64 0, .bool false, .slice none 0 0, .slice none 0 0, .bool false, .slice none 0 0, .slice none 0 0, .string (⟨#[]⟩), .slice none 0 0, .slice none 0 0]) (by_ := 392) Tryz.underlying75 (by kernel_rfl) rfl (fun u hu => List.all_eq_true.1 (show ((Builtin.zeroCells (.agg #[.int .i64 0, .int .i64 0, .int .i64 0, .bool false, .slice none 0 0, .slice none 0 0, .bool false, .slice none 0 0, .slice none 0 0, .string (⟨#[]⟩), .slice none 0 0, .slice none 0 0, .int .i64 0, .int .i64 0, .bool false, .slice none 0 0, .slice none 0 0, .bool false, .slice none 0 0, .slice none 0 0, .string (⟨#[]⟩), .slice none 0 0, .slice none 0 0] : Value).cells 1).toList).all Value.oneCell' = true by kernel_rfl) u hu) M 0 rfl (by omega) rfl) ?_
 intro w9 M
 refine qa (hK8 _ _ (wsk fun K10 hK10 => wrl (sdm H λa H↦?_)))
 refine sda H λa H↦?_
 refine qa (hK10 _ _ (wp_ret (hret _ _ (en1 H rfl (qj rfl) ?_))))
 rw [zxj] at M
 exact ⟨rfl, M⟩
section
variable {P : Program} {w0 w : World} {L : List Ck} {l : List (Nat × Value)} {ops : List Oper} {Q : Exit → Act → World → Prop} {a : Act} {n : Nat} {o : Oper} {rest : List Oper} {d : Nat} {S : World → Prop} {md : Region.Mode} {fuel : Nat} {listed : Array Bool}
theorem zya (H : Sl a n l) (i : Nat) (hi : ops[i]? = some o) (hg : zn l ops o = true) (hdst : o.dst = none) {v : Value} {w' : World} (he : Does P l o w v w') (V : S w') (hk : wpAnyH P md ops.toArray Q S fuel (listed.setIfInBounds i true) a w') : wpOp P ops.toArray Q i (fun a' w' => S w' ∧ wpAnyH P md ops.toArray Q S fuel (listed.setIfInBounds i true) a' w') a w := by
 unfold wpOp
 simp only [List.getElem?_toArray, hi]
 rw [if_pos (H.wanted hg)]
 refine .inl ?_
 unfold Oper.wp
 rw [he a.eval (fun x u hx => H.ev hx), Oper.upon_value, hdst]
 exact ⟨V, hk⟩
theorem zyb (H : Sl a n l) (M : Mg w0 w L) (i : Nat) (hi : ops[i]? = some o) (hg : zn l ops o = true) (hdst : o.dst = none) {v : Value} {g : Nat} {o1 o2 : Obj} (he : Does P l o w v (Go.ChangeMaps.setBlock w g o2)) (k : Nat) (hk0 : L[k]? = some (.obj g o1)) (hq : qab o2) {L' : List Ck} (hL : L.set k (.obj g o2) = L')
  (hk : ∀ w', Mg w0 w' L' → S w' ∧ wpAnyH P md ops.toArray Q S fuel (listed.setIfInBounds i true) a w') : wpOp P ops.toArray Q i (fun a' w' => S w' ∧ wpAnyH P md ops.toArray Q S fuel (listed.setIfInBounds i true) a' w') a w := by
 have h := hk _ (hL ▸ M.setObj k hk0 hq)
 exact zya H i hi hg hdst he h.1 h.2
end
theorem zah {w0 w : World} {kind : Int} {g m count last ck gg ca i : Nat} {es : List En} {xs : List Et} {X : List Ck} {h : Int} {en : En} (hold : atK h es = some en) (hv9 : en.v = .slice (some ⟨gg, 0, none⟩) xs.length ca) (hX : jk X) (hc0 : 1 ≤ count) (hc : count ≤ 1000000) (hi : i < xs.length) (hxl : xs.length ≤ 1000000) (h1 : xs.length = 1) (hM0 : Mg w0 w (.obj g (.cells #[.int .i64 kind, .map (some m), .int .i64 (((count : Nat) : Int)), .int .i64 (((last : Nat) : Int))] 66) :: .obj m (zi es ck) :: .row 74 23 (.slice (some ⟨gg, 0, none⟩) xs.length ca) xs.length (zk Et.c xs) :: X)) : Calls Tryz.prog 33 #[.pointer (some ⟨g, 0, none⟩), .agg #[.int .u64 h, .int .i64 ((i : Nat) : Int)]] w fun e w' => e = .returned (.tuple #[]) ∧ Mg w0 w' (.obj g (.cells #[.int .i64 kind, .map (some m), .int .i64 (((count - 1 : Nat) : Int)), .int .i64 (((last : Nat) : Int))] 66) :: .obj m (zi (qjf h es) ck) :: X) := by
 have M : Mg w0 w (.obj g (.cells #[.int .i64 kind, .map (some m), .int .i64 (((count : Nat) : Int)), .int .i64 (((last : Nat) : Int))] 66) :: .obj m (zi es ck) :: .row 74 23 (.slice (some ⟨gg, 0, none⟩) xs.length ca) xs.length (zk Et.c xs) :: X) := hM0
 refine qs (l := [(0, .pointer (some ⟨g, 0, none⟩)), (1, .agg #[.int .u64 h, .int .i64 (((i : Nat) : Int))])]) Tryz.func33 rfl Tryz.ntmps33 rfl rfl ?_
 intro Q hret hnorm hP a H
 refine wsk fun K1 hK1 => wrl (zx (vs := [.int .u64 h, .int .i64 (((i : Nat) : Int))]) (t := 69) H M rfl rfl rfl pg (qr rfl rfl) (by decide) ?_)
 intro g2 w3 M a H
 refine qa (hK1 _ _ (wsk fun K4 hK4 => wrl (sdm H λa H↦?_)))
 refine sdo H (zf rfl) λa H↦?_
 refine sdo (v := .pointer (some ⟨g, 2, none⟩)) H (qb TeI_fld_66_2 rfl rfl) λa H↦?_
 refine sdo H (qk M TeI_is1_3 rfl 1 rfl rfl) λa H↦?_
 refine sdo (v := .int .i64 (((count - 1 : Nat) : Int))) H (qg rfl rfl (ar_sub ((in_i64 (by omega) (by omega)).trans (by omega)))) λa H↦?_
 refine sdo H (zf rfl) λa H↦?_
 refine sdo (v := .pointer (some ⟨g, 2, none⟩)) H (qb TeI_fld_66_2 rfl rfl) λa H↦?_
 refine zr (us := [.int .i64 kind, .map (some m), .int .i64 (((count - 1 : Nat) : Int)), .int .i64 (((last : Nat) : Int))]) (L' := (.obj g2 (.cells #[.int .u64 h, .int .i64 (((i : Nat) : Int))] 69) :: .obj g (.cells #[.int .i64 kind, .map (some m), .int .i64 (((count - 1 : Nat) : Int)), .int .i64 (((last : Nat) : Int))] 66) :: .obj m (zi es ck) :: .row 74 23 (.slice (some ⟨gg, 0, none⟩) xs.length ca) xs.length (zk Et.c xs) :: X)) H M rfl rfl (za rfl rfl rfl (by kernel_rfl) M 1 rfl rfl rfl) 1 rfl rfl rfl ?_
 intro w5 M
 refine qa (hK4 _ _ (wsk fun K6 hK6 => jh (S := fun w1 => Mg w0 w1 (.obj g2 (.cells #[.int .u64 h, .int .i64 (((i : Nat) : Int))] 69) :: .obj g (.cells #[.int .i64 kind, .map (some m), .int .i64 (((count - 1 : Nat) : Int)), .int .i64 (((last : Nat) : Int))] 66) :: [])) (by kernel_rfl) ?_))
 replace M := M.drew
 refine qe H 0 rfl rfl rfl rfl hP (M.sub (cc (cc (cn (cn (List.nil_sublist _)))))) (fun w1 M => qp rfl) λa H↦?_
 refine qe H 1 rfl rfl rfl rfl hP (M.sub (cc (cc (cn (cn (List.nil_sublist _)))))) (fun w1 M => zf rfl) λa H↦?_
 refine qe (v := .pointer (some ⟨g, 1, none⟩)) H 2 rfl rfl rfl rfl hP (M.sub (cc (cc (cn (cn (List.nil_sublist _)))))) (fun w1 M => qb TeI_fld_66_1 rfl rfl) λa H↦?_
 refine qe H 3 rfl rfl rfl rfl hP (M.sub (cc (cc (cn (cn (List.nil_sublist _)))))) (fun w1 M => qk M TeI_is1_64 rfl 1 rfl rfl) λa H↦?_
 refine qe (v := .pointer (some ⟨g2, 0, none⟩)) H 4 rfl rfl rfl rfl hP (M.sub (cc (cc (cn (cn (List.nil_sublist _)))))) (fun w1 M => qb TeI_fld_69_0 rfl rfl) λa H↦?_
 refine qe H 5 rfl rfl rfl rfl hP (M.sub (cc (cc (cn (cn (List.nil_sublist _)))))) (fun w1 M => qk M TeI_is1_67 rfl 0 rfl rfl) λa H↦?_
 refine qe (v := .pointer (some ⟨g2, 1, none⟩)) H 7 rfl rfl rfl rfl hP (M.sub (cc (cc (cn (cn (List.nil_sublist _)))))) (fun w1 M => qb TeI_fld_69_1 rfl rfl) λa H↦?_
 refine qe H 8 rfl rfl rfl rfl hP (M.sub (cc (cc (cn (cn (List.nil_sublist _)))))) (fun w1 M => qk M TeI_is1_3 rfl 0 rfl rfl) λa H↦?_
 refine qe (v := .pointer (some ⟨g2, 1, none⟩)) H 9 rfl rfl rfl rfl hP (M.sub (cc (cc (cn (cn (List.nil_sublist _)))))) (fun w1 M => qb TeI_fld_69_1 rfl rfl) λa H↦?_
 refine qe H 10 rfl rfl rfl rfl hP (M.sub (cc (cc (cn (cn (List.nil_sublist _)))))) (fun w1 M => qk M TeI_is1_3 rfl 0 rfl rfl) λa H↦?_
 refine qe (v := .int .i64 (((i + 1 : Nat) : Int))) H 11 rfl rfl rfl rfl hP (M.sub (cc (cc (cn (cn (List.nil_sublist _)))))) (fun w1 M => qg rfl rfl (ar_add ((in_i64 (by omega) (by omega)).trans (by omega)))) λa H↦?_
 refine qh (by kernel_rfl) (xz (v := .slice (some ⟨gg, 0, none⟩) xs.length ca) H 6 rfl rfl rfl rfl (ug M Tryz.underlying64 Tryz.underlying67 rfl rfl 2 rfl hold hv9.symm) (M.sub (cc (cc (cn (cn (List.nil_sublist _)))))) ?_)
 intro a H
 replace M := M.b3
 refine qh (by kernel_rfl) (qn H 12 rfl rfl rfl rfl (qi rfl rfl (fun w => by kernel_rfl)) (qxa (X := (.obj g2 (.cells #[.int .u64 h, .int .i64 (((i : Nat) : Int))] 69) :: .obj g (.cells #[.int .i64 kind, .map (some m), .int .i64 (((count - 1 : Nat) : Int)), .int .i64 (((last : Nat) : Int))] 66) :: .obj m (zi es ck) :: X)) hi hxl M) ?_)
 rintro _ w7 ⟨rfl, hM9⟩
 replace M : Mg w0 w7 (.row 74 23 (.slice (some ⟨gg, 0, none⟩) ((xs.length - 1)) ca) ((xs.length - 1)) (zk Et.c (xs.eraseIdx i)) :: .obj g2 (.cells #[.int .u64 h, .int .i64 (((i : Nat) : Int))] 69) :: .obj g (.cells #[.int .i64 kind, .map (some m), .int .i64 (((count - 1 : Nat) : Int)), .int .i64 (((last : Nat) : Int))] 66) :: .obj m (zi es ck) :: X) := hM9
 refine ⟨_, rfl, (M.sub (cn (cc (cc (cn (List.nil_sublist _)))))), ?_⟩
 intro a H
 refine qe H 13 rfl rfl rfl rfl hP (M.sub (cn (cc (cc (cn (List.nil_sublist _)))))) (fun w1 M => jf rfl) λa H↦?_
 refine ze (by kernel_rfl) ?_
 refine hK6 _ _ (wsk fun K8 hK8 => wsk fun K9 hK9 => wrl (sdm H λa H↦?_))
 refine sdo H (qy Tryz.underlying75 rfl) λa H↦?_
 refine sdo (v := .bool true) H (qg rfl rfl (fun w => (qm w).trans (by rw [show (((((xs.length - 1) : Nat) : Int) == 0)) = true from (beq_iff_eq.2 (by omega))]))) λa H↦?_
 refine qa (hK9 _ _ (wp_cond_true (H.ev rfl) ?_))
 refine wsk fun K10 hK10 => jh (S := fun w1 => Mg w0 w1 (.obj g2 (.cells #[.int .u64 h, .int .i64 (((i : Nat) : Int))] 69) :: .obj g (.cells #[.int .i64 kind, .map (some m), .int .i64 (((count - 1 : Nat) : Int)), .int .i64 (((last : Nat) : Int))] 66) :: [])) (by kernel_rfl) ?_
 replace M := M.drew
 refine qe H 0 rfl rfl rfl rfl hP (M.sub (cn (cc (cc (cn (List.nil_sublist _)))))) (fun w1 M => qp rfl) λa H↦?_
 refine qe H 1 rfl rfl rfl rfl hP (M.sub (cn (cc (cc (cn (List.nil_sublist _)))))) (fun w1 M => zf rfl) λa H↦?_
 refine qe (v := .pointer (some ⟨g, 1, none⟩)) H 2 rfl rfl rfl rfl hP (M.sub (cn (cc (cc (cn (List.nil_sublist _)))))) (fun w1 M => qb TeI_fld_66_1 rfl rfl) λa H↦?_
 refine qe H 3 rfl rfl rfl rfl hP (M.sub (cn (cc (cc (cn (List.nil_sublist _)))))) (fun w1 M => qk M TeI_is1_64 rfl 1 rfl rfl) λa H↦?_
 refine qe (v := .pointer (some ⟨g2, 0, none⟩)) H 4 rfl rfl rfl rfl hP (M.sub (cn (cc (cc (cn (List.nil_sublist _)))))) (fun w1 M => qb TeI_fld_69_0 rfl rfl) λa H↦?_
 refine qe H 5 rfl rfl rfl rfl hP (M.sub (cn (cc (cc (cn (List.nil_sublist _)))))) (fun w1 M => qk M TeI_is1_67 rfl 0 rfl rfl) λa H↦?_
 refine qh (by kernel_rfl) (zyb (L' := (.row 74 23 (.slice (some ⟨gg, 0, none⟩) ((xs.length - 1)) ca) ((xs.length - 1)) (zk Et.c (xs.eraseIdx i)) :: .obj g2 (.cells #[.int .u64 h, .int .i64 (((i : Nat) : Int))] 69) :: .obj g (.cells #[.int .i64 kind, .map (some m), .int .i64 (((count - 1 : Nat) : Int)), .int .i64 (((last : Nat) : Int))] 66) :: .obj m (zi (qjf h es) ck) :: X)) H M 6 rfl rfl rfl (zlb M Tryz.underlying64 Tryz.underlying67 rfl rfl 3 rfl hold) 3 rfl (xp _ _) rfl ?_)
 intro w11 M
 refine ⟨(M.sub (cn (cc (cc (cn (List.nil_sublist _)))))), ?_⟩
 refine ze (by kernel_rfl) ?_
 refine hK10 _ _ (wp_ret (hret _ _ (qac (v := .tuple #[]) H rfl .nil rfl ?_)))
 replace M := M.b3
 replace M := M.b3
 replace M := M.sub (cc (cc (cn (cn (.refl _)))))
 exact ⟨rfl, M⟩
theorem qxb {w0 w : World} {kind : Int} {g m count last ck gg ca i : Nat} {es : List En} {xs : List Et} {X : List Ck} {h : Int} {en : En} (hold : atK h es = some en) (hv9 : en.v = .slice (some ⟨gg, 0, none⟩) xs.length ca) (hX : jk X) (hc0 : 1 ≤ count) (hc : count ≤ 1000000) (hi : i < xs.length) (hxl : xs.length ≤ 1000000) (h1 : xs.length ≠ 1) (hM0 : Mg w0 w (.obj g (.cells #[.int .i64 kind, .map (some m), .int .i64 (((count : Nat) : Int)), .int .i64 (((last : Nat) : Int))] 66) :: .obj m (zi es ck) :: .row 74 23 (.slice (some ⟨gg, 0, none⟩) xs.length ca) xs.length (zk Et.c xs) :: X)) : Calls Tryz.prog 33 #[.pointer (some ⟨g, 0, none⟩), .agg #[.int .u64 h, .int .i64 ((i : Nat) : Int)]] w fun e w' => e = .returned (.tuple #[]) ∧ Mg w0 w' (.obj g (.cells #[.int .i64 kind, .map (some m), .int .i64 (((count - 1 : Nat) : Int)), .int .i64 (((last : Nat) : Int))] 66) :: .obj m (zi (un h (.slice (some ⟨gg, 0, none⟩) (xs.length - 1) ca) es) ck) :: .row 74 23 (.slice (some ⟨gg, 0, none⟩) ((xs.length - 1)) ca) ((xs.length - 1)) (zk Et.c (xs.eraseIdx i)) :: X) := by
 have M : Mg w0 w (.obj g (.cells #[.int .i64 kind, .map (some m), .int .i64 (((count : Nat) : Int)), .int .i64 (((last : Nat) : Int))] 66) :: .obj m (zi es ck) :: .row 74 23 (.slice (some ⟨gg, 0, none⟩) xs.length ca) xs.length (zk Et.c xs) :: X) := hM0
 refine qs (l := [(0, .pointer (some ⟨g, 0, none⟩)), (1, .agg #[.int .u64 h, .int .i64 (((i : Nat) : Int))])]) Tryz.func33 rfl Tryz.ntmps33 rfl rfl ?_
 intro Q hret hnorm hP a H
 refine wsk fun K1 hK1 => wrl (zx (vs := [.int .u64 h, .int .i64 (((i : Nat) : Int))]) (t := 69) H M rfl rfl rfl pg (qr rfl rfl) (by decide) ?_)
 intro g2 w3 M a H
 refine qa (hK1 _ _ (wsk fun K4 hK4 => wrl (sdm H λa H↦?_)))
 refine sdo H (zf rfl) λa H↦?_
 refine sdo (v := .pointer (some ⟨g, 2, none⟩)) H (qb TeI_fld_66_2 rfl rfl) λa H↦?_
 refine sdo H (qk M TeI_is1_3 rfl 1 rfl rfl) λa H↦?_
 refine sdo (v := .int .i64 (((count - 1 : Nat) : Int))) H (qg rfl rfl (ar_sub ((in_i64 (by omega) (by omega)).trans (by omega)))) λa H↦?_
 refine sdo H (zf rfl) λa H↦?_
 refine sdo (v := .pointer (some ⟨g, 2, none⟩)) H (qb TeI_fld_66_2 rfl rfl) λa H↦?_
 refine zr (us := [.int .i64 kind, .map (some m), .int .i64 (((count - 1 : Nat) : Int)), .int .i64 (((last : Nat) : Int))]) (L' := (.obj g2 (.cells #[.int .u64 h, .int .i64 (((i : Nat) : Int))] 69) :: .obj g (.cells #[.int .i64 kind, .map (some m), .int .i64 (((count - 1 : Nat) : Int)), .int .i64 (((last : Nat) : Int))] 66) :: .obj m (zi es ck) :: .row 74 23 (.slice (some ⟨gg, 0, none⟩) xs.length ca) xs.length (zk Et.c xs) :: X)) H M rfl rfl (za rfl rfl rfl (by kernel_rfl) M 1 rfl rfl rfl) 1 rfl rfl rfl ?_
 intro w5 M
 refine qa (hK4 _ _ (wsk fun K6 hK6 => jh (S := fun w1 => Mg w0 w1 (.obj g2 (.cells #[.int .u64 h, .int .i64 (((i : Nat) : Int))] 69) :: .obj g (.cells #[.int .i64 kind, .map (some m), .int .i64 (((count - 1 : Nat) : Int)), .int .i64 (((last : Nat) : Int))] 66) :: [])) (by kernel_rfl) ?_))
 replace M := M.drew
 refine qe H 0 rfl rfl rfl rfl hP (M.sub (cc (cc (cn (cn (List.nil_sublist _)))))) (fun w1 M => qp rfl) λa H↦?_
 refine qe H 1 rfl rfl rfl rfl hP (M.sub (cc (cc (cn (cn (List.nil_sublist _)))))) (fun w1 M => zf rfl) λa H↦?_
 refine qe (v := .pointer (some ⟨g, 1, none⟩)) H 2 rfl rfl rfl rfl hP (M.sub (cc (cc (cn (cn (List.nil_sublist _)))))) (fun w1 M => qb TeI_fld_66_1 rfl rfl) λa H↦?_
 refine qe H 3 rfl rfl rfl rfl hP (M.sub (cc (cc (cn (cn (List.nil_sublist _)))))) (fun w1 M => qk M TeI_is1_64 rfl 1 rfl rfl) λa H↦?_
 refine qe (v := .pointer (some ⟨g2, 0, none⟩)) H 4 rfl rfl rfl rfl hP (M.sub (cc (cc (cn (cn (List.nil_sublist _)))))) (fun w1 M => qb TeI_fld_69_0 rfl rfl) λa H↦?_
 refine qe H 5 rfl rfl rfl rfl hP (M.sub (cc (cc (cn (cn (List.nil_sublist _)))))) (fun w1 M => qk M TeI_is1_67 rfl 0 rfl rfl) λa H↦?_
 refine qe (v := .pointer (some ⟨g2, 1, none⟩)) H 7 rfl rfl rfl rfl hP (M.sub (cc (cc (cn (cn (List.nil_sublist _)))))) (fun w1 M => qb TeI_fld_69_1 rfl rfl) λa H↦?_
 refine qe H 8 rfl rfl rfl rfl hP (M.sub (cc (cc (cn (cn (List.nil_sublist _)))))) (fun w1 M => qk M TeI_is1_3 rfl 0 rfl rfl) λa H↦?_
 refine qe (v := .pointer (some ⟨g2, 1, none⟩)) H 9 rfl rfl rfl rfl hP (M.sub (cc (cc (cn (cn (List.nil_sublist _)))))) (fun w1 M => qb TeI_fld_69_1 rfl rfl) λa H↦?_
 refine qe H 10 rfl rfl rfl rfl hP (M.sub (cc (cc (cn (cn (List.nil_sublist _)))))) (fun w1 M => qk M TeI_is1_3 rfl 0 rfl rfl) λa H↦?_
 refine qe (v := .int .i64 (((i + 1 : Nat) : Int))) H 11 rfl rfl rfl rfl hP (M.sub (cc (cc (cn (cn (List.nil_sublist _)))))) (fun w1 M => qg rfl rfl (ar_add ((in_i64 (by omega) (by omega)).trans (by omega)))) λa H↦?_
 refine qh (by kernel_rfl) (xz (v := .slice (some ⟨gg, 0, none⟩) xs.length ca) H 6 rfl rfl rfl rfl (ug M Tryz.underlying64 Tryz.underlying67 rfl rfl 2 rfl hold hv9.symm) (M.sub (cc (cc (cn (cn (List.nil_sublist _)))))) ?_)
 intro a H
 replace M := M.b3
 refine qh (by kernel_rfl) (qn H 12 rfl rfl rfl rfl (qi rfl rfl (fun w => by kernel_rfl)) (qxa (X := (.obj g2 (.cells #[.int .u64 h, .int .i64 (((i : Nat) : Int))] 69) :: .obj g (.cells #[.int .i64 kind, .map (some m), .int .i64 (((count - 1 : Nat) : Int)), .int .i64 (((last : Nat) : Int))] 66) :: .obj m (zi es ck) :: X)) hi hxl M) ?_)
 rintro _ w7 ⟨rfl, hM9⟩
 replace M : Mg w0 w7 (.row 74 23 (.slice (some ⟨gg, 0, none⟩) ((xs.length - 1)) ca) ((xs.length - 1)) (zk Et.c (xs.eraseIdx i)) :: .obj g2 (.cells #[.int .u64 h, .int .i64 (((i : Nat) : Int))] 69) :: .obj g (.cells #[.int .i64 kind, .map (some m), .int .i64 (((count - 1 : Nat) : Int)), .int .i64 (((last : Nat) : Int))] 66) :: .obj m (zi es ck) :: X) := hM9
 refine ⟨_, rfl, (M.sub (cn (cc (cc (cn (List.nil_sublist _)))))), ?_⟩
 intro a H
 refine qe H 13 rfl rfl rfl rfl hP (M.sub (cn (cc (cc (cn (List.nil_sublist _)))))) (fun w1 M => jf rfl) λa H↦?_
 refine ze (by kernel_rfl) ?_
 refine hK6 _ _ (wsk fun K8 hK8 => wsk fun K9 hK9 => wrl (sdm H λa H↦?_))
 refine sdo H (qy Tryz.underlying75 rfl) λa H↦?_
 refine sdo (v := .bool false) H (qg rfl rfl (fun w => (qm w).trans (by rw [show (((((xs.length - 1) : Nat) : Int) == 0)) = false from (beq_eq_false_iff_ne.2 (by omega))]))) λa H↦?_
 refine qa (hK9 _ _ (wp_cond_false (H.ev rfl) ?_))
 refine wp_skip (hK8 _ _ (jh (S := fun w1 => Mg w0 w1 (.obj g2 (.cells #[.int .u64 h, .int .i64 (((i : Nat) : Int))] 69) :: .obj g (.cells #[.int .i64 kind, .map (some m), .int .i64 (((count - 1 : Nat) : Int)), .int .i64 (((last : Nat) : Int))] 66) :: [])) (by kernel_rfl) ?_))
 replace M := M.drew
 refine qe H 0 rfl rfl rfl rfl hP (M.sub (cn (cc (cc (cn (List.nil_sublist _)))))) (fun w1 M => qp rfl) λa H↦?_
 refine qe H 1 rfl rfl rfl rfl hP (M.sub (cn (cc (cc (cn (List.nil_sublist _)))))) (fun w1 M => zf rfl) λa H↦?_
 refine qe (v := .pointer (some ⟨g, 1, none⟩)) H 2 rfl rfl rfl rfl hP (M.sub (cn (cc (cc (cn (List.nil_sublist _)))))) (fun w1 M => qb TeI_fld_66_1 rfl rfl) λa H↦?_
 refine qe H 3 rfl rfl rfl rfl hP (M.sub (cn (cc (cc (cn (List.nil_sublist _)))))) (fun w1 M => qk M TeI_is1_64 rfl 1 rfl rfl) λa H↦?_
 refine qe (v := .pointer (some ⟨g2, 0, none⟩)) H 4 rfl rfl rfl rfl hP (M.sub (cn (cc (cc (cn (List.nil_sublist _)))))) (fun w1 M => qb TeI_fld_69_0 rfl rfl) λa H↦?_
 refine qe H 5 rfl rfl rfl rfl hP (M.sub (cn (cc (cc (cn (List.nil_sublist _)))))) (fun w1 M => qk M TeI_is1_67 rfl 0 rfl rfl) λa H↦?_
 refine qe H 6 rfl rfl rfl rfl hP (M.sub (cn (cc (cc (cn (List.nil_sublist _)))))) (fun w1 M => qp rfl) λa H↦?_
 refine qh (by kernel_rfl) (kb (L' := (.row 74 23 (.slice (some ⟨gg, 0, none⟩) ((xs.length - 1)) ca) ((xs.length - 1)) (zk Et.c (xs.eraseIdx i)) :: .obj g2 (.cells #[.int .u64 h, .int .i64 (((i : Nat) : Int))] 69) :: .obj g (.cells #[.int .i64 kind, .map (some m), .int .i64 (((count - 1 : Nat) : Int)), .int .i64 (((last : Nat) : Int))] 66) :: .obj m (zi (un h (.slice (some ⟨gg, 0, none⟩) ((xs.length - 1)) ca) es) ck) :: X)) H M 7 rfl rfl rfl (qbb M Tryz.underlying64 Tryz.underlying67 rfl rfl rfl 3 rfl hold) 3 rfl (xp _ _) rfl ?_)
 intro w10 M
 refine ⟨(M.sub (cn (cc (cc (cn (List.nil_sublist _)))))), ?_⟩
 refine ze (by kernel_rfl) ?_
 refine hnorm _ _ (qac (v := .tuple #[]) H rfl .nil rfl ?_)
 replace M := M.b3
 replace M := M.b3
 replace M := M.sub (cc (cc (cc (cn (.refl _)))))
 exact ⟨rfl, M⟩
theorem zog {kind : Int} {mk : Tr → Tr} {ok : Tr → Bool} (hK : Marks kind mk ok) {w0 w : World} {g m count last ck : Nat} {bs : List Bk} {X : List Ck}  (hX : jk X) (hT : Tabs8 w0) (hB : ∀ w9, Mg w0 w9 (.obj g (.cells #[.int .i64 kind, .map (some m), .int .i64 (((count : Nat) : Int)), .int .i64 (((last : Nat) : Int))] 66) :: .obj m (zi (bs.map Bk.en) ck) :: X) → Tab w9 ok g kind m count last ck bs) {t : Dt} (ht : ∀ w9, Mg w0 w9 X → t.rd w9) (htb : t.tr.bulk ≤ 4000000) (hM0 : Mg w0 w (.obj g (.cells #[.int .i64 kind, .map (some m), .int .i64 (((count : Nat) : Int)), .int .i64 (((last : Nat) : Int))] 66) :: .obj m (zi (bs.map Bk.en) ck) :: X)) (hs : qz qx t.tr = true) (hok : ok t.tr = true) (hat : yj (fun e => ki (mk t.tr) (mk e.k.tr)) (xe bs (zm (mk t.tr))) = -1) : Calls Tryz.prog 14 #[.pointer (some ⟨g, 0, none⟩), .agg (t.d.cells t.ts.length).toArray] w fun e w' => e = .returned (.int .i64 7) ∧ Mg w0 w' (.obj g (.cells #[.int .i64 kind, .map (some m), .int .i64 (((count : Nat) : Int)), .int .i64 (((last : Nat) : Int))] 66) :: .obj m (zi (bs.map Bk.en) ck) :: X) := by
 have M : Mg w0 w (.obj g (.cells #[.int .i64 kind, .map (some m), .int .i64 (((count : Nat) : Int)), .int .i64 (((last : Nat) : Int))] 66) :: .obj m (zi (bs.map Bk.en) ck) :: X) := hM0
 refine qs (l := [(0, .pointer (some ⟨g, 0, none⟩)), (1, .agg (t.d.cells t.ts.length).toArray)]) Tryz.func14 rfl Tryz.ntmps14 rfl rfl ?_
 intro Q hret hnorm hP a H
 refine wsk fun K1 hK1 => wrl (zx (vs := (t.d.cells t.ts.length)) (t := 38) H M rfl rfl rfl pg (qr rfl rfl) (by decide) ?_)
 intro g2 w3 M a H
 refine sda H λa H↦?_
 refine qa (hK1 _ _ (wsk fun K4 hK4 => wrl (sdm H λa H↦?_)))
 refine sdo H (qw M TeI_isS_38 rfl 0 rfl (cs := (t.d.cells t.ts.length)) rfl rfl) λa H↦?_
 refine sct H (ef rfl rfl) (ym hK (hB _ (M.dropn 1)) (ht _ (M.dropn 3)) htb (hT.below M.bel) (so := none) (ca := 0) (ts := []) (fun k => absurd rfl k) (fun t h => by cases h) (by decide) hs rfl hok) ?_
 rintro _ w6 ⟨he8, hb5⟩
 rw [hat] at he8
 subst he8
 replace M := M.call hb5
 refine ⟨_, rfl, ?_⟩
 intro a H
 refine sdm H λa H↦?_
 iterate 2 refine sdo H (zd (vs := [.agg #[.int .u64 (zm (mk t.tr)), .int .i64 (-1)], .int .i64 0]) rfl rfl) λa H↦?_
 refine zx (vs := [.int .u64 0, .int .i64 0]) (t := 69) H M rfl rfl rfl pg (ql (z := .agg #[.int .u64 0, .int .i64 0]) (by kernel_rfl) rfl) (by decide) ?_
 intro g7 w8 M a H
 refine zr (us := [.int .u64 (zm (mk t.tr)), .int .i64 (-1)]) (L' := (.obj g7 (.cells #[.int .u64 (zm (mk t.tr)), .int .i64 (-1)] 69) :: .obj g2 (.cells (t.d.cells t.ts.length).toArray 38) :: .obj g (.cells #[.int .i64 kind, .map (some m), .int .i64 (((count : Nat) : Int)), .int .i64 (((last : Nat) : Int))] 66) :: .obj m (zi (bs.map Bk.en) ck) :: X)) H M rfl rfl (za rfl rfl rfl (by kernel_rfl) M 0 rfl rfl rfl) 0 rfl rfl rfl ?_
 intro w9 M
 refine sda H λa H↦?_
 refine qa (hK4 _ _ (wsk fun K10 hK10 => wp_block (wsk fun K11 hK11 => wrl (sdm H λa H↦?_))))
 refine sdo (v := .bool false) H (qg rfl rfl (fun w => by kernel_rfl)) λa H↦?_
 refine sda H λa H↦?_
 refine qa (hK11 _ _ (wp_cond_false (H.ev rfl) ?_))
 refine wsk fun K12 hK12 => wrl (sdo H (qw M TeI_isS_69 rfl 0 rfl (cs := [.int .u64 (zm (mk t.tr)), .int .i64 (-1)]) rfl rfl) λa H↦?_)
 refine gcl H M (ef rfl rfl) (((show decide ((0 : Int) ≤ -1) = false from rfl) ▸ vh)) fun w13 hbt M a H => ?_
 refine sdo (v := .bool true) H (je rfl jl) λa H↦?_
 refine sda H λa H↦?_
 refine qa (hK12 _ _ (wp_cond_true (H.ev rfl) ?_))
 refine wsk fun K14 hK14 => wrl (sda H λa H↦?_)
 refine qa (hK14 _ _ (wp_ret (hret _ _ (en1 H rfl (qj rfl) ?_))))
 replace M := M.b3
 replace M := M.b3
 replace M := M.sub (cc (cc (cn (cn (.refl _)))))
 exact ⟨rfl, M⟩
theorem zua {kind : Int} {mk : Tr → Tr} {ok : Tr → Bool} (hK : Marks kind mk ok) {w0 w : World} {g m count last ck : Nat} {bs : List Bk} {X : List Ck} {gg ca b0 i : Nat} {xs : List Et} {e : Et} (hX : jk X) (hT : Tabs8 w0) (hB : ∀ w9, Mg w0 w9 (.obj g (.cells #[.int .i64 kind, .map (some m), .int .i64 (((count : Nat) : Int)), .int .i64 (((last : Nat) : Int))] 66) :: .obj m (zi (bs.map Bk.en) ck) :: .row 74 23 (.slice (some ⟨gg, 0, none⟩) xs.length ca) xs.length (zk Et.c xs) :: X) → Tab w9 ok g kind m count last ck bs) {t : Dt} (ht : ∀ w9, Mg w0 w9 X → t.rd w9) (htb : t.tr.bulk ≤ 4000000) (hM0 : Mg w0 w (.obj g (.cells #[.int .i64 kind, .map (some m), .int .i64 (((count : Nat) : Int)), .int .i64 (((last : Nat) : Int))] 66) :: .obj m (zi (bs.map Bk.en) ck) :: .row 74 23 (.slice (some ⟨gg, 0, none⟩) xs.length ca) xs.length (zk Et.c xs) :: X)) (hs : qz qx t.tr = true) (hok : ok t.tr = true) (hat : yj (fun e => ki (mk t.tr) (mk e.k.tr)) (xe bs (zm (mk t.tr))) = ((i : Nat) : Int)) (hold : atK (zm (mk t.tr)) (bs.map Bk.en) = some ⟨zm (mk t.tr), .slice (some ⟨gg, 0, none⟩) xs.length ca, b0⟩) (hie : xs[i]? = some e) (hc0 : 1 ≤ count) (hc : count ≤ 1000000) (hxl : xs.length ≤ 1000000) (h1 : xs.length = 1) : Calls Tryz.prog 14 #[.pointer (some ⟨g, 0, none⟩), .agg (t.d.cells t.ts.length).toArray] w fun e w' => e = .returned (.int .i64 0) ∧ Mg w0 w' (.obj g (.cells #[.int .i64 kind, .map (some m), .int .i64 (((count - 1 : Nat) : Int)), .int .i64 (((last : Nat) : Int))] 66) :: .obj m (zi (qjf (zm (mk t.tr)) (bs.map Bk.en)) ck) :: X) := by
 have hil := (List.getElem?_eq_some_iff.1 hie).1
 have M : Mg w0 w (.obj g (.cells #[.int .i64 kind, .map (some m), .int .i64 (((count : Nat) : Int)), .int .i64 (((last : Nat) : Int))] 66) :: .obj m (zi (bs.map Bk.en) ck) :: .row 74 23 (.slice (some ⟨gg, 0, none⟩) xs.length ca) xs.length (zk Et.c xs) :: X) := hM0
 refine qs (l := [(0, .pointer (some ⟨g, 0, none⟩)), (1, .agg (t.d.cells t.ts.length).toArray)]) Tryz.func14 rfl Tryz.ntmps14 rfl rfl ?_
 intro Q hret hnorm hP a H
 refine wsk fun K1 hK1 => wrl (zx (vs := (t.d.cells t.ts.length)) (t := 38) H M rfl rfl rfl pg (qr rfl rfl) (by decide) ?_)
 intro g2 w3 M a H
 refine sda H λa H↦?_
 refine qa (hK1 _ _ (wsk fun K4 hK4 => wrl (sdm H λa H↦?_)))
 refine sdo H (qw M TeI_isS_38 rfl 0 rfl (cs := (t.d.cells t.ts.length)) rfl rfl) λa H↦?_
 refine sct H (ef rfl rfl) (ym hK (hB _ (M.dropn 1)) (ht _ (M.dropn 4)) htb (hT.below M.bel) (so := none) (ca := 0) (ts := []) (fun k => absurd rfl k) (fun t h => by cases h) (by decide) hs rfl hok) ?_
 rintro _ w6 ⟨he8, hb5⟩
 rw [hat] at he8
 subst he8
 replace M := M.call hb5
 refine ⟨_, rfl, ?_⟩
 intro a H
 refine sdm H λa H↦?_
 iterate 2 refine sdo H (zd (vs := [.agg #[.int .u64 (zm (mk t.tr)), .int .i64 (((i : Nat) : Int))], .int .i64 0]) rfl rfl) λa H↦?_
 refine zx (vs := [.int .u64 0, .int .i64 0]) (t := 69) H M rfl rfl rfl pg (ql (z := .agg #[.int .u64 0, .int .i64 0]) (by kernel_rfl) rfl) (by decide) ?_
 intro g7 w8 M a H
 refine zr (us := [.int .u64 (zm (mk t.tr)), .int .i64 (((i : Nat) : Int))]) (L' := (.obj g7 (.cells #[.int .u64 (zm (mk t.tr)), .int .i64 (((i : Nat) : Int))] 69) :: .obj g2 (.cells (t.d.cells t.ts.length).toArray 38) :: .obj g (.cells #[.int .i64 kind, .map (some m), .int .i64 (((count : Nat) : Int)), .int .i64 (((last : Nat) : Int))] 66) :: .obj m (zi (bs.map Bk.en) ck) :: .row 74 23 (.slice (some ⟨gg, 0, none⟩) xs.length ca) xs.length (zk Et.c xs) :: X)) H M rfl rfl (za rfl rfl rfl (by kernel_rfl) M 0 rfl rfl rfl) 0 rfl rfl rfl ?_
 intro w9 M
 refine sda H λa H↦?_
 refine qa (hK4 _ _ (wsk fun K10 hK10 => wp_block (wsk fun K11 hK11 => wrl (sdm H λa H↦?_))))
 refine sdo (v := .bool false) H (qg rfl rfl (fun w => by kernel_rfl)) λa H↦?_
 refine sda H λa H↦?_
 refine qa (hK11 _ _ (wp_cond_false (H.ev rfl) ?_))
 refine wsk fun K12 hK12 => wrl (sdo H (qw M TeI_isS_69 rfl 0 rfl (cs := [.int .u64 (zm (mk t.tr)), .int .i64 (((i : Nat) : Int))]) rfl rfl) λa H↦?_)
 refine gcl H M (ef rfl rfl) (((show decide ((0 : Int) ≤ ((i : Nat) : Int)) = true from decide_eq_true (by omega)) ▸ vh)) fun w13 hbt M a H => ?_
 refine sdo (v := .bool false) H (je rfl jl) λa H↦?_
 refine sda H λa H↦?_
 refine qa (hK12 _ _ (wp_cond_false (H.ev rfl) ?_))
 refine wp_skip (hK10 _ _ (wsk fun K14 hK14 => wrl (sdm H λa H↦?_)))
 refine sdo H (qw M TeI_isS_69 rfl 0 rfl (cs := [.int .u64 (zm (mk t.tr)), .int .i64 (((i : Nat) : Int))]) rfl rfl) λa H↦?_
 replace M := M.b4
 replace M := M.b4
 replace M := M.b4
 refine sct H (ef rfl rfl) (zah (X := (.obj g7 (.cells #[.int .u64 (zm (mk t.tr)), .int .i64 (((i : Nat) : Int))] 69) :: .obj g2 (.cells (t.d.cells t.ts.length).toArray 38) :: X)) hold rfl (qf (by simp) (qf (by simp) hX)) hc0 hc hil hxl h1 M) ?_
 rintro _ w15 ⟨rfl, hM9⟩
 replace M : Mg w0 w15 (.obj g (.cells #[.int .i64 kind, .map (some m), .int .i64 (((count - 1 : Nat) : Int)), .int .i64 (((last : Nat) : Int))] 66) :: .obj m (zi (qjf (zm (mk t.tr)) (bs.map Bk.en)) ck) :: .obj g7 (.cells #[.int .u64 (zm (mk t.tr)), .int .i64 (((i : Nat) : Int))] 69) :: .obj g2 (.cells (t.d.cells t.ts.length).toArray 38) :: X) := hM9
 refine ⟨_, rfl, ?_⟩
 intro a H
 refine qa (hK14 _ _ (wsk fun K16 hK16 => wrl (sda H λa H↦?_)))
 refine qa (hK16 _ _ (wp_ret (hret _ _ (en1 H rfl (qj rfl) ?_))))
 replace M := M.b1
 replace M := M.b1
 replace M := M.sub (cc (cc (cn (cn (.refl _)))))
 exact ⟨rfl, M⟩
theorem zoh {kind : Int} {mk : Tr → Tr} {ok : Tr → Bool} (hK : Marks kind mk ok) {w0 w : World} {g m count last ck : Nat} {bs : List Bk} {X : List Ck} {gg ca b0 i : Nat} {xs : List Et} {e : Et} (hX : jk X) (hT : Tabs8 w0) (hB : ∀ w9, Mg w0 w9 (.obj g (.cells #[.int .i64 kind, .map (some m), .int .i64 (((count : Nat) : Int)), .int .i64 (((last : Nat) : Int))] 66) :: .obj m (zi (bs.map Bk.en) ck) :: .row 74 23 (.slice (some ⟨gg, 0, none⟩) xs.length ca) xs.length (zk Et.c xs) :: X) → Tab w9 ok g kind m count last ck bs) {t : Dt} (ht : ∀ w9, Mg w0 w9 X → t.rd w9) (htb : t.tr.bulk ≤ 4000000) (hM0 : Mg w0 w (.obj g (.cells #[.int .i64 kind, .map (some m), .int .i64 (((count : Nat) : Int)), .int .i64 (((last : Nat) : Int))] 66) :: .obj m (zi (bs.map Bk.en) ck) :: .row 74 23 (.slice (some ⟨gg, 0, none⟩) xs.length ca) xs.length (zk Et.c xs) :: X)) (hs : qz qx t.tr = true) (hok : ok t.tr = true) (hat : yj (fun e => ki (mk t.tr) (mk e.k.tr)) (xe bs (zm (mk t.tr))) = ((i : Nat) : Int)) (hold : atK (zm (mk t.tr)) (bs.map Bk.en) = some ⟨zm (mk t.tr), .slice (some ⟨gg, 0, none⟩) xs.length ca, b0⟩) (hie : xs[i]? = some e) (hc0 : 1 ≤ count) (hc : count ≤ 1000000) (hxl : xs.length ≤ 1000000) (h1 : xs.length ≠ 1) : Calls Tryz.prog 14 #[.pointer (some ⟨g, 0, none⟩), .agg (t.d.cells t.ts.length).toArray] w fun e w' => e = .returned (.int .i64 0) ∧ Mg w0 w' (.obj g (.cells #[.int .i64 kind, .map (some m), .int .i64 (((count - 1 : Nat) : Int)), .int .i64 (((last : Nat) : Int))] 66) :: .obj m (zi (un (zm (mk t.tr)) (.slice (some ⟨gg, 0, none⟩) (xs.length - 1) ca) (bs.map Bk.en)) ck) :: .row 74 23 (.slice (some ⟨gg, 0, none⟩) ((xs.length - 1)) ca) ((xs.length - 1)) (zk Et.c (xs.eraseIdx i)) :: X) := by
 have hil := (List.getElem?_eq_some_iff.1 hie).1
 have M : Mg w0 w (.obj g (.cells #[.int .i64 kind, .map (some m), .int .i64 (((count : Nat) : Int)), .int .i64 (((last : Nat) : Int))] 66) :: .obj m (zi (bs.map Bk.en) ck) :: .row 74 23 (.slice (some ⟨gg, 0, none⟩) xs.length ca) xs.length (zk Et.c xs) :: X) := hM0
 refine qs (l := [(0, .pointer (some ⟨g, 0, none⟩)), (1, .agg (t.d.cells t.ts.length).toArray)]) Tryz.func14 rfl Tryz.ntmps14 rfl rfl ?_
 intro Q hret hnorm hP a H
 refine wsk fun K1 hK1 => wrl (zx (vs := (t.d.cells t.ts.length)) (t := 38) H M rfl rfl rfl pg (qr rfl rfl) (by decide) ?_)
 intro g2 w3 M a H
 refine sda H λa H↦?_
 refine qa (hK1 _ _ (wsk fun K4 hK4 => wrl (sdm H λa H↦?_)))
 refine sdo H (qw M TeI_isS_38 rfl 0 rfl (cs := (t.d.cells t.ts.length)) rfl rfl) λa H↦?_
 refine sct H (ef rfl rfl) (ym hK (hB _ (M.dropn 1)) (ht _ (M.dropn 4)) htb (hT.below M.bel) (so := none) (ca := 0) (ts := []) (fun k => absurd rfl k) (fun t h => by cases h) (by decide) hs rfl hok) ?_
 rintro _ w6 ⟨he8, hb5⟩
 rw [hat] at he8
 subst he8
 replace M := M.call hb5
 refine ⟨_, rfl, ?_⟩
 intro a H
 refine sdm H λa H↦?_
 iterate 2 refine sdo H (zd (vs := [.agg #[.int .u64 (zm (mk t.tr)), .int .i64 (((i : Nat) : Int))], .int .i64 0]) rfl rfl) λa H↦?_
 refine zx (vs := [.int .u64 0, .int .i64 0]) (t := 69) H M rfl rfl rfl pg (ql (z := .agg #[.int .u64 0, .int .i64 0]) (by kernel_rfl) rfl) (by decide) ?_
 intro g7 w8 M a H
 refine zr (us := [.int .u64 (zm (mk t.tr)), .int .i64 (((i : Nat) : Int))]) (L' := (.obj g7 (.cells #[.int .u64 (zm (mk t.tr)), .int .i64 (((i : Nat) : Int))] 69) :: .obj g2 (.cells (t.d.cells t.ts.length).toArray 38) :: .obj g (.cells #[.int .i64 kind, .map (some m), .int .i64 (((count : Nat) : Int)), .int .i64 (((last : Nat) : Int))] 66) :: .obj m (zi (bs.map Bk.en) ck) :: .row 74 23 (.slice (some ⟨gg, 0, none⟩) xs.length ca) xs.length (zk Et.c xs) :: X)) H M rfl rfl (za rfl rfl rfl (by kernel_rfl) M 0 rfl rfl rfl) 0 rfl rfl rfl ?_
 intro w9 M
 refine sda H λa H↦?_
 refine qa (hK4 _ _ (wsk fun K10 hK10 => wp_block (wsk fun K11 hK11 => wrl (sdm H λa H↦?_))))
 refine sdo (v := .bool false) H (qg rfl rfl (fun w => by kernel_rfl)) λa H↦?_
 refine sda H λa H↦?_
 refine qa (hK11 _ _ (wp_cond_false (H.ev rfl) ?_))
 refine wsk fun K12 hK12 => wrl (sdo H (qw M TeI_isS_69 rfl 0 rfl (cs := [.int .u64 (zm (mk t.tr)), .int .i64 (((i : Nat) : Int))]) rfl rfl) λa H↦?_)
 refine gcl H M (ef rfl rfl) (((show decide ((0 : Int) ≤ ((i : Nat) : Int)) = true from decide_eq_true (by omega)) ▸ vh)) fun w13 hbt M a H => ?_
 refine sdo (v := .bool false) H (je rfl jl) λa H↦?_
 refine sda H λa H↦?_
 refine qa (hK12 _ _ (wp_cond_false (H.ev rfl) ?_))
 refine wp_skip (hK10 _ _ (wsk fun K14 hK14 => wrl (sdm H λa H↦?_)))
 refine sdo H (qw M TeI_isS_69 rfl 0 rfl (cs := [.int .u64 (zm (mk t.tr)), .int .i64 (((i : Nat) : Int))]) rfl rfl) λa H↦?_
 replace M := M.b4
 replace M := M.b4
 replace M := M.b4
 refine sct H (ef rfl rfl) (qxb (X := (.obj g7 (.cells #[.int .u64 (zm (mk t.tr)), .int .i64 (((i : Nat) : Int))] 69) :: .obj g2 (.cells (t.d.cells t.ts.length).toArray 38) :: X)) hold rfl (qf (by simp) (qf (by simp) hX)) hc0 hc hil hxl h1 M) ?_
 rintro _ w15 ⟨rfl, hM9⟩
 replace M : Mg w0 w15 (.obj g (.cells #[.int .i64 kind, .map (some m), .int .i64 (((count - 1 : Nat) : Int)), .int .i64 (((last : Nat) : Int))] 66) :: .obj m (zi (un (zm (mk t.tr)) (.slice (some ⟨gg, 0, none⟩) (xs.length - 1) ca) (bs.map Bk.en)) ck) :: .row 74 23 (.slice (some ⟨gg, 0, none⟩) ((xs.length - 1)) ca) ((xs.length - 1)) (zk Et.c (xs.eraseIdx i)) :: .obj g7 (.cells #[.int .u64 (zm (mk t.tr)), .int .i64 (((i : Nat) : Int))] 69) :: .obj g2 (.cells (t.d.cells t.ts.length).toArray 38) :: X) := hM9
 refine ⟨_, rfl, ?_⟩
 intro a H
 refine qa (hK14 _ _ (wsk fun K16 hK16 => wrl (sda H λa H↦?_)))
 refine qa (hK16 _ _ (wp_ret (hret _ _ (en1 H rfl (qj rfl) ?_))))
 replace M := M.b2
 replace M := M.b2
 replace M := M.b2
 replace M := M.sub (cc (cc (cc (cn (cn (.refl _))))))
 exact ⟨rfl, M⟩
section
variable {kind : Int} {mk : Tr → Tr} {ok : Tr → Bool} (hK : Marks kind mk ok) {w0 w : World} {g : Nat} {s : TS} (h : TOk mk ok s) {Y : List Ck}
theorem P_back0 {A B : List Bk} {s' : TS} (hb : s'.bs = A ++ B) (hT : s'.T = s.T) (g : Nat) (kind : Int) (Y : List Ck) : (.obj g (.cells #[.int .i64 kind, .map (some s'.m), .int .i64 ((s'.count : Nat) : Int), .int .i64 ((s'.last : Nat) : Int)] 66) :: .obj s'.m (zi (s'.bs.map Bk.en) s'.ck) :: ((A ++ B).map (Bk.row 74) ++ s.T ++ Y)).Perm (Y ++ s'.P g kind) := by
 have := (P_new s' g kind Y).symm
 rw [hT, hb] at this
 rw [hb]; exact this
include hK h in
theorem zoi (hY : jk Y) (hT : Tabs8 w0) {t : Dt} (ht : ∀ w9, Mg w0 w9 Y → t.rd w9) (htb : t.tr.bulk ≤ 4000000) (hs : qz qx t.tr = true) (hok : ok t.tr = true) (hms : qz qx (mk t.tr) = true) (hmg : (mk t.tr).good) (hc : s.count ≤ 4096) (M : Mg w0 w (Y ++ s.P g kind)) :
  Calls Tryz.prog 14 #[.pointer (some ⟨g, 0, none⟩), .agg (t.d.cells t.ts.length).toArray] w fun r w' => (∃ s', r = .returned (.int .i64 0) ∧ ((∃ e ∈ jc s.bs, mk e.k.tr = mk t.tr) ∧ TOk mk ok s' ∧ s'.last = s.last ∧ s'.count ≤ 4096 ∧ ∀ A0, Holds (jc s.bs) A0 → Holds (jc s'.bs) (qwe mk t.tr A0)) ∧ Mg w0 w' (Y ++ s'.P g kind)) ∨ (r = .returned (.int .i64 7) ∧ (∀ e ∈ jc s.bs, mk e.k.tr ≠ mk t.tr) ∧ Mg w0 w' (Y ++ s.P g kind)) := by
 have hup : ∀ {bs : List Bk} {d : Dt}, (∀ w9, Mg w0 w9 Y → d.rd w9) → ∀ w9, Mg w0 w9 (bs.map (Bk.row 74) ++ s.T ++ Y) → d.rd w9 := fun k w9 h9 => k w9 (h9.sub (List.sublist_append_right _ _))
 have hTab : ∀ {L : List Ck}, (Y ++ s.P g kind).Perm L → ∀ w9, Mg w0 w9 L → Tab w9 ok g kind s.m s.count s.last s.ck s.bs := fun hp w9 h9 => qif h (by omega) ((h9.perm hp.symm).sub (List.sublist_append_right _ _))
 by_cases hit : ∃ e ∈ jc s.bs, mk e.k.tr = mk t.tr
 ·
  obtain ⟨e, he, hme⟩ := hit
  have hcp : 1 ≤ s.count := by rw [h.cn]; exact List.length_pos_of_mem he
  obtain ⟨A, ⟨xh, so, ca, xes, xb⟩, B, i, hs2, hh, H, hi, hbu, hix⟩ := qga h hms hmg he hme
  have hxn := h.len (show (⟨xh, so, ca, xes, xb⟩ : Bk) ∈ s.bs by rw [hs2]; simp)
  simp only at hxn hi hix hh
  have hp := P_split hs2 g kind Y
  have hM2 := M.perm hp
  have hrow : w.ownsRow w0.heap.size 74 23 (.slice so xes.length ca) xes.length (zk Et.c xes) := hM2.has 2 rfl
  obtain ⟨gg, rfl⟩ : ∃ gg, so = some ⟨gg, 0, none⟩ := by
   rcases hrow.2 with ⟨_, h0⟩ | ⟨gg, cap, cur, e1, _⟩
   ·
    have := (List.getElem?_eq_some_iff.1 hi).1; omega
   ·
    cases e1; exact ⟨gg, rfl⟩
  have hold : atK (zm (mk t.tr)) (s.bs.map Bk.en) = some ⟨zm (mk t.tr), .slice (some ⟨gg, 0, none⟩) xes.length ca, xb⟩ := by
   have := qrj (B := B) H
   rw [← hs2] at this
   rw [← hh]; exact this
  by_cases h1 : xes.length = 1
  ·
   have hx1 : xes = [e] := by
    obtain ⟨y, rfl⟩ := List.length_eq_one_iff.1 h1
    have h0 : i = 0 := by have := (List.getElem?_eq_some_iff.1 hi).1; simp at this; omega
    subst h0
    simp at hi; rw [hi]
   refine (zua hK (qdb h hY) hT (hTab hp) (hup ht) htb hM2 hs hok (by rw [hbu]; exact hix) hold hi hcp (by omega) (show xes.length ≤ 1000000 by omega) h1).mono ?_
   rintro r w' ⟨rfl, hM3⟩
   obtain ⟨k1, k2⟩ := zoe h hs2 hx1
   refine .inl ⟨s.gone (A ++ B), rfl, ⟨⟨e, he, hme⟩, k1, rfl, by show s.count - 1 ≤ _; omega, fun A0 hA0 => k2 A0 hA0 t.tr hme.symm⟩, ?_⟩
   refine Mg.perm ?_ (P_back0 (s := s) (s' := s.gone (A ++ B)) rfl rfl g kind Y)
   have e2 := zle (B := B) H
   rw [← hs2] at e2
   simp only [hh] at e2
   rw [e2] at hM3
   exact hM3
  ·
   refine (zoh hK (qdb h hY) hT (hTab hp) (hup ht) htb hM2 hs hok (by rw [hbu]; exact hix) hold hi hcp (by omega) (show xes.length ≤ 1000000 by omega) h1).mono ?_
   rintro r w' ⟨rfl, hM3⟩
   have hlen : (xes.eraseIdx i).length = xes.length - 1 := List.length_eraseIdx_of_lt (List.getElem?_eq_some_iff.1 hi).1
   have hil := (List.getElem?_eq_some_iff.1 hi).1
   obtain ⟨k1, k2⟩ := zof h hs2 hi (fun k => by rw [k] at hlen; simp at hlen; omega)
   refine .inl ⟨s.gone (A ++ ⟨xh, some ⟨gg, 0, none⟩, ca, xes.eraseIdx i, xb⟩ :: B), rfl, ⟨⟨e, he, hme⟩, k1, rfl, by show s.count - 1 ≤ _; omega, fun A0 hA0 => k2 A0 hA0 t.tr hme.symm⟩, ?_⟩
   refine Mg.perm ?_ (P_back (s := s) (s' := s.gone (A ++ ⟨xh, some ⟨gg, 0, none⟩, ca, xes.eraseIdx i, xb⟩ :: B)) (F := []) rfl rfl g kind Y)
   have e2 := qvd (A := A) (B := B) (x := ⟨xh, some ⟨gg, 0, none⟩, ca, xes, xb⟩) (y := ⟨xh, some ⟨gg, 0, none⟩, ca, xes.eraseIdx i, xb⟩) H rfl rfl
   rw [← hs2] at e2
   simp only [hlen, hh] at e2
   rw [e2] at hM3
   simp only [TS.gone, Bk.row, hlen, hh]
   exact hM3
 ·
  have hn : ∀ e ∈ jc s.bs, mk e.k.tr ≠ mk t.tr := fun e he hm => hit ⟨e, he, hm⟩
  have hat : yj (fun e => ki (mk t.tr) (mk e.k.tr)) (xe s.bs (zm (mk t.tr))) = -1 := by
   cases hf : s.bs.find? (fun y => decide (y.h = zm (mk t.tr))) with
   | none => exact (qid hf _).1
   | some x =>
    obtain ⟨A, B, hs2, hh, H, hbu, hix⟩ := qie h hms hmg hn hf
    rw [hbu]; exact hix
  have hp := P_new s g kind Y
  refine (zog hK (qdb h hY) hT (hTab hp) (hup ht) htb (M.perm hp) hs hok hat).mono ?_
  rintro r w' ⟨rfl, hM3⟩
  exact .inr ⟨rfl, hn, hM3.perm hp.symm⟩
end
end Go.Proofs.YtjlpecapebhgjaaGreatDoor.G
namespace Go.Proofs
open Go.Shelf
def Tryz.sortEn_ren : Go.Shelf.Ren := ⟨fun | 6 => 35 | 15 => 62 | 14 => 61 | 28 => 97 | 29 => 98 | 20 => 89 | 21 => 90 | 22 => 91 | 23 => 92 | 24 => 93 | 25 => 94 | 26 => 95 | 27 => 96 | 46 => 130 | 47 => 131 | 48 => 132 | 49 => 133 | 50 => 134 | 57 => 163 | n => n, fun | 22 => 75 | 24 => 74 | 25 => 84 | 3 => 3 | 39 => 111 | 0 => 0 | 53 => 118 | 55 => 67 | 4 => 4 | 46 => 124 | 45 => 123 | 50 => 128 | 5 => 5 | 9 => 9 | 66 => 151 | 70 => 139 | 76 => 179 | 77 => 180 | n => n, fun | n => n⟩
theorem Tryz.sortEn : Go.Proofs.SlLaysF0.n6 Tryz.prog Tryz.sortEn_ren := {
  mixed := by kernel_rfl
  f6 := ⟨Tryz.f35.name, by decide, Tryz.func35.trans (congrArg some (by kernel_rfl))⟩
  f14 := ⟨Tryz.f61.name, by decide, Tryz.func61.trans (congrArg some (by kernel_rfl))⟩
  f15 := Tryz.func62.trans (congrArg some (by kernel_rfl))
  f20 := ⟨Tryz.f89.name, by decide, Tryz.func89.trans (congrArg some (by kernel_rfl))⟩
  f21 := ⟨Tryz.f90.name, by decide, Tryz.func90.trans (congrArg some (by kernel_rfl))⟩
  f22 := ⟨Tryz.f91.name, by decide, Tryz.func91.trans (congrArg some (by kernel_rfl))⟩
  f23 := ⟨Tryz.f92.name, by decide, Tryz.func92.trans (congrArg some (by kernel_rfl))⟩
  f24 := ⟨Tryz.f93.name, by decide, Tryz.func93.trans (congrArg some (by kernel_rfl))⟩
  f25 := ⟨Tryz.f94.name, by decide, Tryz.func94.trans (congrArg some (by kernel_rfl))⟩
  f26 := ⟨Tryz.f95.name, by decide, Tryz.func95.trans (congrArg some (by kernel_rfl))⟩
  f27 := ⟨Tryz.f96.name, by decide, Tryz.func96.trans (congrArg some (by kernel_rfl))⟩
  f28 := Tryz.func97.trans (congrArg some (by kernel_rfl))
  f29 := Tryz.func98.trans (congrArg some (by kernel_rfl))
  f46 := ⟨Tryz.f130.name, by decide, Tryz.func130.trans (congrArg some (by kernel_rfl))⟩
  f47 := Tryz.func131.trans (congrArg some (by kernel_rfl))
  f48 := Tryz.func132.trans (congrArg some (by kernel_rfl))
  f49 := ⟨Tryz.f133.name, by decide, Tryz.func133.trans (congrArg some (by kernel_rfl))⟩
  f50 := ⟨Tryz.f134.name, by decide, Tryz.func134.trans (congrArg some (by kernel_rfl))⟩
  f57 := ⟨Tryz.f163.name, by decide, Tryz.func163.trans (congrArg some (by kernel_rfl))⟩
  t0 := Tryz.underlying0
  a0 := Tryz.isAgg0
  z0 := Tryz.sizeOf0
  v0 := Tryz.zeroValue0
  t3 := Tryz.underlying3
  a3 := Tryz.isAgg3
  z3 := Tryz.sizeOf3
  v3 := Tryz.zeroValue3
  t4 := Tryz.underlying4
  a4 := Tryz.isAgg4
  z4 := Tryz.sizeOf4
  v4 := Tryz.zeroValue4
  t5 := Tryz.underlying5
  a5 := Tryz.isAgg5
  z5 := Tryz.sizeOf5
  v5 := Tryz.zeroValue5
  t9 := Tryz.underlying9
  a9 := Tryz.isAgg9
  z9 := Tryz.sizeOf9
  v9 := Tryz.zeroValue9
  t22 := Tryz.underlying75
  a22 := Tryz.isAgg75
  z22 := Tryz.sizeOf75
  v22 := Tryz.zeroValue75
  t25 := Tryz.underlying84
  a25 := Tryz.isAgg84
  z25 := Tryz.sizeOf84
  v25 := Tryz.zeroValue84
  t39 := Tryz.underlying111
  a39 := Tryz.isAgg111
  z39 := Tryz.sizeOf111
  v39 := Tryz.zeroValue111
  t45 := Tryz.underlying123
  a45 := Tryz.isAgg123
  z45 := Tryz.sizeOf123
  v45 := Tryz.zeroValue123
  t46 := Tryz.underlying124
  a46 := Tryz.isAgg124
  z46 := Tryz.sizeOf124
  v46 := Tryz.zeroValue124
  t50 := Tryz.underlying128
  a50 := Tryz.isAgg128
  z50 := Tryz.sizeOf128
  v50 := Tryz.zeroValue128
  t53 := Tryz.underlying118
  a53 := Tryz.isAgg118
  z53 := Tryz.sizeOf118
  v53 := Tryz.zeroValue118
  t55 := Tryz.underlying67
  a55 := Tryz.isAgg67
  z55 := Tryz.sizeOf67
  v55 := Tryz.zeroValue67
  t66 := Tryz.underlying151
  a66 := Tryz.isAgg151
  z66 := Tryz.sizeOf151
  v66 := Tryz.zeroValue151
  t70 := Tryz.underlying139
  a70 := Tryz.isAgg139
  z70 := Tryz.sizeOf139
  v70 := Tryz.zeroValue139
  t76 := Tryz.underlying179
  a76 := Tryz.isAgg179
  z76 := Tryz.sizeOf179
  v76 := Tryz.zeroValue179
  t77 := Tryz.underlying180
  a77 := Tryz.isAgg180
  z77 := Tryz.sizeOf180
  v77 := Tryz.zeroValue180 }
end Go.Proofs
namespace Go.Proofs.YtjlpecapebhgjaaGreatDoor.G
open Go.RowKit Go.Sort Go.Shelf
set_option linter.unusedVariables false
set_option linter.unusedSimpArgs false

section
variable {w0 w : World} {T : List Ck} {e : TypeId} {sz g n cap : Nat} {xs : List Value} {α : Type} [Inhabited α]
theorem qje (enc : α → Value) (w : World) (g : Nat) (d : Array α) (j : Nat) : (putRow enc w g 0 d).heap[j]? = if g = j then (w.heap[j]?).map (onCells (putCells enc 0 d)) else w.heap[j]? := by
  show (w.heap.modify g (onCells (putCells enc 0 d)))[j]? = _
  rw [Array.getElem?_modify]
/-- A row of the call's own whose cells were laid anew. -/
theorem Mg.sorted (enc : α → Value) (hM : Mg w0 w (.row e sz (.slice (some ⟨g, 0, none⟩) n cap) n xs :: T)) (d : Array α) (hd : d.size = n * sz) (q : Nat) (os : Array Obj) :
    Mg w0 (grow (putRow enc (Sort.ahead w q) g 0 d) os) (.row e sz (.slice (some ⟨g, 0, none⟩) n cap) n (d.toList.map enc) :: T) := by
  have hr : w.ownsRow w0.heap.size e sz (.slice (some ⟨g, 0, none⟩) n cap) n xs := hM.has 0 rfl
  obtain ⟨h1, h2⟩ := hr
  rcases h2 with ⟨e0, _⟩ | ⟨g', cap', cur, e0, hB, hc, hn, hm, hs, ht⟩
  · cases e0
  · cases e0
    have hlt := (Array.getElem?_eq_some_iff.1 hc).1
    have hold : ∀ j, j < w.heap.size → (grow (putRow enc (Sort.ahead w q) g 0 d) os).heap[j]? = (putRow enc (Sort.ahead w q) g 0 d).heap[j]? := fun j hj => heap_grow_old _ os (by rw [size_putRow]; exact hj)
    refine hM.turn 0 (c := .row e sz (.slice (some ⟨g, 0, none⟩) n cap) n xs) (c' := .row e sz (.slice (some ⟨g, 0, none⟩) n cap) n (d.toList.map enc)) rfl (by simp) ⟨rfl, rfl, rfl, by rw [size_grow, size_putRow]; exact Nat.le_add_right _ _, fun j hj hne => ?_⟩ ⟨by simp [hd], .inr ⟨g, cap, putCells enc 0 d cur, rfl, hB, ?_, hn, hm, by simp [putCells, hs], ?_⟩⟩ (fun c _ ha => ?_)
    · rw [hold j hj, qje, if_neg (fun k => hne (by rw [← k]; rfl))]
      rfl
    · rw [hold g hlt, qje, if_pos rfl]
      show (w.heap[g]?).map _ = _
      rw [hc]
      rfl
    · have hle : n * sz ≤ cur.size := by rw [hs]; exact Nat.mul_le_mul_right _ hn
      apply List.ext_getElem?
      intro j
      rw [List.getElem?_take]
      by_cases hj : j < n * sz
      · rw [if_pos hj]
        have hjd : j < d.size := by omega
        have hjc : j < cur.size := by omega
        simp only [putCells, Array.getElem?_toList, Array.getElem?_mapIdx, Array.getElem?_eq_getElem hjc, Option.map_some, List.getElem?_map, Array.getElem?_toList, Array.getElem?_eq_getElem hjd]
        rw [if_pos ⟨Nat.zero_le _, by omega⟩, Nat.sub_zero, getElem!_pos d j hjd]
      · rw [if_neg hj, List.getElem?_eq_none (by simp; omega)]
    · cases c with
      | obj g' o' => exact ha
      | row e' sz' v' n' xs' => exact ha
      | bld b' bs' => exact ha
/-- A row holds its cells. -/
theorem zhe (enc : α → Value) (hM : Mg w0 w (.row e sz (.slice (some ⟨g, 0, none⟩) n cap) n xs :: T)) (d : Array α) (hx : d.toList.map enc = xs) : Go.Sort.Holds enc w g 0 d ∧ g < w.heap.size := by
  have hr : w.ownsRow w0.heap.size e sz (.slice (some ⟨g, 0, none⟩) n cap) n xs := hM.has 0 rfl
  refine ⟨fun j hj => ?_, (hr.lt g rfl).2⟩
  have hl : j < xs.length := by rw [← hx]; simpa using hj
  have hl2 := hr.1
  refine ⟨?_, World.ownsRow.frozenAt hr _⟩
  rw [Nat.zero_add, World.ownsRow.cellAt hr j (by omega), ← hx, List.getElem?_map]
  rw [getElem!_pos d j hj]
  simp [hj]
end

instance : Inhabited Et := ⟨⟨0, zl, zl⟩⟩
def qxc (x y : Et) : Int := if x.p < y.p then -1 else if y.p < x.p then 1 else 0
theorem ltE (x y : Et) : ltOf qxc x y = decide (x.p < y.p) := by
  unfold ltOf qxc
  by_cases h : x.p < y.p
  · simp [h]
  · by_cases h2 : y.p < x.p <;> simp [h, h2]
theorem zzj : SWO (ltOf qxc) where
  irrefl x := by rw [ltE]; simp
  trans x y z h1 h2 := by rw [ltE] at *; simp at *; omega
  ntrans x y z h1 h2 := by rw [ltE] at *; simp at *; omega
theorem jaa (n : Int) (w : World) : Calls Tryz.prog 63 #[.int .i64 n] w fun e w' => e = .returned (.bool false) ∧ w' = w := by
  go_enter Tryz.func63, Tryz.ntmps63
  go_wp2
  all_goals go_ret
  all_goals exact ⟨by simp, rfl⟩
def qxd (m n : Int) : Int := if m < n then -1 else if n < m then 1 else 0
theorem jab (m n : Int) (w : World) : Calls Tryz.prog 37 #[.int .i64 m, .int .i64 n] w fun e w' => e = .returned (.int .i64 (qxd m n)) ∧ w' = w := by
  go_enter Tryz.func37, Tryz.ntmps37
  go_wp2_with (go_at_call 63; refine (jaa _ _).mono ?_; rintro e w' ⟨rfl, rfl⟩)
  all_goals go_ret
  all_goals refine ⟨?_, rfl⟩
  all_goals (unfold qxd; simp at *; first | omega | simp [*] | (rw [if_neg (by omega), if_pos (by omega)]) | (rw [if_neg (by omega), if_neg (by omega)]))
set_option maxHeartbeats 1000000 in
set_option maxRecDepth 100000 in
theorem zoj (p q : Int) (a1 a2 a3 a4 a5 a6 a7 a8 a9 a10 a11 a12 a13 a14 a15 a16 a17 a18 a19 a20 a21 a22 b1 b2 b3 b4 b5 b6 b7 b8 b9 b10 b11 b12 b13 b14 b15 b16 b17 b18 b19 b20 b21 b22 : Value) (W : World) : Calls Tryz.prog 36 #[.agg #[.int .i64 p, a1, a2, a3, a4, a5, a6, a7, a8, a9, a10, a11, a12, a13, a14, a15, a16, a17, a18, a19, a20, a21, a22], .agg #[.int .i64 q, b1, b2, b3, b4, b5, b6, b7, b8, b9, b10, b11, b12, b13, b14, b15, b16, b17, b18, b19, b20, b21, b22]] W fun e w' => e = .returned (.int .i64 (qxd p q)) ∧ ∃ k os', w' = grow (W.drewN k) os' := by
  go_enter Tryz.func36, Tryz.ntmps36
  go_wp2_with (go_at_call 37; refine (jab _ _ _).mono ?_; rintro e w' ⟨rfl, rfl⟩)
  go_ret
  exact ⟨rfl, 0, _, by rw [alloc_eq_grow, alloc_eq_grow, grow_grow]; rfl⟩
theorem zpa (x y : Et) (W : World) : Calls Tryz.prog 36 #[.agg x.c.toArray, .agg y.c.toArray] W fun e w' => e = .returned (.int .i64 (qxc x y)) ∧ ∃ k os', w' = grow (W.drewN k) os' := by
  have h : qxc x y = qxd ((x.p : Nat) : Int) ((y.p : Nat) : Int) := by
    unfold qxc qxd
    simp only [Int.ofNat_lt]
  rw [h]
  exact zoj _ _ _ _ _ _ _ _ _ _ _ _ _ _ _ _ _ _ _ _ _ _ _ _ _ _ _ _ _ _ _ _ _ _ _ _ _ _ _ _ _ _ _ _ _ _ W
theorem zde (d : Array Et) : (flatK Et.c 23 d).toList = zk Et.c d.toList := by
  apply List.ext_getElem?
  intro j
  have key : ∀ (l : List Et) (j : Nat), (zk Et.c l)[j]? = (l[j / 23]?).bind fun x => (x.c)[j % 23]? := by
    intro l j
    by_cases hj : j / 23 < l.length
    · have h1 := zce (List.getElem?_eq_getElem hj)
      rw [List.getElem?_eq_getElem hj, Option.bind_some, ← h1, List.getElem?_take, if_pos (by omega), List.getElem?_drop, show j / 23 * 23 + j % 23 = j by omega]
    · rw [List.getElem?_eq_none (show (zk Et.c l).length ≤ j by rw [qzd]; omega), List.getElem?_eq_none (show l.length ≤ j / 23 by omega)]; rfl
  rw [key]
  by_cases hj : j < d.size * 23
  · have h2 : j / 23 < d.size := by omega
    have hm : j % 23 < (d[j / 23].c).length := by rw [Et.c_len]; omega
    rw [Array.getElem?_toList, Array.getElem?_eq_getElem (by simpa using hj), Array.getElem?_toList, Array.getElem?_eq_getElem h2]
    simp only [Option.bind_some, List.getElem?_eq_getElem hm]
    have := get_flatK Et.c 23 d j hj
    rw [getElem!_pos _ j (by simpa using hj), getElem!_pos d (j / 23) h2, getElem!_pos _ (j % 23) hm] at this
    rw [this]
  · rw [List.getElem?_eq_none (by simp; omega), Array.getElem?_toList, Array.getElem?_eq_none (by omega)]
    rfl
theorem zpb (blk off size : Nat) (w : World) : CmpLays Tryz.prog 36 #[] Et.c 23 qxc blk off size w := fun _ _ _ _ x y => zpa x y _
/-- slices.SortFunc of a row of entries of the call's own. -/
theorem zhf {w0 w : World} {T : List Ck} {so : Option Addr} {n ca : Nat} {ys : List Et} (hn : n = ys.length) (hl : ys.length ≤ 1000000000) (hM : Mg w0 w (.row 74 23 (.slice so n ca) n (zk Et.c ys) :: T)) :
    Calls Tryz.prog 35 #[.slice so n ca, .func (.func 36) #[] #[]] w fun e w' => e = .returned (.tuple #[]) ∧ ∃ zs : List Et, (zs.Perm ys ∧ zs.Pairwise fun a b => ¬ b.p < a.p) ∧ Mg w0 w' (.row 74 23 (.slice so n ca) n (zk Et.c zs) :: T) := by
  subst hn
  have hr : w.ownsRow w0.heap.size 74 23 (.slice so ys.length ca) ys.length (zk Et.c ys) := hM.has 0 rfl
  rcases hr.2 with ⟨e0, h0⟩ | ⟨g, cap, cur, e0, _⟩
  · have hz : ys = [] := List.length_eq_zero_iff.1 h0
    subst hz
    refine Calls.mono (AnyF.slices_SortFunc_none { Tryz.sortEn with } so ca _ w) ?_
    rintro e w' ⟨rfl, rfl⟩
    exact ⟨rfl, [], ⟨.refl _, .nil⟩, hM⟩
  · cases e0
    obtain ⟨d, hd⟩ : ∃ d : Array Et, d.toList = ys := ⟨ys.toArray, by simp⟩
    have hds : d.size = ys.length := by rw [← hd]; simp
    obtain ⟨h1, h2⟩ := zhe id hM (flatK Et.c 23 d) (by rw [List.map_id, zde, hd])
    have hcon := AnyQ.slices_SortFunc Tryz.sortEn 23 Tryz.isAgg74 Tryz.sizeOf74 Et.c Et.c_len (fun x v hv => by have := List.all_eq_true.1 (show x.c.all Value.oneCell' = true from List.all_eq_true.2 fun u hu => zag [x] u (by rw [yb]; exact hu)) v hv; exact this) qxc zzj 36 #[] g 0 ca d w (enters_of Tryz.func36 (by kernel_rfl) rfl) (zpb g 0 d.size w) h1 h2 (by omega)
    change Calls Tryz.prog 35 _ _ _ at hcon
    rw [hds] at hcon
    refine hcon.mono ?_
    rintro e w' ⟨rfl, d', q, os, hperm, hsort, rfl⟩
    obtain ⟨hs1, _, hs3⟩ := hperm
    have hz : d'.toList.Perm ys := by
      rw [← hd]
      have e1 : d'.extract 0 ys.length = d' := by rw [Array.extract_eq_self_of_le (by omega)]
      have e2 : d.extract 0 ys.length = d := by rw [Array.extract_eq_self_of_le (by omega)]
      rw [e1, e2] at hs3
      exact hs3
    refine ⟨rfl, d'.toList, ⟨hz, ?_⟩, ?_⟩
    · rw [List.pairwise_iff_getElem]
      intro i j hi hj hij
      simp at hi hj
      have := hsort i j (Nat.zero_le _) hij (by omega)
      rw [ltE, getElem!_pos d' i hi, getElem!_pos d' j hj] at this
      simpa using this
    · have hlen : d'.toList.length = ys.length := hz.length_eq
      have := hM.sorted id (flatK Et.c 23 d') (by simp at hlen ⊢; omega) q os
      rw [List.map_id, zde] at this
      exact this
open Go.RowKit
def qgc (seen : List Nat) (bs : List Bk) : List Bk := bs.filter fun x => !seen.contains x.b
def snB (seen : List Nat) (bs : List Bk) : List Bk := bs.filter fun x => seen.contains x.b
theorem qxe (seen : List Nat) (bs : List Bk) : qpb (bs.map Bk.en) seen = (qgc seen bs).map Bk.en := by
  unfold qpb qgc
  rw [List.filter_map]
  rfl
theorem zub (bs : List Bk) : snB [] bs = [] := List.filter_eq_nil_iff.2 fun x _ => by simp
theorem zuc {seen : List Nat} {bs : List Bk} (h : qgc seen bs = []) : snB seen bs = bs := List.filter_eq_self.2 fun x hx => by
  have := List.filter_eq_nil_iff.1 h x hx
  simpa using this
theorem zhg {a b : List Bk} (h : a.Perm b) : (jc a).Perm (jc b) := h.flatMap_right _
theorem zpc {seen : List Nat} {bs : List Bk} (hd : bs.Pairwise fun x y => x.b ≠ y.b) {x : Bk} (hx : x ∈ qgc seen bs) : (snB (seen ++ [x.b]) bs).Perm (snB seen bs ++ [x]) := by
  obtain ⟨hx1, hx2⟩ := List.mem_filter.1 hx
  obtain ⟨A, B, rfl⟩ := List.append_of_mem hx1
  rw [List.pairwise_append, List.pairwise_cons] at hd
  obtain ⟨_, ⟨h2, _⟩, h3⟩ := hd
  have key : ∀ l : List Bk, (∀ y ∈ l, y.b ≠ x.b) → snB (seen ++ [x.b]) l = snB seen l := fun l hl => List.filter_congr fun y hy => by
    have := hl y hy
    simp [this]
  have e1 : snB (seen ++ [x.b]) (A ++ x :: B) = snB seen A ++ x :: snB seen B := by
    have ea := key A (fun y hy => h3 y hy x List.mem_cons_self)
    have eb := key B (fun y hy => (h2 y hy).symm)
    unfold snB at ea eb ⊢
    rw [List.filter_append, List.filter_cons, if_pos (by simp), ea, eb]
  have e2 : snB seen (A ++ x :: B) = snB seen A ++ snB seen B := by
    unfold snB
    rw [List.filter_append, List.filter_cons, if_neg (by simpa using hx2)]
  rw [e1, e2, List.append_assoc]
  exact List.Perm.append_left _ (List.perm_append_comm (l₁ := [x]))
theorem zhh {seen : List Nat} {bs : List Bk} {x : Bk} (hx : x ∈ qgc seen bs) : (qgc (seen ++ [x.b]) bs).length < (qgc seen bs).length := by
  have e : qgc (seen ++ [x.b]) bs = (qgc seen bs).filter fun y => decide (y.b ≠ x.b) := by
    unfold qgc
    rw [List.filter_filter]
    apply List.filter_congr
    intro y hy
    by_cases k : y.b = x.b <;> simp [k]
  rw [e]
  have h1 := List.length_filter_le (fun y : Bk => decide (y.b ≠ x.b)) (qgc seen bs)
  refine Nat.lt_of_le_of_ne h1 fun k => ?_
  have := List.filter_eq_self.1 (List.Sublist.eq_of_length List.filter_sublist k) x hx
  simp at this
theorem zdf {seen : List Nat} {bs : List Bk} {ks : List Et} (hd : bs.Pairwise fun x y => x.b ≠ y.b) {x : Bk} (hx : x ∈ qgc seen bs) (hk : ks.Perm (jc (snB seen bs))) : (ks ++ x.es).Perm (jc (snB (seen ++ [x.b]) bs)) := by
  have h1 := zhg (zpc hd hx)
  refine (hk.append_right _).trans (List.Perm.trans ?_ h1.symm)
  unfold jc
  rw [List.flatMap_append, List.flatMap_singleton]
theorem qxf {seen : List Nat} {bs : List Bk} {ks : List Et} (hk : ks.Perm (jc (snB seen bs))) : ks.length ≤ (jc bs).length := by
  rw [hk.length_eq]
  have key : ∀ l : List Bk, (jc (snB seen l)).length ≤ (jc l).length := fun l => by
    induction l with
    | nil => exact Nat.le_refl _
    | cons x l ih =>
      unfold jc snB at ih ⊢
      rw [List.filter_cons]
      split
      · rw [List.flatMap_cons, List.flatMap_cons, List.length_append, List.length_append]; omega
      · rw [List.flatMap_cons, List.length_append]; omega
  exact key bs
theorem zpd {seen : List Nat} {bs : List Bk} {ks : List Et} (hd : bs.Pairwise fun x y => x.b ≠ y.b) {x : Bk} (hx : x ∈ qgc seen bs) (hk : ks.Perm (jc (snB seen bs))) : ks.length + x.es.length ≤ (jc bs).length := by
  have := qxf (zdf hd hx hk)
  rwa [List.length_append] at this
set_option maxRecDepth 100000
theorem TeJ_is1_64 : Is1 Tryz.prog 64 := ⟨⟨_, Tryz.underlying64, rfl⟩, by kernel_rfl⟩
theorem TeJ_fld_66_1 : FieldAt Tryz.prog 66 1 1 := ⟨_, _, Tryz.underlying66, rfl, rfl, by kernel_rfl⟩
theorem TeJ_fld_74_1 : FieldAt Tryz.prog 74 1 1 := ⟨_, _, Tryz.underlying74, rfl, rfl, by kernel_rfl⟩
theorem TeJ_isS_38 : IsS Tryz.prog 38 11 := ⟨⟨_, Tryz.underlying38⟩, by kernel_rfl⟩
theorem TeJ_isS_74 : IsS Tryz.prog 74 23 := ⟨⟨_, Tryz.underlying74⟩, by kernel_rfl⟩
theorem zhi {vs cs : List Value} (h : vs.length = cs.length) : over vs 0 cs = cs := by
 rw [qqj (by omega), List.take_zero, List.nil_append, List.drop_eq_nil_of_le (by omega), List.append_nil]
theorem zyc (n j : Nat) : (cellsOf (List.replicate n zl))[j]? = if j < n * 11 then zl.cells[j % 11]? else none := by
 by_cases hj : j < n * 11
 ·
  rw [if_pos hj]
  have h1 : (List.replicate n zl)[j / 11]? = some zl := by rw [List.getElem?_replicate, if_pos (by omega)]
  have h2 := uz h1
  rw [← h2, List.getElem?_take, if_pos (by omega), List.getElem?_drop, show j / 11 * 11 + j % 11 = j by omega]
 ·
  rw [if_neg hj, List.getElem?_eq_none]
  rw [vu, List.length_replicate]; omega
theorem qtb (n : Nat) : (madeCells zl.cells.toArray (n * 11)).toList = cellsOf (List.replicate n zl) := by
 apply List.ext_getElem?
 intro j
 rw [zyc]
 unfold madeCells
 rw [Array.toList_map, Array.toList_range, List.getElem?_map]
 have hz : zl.cells.toArray.size = 11 := rfl
 by_cases hj : j < n * 11
 ·
  rw [if_pos hj, List.getElem?_range hj, Option.map_some, hz]
  have hm : j % 11 < zl.cells.toArray.size := by rw [hz]; omega
  rw [getElem!_pos zl.cells.toArray (j % 11) hm, List.getElem_toArray, ← List.getElem?_eq_getElem]
 ·
  rw [if_neg hj, List.getElem?_eq_none (by simp; omega)]; rfl
theorem zpe {us : List Dt} {u : Dt} {n i : Nat} (hu : us.length = i) (hi : i < n) : over (cellsOf (us ++ List.replicate (n - i) zl)) (i * 11) (u.d.cells u.ts.length) = cellsOf ((us ++ [u]) ++ List.replicate (n - (i + 1)) zl) := by
 refine quh (by rw [List.length_append, List.length_replicate]; omega) ?_
 rw [show n - i = (n - (i + 1)) + 1 by omega, List.replicate_succ, List.set_append_right _ _ (by omega), hu, Nat.sub_self, List.set_cons_zero, List.append_assoc]
 rfl
theorem zud {us : List Dt} {zs : List Et} {i : Nat} {e : Et} {u : Dt} (h : us.map Dt.tr = (zs.take i).map fun e => e.k.tr) (hi : zs[i]? = some e) (hu : u.tr = e.k.tr) : (us ++ [u]).map Dt.tr = (zs.take (i + 1)).map fun e => e.k.tr := by
 obtain ⟨hl, rfl⟩ := List.getElem?_eq_some_iff.1 hi
 rw [List.take_succ_eq_append_getElem hl, List.map_append, List.map_append, h, List.map_singleton, List.map_singleton, hu]
theorem Mg.unF2 {w0 w : World} {c d : Ck} {F X : List Ck} (h : Mg w0 w (c :: d :: (F ++ X))) : Mg w0 w (c :: d :: X) := h.sub (cc (cc (List.sublist_append_right _ _)))
set_option maxHeartbeats 1000000 in
theorem zpf {w0 w : World} {kind : Int} {ok : Tr → Bool} {g m count last ck : Nat} {bs : List Bk} {X : List Ck} (hX : jk X) (hB : ∀ w9, Mg w0 w9 (.obj g (.cells #[.int .i64 kind, .map (some m), .int .i64 (((count : Nat) : Int)), .int .i64 (((last : Nat) : Int))] 66) :: .obj m (zi (bs.map Bk.en) ck) :: X) → Tab w9 ok g kind m count last ck bs) (hsd : bs.Pairwise fun x y => x.b ≠ y.b) (hsl : ∀ x ∈ bs, x.b < ck) (hfl : (jc bs).length ≤ 100000) (hM0 : Mg w0 w (.obj g (.cells #[.int .i64 kind, .map (some m), .int .i64 (((count : Nat) : Int)), .int .i64 (((last : Nat) : Int))] 66) :: .obj m (zi (bs.map Bk.en) ck) :: X)) : Calls Tryz.prog 20 #[.pointer (some ⟨g, 0, none⟩)] w fun e w' => ∃ so' ca' us F, e = .returned (.slice so' (us : List Dt).length ca') ∧ ((∃ zs : List Et, zs.Perm (jc bs) ∧ (zs.Pairwise λa b↦¬ b.p < a.p) ∧ us.map Dt.tr = zs.map fun e => e.k.tr) ∧ (∀ u ∈ us, Lives F u) ∧ jk F) ∧ Mg w0 w' (.row 38 11 (.slice so' us.length ca') us.length (cellsOf us) :: .obj g (.cells #[.int .i64 kind, .map (some m), .int .i64 (((count : Nat) : Int)), .int .i64 (((last : Nat) : Int))] 66) :: .obj m (zi (bs.map Bk.en) ck) :: (F ++ X)) := by
 have M : Mg w0 w (.obj g (.cells #[.int .i64 kind, .map (some m), .int .i64 (((count : Nat) : Int)), .int .i64 (((last : Nat) : Int))] 66) :: .obj m (zi (bs.map Bk.en) ck) :: X) := hM0
 refine qs (l := [(0, .pointer (some ⟨g, 0, none⟩))]) Tryz.func20 rfl Tryz.ntmps20 rfl rfl ?_
 intro Q hret hnorm hP a A
 refine wsk fun K1 hK1 => wrl (sda A λa A↦?_)
 refine qa (hK1 _ _ (wsk fun K2 hK2 => wsk fun K3 hK3 => wrl (sdm A λa A↦?_)))
 refine sdo (v := .bool false) A (qg rfl rfl (qbc Tryz.underlying24)) λa A↦?_
 refine qa (hK3 _ _ (wp_cond_false (A.ev rfl) ?_))
 refine wp_skip (hK2 _ _ (wsk fun K4 hK4 => wrl (sda A λa A↦?_)))
 refine qa (hK4 _ _ (wsk fun K5 hK5 => wsk fun K6 hK6 => wrl (sdm A λa A↦?_)))
 refine sdo A (zf rfl) λa A↦?_
 refine sdo (v := .pointer (some ⟨g, 1, none⟩)) A (qb TeJ_fld_66_1 rfl rfl) λa A↦?_
 refine sdo A (qk M TeJ_is1_64 rfl 0 rfl rfl) λa A↦?_
 refine zlc A M rfl Tryz.underlying64 rfl 1 rfl rfl rfl rfl ?_
 intro r7 w8 M a A
 replace M : Mg w0 w8 (.obj r7 (.mapIter (some m) ck ([]).toArray ck) :: .obj g (.cells #[.int .i64 kind, .map (some m), .int .i64 (((count : Nat) : Int)), .int .i64 (((last : Nat) : Int))] 66) :: .obj m (zi (bs.map Bk.en) ck) :: X) := M
 refine qa (hK6 _ _ (wp_block ?_))
 replace M := M.nilRow (qf (by simp) (qf (by simp) (qf (by simp) hX))) 74 23
 replace M := M.b1
 replace M := M.b1
 replace M := M.b3
 replace M := M.b3
 refine jp (fun m_ a w1 => ∃ (seen : List Nat) (ks : List Et) (so_ : Option Addr) (ca_ : Nat) (nk : Nat), m_ = 1 + (qgc seen bs).length ∧ (ks.Perm (jc (snB seen bs)) ∧ nk = ks.length) ∧ Sl a 43 [(0, .pointer (some ⟨g, 0, none⟩)), (2, .slice none 0 0), (3, .slice so_ nk ca_), (9, .pointer (some ⟨g, 0, none⟩)), (10, .bool false), (11, .pointer (some ⟨g, 0, none⟩)), (12, .pointer (some ⟨g, 0, none⟩)), (13, .pointer (some ⟨g, 1, none⟩)), (14, .map (some m)), (15, .pointer (some ⟨r7, 0, none⟩))] ∧ Mg w0 w1 (.obj g (.cells #[.int .i64 kind, .map (some m), .int .i64 (((count : Nat) : Int)), .int .i64 (((last : Nat) : Int))] 66) :: .obj m (zi (bs.map Bk.en) ck) :: .row 74 23 (.slice so_ nk ca_) nk (zk Et.c ks) :: .obj r7 (.mapIter (some m) ck seen.toArray ck) :: X)) _ ⟨[], [], none, 0, 0, rfl, ⟨(by rw [zub]; exact .refl _), rfl⟩, A.keep _ (by repeat' constructor), M⟩ ?_
 clear M A
 rintro m_ a w9 ⟨seen, ks, so_, ca_, nk, rfl, hinv11, A, M⟩ K10 hK10
 obtain ⟨hks, hnk⟩ := hinv11
 have hkl := qxf hks
 refine wsk fun K12 hK12 => wrl ?_
 refine zsb (seen := seen) (L' := fun e13 => (.obj g (.cells #[.int .i64 kind, .map (some m), .int .i64 (((count : Nat) : Int)), .int .i64 (((last : Nat) : Int))] 66) :: .obj m (zi (bs.map Bk.en) ck) :: .row 74 23 (.slice so_ nk ca_) nk (zk Et.c ks) :: .obj r7 (.mapIter (some m) ck ((seen ++ [e13.b])).toArray ck) :: X)) A M rfl rfl 3 1 rfl rfl (fun e he => by obtain ⟨x, hx, rfl⟩ := List.mem_map.1 he; exact hsl x hx) (Nat.le_refl _) rfl rfl rfl (fun _ => rfl) ?_ ?_
 ·
  intro hz16 a A
  rw [qxe] at hz16
  replace hz16 := List.map_eq_nil_iff.1 hz16
  refine sdo A (zd (vs := [.bool false]) rfl rfl) λa A↦?_
  refine qa (hK12 _ _ (wsk fun K17 hK17 => wp_cond_false (A.ev rfl) ?_))
  refine wp_exit (hK5 _ _ (wsk fun K18 hK18 => wrl (sdm A λa A↦?_)))
  replace M := M.b1
  replace M := M.b1
  replace M := M.b2
  replace M := M.sub (cc (cc (cc (cn (.refl _)))))
  rw [zuc hz16] at hks
  have hkl := hks.length_eq
  refine sct A (ef rfl rfl) (zhf hnk (by omega) M) ?_
  rintro _ w19 ⟨rfl, zs, ⟨hzp, hzs⟩, hM9⟩
  have ezl : nk = zs.length := by rw [hnk, hzp.length_eq]
  replace M : Mg w0 w19 (.row 74 23 (.slice so_ nk ca_) nk (zk Et.c zs) :: .obj g (.cells #[.int .i64 kind, .map (some m), .int .i64 (((count : Nat) : Int)), .int .i64 (((last : Nat) : Int))] 66) :: .obj m (zi (bs.map Bk.en) ck) :: X) := hM9
  refine ⟨_, rfl, ?_⟩
  intro a A
  refine qa (hK18 _ _ (wsk fun K20 hK20 => wrl (sdm A λa A↦?_)))
  refine sdo A (qy Tryz.underlying75 rfl) λa A↦?_
  refine zbd (z := .agg #[.int .i64 0, .int .i64 0, .bool false, .slice none 0 0, .slice none 0 0, .bool false, .slice none 0 0, .slice none 0 0, .string (⟨#[]⟩), .slice none 0 0, .slice none 0 0]) (sz := 11) (by_ := 192) (m := nk) A M Tryz.underlying28 (by kernel_rfl) rfl rfl rfl rfl rfl rfl (by omega) (by omega) (.inl (by decide)) ?_
  intro g21 w22 M a A
  replace M : Mg w0 w22 (.row 38 11 (.slice (some ⟨g21, 0, none⟩) nk nk) nk (cellsOf (List.replicate nk zl)) :: .row 74 23 (.slice so_ nk ca_) nk (zk Et.c zs) :: .obj g (.cells #[.int .i64 kind, .map (some m), .int .i64 (((count : Nat) : Int)), .int .i64 (((last : Nat) : Int))] 66) :: .obj m (zi (bs.map Bk.en) ck) :: X) := by rw [← qtb]; exact M
  refine sda A λa A↦?_
  refine qa (hK20 _ _ (wsk fun K23 hK23 => wsk fun K24 hK24 => wrl (sdm A λa A↦?_)))
  refine sdo A (qy Tryz.underlying75 rfl) λa A↦?_
  refine sdm A λa A↦?_
  refine qa (hK24 _ _ (wp_block ?_))
  replace M := M.b3
  replace M := M.b3
  replace M := M.b3
  replace M := M.b3
  refine jp (fun m_ a w1 => ∃ (i : Nat) (us : List Dt) (F : List Ck), m_ = 1 + (nk - i) ∧ (i ≤ nk ∧ us.length = i ∧ us.map Dt.tr = (zs.take i).map (fun e => e.k.tr) ∧ (∀ u ∈ us, Lives F u) ∧ jk F) ∧ Sl a 43 [(0, .pointer (some ⟨g, 0, none⟩)), (2, .slice none 0 0), (3, .slice so_ nk ca_), (6, .slice (some ⟨g21, 0, none⟩) nk nk), (9, .pointer (some ⟨g, 0, none⟩)), (10, .bool false), (11, .pointer (some ⟨g, 0, none⟩)), (12, .pointer (some ⟨g, 0, none⟩)), (13, .pointer (some ⟨g, 1, none⟩)), (14, .map (some m)), (15, .pointer (some ⟨r7, 0, none⟩)), (16, .tuple #[.bool false]), (17, .bool false), (23, .slice so_ nk ca_), (24, .tuple #[]), (25, .slice so_ nk ca_), (26, .int .i64 (((nk : Nat) : Int))), (27, .slice (some ⟨g21, 0, none⟩) nk nk), (28, .slice so_ nk ca_), (29, .int .i64 (((nk : Nat) : Int))), (30, .int .i64 (((i : Nat) : Int)))] ∧ Mg w0 w1 (.row 38 11 (.slice (some ⟨g21, 0, none⟩) nk nk) nk (cellsOf (us ++ List.replicate (nk - i) zl)) :: .row 74 23 (.slice so_ nk ca_) nk (zk Et.c zs) :: .obj g (.cells #[.int .i64 kind, .map (some m), .int .i64 (((count : Nat) : Int)), .int .i64 (((last : Nat) : Int))] 66) :: .obj m (zi (bs.map Bk.en) ck) :: (F ++ X))) _ ⟨0, [], [], rfl, ⟨Nat.zero_le _, rfl, rfl, (fun u hu => by cases hu), (fun c hc => by cases hc)⟩, A.keep _ (by repeat' constructor), M⟩ ?_
  clear M A
  rintro m_ a w25 ⟨i, us, F, rfl, hinv27, A, M⟩ K26 hK26
  obtain ⟨hi0, hul, hut, huL, hFb⟩ := hinv27
  refine wsk fun K28 hK28 => wrl ?_
  rcases tf (decide (((i : Nat) : Int) < ((nk : Nat) : Int))) with hb29 | hb29
  ·
   have hb29' := of_decide_eq_true hb29
   refine sdc A zq hb29 λa A↦?_
   refine qa (hK28 _ _ (wsk fun K30 hK30 => wp_cond_true (A.ev rfl) ?_))
   refine wp_skip (hK30 _ _ (wsk fun K31 hK31 => wp_block (wsk fun K32 hK32 => ?_)))
   obtain ⟨e, ie⟩ : ∃ e, zs[i]? = some e := ⟨_, List.getElem?_eq_getElem (show i < zs.length by omega)⟩
   obtain ⟨x9, hx9, hex9⟩ := qfj.1 ((hzp.trans hks).mem_iff.1 (List.mem_of_getElem? ie))
   refine wrl (sdm A λa A↦?_)
   obtain ⟨ga, hga⟩ := qmd M 1 rfl (by omega)
   refine sdo (v := .pointer (some ⟨ga, 0 + i * 23, none⟩)) A (zu (k := i) Tryz.underlying75 (by kernel_rfl) rfl rfl rfl hga (by omega)) λa A↦?_
   refine sdo A (zkc (o := i * 23) (cs := ji e.p e.k e.v) M 1 rfl hga TeJ_isS_74 (zce ie) rfl rfl) λa A↦?_
   refine zx (vs := [.int .i64 0, .int .i64 0, .int .i64 0, .bool false, .slice none 0 0, .slice none 0 0, .bool false, .slice none 0 0, .slice none 0 0, .string (⟨#[]⟩), .slice none 0 0, .slice none 0 0, .int .i64 0, .int .i64 0, .bool false, .slice none 0 0, .slice none 0 0, .bool false, .slice none 0 0, .slice none 0 0, .string (⟨#[]⟩), .slice none 0 0, .slice none 0 0]) (t := 74) A M rfl rfl rfl pg (ql (z := .agg #[.int .i64 0, .int .i64 0, .int .i64 0, .bool false, .slice none 0 0, .slice none 0 0, .bool false, .slice none 0 0, .slice none 0 0, .string (⟨#[]⟩), .slice none 0 0, .slice none 0 0, .int .i64 0, .int .i64 0, .bool false, .slice none 0 0, .slice none 0 0, .bool false, .slice none 0 0, .slice none 0 0, .string (⟨#[]⟩), .slice none 0 0, .slice none 0 0]) (by kernel_rfl) rfl) (by decide) ?_
   intro g33 w34 M a A
   refine sda A λa A↦?_
   refine zr (us := (ji e.p e.k e.v)) (L' := (.obj g33 (.cells (ji e.p e.k e.v).toArray 74) :: .row 38 11 (.slice (some ⟨g21, 0, none⟩) nk nk) nk (cellsOf (us ++ List.replicate (nk - i) zl)) :: .row 74 23 (.slice so_ nk ca_) nk (zk Et.c zs) :: .obj g (.cells #[.int .i64 kind, .map (some m), .int .i64 (((count : Nat) : Int)), .int .i64 (((last : Nat) : Int))] 66) :: .obj m (zi (bs.map Bk.en) ck) :: (F ++ X))) A M rfl rfl (za rfl rfl rfl (by kernel_rfl) M 0 rfl rfl (ke _ _ _)) 0 rfl (zhi rfl) rfl ?_
   intro w35 M
   refine qa (hK32 _ _ (wrl ?_))
   iterate 2 refine sdm A λa A↦?_
   refine sdo (v := .pointer (some ⟨g33, 1, none⟩)) A (qb TeJ_fld_74_1 rfl rfl) λa A↦?_
   refine sdo A (qw M TeJ_isS_38 rfl 0 rfl (cs := (e.k.d.cells e.k.ts.length)) rfl rfl) λa A↦?_
   have hek9 := ((hB _ ((M.sub (cn (cn (cn (cc (cc (.refl _))))))).unF2)).key x9 hx9 e hex9)
   have hz41 := M.bel.size
   refine sct A (ef rfl rfl) (ju e.k hek9.1 (by omega)) ?_
   rintro _ w42 ⟨c36, rfl, ⟨hcr37, hco39, hct38⟩, hb40⟩
   replace M : Mg w0 w42 (.obj g33 (.cells (ji e.p e.k e.v).toArray 74) :: .row 38 11 (.slice (some ⟨g21, 0, none⟩) nk nk) nk (cellsOf (us ++ List.replicate (nk - i) zl)) :: .row 74 23 (.slice so_ nk ca_) nk (zk Et.c zs) :: .obj g (.cells #[.int .i64 kind, .map (some m), .int .i64 (((count : Nat) : Int)), .int .i64 (((last : Nat) : Int))] 66) :: .obj m (zi (bs.map Bk.en) ck) :: (made w35 w42 ++ (F ++ X))) := M.freezeAt 5 (qf (by simp) (qf (by simp) (qf (by simp) (qf (by simp) (qf (by simp) (jb hFb hX)))))) hb40
   have hLc36 := jt hcr37 hco39
   replace hco39 := Dt.at_mono (fun b hb => Nat.le_trans hz41 hb) _ hco39
   refine ⟨_, rfl, ?_⟩
   intro a A
   refine sdo (v := .pointer (some ⟨g21, i * 11, none⟩)) A (zt (k := i) Tryz.underlying28 (by kernel_rfl) rfl rfl rfl (by omega)) λa A↦?_
   refine vz (cs := (c36.d.cells c36.ts.length)) (L' := (.obj g33 (.cells (ji e.p e.k e.v).toArray 74) :: .row 38 11 (.slice (some ⟨g21, 0, none⟩) nk nk) nk (over (cellsOf (us ++ List.replicate (nk - i) zl)) (i * 11) (c36.d.cells c36.ts.length)) :: .row 74 23 (.slice so_ nk ca_) nk (zk Et.c zs) :: .obj g (.cells #[.int .i64 kind, .map (some m), .int .i64 (((count : Nat) : Int)), .int .i64 (((last : Nat) : Int))] 66) :: .obj m (zi (bs.map Bk.en) ck) :: (made w35 w42 ++ (F ++ X)))) (us := []) A M rfl rfl (xv rfl rfl rfl (by kernel_rfl) M 1 rfl (by show i * 11 + 11 ≤ _; omega) (vv c36)) 1 rfl rfl ?_
   intro w43 M
   replace M : Mg w0 w43 (.obj g33 (.cells (ji e.p e.k e.v).toArray 74) :: .row 38 11 (.slice (some ⟨g21, 0, none⟩) nk nk) nk (cellsOf ((us ++ [c36]) ++ List.replicate (nk - (i + 1)) zl)) :: .row 74 23 (.slice so_ nk ca_) nk (zk Et.c zs) :: .obj g (.cells #[.int .i64 kind, .map (some m), .int .i64 (((count : Nat) : Int)), .int .i64 (((last : Nat) : Int))] 66) :: .obj m (zi (bs.map Bk.en) ck) :: (made w35 w42 ++ (F ++ X))) := by rw [zpe hul (by omega)] at M; exact M
   refine qa (hK31 _ _ (wrl (sdo (v := .int .i64 (((i + 1 : Nat) : Int))) A (qg rfl rfl (ar_add ((in_i64 (by omega) (by omega)).trans (by omega)))) λa A↦?_)))
   refine sdm A λa A↦?_
   refine qa ?_
   replace M := M.b4
   replace M := M.b4
   replace M := M.b4
   replace M := M.b4
   replace M := M.sub (cc (cc (cc (cc (cn (.refl _))))))
   rw [← List.append_assoc] at M
   refine hK26 _ _ _ (by omega) ⟨i + 1, us ++ [c36], (made w35 w42 ++ F), rfl, ⟨by omega, by rw [List.length_append, hul]; rfl, zud hut ie hct38, (fun u hu => (List.mem_append.1 hu).elim (fun k => (huL u k).app _) (fun k => by rw [List.mem_singleton.1 k]; exact hLc36.front _)), jb ja hFb⟩, A.keep _ (by repeat' constructor), M⟩
  ·
   have hb29' := of_decide_eq_false hb29
   refine sdc A zq hb29 λa A↦?_
   refine qa (hK28 _ _ (wsk fun K44 hK44 => wp_cond_false (A.ev rfl) ?_))
   refine wp_exit (hK23 _ _ (wsk fun K45 hK45 => wrl (sdm A λa A↦?_)))
   refine sda A λa A↦?_
   refine qa (hK45 _ _ (wp_ret (hret _ _ (en1 A rfl (qj rfl) ?_))))
   replace M := M.b3
   replace M := M.b3
   replace M := M.b2
   replace M := M.sub (cc (cc (cc (cn (.refl _)))))
   have ei : i = nk := by omega
   rw [show nk - i = 0 by omega, List.replicate_zero, List.append_nil] at M
   rw [List.take_of_length_le (by omega)] at hut
   have eu : nk = us.length := by omega
   exact ⟨_, _, us, F, by rw [← eu], ⟨⟨zs, hzp.trans hks, hzs, hut⟩, huL, hFb⟩, by rw [← eu]; exact M⟩
 ·
  intro e13 he14 w15 M a A
  rw [qxe] at he14
  obtain ⟨x, hx, rfl⟩ := List.mem_map.1 he14
  have hxm : x ∈ bs := (List.mem_filter.1 hx).1
  have hkf := zpd hsd hx hks
  replace M : Mg w0 w15 (.obj g (.cells #[.int .i64 kind, .map (some m), .int .i64 (((count : Nat) : Int)), .int .i64 (((last : Nat) : Int))] 66) :: .obj m (zi (bs.map Bk.en) ck) :: .row 74 23 (.slice so_ nk ca_) nk (zk Et.c ks) :: .obj r7 (.mapIter (some m) ck ((seen ++ [x.b])).toArray ck) :: X) := M
  refine sdo A (zd (vs := [.bool true, .int .u64 x.h, .slice x.so x.es.length x.ca]) rfl rfl) λa A↦?_
  refine qa (hK12 _ _ (wsk fun K46 hK46 => wp_cond_true (A.ev rfl) ?_))
  refine wp_skip (hK46 _ _ (wp_block (wsk fun K47 hK47 => wrl (sdo (v := .tuple #[.int .u64 x.h, .slice x.so x.es.length x.ca]) A (zsc (e := x.en) (seen := seen) M rfl 3 1 rfl rfl (List.mem_map.2 ⟨x, hxm, rfl⟩) (by rw [List.map_map]; exact List.pairwise_map.2 hsd)) λa A↦?_))))
  refine sdo A (zd (vs := [.int .u64 x.h, .slice x.so x.es.length x.ca]) rfl rfl) λa A↦?_
  refine sda A λa A↦?_
  refine qa (hK47 _ _ (wrl ?_))
  iterate 2 refine sdm A λa A↦?_
  refine kl (e := 74) (sz := 23) (k := 2) (q := nk) (m := x.es.length) (xs := zk Et.c ks) (news := zk Et.c x.es) (L' := fun v48 => (.obj g (.cells #[.int .i64 kind, .map (some m), .int .i64 (((count : Nat) : Int)), .int .i64 (((last : Nat) : Int))] 66) :: .obj m (zi (bs.map Bk.en) ck) :: .row 74 23 (v48) (nk + x.es.length) (zk Et.c ks ++ zk Et.c x.es) :: .obj r7 (.mapIter (some m) ck ((seen ++ [x.b])).toArray ck) :: X)) A rfl rfl rfl (vl (z := .agg #[.int .i64 0, .int .i64 0, .int .i64 0, .bool false, .slice none 0 0, .slice none 0 0, .bool false, .slice none 0 0, .slice none 0 0, .string (⟨#[]⟩), .slice none 0 0, .slice none 0 0, .int .i64 0, .int .i64 0, .bool false, .slice none 0 0, .slice none 0 0, .bool false, .slice none 0 0, .slice none 0 0, .string (⟨#[]⟩), .slice none 0 0, .slice none 0 0]) (sz := 23) (by_ := 392) Tryz.underlying75 (by kernel_rfl) rfl rfl rfl M 2 rfl rfl rfl (qzd x.es) ((hB _ (M.sub (cc (cc (cn (cn (.refl _))))))).row x hxm) (zag x.es) (by omega)) (fun _ => rfl) ?_
  intro v48 w49 M a A
  obtain ⟨so50, ca51, rfl⟩ := xj (M.has 2 rfl)
  replace M : Mg w0 w49 (.obj g (.cells #[.int .i64 kind, .map (some m), .int .i64 (((count : Nat) : Int)), .int .i64 (((last : Nat) : Int))] 66) :: .obj m (zi (bs.map Bk.en) ck) :: .row 74 23 (.slice so50 ((nk + x.es.length)) ca51) ((nk + x.es.length)) (zk Et.c (ks ++ x.es)) :: .obj r7 (.mapIter (some m) ck ((seen ++ [x.b])).toArray ck) :: X) := by rw [xr]; exact M
  refine sda A λa A↦?_
  refine qa ?_
  replace M := M.b3
  replace M := M.b3
  replace M := M.b3
  replace M := M.b3
  refine hK10 _ _ _ (by have := zhh hx; omega) ⟨seen ++ [x.b], ks ++ x.es, so50, ca51, nk + x.es.length, rfl, ⟨zdf hsd hx hks, by rw [hnk, List.length_append]⟩, A.keep _ (by repeat' constructor), M⟩
open Classical
/-- Rows of numbers. -/
def zj (l : List Nat) : List Value := l.map fun n => .int .i64 ((n : Nat) : Int)
theorem kg {l : List Nat} {k : Nat} (h : k < l.length) : (zj l)[k * 1]? = some (.int .i64 ((l.getD k 0 : Nat) : Int)) := by
  unfold zj
  rw [Nat.mul_one, List.getElem?_map, List.getElem?_eq_getElem h, List.getD_eq_getElem?_getD, List.getElem?_eq_getElem h]; rfl
theorem yd {l : List Nat} {k : Nat} (n : Nat) : over (zj l) (k * 1) [.int .i64 ((n : Nat) : Int)] = zj (l.set k n) := by
  unfold zj
  rw [Nat.mul_one, List.map_set]; rfl
theorem qnd (a b : List Nat) : zj (a ++ b) = zj a ++ zj b := List.map_append
theorem qne (l : List Nat) : ∀ u ∈ zj l, u.oneCell' = true := fun u hu => by
  obtain ⟨n, _, rfl⟩ := List.mem_map.1 hu; rfl
theorem zhj (n : Nat) : (madeCells #[.int .i64 0] (n * 1)).toList = zj (List.replicate n 0) := by
  unfold madeCells zj
  rw [Array.toList_map, Array.toList_range, Nat.mul_one, List.map_replicate]
  apply List.ext_getElem?
  intro j
  rw [List.getElem?_map, List.getElem?_replicate]
  by_cases h : j < n
  · rw [List.getElem?_range h, if_pos h, Option.map_some, show (#[Value.int .i64 0] : Array Value).size = 1 from rfl, Nat.mod_one]; rfl
  · rw [List.getElem?_eq_none (by simp; omega), if_neg h]; rfl
/-- A character, and a vector of one. -/
def chD (n : Int) : Dt := .mk ⟨4, n, ⟨Q6.zero, none, 0, none, 0, none, 0, none, 0⟩, ⟨#[]⟩, none, 0, [], none, 0⟩ []
def chT (n : Int) : Tr := .mk 4 n Q6.zero ⟨#[]⟩ [] []
def jd (g : Nat) (n : Int) : Dt := .mk ⟨9, 0, ⟨Q6.zero, none, 0, none, 0, none, 0, none, 0⟩, ⟨#[]⟩, none, 0, [], some ⟨g, 0, none⟩, 1⟩ [chD n]
def xq (n : Int) : Tr := .mk 9 0 Q6.zero ⟨#[]⟩ [] [chT n]
theorem qnf (n : Int) : (chD n).tr = chT n := by unfold chD chT; rw [Dt.tr_mk]; rfl
theorem qch (g : Nat) (n : Int) : (jd g n).tr = xq n := by unfold jd xq; rw [Dt.tr_mk, List.map_singleton, qnf]
theorem zdg (w : World) (k n : Int) (lo : Option Addr) (lc : Nat) (h0 : -9223372036854775808 ≤ k) (h1 : k ≤ 9223372036854775807) (h2 : -9223372036854775808 ≤ n) (h3 : n ≤ 9223372036854775807) : NdOk w ⟨k, n, ⟨Q6.zero, none, 0, none, 0, none, 0, none, 0⟩, ⟨#[]⟩, none, 0, [], lo, lc⟩ :=
  ⟨⟨Sc.none w, Sc.none w, Sc.none w, Sc.none w⟩, qcd, ⟨fun h => absurd rfl h⟩, Nat.le_refl _, by show (0 : Nat) ≤ _; omega, h0, h1, h2, h3, by show (0 : Nat) ≤ _; omega⟩
theorem qng (w : World) {n : Int} (h2 : -9223372036854775808 ≤ n) (h3 : n ≤ 9223372036854775807) : (chD n).rd w :=
  Dt.rd_iff.2 ⟨zdg w 4 n none 0 (by decide) (by decide) h2 h3, Nat.le_refl _, by show (0 : Nat) ≤ _; omega, fun h => absurd rfl h, fun t h => by cases h⟩
theorem qci {w : World} {B g : Nat} {e : TypeId} {n : Int} (h : w.ownsRow B e 11 (.slice (some ⟨g, 0, none⟩) 1 1) 1 (cellsOf [chD n])) (h2 : -9223372036854775808 ≤ n) (h3 : n ≤ 9223372036854775807) : (jd g n).rd w :=
  Dt.rd_iff.2 ⟨zdg w 9 0 _ _ (by decide) (by decide) (by decide) (by decide), Nat.le_refl _, by show (1 : Nat) ≤ _; omega, (qdh (ts := [chD n]) h).1, fun t ht => by rw [List.mem_singleton.1 ht]; exact qng w h2 h3⟩
theorem qxg {n : Int} (h : 0 ≤ n) (h2 : n < 55296) : qz qx (chT n) = true := by
  have hc : qdd n = true := by unfold qdd; simp; omega
  unfold qz chT
  simp [jy, qad, uu, qgj, qx, js, vi, qhb, Q6.zero, hc]
theorem vm {n : Int} (h : 0 ≤ n) (h2 : n < 55296) : qz qx (xq n) = true := by
  have hc : qdd n = true := by unfold qdd; simp; omega
  unfold qz xq chT
  simp [jy, qad, uu, qgj, qx, js, vi, qhb, Q6.zero, hc]
theorem qec {n : Int} (h : 0 ≤ n) (h2 : n < 55296) : (xq n).good := by
  have h1 := Dt.good (w := default) (jd 0 n)
  have hs := qhh (vm h h2)
  have hc := qhh (qxg h h2)
  unfold xq at hs ⊢
  rw [uu, Bool.and_eq_true] at hs
  unfold chT at hc
  rw [uu, Bool.and_eq_true] at hc
  refine qcb.2 ⟨ux (k := 9) (n := 0) (q := Q6.zero) (s := ⟨#[]⟩) (mr := 0) (ml := 1) hs.1, (fun e => by cases e), fun t ht => ?_⟩
  rw [List.mem_singleton.1 ht]
  exact qcb.2 ⟨ux (k := 4) (n := n) (q := Q6.zero) (s := ⟨#[]⟩) (mr := 0) (ml := 0) hc.1, (fun e => by cases e), (fun t ht => by cases ht)⟩
theorem qgd {a b : Int} (h : xq a = xq b) : a = b := by
  unfold xq chT at h
  injection h with _ _ _ _ _ h
  injection h with h _
  injection h
/-- What the table holds. -/
def yv (O H : List Nat) : List (Tr × Tr) := O.map fun k => (xq ((k : Nat) : Int), chT ((H.getD k 0 - 1 : Nat) : Int))
structure Lst (i : Nat) (O H : List Nat) : Prop where
  hl : H.length = 256
  nd : O.Pairwise (· ≠ ·)
  mem : ∀ k, k ∈ O ↔ (k < 256 ∧ 0 < H.getD k 0)
  le : ∀ k, H.getD k 0 ≤ i
theorem Lst.zero : Lst 0 [] (List.replicate 256 0) := by
  have hz : ∀ k, (List.replicate 256 0).getD k 0 = 0 := fun k => by
    rw [List.getD_eq_getElem?_getD, List.getElem?_replicate]
    split <;> rfl
  exact ⟨List.length_replicate, .nil, fun k => ⟨(fun h => by cases h), fun h => by rw [hz] at h; omega⟩, fun k => by rw [hz]; exact Nat.le_refl _⟩
theorem ye {H : List Nat} {k j n : Nat} (hk : k < H.length) : (H.set k n).getD j 0 = if j = k then n else H.getD j 0 := by
  rw [List.getD_eq_getElem?_getD, List.getD_eq_getElem?_getD]
  by_cases h : j = k
  · subst h; rw [if_pos rfl, List.getElem?_set_self hk]; rfl
  · rw [if_neg h, List.getElem?_set_ne (fun e => h e.symm)]
theorem qqb : ∀ (n : Nat) (O : List Nat), O.Pairwise (· ≠ ·) → (∀ k ∈ O, k < n) → O.length ≤ n
  | 0, [], _, _ => Nat.le_refl _
  | 0, k :: O, _, h => absurd (h k List.mem_cons_self) (Nat.not_lt_zero _)
  | n + 1, O, hp, h => by
    have e := qqb n (O.filter fun j => decide (j ≠ n)) (hp.filter _) fun k hk => by
      have h1 := h k (List.mem_filter.1 hk).1
      have h2 := of_decide_eq_true (List.mem_filter.1 hk).2
      omega
    have e2 : ∀ (l : List Nat), l.Pairwise (· ≠ ·) → l.length ≤ (l.filter fun j => decide (j ≠ n)).length + 1 := by
      intro l
      induction l with
      | nil => intro _; exact Nat.zero_le _
      | cons a l ih =>
        intro hp
        rw [List.pairwise_cons] at hp
        by_cases ha : a = n
        · have : (l.filter fun j => decide (j ≠ n)) = l := List.filter_eq_self.2 fun j hj => decide_eq_true fun e => hp.1 j hj (ha.trans e.symm)
          rw [List.filter_cons_of_neg (by simp [ha]), this]; exact Nat.le_refl _
        · rw [List.filter_cons_of_pos (by simp [ha])]
          have := ih hp.2
          simp only [List.length_cons]; omega
    have := e2 O hp
    omega
theorem Lst.len {i : Nat} {O H : List Nat} (h : Lst i O H) : O.length ≤ 256 := qqb 256 O h.nd fun k hk => ((h.mem k).1 hk).1
theorem qge {O H : List Nat} {k : Nat} : (∃ a ∈ yv O H, id a.1 = id (xq ((k : Nat) : Int))) ↔ k ∈ O := by
  unfold yv
  constructor
  · rintro ⟨a, ha, e⟩
    obtain ⟨j, hj, rfl⟩ := List.mem_map.1 ha
    have := qgd e
    have : j = k := by omega
    rw [← this]; exact hj
  · exact fun h => ⟨_, List.mem_map.2 ⟨k, h, rfl⟩, rfl⟩
theorem zdh {i : Nat} {O H : List Nat} (h : Lst i O H) {k : Nat} (hk : k < 256) (hO : k ∈ O) : qnb id (xq ((k : Nat) : Int)) (chT ((i : Nat) : Int)) (yv O H) = yv O (H.set k (i + 1)) := by
  unfold qnb
  rw [if_pos (qge.2 hO)]
  unfold yv
  rw [List.map_map]
  refine List.map_congr_left fun j hj => ?_
  show (if id (xq ((j : Nat) : Int)) = id (xq ((k : Nat) : Int)) then (xq ((j : Nat) : Int), chT ((i : Nat) : Int)) else _) = _
  rw [ye (by rw [h.hl]; exact hk)]
  by_cases e : j = k
  · subst e; rw [if_pos rfl, if_pos rfl, Nat.add_sub_cancel]
  · rw [if_neg (fun e2 => e (by have := qgd e2; omega)), if_neg e]
theorem Lst.hit {i : Nat} {O H : List Nat} (h : Lst i O H) {k : Nat} (hk : k < 256) (hO : k ∈ O) : Lst (i + 1) O (H.set k (i + 1)) := by
  have hg := fun j => ye (H := H) (k := k) (j := j) (n := i + 1) (by rw [h.hl]; exact hk)
  refine ⟨by rw [List.length_set]; exact h.hl, h.nd, fun j => ?_, fun j => ?_⟩
  · rw [hg, h.mem]
    by_cases e : j = k
    · subst e; rw [if_pos rfl]; have := (h.mem j).1 hO; omega
    · rw [if_neg e]
  · rw [hg]; have := h.le j; split <;> omega
theorem zdi {i : Nat} {O H : List Nat} (h : Lst i O H) {k : Nat} (hk : k < 256) (hO : k ∉ O) : qnb id (xq ((k : Nat) : Int)) (chT ((i : Nat) : Int)) (yv O H) = yv (O ++ [k]) (H.set k (i + 1)) := by
  unfold qnb
  rw [if_neg (fun e => hO (qge.1 e))]
  unfold yv
  have hg := fun j => ye (H := H) (k := k) (j := j) (n := i + 1) (by rw [h.hl]; exact hk)
  rw [List.map_append, List.map_singleton, hg k, if_pos rfl, Nat.add_sub_cancel]
  congr 1
  refine List.map_congr_left fun j hj => ?_
  rw [hg j, if_neg (fun e : j = k => hO (e ▸ hj))]
theorem Lst.new {i : Nat} {O H : List Nat} (h : Lst i O H) {k : Nat} (hk : k < 256) (hO : k ∉ O) : Lst (i + 1) (O ++ [k]) (H.set k (i + 1)) := by
  have hg := fun j => ye (H := H) (k := k) (j := j) (n := i + 1) (by rw [h.hl]; exact hk)
  refine ⟨by rw [List.length_set]; exact h.hl, List.pairwise_append.2 ⟨h.nd, by simp, fun a ha b hb => by rw [List.mem_singleton.1 hb]; exact fun e => hO (e ▸ ha)⟩, fun j => ?_, fun j => ?_⟩
  · rw [hg, List.mem_append, List.mem_singleton, h.mem]
    by_cases e : j = k
    · subst e; rw [if_pos rfl]; omega
    · rw [if_neg e]; omega
  · rw [hg]; have := h.le j; split <;> omega
theorem zue {i : Nat} {O H : List Nat} (h : Lst i O H) {k : Nat} (hk : k < 256) : qwe id (xq ((k : Nat) : Int)) (yv O H) = yv (O.filter fun j => decide (j ≠ k)) (H.set k 0) := by
  unfold qwe yv
  rw [List.filter_map]
  have hg := fun j => ye (H := H) (k := k) (j := j) (n := 0) (by rw [h.hl]; exact hk)
  have e1 : O.filter ((fun a : Tr × Tr => decide (id a.1 ≠ id (xq ((k : Nat) : Int)))) ∘ fun k => (xq ((k : Nat) : Int), chT ((H.getD k 0 - 1 : Nat) : Int))) = O.filter fun j => decide (j ≠ k) := List.filter_congr fun j hj => by
    show decide (id (xq ((j : Nat) : Int)) ≠ id (xq ((k : Nat) : Int))) = decide (j ≠ k)
    by_cases e : j = k
    · subst e; simp
    · have e2 : id (xq ((j : Nat) : Int)) ≠ id (xq ((k : Nat) : Int)) := fun e2 => e (by have := qgd e2; omega)
      simp [e, show xq ((j : Nat) : Int) ≠ xq ((k : Nat) : Int) from e2]
  rw [e1]
  refine List.map_congr_left fun j hj => ?_
  have hne := of_decide_eq_true (List.mem_filter.1 hj).2
  rw [hg j, if_neg hne]
theorem Lst.del {i : Nat} {O H : List Nat} (h : Lst i O H) {k : Nat} (hk : k < 256) : Lst (i + 1) (O.filter fun j => decide (j ≠ k)) (H.set k 0) := by
  have hg := fun j => ye (H := H) (k := k) (j := j) (n := 0) (by rw [h.hl]; exact hk)
  refine ⟨by rw [List.length_set]; exact h.hl, h.nd.filter _, fun j => ?_, fun j => ?_⟩
  · rw [hg, List.mem_filter, h.mem]
    by_cases e : j = k
    · subst e; rw [if_pos rfl]; simp
    · rw [if_neg e]; simp [e]
  · rw [hg]; have := h.le j; split <;> omega
theorem zia {O : List Nat} {k : Nat} (h : k ∉ O) : (O.filter fun j => decide (j ≠ k)) = O := List.filter_eq_self.2 fun j hj => decide_eq_true fun e => h (e ▸ hj)
/-- Two rows of the same entries, each by rising places, are one. -/
theorem qxh : ∀ {L Z : List Et}, L.Perm Z → (L.Pairwise fun a b => a.p < b.p) → (Z.Pairwise fun a b => ¬ b.p < a.p) → L = Z
  | [], Z, hp, _, _ => hp.nil_eq
  | a :: L, [], hp, _, _ => by have := hp.length_eq; simp at this
  | a :: L, b :: Z, hp, hL, hZ => by
    rw [List.pairwise_cons] at hL hZ
    have ha : a ∈ b :: Z := hp.mem_iff.1 List.mem_cons_self
    have hb : b ∈ a :: L := hp.mem_iff.2 List.mem_cons_self
    have e : a = b := by
      rcases List.mem_cons.1 ha with k | k
      · exact k
      · rcases List.mem_cons.1 hb with k2 | k2
        · exact k2.symm
        · have h1 := hL.1 b k2
          have h2 := hZ.1 a k
          omega
    subst e
    rw [qxh (List.Perm.cons_inv hp) hL.2 hZ.2]
theorem TeK_is1_3 : Is1 Tryz.prog 3 := ⟨⟨_, Tryz.underlying3, rfl⟩, by kernel_rfl⟩
theorem TeK_fld_66_2 : FieldAt Tryz.prog 66 2 2 := ⟨_, _, Tryz.underlying66, rfl, rfl, by kernel_rfl⟩
theorem zuf {mk : Tr → Tr} {ok : Tr → Bool} {s : TS} (h : TOk mk ok s) {kind : Int} {w0 w : World} {g : Nat} {Y : List Ck} (hY : jk Y) (hc : s.count ≤ 4096) {A : List (Tr × Tr)} (hH : Holds (jc s.bs) A) (M : Mg w0 w (Y ++ s.P g kind)) : Calls Tryz.prog 20 #[.pointer (some ⟨g, 0, none⟩)] w fun e w' => ∃ so' ca' us F, e = .returned (.slice so' (us : List Dt).length ca') ∧ (us.map Dt.tr = A.map Prod.fst ∧ (∀ u ∈ us, Lives F u) ∧ jk F) ∧ Mg w0 w' (.row 38 11 (.slice so' us.length ca') us.length (cellsOf us) :: (Y ++ (F ++ s.P g kind))) := by
 have hp := P_new s g kind Y
 refine (zpf (qdb h hY) (fun w9 h9 => qif h (by omega) ((h9.perm hp.symm).sub (List.sublist_append_right _ _))) h.sd h.sl (by rw [← h.cn]; omega) (M.perm hp)).mono ?_
 rintro r w' ⟨so', ca', us, F, rfl, ⟨⟨zs, z1, z2, z3⟩, h2, h3⟩, hM2⟩
 obtain ⟨L, l1, l2, l3⟩ := hH
 have e := qxh (l1.trans z1.symm) l2 z2
 refine ⟨so', ca', us, F, rfl, ⟨by rw [z3, l3, e, List.map_map]; rfl, h2, h3⟩, hM2.perm (.cons _ ?_)⟩
 have q : (Y ++ (F ++ s.P g kind)).Perm (F ++ (Y ++ s.P g kind)) := List.perm_append_comm_assoc _ _ _
 refine List.Perm.trans ?_ (q.trans ((List.Perm.refl F).append hp)).symm
 refine List.Perm.trans ?_ List.perm_append_comm
 refine List.Perm.cons _ (.cons _ ?_)
 exact List.perm_append_comm
theorem qqc {O : List Nat} {i n : Nat} (hi : i < O.length) : (O.take (i + 1)).filter (fun j => decide (j ≠ n)) = (O.take i).filter (fun j => decide (j ≠ n)) ++ (if O.getD i 0 = n then [] else [O.getD i 0]) := by
 rw [List.take_succ_eq_append_getElem hi, List.filter_append, List.getD_eq_getElem?_getD, List.getElem?_eq_getElem hi, Option.getD_some]
 congr 1
 by_cases e : O[i] = n
 ·
  rw [if_pos e, List.filter_cons_of_neg (by simp [e])]; rfl
 ·
  rw [if_neg e, List.filter_cons_of_pos (by simp [e])]; rfl
theorem zug {w : World} {g m count last ck : Nat} {bs : List Bk} {kind : Int} {ok : Tr → Bool} (hB : Tab w ok g kind m count last ck bs) : Calls Tryz.prog 18 #[.pointer (some ⟨g, 0, none⟩)] w fun e w' => e = .returned (.int .i64 ((count : Nat) : Int)) ∧ Below w.heap.size w w' := by
 have M : Mg w w ([]) := Mg.start w
 refine qs (l := [(0, .pointer (some ⟨g, 0, none⟩))]) Tryz.func18 rfl Tryz.ntmps18 rfl rfl ?_
 intro Q hret hnorm hP a H
 refine wsk fun K1 hK1 => wrl (sda H λa H↦?_)
 refine qa (hK1 _ _ (wsk fun K2 hK2 => wsk fun K3 hK3 => wrl (sdm H λa H↦?_)))
 refine sdo (v := .bool false) H (qg rfl rfl (qbc Tryz.underlying24)) λa H↦?_
 refine qa (hK3 _ _ (wp_cond_false (H.ev rfl) ?_))
 refine wp_skip (hK2 _ _ (wsk fun K4 hK4 => wrl (sdm H λa H↦?_)))
 refine sdo H (zf rfl) λa H↦?_
 refine sdo (v := .pointer (some ⟨g, 2, none⟩)) H (qb TeK_fld_66_2 rfl rfl) λa H↦?_
 refine sdo H (yq M hB.obj TeK_is1_3 rfl rfl) λa H↦?_
 refine sda H λa H↦?_
 refine qa (hK4 _ _ (wp_ret (hret _ _ (en1 H rfl (qj rfl) ?_))))
 exact ⟨rfl, M.bel⟩
section
variable {P : Program} {w0 w : World} {L : List Ck} {l : List (Nat × Value)} {dst : Option Tmp} {ty : TypeId} {pos : String} {after : Array Edge} {guard : Option (Nat × Bool)} {v : Value}
theorem qxi (M : Mg w0 w L) (k : Nat) {e : TypeId} {sz g n c o : Nat} {so : Option Addr} {xs : List Value} (hk : L[k]? = some (.row e sz (.slice so n c) n xs)) (hso : so = some ⟨g, 0, none⟩) {t : TypeId} (ht : Is1 P t) (hv : xs[o]? = some v) {x : Operand} (hx : ev l x = some (.pointer (some ⟨g, 0 + o, none⟩))) : Does P l ⟨dst, .load t x, ty, pos, after, guard⟩ w v w := by
 subst hso
 rw [Nat.zero_add] at hx
 exact va M k hk hv ht hx
end
theorem qxj {w0 w : World} {so : Option Addr} {ca n : Nat} {O : List Nat} {X : List Ck} (hX : jk X) (hl : O.length ≤ 1000) (hn : n ≤ 1000) (hM0 : Mg w0 w (.row 3 1 (.slice so O.length ca) O.length (zj O) :: X)) : Calls Tryz.prog 21 #[.slice so O.length ca, .int .i64 ((n : Nat) : Int)] w fun e w' => ∃ so' ca', e = .returned (.slice so' (O.filter fun j => decide (j ≠ n)).length ca') ∧ Mg w0 w' (.row 3 1 (.slice so' (O.filter fun j => decide (j ≠ n)).length ca') (O.filter fun j => decide (j ≠ n)).length (zj (O.filter fun j => decide (j ≠ n))) :: X) := by
 have M : Mg w0 w (.row 3 1 (.slice so O.length ca) O.length (zj O) :: X) := hM0
 refine qs (l := [(0, .slice so O.length ca), (1, .int .i64 (((n : Nat) : Int)))]) Tryz.func21 rfl Tryz.ntmps21 rfl rfl ?_
 intro Q hret hnorm hP a H
 refine wsk fun K1 hK1 => wrl (sda H λa H↦?_)
 refine qa (hK1 _ _ (wsk fun K2 hK2 => wrl (ui (e := 3) (sz := 1) (m := 0) (vs := zj []) H M rfl rfl rfl (zh rfl (by kernel_rfl)) rfl rfl (.inl (by decide)) ?_)))
 intro g3 w4 M a H
 refine sda H λa H↦?_
 refine qa (hK2 _ _ (wsk fun K5 hK5 => wsk fun K6 hK6 => wrl (sda H λa H↦?_)))
 refine qa (hK6 _ _ (wp_block (jp (fun m_ a w1 => ∃ (i : Nat) (P : List Nat) (so_ : Option Addr) (ca_ : Nat), m_ = 1 + (O.length - i) ∧ (i ≤ O.length ∧ P = (O.take i).filter fun j => decide (j ≠ n)) ∧ Sl a 28 [(0, .slice so O.length ca), (1, .int .i64 (((n : Nat) : Int))), (4, .slice none 0 0), (5, .slice so_ P.length ca_), (6, .int .i64 (((i : Nat) : Int))), (7, .slice (some ⟨g3, 0, none⟩) 0 0)] ∧ Mg w0 w1 (.row 3 1 (.slice so_ P.length ca_) P.length (zj P) :: .row 3 1 (.slice so O.length ca) O.length (zj O) :: X)) _ ⟨0, [], (some ⟨g3, 0, none⟩), 0, rfl, ⟨Nat.zero_le _, rfl⟩, H.keep _ (by repeat' constructor), M⟩ ?_)))
 clear M H
 rintro m_ a w7 ⟨i, P, so_, ca_, rfl, hinv9, H, M⟩ K8 hK8
 obtain ⟨hi0, hP⟩ := hinv9
 have hPl : P.length ≤ O.length := by rw [hP]; exact Nat.le_trans (List.length_filter_le _ _) (by rw [List.length_take]; omega)
 refine wsk fun K10 hK10 => wsk fun K11 hK11 => wrl ?_
 iterate 2 refine sdm H λa H↦?_
 refine sdo H (qy Tryz.underlying56 rfl) λa H↦?_
 rcases tf (decide (((i : Nat) : Int) < ((O.length : Nat) : Int))) with hb12 | hb12
 ·
  have hb12' := of_decide_eq_true hb12
  refine sdc H zq hb12 λa H↦?_
  refine qa (hK11 _ _ (wp_cond_true (H.ev rfl) ?_))
  refine wp_skip (hK10 _ _ (wsk fun K13 hK13 => wp_block (wsk fun K14 hK14 => wrl ?_)))
  iterate 2 refine sdm H λa H↦?_
  obtain ⟨ga15, hga15⟩ := qmd M 1 rfl (by omega)
  refine sdo (v := .pointer (some ⟨ga15, 0 + i * 1, none⟩)) H (zu (k := i) Tryz.underlying56 (by kernel_rfl) rfl rfl rfl hga15 (by omega)) λa H↦?_
  refine sdo H (qxi (o := i * 1) M 1 rfl hga15 TeK_is1_3 (kg (by omega)) rfl) λa H↦?_
  refine sdm H λa H↦?_
  rcases tf ((((O.getD i 0 : Nat) : Int) != ((n : Nat) : Int))) with hb16 | hb16
  ·
   have hb16' := bne_iff_ne.1 hb16
   refine sdc H jo hb16 λa H↦?_
   refine qa (hK14 _ _ (wp_cond_true (H.ev rfl) ?_))
   refine wrl ?_
   iterate 3 refine sdm H λa H↦?_
   obtain ⟨ga17, hga17⟩ := qmd M 1 rfl (by omega)
   refine sdo (v := .pointer (some ⟨ga17, 0 + i * 1, none⟩)) H (zu (k := i) Tryz.underlying56 (by kernel_rfl) rfl rfl rfl hga17 (by omega)) λa H↦?_
   refine sdo H (qxi (o := i * 1) M 1 rfl hga17 TeK_is1_3 (kg (by omega)) rfl) λa H↦?_
   refine ui (e := 3) (sz := 1) (m := 1) (vs := zj [(O.getD i 0)]) H M rfl rfl rfl (zh rfl (by kernel_rfl)) rfl rfl (.inl (by decide)) ?_
   intro g18 w19 M a H
   refine kl (e := 3) (sz := 1) (k := 1) (q := P.length) (m := 1) (xs := zj P) (news := zj [(O.getD i 0)]) (L' := fun v20 => (.row 3 1 (.slice (some ⟨g18, 0, none⟩) 1 1) 1 (zj [(O.getD i 0)]) :: .row 3 1 (v20) (P.length + 1) (zj P ++ zj [(O.getD i 0)]) :: .row 3 1 (.slice so O.length ca) O.length (zj O) :: X)) H rfl rfl rfl (vl (z := .int .i64 0) (sz := 1) (by_ := 8) Tryz.underlying56 (by kernel_rfl) rfl rfl rfl M 1 rfl rfl rfl rfl (ka (M.has 0 rfl)) (qne [(O.getD i 0)]) (by omega)) (fun _ => rfl) ?_
   intro v20 w21 M a H
   replace M : Mg w0 w21 (.row 3 1 (.slice (some ⟨g18, 0, none⟩) 1 1) 1 (zj [(O.getD i 0)]) :: .row 3 1 (v20) ((P ++ [(O.getD i 0)]).length) (zj (P ++ [(O.getD i 0)])) :: .row 3 1 (.slice so O.length ca) O.length (zj O) :: X) := by
    rw [qnd, List.length_append]; exact M
   obtain ⟨so22, ca23, rfl⟩ := xj (M.has 1 rfl)
   refine sda H λa H↦?_
   refine qa (hK13 _ _ (wrl (sdm H λa H↦?_)))
   refine sdo (v := .int .i64 (((i + 1 : Nat) : Int))) H (qg rfl rfl (ar_add ((in_i64 (by omega) (by omega)).trans (by omega)))) λa H↦?_
   refine sda H λa H↦?_
   refine qa ?_
   replace M := M.b2
   replace M := M.b2
   replace M := M.sub (cc (cc (cn (.refl _))))
   refine hK8 _ _ _ (by omega) ⟨i + 1, P ++ [(O.getD i 0)], so22, ca23, rfl, ⟨by omega, by rw [qqc (by omega), ← hP, if_neg (by have := hb16'; omega)]⟩, H.keep _ (by repeat' constructor), M⟩
  ·
   have hb16' := bne_eq_false_iff_eq.1 hb16
   refine sdc H jo hb16 λa H↦?_
   refine qa (hK14 _ _ (wp_cond_false (H.ev rfl) ?_))
   refine wp_skip (hK13 _ _ (wrl (sdm H λa H↦?_)))
   refine sdo (v := .int .i64 (((i + 1 : Nat) : Int))) H (qg rfl rfl (ar_add ((in_i64 (by omega) (by omega)).trans (by omega)))) λa H↦?_
   refine sda H λa H↦?_
   refine qa ?_
   replace M := M.b1
   replace M := M.b1
   refine hK8 _ _ _ (by omega) ⟨i + 1, P, so_, ca_, rfl, ⟨by omega, by rw [qqc (by omega), ← hP, if_pos (by have := hb16'; omega), List.append_nil]⟩, H.keep _ (by repeat' constructor), M⟩
 ·
  have hb12' := of_decide_eq_false hb12
  refine sdc H zq hb12 λa H↦?_
  refine qa (hK11 _ _ (wp_cond_false (H.ev rfl) ?_))
  refine wp_exit (hK5 _ _ (wsk fun K24 hK24 => wrl (sdm H λa H↦?_)))
  refine sda H λa H↦?_
  refine qa (hK24 _ _ (wp_ret (hret _ _ (en1 H rfl (qj rfl) ?_))))
  replace M := M.sub (cc (cn (.refl _)))
  rw [List.take_of_length_le (by omega)] at hP
  subst hP
  exact ⟨_, _, rfl, M⟩
theorem TeF_is1_3 : Is1 Tryz.prog 3 := ⟨⟨_, Tryz.underlying3, rfl⟩, by kernel_rfl⟩
theorem TeF_fld_38_0 : FieldAt Tryz.prog 38 0 0 := ⟨_, _, Tryz.underlying38, rfl, rfl, by kernel_rfl⟩
def qoa (s : ByteArray) : Dt := .mk ⟨5, 0, ⟨Q6.zero, none, 0, none, 0, none, 0, none, 0⟩, s, none, 0, [], none, 0⟩ []
def qqd : Dt := .mk ⟨2, 0, ⟨Q6.zero, none, 0, none, 0, none, 0, none, 0⟩, ⟨#[]⟩, none, 0, [], none, 0⟩ []
def qjg (s : ByteArray) : Tr := .mk 5 0 Q6.zero s [] []
theorem ku (s : ByteArray) : (qoa s).tr = qjg s := by unfold qoa qjg; rw [Dt.tr_mk]; rfl
theorem zdj (w : World) {s : ByteArray} (h : s.size ≤ 9223372036854775807) : (qoa s).rd w :=
 Dt.rd_iff.2 ⟨⟨⟨Sc.none w, Sc.none w, Sc.none w, Sc.none w⟩, qcd, ⟨fun h => absurd rfl h⟩, Nat.le_refl _, by show (0 : Nat) ≤ _; omega, by show (-9223372036854775808 : Int) ≤ 5; omega, by show (5 : Int) ≤ 9223372036854775807; omega, by show (-9223372036854775808 : Int) ≤ 0; omega, by show (0 : Int) ≤ 9223372036854775807; omega, h⟩, Nat.le_refl _, by show (0 : Nat) ≤ _; omega, fun h => absurd rfl h, fun t h => by cases h⟩
theorem zpg (w : World) : qqd.rd w := zrg w 2 (by decide) (by decide)
theorem qya {s : ByteArray} (h : qz qx (qjg s) = true) : (qjg s).good := by
 have h1 := qhh h
 unfold qjg at h1 ⊢
 rw [uu, Bool.and_eq_true] at h1
 refine qcb.2 ⟨ux (k := 5) (n := 0) (q := Q6.zero) (s := s) (mr := 0) (ml := 0) h1.1, (fun e => by cases e), (fun t ht => by cases ht)⟩
theorem zyd : qz qx (qjg ⟨#[65, 98]⟩) = true := by decide +kernel
theorem zye : qz qx (qjg ⟨#[97, 66]⟩) = true := by decide +kernel
theorem zyf : qz qx qqd.tr = true := by decide +kernel
theorem zph : qpj (qjg ⟨#[65, 98]⟩) = qjg ⟨#[97, 98]⟩ := by
 have e : yh ⟨#[65, 98]⟩ = ⟨#[97, 98]⟩ := by unfold yh; rw [show C.fold (ByteArray.mk #[65, 98]).data.toList = [97, 98] from by decide +kernel]
 unfold qpj; show Tr.mk 5 0 Q6.zero (yh ⟨#[65, 98]⟩) [] [] = _; rw [e]; rfl
theorem zpi : qpj (qjg ⟨#[97, 66]⟩) = qjg ⟨#[97, 98]⟩ := by
 have e : yh ⟨#[97, 66]⟩ = ⟨#[97, 98]⟩ := by unfold yh; rw [show C.fold (ByteArray.mk #[97, 66]).data.toList = [97, 98] from by decide +kernel]
 unfold qpj; show Tr.mk 5 0 Q6.zero (yh ⟨#[97, 66]⟩) [] [] = _; rw [e]; rfl
theorem qtc : qz qx (qjg ⟨#[97, 98]⟩) = true := by decide +kernel
theorem zib {w : World} (hT : Tabs8 w) : Calls Tryz.prog 7 #[] w fun e w' => e = .returned (.bool true) ∧ Below w.heap.size w w' := by
 have M : Mg w w ([]) := Mg.start w
 refine qs (l := []) Tryz.func7 rfl Tryz.ntmps7 rfl rfl ?_
 intro Q hret hnorm hP a A
 refine wsk fun K1 hK1 => wrl (sda A λa A↦?_)
 refine qa (hK1 _ _ (wsk fun K2 hK2 => wrl (sct A (ef rfl rfl) (zoc (kind := 2) rfl) ?_)))
 rintro _ w3 ⟨g, m, rfl, hM9⟩
 replace M : Mg w w3 (((TS.zero m).P g 2)) := hM9
 refine ⟨_, rfl, ?_⟩
 intro a A
 refine sdm A λa A↦?_
 iterate 2 refine sdo A (zd (vs := [.pointer (some ⟨g, 0, none⟩), .int .i64 0]) rfl rfl) λa A↦?_
 iterate 2 refine sda A λa A↦?_
 refine qa (hK2 _ _ (wsk fun K4 hK4 => wsk fun K5 hK5 => wrl (sdm A λa A↦?_)))
 refine sdo (v := .bool false) A (qg rfl rfl (fun w => by kernel_rfl)) λa A↦?_
 iterate 2 refine sdm A λa A↦?_
 refine sdo (v := .bool false) A (qg rfl rfl (qbc Tryz.underlying24)) λa A↦?_
 refine sdk (v := .bool false) A λa A↦?_
 iterate 2 refine sdm A λa A↦?_
 refine sdo (v := .agg ((qoa ⟨#[65, 98]⟩).d.cells (qoa ⟨#[65, 98]⟩).ts.length).toArray) A (zp rfl (fun w => by kernel_rfl)) λa A↦?_
 refine sdo (v := .agg (qqd.d.cells qqd.ts.length).toArray) A (zp rfl (fun w => by kernel_rfl)) λa A↦?_
 refine sct A (ef rfl rfl) (zte zne (m := m) (Y := []) (g := g) (fun c hc => by cases hc) hT (t := qoa ⟨#[65, 98]⟩) (v := qqd) (fun w9 _ => zdj _ (by decide)) (fun w9 _ => zpg _) (by decide +kernel) (by decide +kernel) (by rw [ku]; exact zyd) zyf (by rw [ku]; rfl) (by rw [ku, zph]; exact qtc) (by rw [ku, zph]; exact qya qtc) M) ?_
 rintro _ w6 ⟨s9, rfl, ⟨hs9, hc9, hH⟩, hM9⟩
 replace M : Mg w w6 ((s9.P g 2)) := hM9
 refine ⟨_, rfl, ?_⟩
 intro a A
 refine sdo (v := .bool false) A (qg rfl rfl (fun w => by kernel_rfl)) λa A↦?_
 refine sdk (v := .bool false) A λa A↦?_
 refine qa (hK5 _ _ (wp_cond_false (A.ev rfl) ?_))
 refine wp_skip (hK4 _ _ (wsk fun K7 hK7 => wrl (sdm A λa A↦?_)))
 refine sdo (v := .agg ((qoa ⟨#[97, 66]⟩).d.cells (qoa ⟨#[97, 66]⟩).ts.length).toArray) A (zp rfl (fun w => by kernel_rfl)) λa A↦?_
 refine sct A (ef rfl rfl) (zxh zne hs9 (Y := []) (g := g) (hT.below M.bel) (t := qoa ⟨#[97, 66]⟩) (zdj _ (by decide)) (by decide +kernel) (by rw [ku]; exact zye) (by rw [ku]; rfl) (by rw [ku, zpi]; exact qtc) (by rw [ku, zpi]; exact qya qtc) hc9 M) ?_
 rintro _ w8 (⟨e9, he9, hm9, r9, rfl, ⟨hr9, -, ht9⟩, hb9⟩ | ⟨-, hn9, -⟩)
 rotate_left
 ·
  obtain ⟨e9, he9, hk9⟩ := hH.mem.1 (List.mem_singleton.2 rfl); exact absurd (by rw [show e9.k.tr = (qoa ⟨#[65, 98]⟩).tr from congrArg Prod.fst hk9, ku, ku, zph, zpi]) (hn9 e9 he9)
 have hk9 : r9.d.k = 2 := by
  have h7 := hH.mem.2 ⟨e9, he9, rfl⟩
  have h8 := congrArg Prod.snd (List.mem_singleton.1 h7)
  rw [← zza, ht9, show e9.v.tr = qqd.tr from h8]; rfl
 replace M := M.call hb9
 refine ⟨_, rfl, ?_⟩
 intro a A
 refine sdm A λa A↦?_
 iterate 2 refine sdo A (zd (vs := [.agg (r9.d.cells r9.ts.length).toArray, .int .i64 0]) rfl rfl) λa A↦?_
 refine zx (vs := (zl.d.cells zl.ts.length)) (t := 38) A M rfl rfl rfl pg (ql (z := .agg (zl.d.cells zl.ts.length).toArray) (by kernel_rfl) rfl) (by decide) ?_
 intro g9 w10 M a A
 refine zr (us := (r9.d.cells r9.ts.length)) (L' := (.obj g9 (.cells (r9.d.cells r9.ts.length).toArray 38) :: (s9.P g 2))) A M rfl rfl (za rfl rfl rfl (by kernel_rfl) M 0 rfl rfl rfl) 0 rfl rfl rfl ?_
 intro w11 M
 refine sda A λa A↦?_
 refine qa (hK7 _ _ (wsk fun K12 hK12 => wrl (sdm A λa A↦?_)))
 refine sdo (v := .bool true) A (qg rfl rfl (fun w => by kernel_rfl)) λa A↦?_
 refine sdm A λa A↦?_
 refine sdo (v := .pointer (some ⟨g9, 0, none⟩)) A (qb TeF_fld_38_0 rfl rfl) λa A↦?_
 refine sdo A (qk M TeF_is1_3 rfl 0 rfl rfl) λa A↦?_
 refine sdo (v := .bool true) A (qg rfl rfl (fun w => (qm w).trans (by rw [show ((r9.d.k == 2)) = true from (beq_iff_eq.2 hk9)]))) λa A↦?_
 refine sdk (v := .bool true) A λa A↦?_
 refine sda A λa A↦?_
 refine qa (hK12 _ _ (wp_ret (hret _ _ (en1 A rfl (qj rfl) ?_))))
 exact ⟨rfl, M.bel⟩
theorem TeL_is1_28 : Is1 Tryz.prog 28 := ⟨⟨_, Tryz.underlying28, rfl⟩, by kernel_rfl⟩
theorem TeL_is1_3 : Is1 Tryz.prog 3 := ⟨⟨_, Tryz.underlying3, rfl⟩, by kernel_rfl⟩
theorem TeL_is1_4 : Is1 Tryz.prog 4 := ⟨⟨_, Tryz.underlying4, rfl⟩, by kernel_rfl⟩
theorem TeL_is1_5 : Is1 Tryz.prog 5 := ⟨⟨_, Tryz.underlying5, rfl⟩, by kernel_rfl⟩
theorem TeL_fld_38_1 : FieldAt Tryz.prog 38 1 1 := ⟨_, _, Tryz.underlying38, rfl, rfl, by kernel_rfl⟩
theorem TeL_fld_38_5 : FieldAt Tryz.prog 38 5 10 := ⟨_, _, Tryz.underlying38, rfl, rfl, by kernel_rfl⟩
theorem TeL_isS_38 : IsS Tryz.prog 38 11 := ⟨⟨_, Tryz.underlying38⟩, by kernel_rfl⟩
theorem zzh {s : TS} (h : jk s.T) (g : Nat) (kind : Int) : jk (s.P g kind) := fun c hc b bs e => by
 rcases List.mem_cons.1 hc with k | k
 ·
  rw [k] at e; cases e
 ·
  rcases List.mem_cons.1 k with k | k
  ·
   rw [k] at e; cases e
  ·
   rcases List.mem_append.1 k with k | k
   ·
    exact qwg _ c k b bs e
   ·
    exact h c k b bs e
/-- A slice of truth values reads as these. -/
structure Rbl (w : World) (so : Option Addr) (l : List Bool) : Prop where
 pos : l ≠ [] → ∃ b off, so = some ⟨b, off, none⟩ ∧ b < w.heap.size ∧ ∀ j, j < l.length → w.cell? ⟨b, off + j, none⟩ = some (.bool (l.getD j false))
theorem qgf {w : World} {so : Option Addr} {l : List Bool} {i : Nat} (h : Rbl w so l) (hi : i < l.length) : ∃ b off, so = some ⟨b, off, none⟩ ∧ b < w.heap.size ∧ ∀ j, j < l.length → w.cell? ⟨b, off + j, none⟩ = some (.bool (l.getD j false)) := h.pos (fun e => by rw [e] at hi; cases hi)
theorem zpj {w : World} {so : Option Addr} {l : List UInt8} {i : Nat} (h : Rb w so l) (hi : i < l.length) : ∃ b off, so = some ⟨b, off, none⟩ ∧ b < w.heap.size ∧ ∀ j, j < l.length → w.cell? ⟨b, off + j, none⟩ = some (.int .u8 (((l.getD j 0).toNat : Nat) : Int)) := h.pos (fun e => by rw [e] at hi; cases hi)
theorem qyb {es : List Et} {O H : List Nat} (hH : Holds es (yv O H)) {k : Nat} (hk : k ∈ O) : ∃ e ∈ es, id e.k.tr = id (xq ((k : Nat) : Int)) := by
 obtain ⟨a, ha, e⟩ := (qge (H := H)).2 hk
 obtain ⟨d, hd, rfl⟩ := hH.mem.1 ha
 exact ⟨d, hd, e⟩
theorem zqa {es : List Et} {O H : List Nat} (hH : Holds es (yv O H)) {k : Nat} (hk : k ∉ O) : ∀ e ∈ es, id e.k.tr ≠ id (xq ((k : Nat) : Int)) := fun e he h => hk (qge.1 ⟨e.kv, hH.mem.2 ⟨e, he, rfl⟩, h⟩)
theorem zqb {es : List Et} {O H : List Nat} (hH : Holds es (yv O H)) {e : Et} (he : e ∈ es) {k : Nat} (hk : id e.k.tr = id (xq ((k : Nat) : Int))) : e.v.tr = chT ((H.getD k 0 - 1 : Nat) : Int) := by
 have h1 := hH.mem.2 ⟨e, he, rfl⟩
 obtain ⟨j, hj, h2⟩ := List.mem_map.1 h1
 have h3 : xq ((j : Nat) : Int) = e.k.tr := congrArg Prod.fst h2
 have h4 := qgd (h3.trans hk)
 have h5 : j = k := by omega
 rw [← h5]; exact (congrArg Prod.snd h2).symm
theorem qyc {s : TS} {mk : Tr → Tr} {ok : Tr → Bool} (h : TOk mk ok s) {i : Nat} {O H : List Nat} (hL : Lst i O H) (hH : Holds (jc s.bs) (yv O H)) : s.count = O.length ∧ O.length ≤ 256 := ⟨by rw [h.cn, ← hH.len]; exact List.length_map _, hL.len⟩
theorem zuh {O H : List Nat} {k n : Nat} (hk : k < H.length) (hO : k ∉ O) : yv O (H.set k n) = yv O H := by
 unfold yv
 refine List.map_congr_left fun j hj => ?_
 rw [ye hk, if_neg (fun e : j = k => hO (e ▸ hj))]
theorem uq {H : List Nat} {k n : Nat} (h : k < H.length) : (zj (H.set k n))[k * 1]? = some (.int .i64 ((n : Nat) : Int)) := by
 rw [kg (by rw [List.length_set]; exact h), ye h, if_pos rfl]
theorem yw (n : Int) : (xq n).bulk ≤ 4000000 := by
 unfold xq chT
 rw [km]
 have h2 : (ByteArray.mk #[]).size = 0 := rfl
 simp [Tr.bulks, km, Q6.zero, h2]
theorem qkg (n : Int) : (chT n).bulk ≤ 4000000 := by
 unfold chT
 rw [km]
 have h2 : (ByteArray.mk #[]).size = 0 := rfl
 simp [Tr.bulks, Q6.zero, h2]
theorem zyg {us : List Dt} {O H : List Nat} (h : us.map Dt.tr = (yv O H).map Prod.fst) {j : Nat} {u : Dt} (hu : us[j]? = some u) : u.tr = xq ((O.getD j 0 : Nat) : Int) := by
 have h1 := congrArg (·[j]?) h
 unfold yv at h1
 simp only [List.getElem?_map, hu, Option.map_some] at h1
 cases ho : O[j]? with
 | none => rw [ho] at h1; cases h1
 | some k =>
  rw [ho] at h1
  rw [List.getD_eq_getElem?_getD, ho]
  exact Option.some.inj h1
theorem zqc {v : Dt} {n : Int} (h : v.tr = chT n) : v.d.n = n := by
 cases v; rw [Dt.tr_mk] at h; unfold chT at h; injection h
theorem zyh {u x : Dt} {n : Int} (h : u.tr = xq n) : u.ts.length = 1 ∧ (u.ts[0]? = some x → x.d.n = n) := by
 cases u
 rename_i d ts
 rw [Dt.tr_mk] at h
 unfold xq at h
 injection h with _ _ _ _ _ h
 have h1 := congrArg List.length h
 rw [List.length_map] at h1
 refine ⟨h1, fun hx => ?_⟩
 have h2 := congrArg (·[0]?) h
 simp only [List.getElem?_map, Dt.ts] at h2 hx
 rw [hx] at h2
 exact zqc (Option.some.inj h2)
section
variable {kind : Int} {mk : Tr → Tr} {ok : Tr → Bool} (hK : Marks kind mk ok) {w : World} {g : Nat} {s : TS} (h : TOk mk ok s)
include hK h in
theorem zui (hT : Tabs8 w) {t : Dt} (ht : t.rd w) (htb : t.tr.bulk ≤ 4000000) (hs : qz qx t.tr = true) (hok : ok t.tr = true) (hms : qz qx (mk t.tr) = true) (hmg : (mk t.tr).good) (hB : Tab w ok g kind s.m s.count s.last s.ck s.bs) (hit : ∃ e ∈ jc s.bs, mk e.k.tr = mk t.tr) :
  Calls Tryz.prog 11 #[.pointer (some ⟨g, 0, none⟩), .agg (t.d.cells t.ts.length).toArray] w fun r w' => ∃ e ∈ jc s.bs, mk e.k.tr = mk t.tr ∧ ∃ v2 : Dt, r = .returned (.tuple #[.agg (v2.d.cells v2.ts.length).toArray, .int .i64 0]) ∧ (v2.rd w' ∧ v2.at_ (w.heap.size ≤ ·) ∧ v2.tr = e.v.tr) ∧ Below w.heap.size w w' := by
 obtain ⟨e, he, hme⟩ := hit
 obtain ⟨A, x, B, i, hs2, hh, D, hi, hbu, hix⟩ := qga h hms hmg he hme
 refine (zdb hK hB ht htb hT hs hok (by rw [hbu]; exact hix) (by rw [hbu]; exact hi)).mono ?_
 rintro r w' ⟨v2, h1, h2, h3⟩
 exact ⟨e, he, hme, v2, h1, h2, h3⟩
end
section
variable {kind : Int} {mk : Tr → Tr} {ok : Tr → Bool} (hK : Marks kind mk ok) {w0 w : World} {g : Nat} {s : TS} (h : TOk mk ok s) {Y : List Ck}
include hK h in
theorem zuj (hY : jk Y) (hT : Tabs8 w0) {t : Dt} (ht : ∀ w9, Mg w0 w9 Y → t.rd w9) (htb : t.tr.bulk ≤ 4000000) (hs : qz qx t.tr = true) (hok : ok t.tr = true) (hms : qz qx (mk t.tr) = true) (hmg : (mk t.tr).good) (hc : s.count ≤ 4096) (M : Mg w0 w (Y ++ s.P g kind)) (hit : ∃ e ∈ jc s.bs, mk e.k.tr = mk t.tr) :
  Calls Tryz.prog 14 #[.pointer (some ⟨g, 0, none⟩), .agg (t.d.cells t.ts.length).toArray] w fun r w' => ∃ s', r = .returned (.int .i64 0) ∧ (TOk mk ok s' ∧ s'.last = s.last ∧ s'.count ≤ 4096 ∧ ∀ A0, Holds (jc s.bs) A0 → Holds (jc s'.bs) (qwe mk t.tr A0)) ∧ Mg w0 w' (Y ++ s'.P g kind) := by
 refine (zoi hK h hY hT ht htb hs hok hms hmg hc M).mono ?_
 rintro r w' (⟨s', h1, ⟨-, h2⟩, h3⟩ | ⟨-, hn, -⟩)
 ·
  exact ⟨s', h1, h2, h3⟩
 ·
  obtain ⟨e, he, hm⟩ := hit
  exact absurd hm (hn e he)
include hK h in
theorem zva (hY : jk Y) (hT : Tabs8 w0) {t : Dt} (ht : ∀ w9, Mg w0 w9 Y → t.rd w9) (htb : t.tr.bulk ≤ 4000000) (hs : qz qx t.tr = true) (hok : ok t.tr = true) (hms : qz qx (mk t.tr) = true) (hmg : (mk t.tr).good) (hc : s.count ≤ 4096) (M : Mg w0 w (Y ++ s.P g kind)) (hn : ∀ e ∈ jc s.bs, mk e.k.tr ≠ mk t.tr) :
  Calls Tryz.prog 14 #[.pointer (some ⟨g, 0, none⟩), .agg (t.d.cells t.ts.length).toArray] w fun r w' => r = .returned (.int .i64 7) ∧ Mg w0 w' (Y ++ s.P g kind) := by
 refine (zoi hK h hY hT ht htb hs hok hms hmg hc M).mono ?_
 rintro r w' (⟨s', -, ⟨⟨e, he, hm⟩, -⟩, -⟩ | ⟨h1, -, h2⟩)
 ·
  exact absurd hm (hn e he)
 ·
  exact ⟨h1, h2⟩
include hK h in
theorem qkh (hY : jk Y) (hT : Tabs8 w0) {t v : Dt} (ht : ∀ w9, Mg w0 w9 Y → t.rd w9) (hv : ∀ w9, Mg w0 w9 Y → v.rd w9) (htb : t.tr.bulk ≤ 4000000) (hvb : v.tr.bulk ≤ 4000000) (hs : qz qx t.tr = true) (hsv : qz qx v.tr = true) (hok : ok t.tr = true) (hms : qz qx (mk t.tr) = true) (hmg : (mk t.tr).good) (hc : s.count < 4096) (hl : s.last ≤ 4611686018427387904) (M : Mg w0 w (Y ++ s.P g kind)) :
  Calls Tryz.prog 9 #[.pointer (some ⟨g, 0, none⟩), .agg (t.d.cells t.ts.length).toArray, .agg (v.d.cells v.ts.length).toArray] w fun r w' => ∃ s', r = .returned (.int .i64 0) ∧ (TOk mk ok s' ∧ s'.last ≤ s.last + 1 ∧ s'.count ≤ 4096 ∧ ∀ A0, Holds (jc s.bs) A0 → Holds (jc s'.bs) (qnb mk t.tr v.tr A0)) ∧ Mg w0 w' (Y ++ s'.P g kind) := by
 refine (zxg hK h hY hT ht hv htb hvb hs hsv hok hms hmg (Nat.le_of_lt hc) hl M).mono ?_
 rintro r w' (k | ⟨-, ⟨hn, -⟩, -⟩)
 ·
  exact k
 ·
  omega
end
theorem qnh {w : World} {so : Option Addr} {l : List Nat} {k : Nat} (h : Rc w so (zj l)) (hk : k < l.length) : ∃ b off, so = some ⟨b, off, none⟩ ∧ b < w.heap.size ∧ w.cell? ⟨b, off + k, none⟩ = some (.int .i64 ((l.getD k 0 : Nat) : Int)) := by
 have h0 := kg hk
 rw [Nat.mul_one] at h0
 obtain ⟨b, off, e, h2⟩ := h (fun e => by rw [e] at h0; cases h0)
 exact ⟨b, off, e, cell_lt (h2 k _ h0), h2 k _ h0⟩
set_option maxHeartbeats 1000000 in
theorem qob {w : World} {sk sg : Option Addr} {ck cg : Nat} {l : List UInt8} {gl : List Bool} (hb : Rb w sk l) (hl : l.length ≤ 9223372036854775807) (hg : Rbl w sg gl) (hgl : gl.length ≤ 9223372036854775807) (hT : Tabs8 w) : Calls Tryz.prog 4 #[.slice sk l.length ck, .slice sg gl.length cg] w fun e w' => e = .returned (.bool true) ∧ Below w.heap.size w w' := by
 have M : Mg w w ([]) := Mg.start w
 refine qs (l := [(0, .slice sk l.length ck), (1, .slice sg gl.length cg)]) Tryz.func4 rfl Tryz.ntmps4 rfl rfl ?_
 intro Q hret hnorm hP a D
 refine wsk fun K1 hK1 => wrl (sda D λa D↦?_)
 refine qa (hK1 _ _ (wsk fun K2 hK2 => wrl (sct D (ef rfl rfl) (zoc (kind := 1) rfl) ?_)))
 rintro _ w3 ⟨g, m, rfl, hM9⟩
 replace M : Mg w w3 (((TS.zero m).P g 1)) := hM9
 refine ⟨_, rfl, ?_⟩
 intro a D
 refine sdm D λa D↦?_
 iterate 2 refine sdo D (zd (vs := [.pointer (some ⟨g, 0, none⟩), .int .i64 0]) rfl rfl) λa D↦?_
 iterate 2 refine sda D λa D↦?_
 refine qa (hK2 _ _ (wsk fun K4 hK4 => wsk fun K5 hK5 => wrl (sct D (ef rfl rfl) (zib (hT.below M.bel)) ?_)))
 rintro _ w6 ⟨rfl, hba⟩
 replace M := M.call hba
 refine ⟨_, rfl, ?_⟩
 intro a D
 refine sdo (v := .bool false) D (je rfl jl) λa D↦?_
 iterate 2 refine sdm D λa D↦?_
 refine sdo (v := .bool false) D (qg rfl rfl (fun w => by kernel_rfl)) λa D↦?_
 refine sdk (v := .bool false) D λa D↦?_
 iterate 2 refine sdm D λa D↦?_
 refine sdo (v := .bool false) D (qg rfl rfl (qbc Tryz.underlying24)) λa D↦?_
 refine sdk (v := .bool false) D λa D↦?_
 refine qa (hK5 _ _ (wp_cond_false (D.ev rfl) ?_))
 refine wp_skip (hK4 _ _ (wsk fun K7 hK7 => wrl (zbd (z := .int .i64 0) (sz := 1) (by_ := 8) (m := 256) D M Tryz.underlying56 (by kernel_rfl) rfl rfl rfl rfl rfl rfl (by omega) (by omega) (.inl (by decide)) ?_)))
 intro g8 w9 M a D
 replace M : Mg w w9 (.row 3 1 (.slice (some ⟨g8, 0, none⟩) 256 256) 256 (zj (List.replicate 256 0)) :: ((TS.zero m).P g 1)) := by rw [← zhj]; exact M
 refine sda D λa D↦?_
 refine qa (hK7 _ _ (wsk fun K10 hK10 => wrl (ui (e := 3) (sz := 1) (m := 0) (vs := zj []) D M rfl rfl rfl (zh rfl (by kernel_rfl)) rfl rfl (.inl (by decide)) ?_)))
 intro g11 w12 M a D
 refine sda D λa D↦?_
 refine qa (hK10 _ _ (wsk fun K13 hK13 => ?_))
 have hJ14 : ∀ a w1, (∃ (i : Nat) (O : List Nat) (H : List Nat) (so_ : Option Addr) (ca_ : Nat) (s : TS), (i ≤ l.length ∧ i ≤ 300 ∧ Lst i O H ∧ TOk id (fun _ => true) s ∧ Holds (jc s.bs) (yv O H) ∧ s.last ≤ i ∧ s.count ≤ 4096) ∧ Sl a 193 [(5, .pointer (some ⟨g, 0, none⟩)), (6, .int .i64 0), (7, .slice (some ⟨g8, 0, none⟩) 256 256), (8, .slice so_ O.length ca_), (17, .tuple #[.pointer (some ⟨g, 0, none⟩), .int .i64 0]), (18, .tuple #[.pointer (some ⟨g, 0, none⟩), .int .i64 0]), (19, .pointer (some ⟨g, 0, none⟩)), (20, .int .i64 0), (21, .bool true), (22, .bool false), (23, .bool false), (24, .int .i64 0), (25, .bool false), (26, .bool false), (27, .bool false), (28, .pointer (some ⟨g, 0, none⟩)), (29, .bool false), (30, .bool false), (31, .slice (some ⟨g8, 0, none⟩) 256 256), (32, .slice (some ⟨g11, 0, none⟩) 0 0)] ∧ Mg w w1 (.row 3 1 (.slice so_ O.length ca_) O.length (zj O) :: .row 3 1 (.slice (some ⟨g8, 0, none⟩) 256 256) 256 (zj H) :: (s.P g 1))) → K13 a w1 := by
  clear D M
  rintro a w15 ⟨i, O, H, so_, ca_, s, hf16, D, M⟩
  obtain ⟨hi0, hi1, hL, hs, hH, hsl, hc⟩ := hf16
  obtain ⟨hcO, hOl⟩ := qyc hs hL hH
  have hHl := hL.hl
  refine hK13 _ _ (wsk fun K17 hK17 => wrl (sdm D λa D↦?_))
  replace M := M.b1
  replace M := M.b1
  refine sct D (ef rfl rfl) (zuf hs (Y := [.row 3 1 (.slice so_ O.length ca_) O.length (zj O), .row 3 1 (.slice (some ⟨g8, 0, none⟩) 256 256) 256 (zj H)]) (qf (by simp) (qf (by simp) (jr jx))) hc hH M) ?_
  rintro _ w18 ⟨so8, ca8, us, F, rfl, ⟨hut, huL, hFb⟩, hM9⟩
  replace M : Mg w w18 (.row 38 11 (.slice so8 us.length ca8) us.length (cellsOf us) :: .row 3 1 (.slice so_ O.length ca_) O.length (zj O) :: .row 3 1 (.slice (some ⟨g8, 0, none⟩) 256 256) 256 (zj H) :: (F ++ s.P g 1)) := hM9
  refine ⟨_, rfl, ?_⟩
  intro a D
  refine sda D λa D↦?_
  refine qa (hK17 _ _ (wsk fun K19 hK19 => wsk fun K20 hK20 => ?_))
  have hB1 := M.bel
  have hul : us.length = O.length := by have := congrArg List.length hut; rwa [List.length_map, List.length_map, show (yv O H).length = O.length from List.length_map _] at this
  have hRu := (qdh (M.has 0 rfl)).1
  have hRo := ka (M.has 1 rfl)
  have hRh := ka (M.has 2 rfl)
  have hMT := M.dropn 3
  have hDu : ∀ t ∈ us, t.rd w18 := fun t ht => huL t ht _ _ (hMT.sub (List.sublist_append_left _ _))
  have hB := qif hs (by omega) (hMT.sub (List.sublist_append_right _ _))
  replace hT := hT.below M.bel
  replace M : Mg w18 w18 [] := Mg.start w18
  refine wrl (sdm D λa D↦?_)
  refine sdo D (qy Tryz.underlying28 rfl) λa D↦?_
  refine sdm D λa D↦?_
  refine sdo D (qy Tryz.underlying56 rfl) λa D↦?_
  refine sdo (v := .bool false) D (qg rfl rfl (fun w => (jo w).trans (by rw [show ((((us.length : Nat) : Int) != ((O.length : Nat) : Int))) = false from (bne_eq_false_iff_eq.2 (by omega))]))) λa D↦?_
  iterate 2 refine sdm D λa D↦?_
  refine gcl D M (ef rfl rfl) (zug (hB.below M.bel)) fun w21 hb8 M a D => ?_
  refine sdm D λa D↦?_
  refine sdo D (qy Tryz.underlying56 rfl) λa D↦?_
  refine sdo (v := .bool false) D (qg rfl rfl (fun w => (jo w).trans (by rw [show ((((s.count : Nat) : Int) != ((O.length : Nat) : Int))) = false from (bne_eq_false_iff_eq.2 (by omega))]))) λa D↦?_
  refine sdk (v := .bool false) D λa D↦?_
  refine qa (hK20 _ _ (wp_cond_false (D.ev rfl) ?_))
  refine wp_skip (hK19 _ _ (wsk fun K22 hK22 => wsk fun K23 hK23 => wrl (sda D λa D↦?_)))
  refine qa (hK23 _ _ (wp_block (jp (fun m_ a w1 => ∃ (j : Nat), m_ = 1 + (O.length - j) ∧ (j ≤ O.length) ∧ Sl a 193 [(5, .pointer (some ⟨g, 0, none⟩)), (6, .int .i64 0), (7, .slice (some ⟨g8, 0, none⟩) 256 256), (8, .slice so_ O.length ca_), (13, .slice so8 us.length ca8), (14, .int .i64 (((j : Nat) : Int))), (17, .tuple #[.pointer (some ⟨g, 0, none⟩), .int .i64 0]), (18, .tuple #[.pointer (some ⟨g, 0, none⟩), .int .i64 0]), (19, .pointer (some ⟨g, 0, none⟩)), (20, .int .i64 0), (21, .bool true), (22, .bool false), (23, .bool false), (24, .int .i64 0), (25, .bool false), (26, .bool false), (27, .bool false), (28, .pointer (some ⟨g, 0, none⟩)), (29, .bool false), (30, .bool false), (31, .slice (some ⟨g8, 0, none⟩) 256 256), (32, .slice (some ⟨g11, 0, none⟩) 0 0), (125, .pointer (some ⟨g, 0, none⟩)), (126, .slice so8 us.length ca8), (127, .slice so8 us.length ca8), (128, .int .i64 (((us.length : Nat) : Int))), (129, .slice so_ O.length ca_), (130, .int .i64 (((O.length : Nat) : Int))), (131, .bool false), (132, .bool false), (133, .pointer (some ⟨g, 0, none⟩)), (134, .int .i64 (((s.count : Nat) : Int))), (135, .slice so_ O.length ca_), (136, .int .i64 (((O.length : Nat) : Int))), (137, .bool false), (138, .bool false)] ∧ Mg w18 w1 ([])) _ ⟨0, rfl, (Nat.zero_le _), D.keep _ (by repeat' constructor), M⟩ ?_)))
  clear M D
  rintro m_ a w24 ⟨j, rfl, hinv26, D, M⟩ K25 hK25
  have hj0 := hinv26
  refine wsk fun K27 hK27 => wsk fun K28 hK28 => wrl ?_
  iterate 2 refine sdm D λa D↦?_
  refine sdo D (qy Tryz.underlying28 rfl) λa D↦?_
  rcases tf (decide (((j : Nat) : Int) < ((us.length : Nat) : Int))) with hb29 | hb29
  ·
   have hb29' := of_decide_eq_true hb29
   refine sdc D zq hb29 λa D↦?_
   refine qa (hK28 _ _ (wp_cond_true (D.ev rfl) ?_))
   refine wp_skip (hK27 _ _ (wsk fun K30 hK30 => wp_block (wsk fun K31 hK31 => ?_)))
   obtain ⟨u, bu, ou, iu, mu, ru_, lu, Hu⟩ := zzb hRu hDu (i := j) (by omega)
   have hue := zyg hut iu
   have hjO : O.getD j 0 ∈ O := by rw [List.getD_eq_getElem?_getD, List.getElem?_eq_getElem (show j < O.length by omega)]; exact List.getElem_mem _
   obtain ⟨hj8, hj9⟩ := (hL.mem _).1 hjO
   have huv := fun x => zyh (x := x) hue
   have hu1 := (huv u).1
   have hjle := hL.le (O.getD j 0)
   refine wrl ?_
   iterate 3 refine sdm D λa D↦?_
   refine sdo (v := .pointer (some ⟨bu, ou + j * 11, none⟩)) D (zu (k := j) Tryz.underlying28 (by kernel_rfl) rfl rfl rfl lu (by omega)) λa D↦?_
   refine sdo D (jv M Hu TeL_isS_38 rfl rfl) λa D↦?_
   refine sct D (ef rfl rfl) (zui qeb hs (hT.below M.bel) (t := u) (Dt.keep M.bel _ ru_) (by rw [hue]; exact yw _) (by rw [hue]; exact vm (by omega) (by omega)) rfl (by rw [hue]; exact vm (by omega) (by omega)) (by rw [hue]; exact qec (by omega) (by omega)) (hB.below M.bel) (by rw [hue]; exact qyb hH hjO)) ?_
   rintro _ w32 ⟨e9, he9, hk9, r9, rfl, ⟨hr9, -, ht9⟩, hb9⟩
   have hr9n := zqc (ht9.trans (zqb hH he9 (by rw [hue] at hk9; exact hk9)))
   replace M := M.call hb9
   refine ⟨_, rfl, ?_⟩
   intro a D
   refine sdm D λa D↦?_
   iterate 2 refine sdo D (zd (vs := [.agg (r9.d.cells r9.ts.length).toArray, .int .i64 0]) rfl rfl) λa D↦?_
   refine zx (vs := (zl.d.cells zl.ts.length)) (t := 38) D M rfl rfl rfl pg (ql (z := .agg (zl.d.cells zl.ts.length).toArray) (by kernel_rfl) rfl) (by decide) ?_
   intro g33 w34 M a D
   refine zr (us := (r9.d.cells r9.ts.length)) (L' := (.obj g33 (.cells (r9.d.cells r9.ts.length).toArray 38) :: [])) D M rfl rfl (za rfl rfl rfl (by kernel_rfl) M 0 rfl rfl rfl) 0 rfl rfl rfl ?_
   intro w35 M
   refine sda D λa D↦?_
   refine qa (hK31 _ _ (wsk fun K36 hK36 => ?_))
   obtain ⟨u0, bu0, ou0, iu0, mu0, ru0_, lu0, Hu0⟩ := qnj ru_ (i := 0) (by omega)
   have hu0n := (huv u0).2 iu0
   refine jh (S := fun w1 => Mg w18 w1 (.obj g33 (.cells (r9.d.cells r9.ts.length).toArray 38) :: [])) (by kernel_rfl) ?_
   replace M := M.drew
   refine qe D 0 rfl rfl rfl rfl hP (M.sub (cc (List.nil_sublist _))) (fun w1 M => qp rfl) λa D↦?_
   refine qe D 1 rfl rfl rfl rfl hP (M.sub (cc (List.nil_sublist _))) (fun w1 M => qp rfl) λa D↦?_
   refine qe (v := .pointer (some ⟨bu, ou + j * 11, none⟩)) D 2 rfl rfl rfl rfl hP (M.sub (cc (List.nil_sublist _))) (fun w1 M => zu (k := j) Tryz.underlying28 (by kernel_rfl) rfl rfl rfl lu (by omega)) λa D↦?_
   refine qe (v := .pointer (some ⟨bu, ou + j * 11 + 10, none⟩)) D 3 rfl rfl rfl rfl hP (M.sub (cc (List.nil_sublist _))) (fun w1 M => qb TeL_fld_38_5 rfl rfl) λa D↦?_
   refine qe D 4 rfl rfl rfl rfl hP (M.sub (cc (List.nil_sublist _))) (fun w1 M => ub (j := 10) M Hu TeL_is1_28 rfl rfl rfl) λa D↦?_
   refine qe (v := .int .i64 (((u.ts.length : Nat) : Int))) D 5 rfl rfl rfl rfl hP (M.sub (cc (List.nil_sublist _))) (fun w1 M => qy Tryz.underlying28 rfl) λa D↦?_
   refine qe (v := .bool false) D 6 rfl rfl rfl rfl hP (M.sub (cc (List.nil_sublist _))) (fun w1 M => qg rfl rfl (fun w => (jo w).trans (by rw [show ((((u.ts.length : Nat) : Int) != 1)) = false from (bne_eq_false_iff_eq.2 (by omega))]))) λa D↦?_
   refine qe D 7 rfl rfl rfl rfl hP (M.sub (cc (List.nil_sublist _))) (fun w1 M => qp rfl) λa D↦?_
   refine qe D 8 rfl rfl rfl rfl hP (M.sub (cc (List.nil_sublist _))) (fun w1 M => qp rfl) λa D↦?_
   refine qe D 9 rfl rfl rfl rfl hP (M.sub (cc (List.nil_sublist _))) (fun w1 M => qp rfl) λa D↦?_
   refine qe (v := .pointer (some ⟨bu, ou + j * 11, none⟩)) D 10 rfl rfl rfl rfl hP (M.sub (cc (List.nil_sublist _))) (fun w1 M => zu (k := j) Tryz.underlying28 (by kernel_rfl) rfl rfl rfl lu (by omega)) λa D↦?_
   refine qe (v := .pointer (some ⟨bu, ou + j * 11 + 10, none⟩)) D 11 rfl rfl rfl rfl hP (M.sub (cc (List.nil_sublist _))) (fun w1 M => qb TeL_fld_38_5 rfl rfl) λa D↦?_
   refine qe D 12 rfl rfl rfl rfl hP (M.sub (cc (List.nil_sublist _))) (fun w1 M => ub (j := 10) M Hu TeL_is1_28 rfl rfl rfl) λa D↦?_
   refine qe (v := .pointer (some ⟨bu0, ou0 + 0 * 11, none⟩)) D 13 rfl rfl rfl rfl hP (M.sub (cc (List.nil_sublist _))) (fun w1 M => zu (k := 0) Tryz.underlying28 (by kernel_rfl) rfl rfl rfl lu0 (by omega)) λa D↦?_
   refine qe (v := .pointer (some ⟨bu0, ou0 + 0 * 11 + 1, none⟩)) D 14 rfl rfl rfl rfl hP (M.sub (cc (List.nil_sublist _))) (fun w1 M => qb TeL_fld_38_1 rfl rfl) λa D↦?_
   refine qe D 15 rfl rfl rfl rfl hP (M.sub (cc (List.nil_sublist _))) (fun w1 M => ub (j := 1) M Hu0 TeL_is1_3 rfl rfl rfl) λa D↦?_
   refine qe D 16 rfl rfl rfl rfl hP (M.sub (cc (List.nil_sublist _))) (fun w1 M => qp rfl) λa D↦?_
   refine qe D 17 rfl rfl rfl rfl hP (M.sub (cc (List.nil_sublist _))) (fun w1 M => qp rfl) λa D↦?_
   obtain ⟨br37, obr37, h1br37, h2br37, h3br37⟩ := qnh (k := j) hRo (by omega)
   refine qe (v := .pointer (some ⟨br37, obr37 + j, none⟩)) D 18 rfl rfl rfl rfl hP (M.sub (cc (List.nil_sublist _))) (fun w1 M => jj (k := j) Tryz.underlying56 (by kernel_rfl) rfl rfl rfl h1br37 (by omega)) λa D↦?_
   refine qe D 19 rfl rfl rfl rfl hP (M.sub (cc (List.nil_sublist _))) (fun w1 M => vy M h2br37 h3br37 TeL_is1_3 rfl) λa D↦?_
   refine qe (v := .bool false) D 20 rfl rfl rfl rfl hP (M.sub (cc (List.nil_sublist _))) (fun w1 M => qg rfl rfl (fun w => (jo w).trans (by rw [show ((u0.d.n != ((O.getD j 0 : Nat) : Int))) = false from (bne_eq_false_iff_eq.2 hu0n)]))) λa D↦?_
   refine qe (v := .bool false) D 21 rfl rfl rfl rfl hP (M.sub (cc (List.nil_sublist _))) (fun w1 M => vf rfl rfl rfl rfl) λa D↦?_
   refine qe D 22 rfl rfl rfl rfl hP (M.sub (cc (List.nil_sublist _))) (fun w1 M => qp rfl) λa D↦?_
   refine qe D 23 rfl rfl rfl rfl hP (M.sub (cc (List.nil_sublist _))) (fun w1 M => qp rfl) λa D↦?_
   refine qe (v := .bool false) D 24 rfl rfl rfl rfl hP (M.sub (cc (List.nil_sublist _))) (fun w1 M => qg rfl rfl (fun w => by kernel_rfl)) λa D↦?_
   refine qe (v := .bool false) D 25 rfl rfl rfl rfl hP (M.sub (cc (List.nil_sublist _))) (fun w1 M => vf rfl rfl rfl rfl) λa D↦?_
   refine qe D 26 rfl rfl rfl rfl hP (M.sub (cc (List.nil_sublist _))) (fun w1 M => qp rfl) λa D↦?_
   refine qe (v := .pointer (some ⟨g33, 1, none⟩)) D 27 rfl rfl rfl rfl hP (M.sub (cc (List.nil_sublist _))) (fun w1 M => qb TeL_fld_38_1 rfl rfl) λa D↦?_
   refine qe D 28 rfl rfl rfl rfl hP (M.sub (cc (List.nil_sublist _))) (fun w1 M => qk M TeL_is1_3 rfl 0 rfl rfl) λa D↦?_
   refine qe D 29 rfl rfl rfl rfl hP (M.sub (cc (List.nil_sublist _))) (fun w1 M => qp rfl) λa D↦?_
   refine qe D 30 rfl rfl rfl rfl hP (M.sub (cc (List.nil_sublist _))) (fun w1 M => qp rfl) λa D↦?_
   refine qe D 31 rfl rfl rfl rfl hP (M.sub (cc (List.nil_sublist _))) (fun w1 M => qp rfl) λa D↦?_
   obtain ⟨br38, obr38, h1br38, h2br38, h3br38⟩ := qnh (k := j) hRo (by omega)
   refine qe (v := .pointer (some ⟨br38, obr38 + j, none⟩)) D 32 rfl rfl rfl rfl hP (M.sub (cc (List.nil_sublist _))) (fun w1 M => jj (k := j) Tryz.underlying56 (by kernel_rfl) rfl rfl rfl h1br38 (by omega)) λa D↦?_
   refine qe D 33 rfl rfl rfl rfl hP (M.sub (cc (List.nil_sublist _))) (fun w1 M => vy M h2br38 h3br38 TeL_is1_3 rfl) λa D↦?_
   obtain ⟨br39, obr39, h1br39, h2br39, h3br39⟩ := qnh (k := (O.getD j 0)) hRh (by omega)
   refine qe (v := .pointer (some ⟨br39, obr39 + (O.getD j 0), none⟩)) D 34 rfl rfl rfl rfl hP (M.sub (cc (List.nil_sublist _))) (fun w1 M => jj (k := (O.getD j 0)) Tryz.underlying56 (by kernel_rfl) rfl rfl rfl h1br39 (by omega)) λa D↦?_
   refine qe D 35 rfl rfl rfl rfl hP (M.sub (cc (List.nil_sublist _))) (fun w1 M => vy M h2br39 h3br39 TeL_is1_3 rfl) λa D↦?_
   refine qe (v := .int .i64 ((((H.getD (O.getD j 0) 0) - 1 : Nat) : Int))) D 36 rfl rfl rfl rfl hP (M.sub (cc (List.nil_sublist _))) (fun w1 M => qg rfl rfl (ar_sub ((in_i64 (by omega) (by omega)).trans (by omega)))) λa D↦?_
   refine qe (v := .bool false) D 37 rfl rfl rfl rfl hP (M.sub (cc (List.nil_sublist _))) (fun w1 M => qg rfl rfl (fun w => (jo w).trans (by rw [show ((r9.d.n != (((H.getD (O.getD j 0) 0) - 1 : Nat) : Int))) = false from (bne_eq_false_iff_eq.2 hr9n)]))) λa D↦?_
   refine qe (v := .bool false) D 38 rfl rfl rfl rfl hP (M.sub (cc (List.nil_sublist _))) (fun w1 M => vf rfl rfl rfl rfl) λa D↦?_
   refine ze (by kernel_rfl) ?_
   refine hK36 _ _ (wp_cond_false (D.ev rfl) ?_)
   refine wp_skip (hK30 _ _ (wrl (sdm D λa D↦?_)))
   refine sdo (v := .int .i64 (((j + 1 : Nat) : Int))) D (qg rfl rfl (ar_add ((in_i64 (by omega) (by omega)).trans (by omega)))) λa D↦?_
   refine sda D λa D↦?_
   refine qa ?_
   replace M := M.sub (cn (.refl _))
   refine hK25 _ _ _ (by omega) ⟨j + 1, rfl, (by omega), D.keep _ (by repeat' constructor), M⟩
  ·
   have hb29' := of_decide_eq_false hb29
   refine sdc D zq hb29 λa D↦?_
   refine qa (hK28 _ _ (wp_cond_false (D.ev rfl) ?_))
   refine wp_exit (hK22 _ _ (wsk fun K40 hK40 => wrl (sda D λa D↦?_)))
   refine qa (hK40 _ _ (wp_ret (hret _ _ (en1 D rfl (qj rfl) ?_))))
   exact ⟨rfl, hB1.trans (M.bel.mono hB1.size)⟩
 refine wsk fun K41 hK41 => wrl (sda D λa D↦?_)
 refine qa (hK41 _ _ (wp_block ?_))
 replace M := M.b1
 replace M := M.b1
 refine jp (fun m_ a w1 => ∃ (i : Nat) (O : List Nat) (H : List Nat) (so_ : Option Addr) (ca_ : Nat) (s : TS), m_ = 1 + (300 - i) ∧ (i ≤ l.length ∧ i ≤ 300 ∧ Lst i O H ∧ TOk id (fun _ => true) s ∧ Holds (jc s.bs) (yv O H) ∧ s.last ≤ i ∧ s.count ≤ 4096) ∧ Sl a 193 [(0, .slice sk l.length ck), (1, .slice sg gl.length cg), (5, .pointer (some ⟨g, 0, none⟩)), (6, .int .i64 0), (7, .slice (some ⟨g8, 0, none⟩) 256 256), (8, .slice so_ O.length ca_), (9, .int .i64 (((i : Nat) : Int))), (17, .tuple #[.pointer (some ⟨g, 0, none⟩), .int .i64 0]), (18, .tuple #[.pointer (some ⟨g, 0, none⟩), .int .i64 0]), (19, .pointer (some ⟨g, 0, none⟩)), (20, .int .i64 0), (21, .bool true), (22, .bool false), (23, .bool false), (24, .int .i64 0), (25, .bool false), (26, .bool false), (27, .bool false), (28, .pointer (some ⟨g, 0, none⟩)), (29, .bool false), (30, .bool false), (31, .slice (some ⟨g8, 0, none⟩) 256 256), (32, .slice (some ⟨g11, 0, none⟩) 0 0)] ∧ Mg w w1 (.row 3 1 (.slice so_ O.length ca_) O.length (zj O) :: .row 3 1 (.slice (some ⟨g8, 0, none⟩) 256 256) 256 (zj H) :: (s.P g 1))) _ ⟨0, [], (List.replicate 256 0), (some ⟨g11, 0, none⟩), 0, (TS.zero m), rfl, ⟨Nat.zero_le _, Nat.zero_le _, Lst.zero, qwh _ _ m, Holds.nil, Nat.zero_le _, Nat.zero_le _⟩, D.keep _ (by repeat' constructor), M⟩ ?_
 clear M D
 rintro m_ a w42 ⟨i, O, H, so_, ca_, s, rfl, hinv44, D, M⟩ K43 hK43
 obtain ⟨hi0, hi1, hL, hs, hH, hsl, hc⟩ := hinv44
 obtain ⟨hcO, hOl⟩ := qyc hs hL hH
 have hHl := hL.hl
 refine wsk fun K45 hK45 => wsk fun K46 hK46 => wrl ?_
 iterate 2 refine sdm D λa D↦?_
 refine sdo D (qy Tryz.underlying36 rfl) λa D↦?_
 rcases tf (decide (((i : Nat) : Int) < ((l.length : Nat) : Int))) with hb47 | hb47
 ·
  have hb47' := of_decide_eq_true hb47
  refine sdc D zq hb47 λa D↦?_
  iterate 2 refine sdm D λa D↦?_
  rcases tf (decide (((i : Nat) : Int) < 300)) with hb48 | hb48
  ·
   have hb48' := of_decide_eq_true hb48
   refine sdc D zq hb48 λa D↦?_
   refine sdk (v := .bool true) D λa D↦?_
   refine qa (hK46 _ _ (wp_cond_true (D.ev rfl) ?_))
   refine wp_skip (hK45 _ _ (wsk fun K49 hK49 => wp_block (wsk fun K50 hK50 => wrl ?_)))
   iterate 2 refine sdm D λa D↦?_
   obtain ⟨bx, ox, hx1, hx2, hx3⟩ := zpj (i := i) hb (by omega)
   have hX8 : (l.getD i 0).toNat < 256 := UInt8.toNat_lt _
   obtain ⟨kk, hkk⟩ : ∃ kk, kk = (l.getD i 0).toNat := ⟨_, rfl⟩
   have hk8 : kk < 256 := by omega
   replace hx3 := hx3 i (by omega)
   rw [← hkk] at hx3
   refine sdo (v := .pointer (some ⟨bx, ox + i, none⟩)) D (jj (k := i) Tryz.underlying36 (by kernel_rfl) rfl rfl rfl hx1 (by omega)) λa D↦?_
   refine sdo D (vy M hx2 hx3 TeL_is1_5 rfl) λa D↦?_
   refine sdo (v := .int .i64 (((kk : Nat) : Int))) D (jq rfl (ar_conv Tryz.underlying5 Tryz.underlying3 (in_i64 (by omega) (by omega)))) λa D↦?_
   refine sda D λa D↦?_
   refine qa (hK50 _ _ (wsk fun K51 hK51 => wrl (sdm D λa D↦?_)))
   refine sdo (v := .agg ((chD ((kk : Nat) : Int)).d.cells (chD ((kk : Nat) : Int)).ts.length).toArray) D (zp rfl (fun w => by kernel_rfl)) λa D↦?_
   refine ui (e := 38) (sz := 11) (m := 1) (vs := cellsOf [chD ((kk : Nat) : Int)]) D M rfl rfl rfl (zh rfl (by kernel_rfl)) rfl rfl (.inl (by decide)) ?_
   intro g5 w52 M a D
   refine sdo (v := .agg ((jd g5 ((kk : Nat) : Int)).d.cells (jd g5 ((kk : Nat) : Int)).ts.length).toArray) D (zp rfl (fun w => by kernel_rfl)) λa D↦?_
   refine zx (vs := (zl.d.cells zl.ts.length)) (t := 38) D M rfl rfl rfl pg (ql (z := .agg (zl.d.cells zl.ts.length).toArray) (by kernel_rfl) rfl) (by decide) ?_
   intro g53 w54 M a D
   refine zr (us := ((jd g5 ((kk : Nat) : Int)).d.cells (jd g5 ((kk : Nat) : Int)).ts.length)) (L' := (.obj g53 (.cells ((jd g5 ((kk : Nat) : Int)).d.cells (jd g5 ((kk : Nat) : Int)).ts.length).toArray 38) :: .row 38 11 (.slice (some ⟨g5, 0, none⟩) 1 1) 1 (cellsOf [chD ((kk : Nat) : Int)]) :: .row 3 1 (.slice so_ O.length ca_) O.length (zj O) :: .row 3 1 (.slice (some ⟨g8, 0, none⟩) 256 256) 256 (zj H) :: (s.P g 1))) D M rfl rfl (za rfl rfl rfl (by kernel_rfl) M 0 rfl rfl rfl) 0 rfl rfl rfl ?_
   intro w55 M
   refine qa (hK51 _ _ (wsk fun K56 hK56 => wsk fun K57 hK57 => wrl ?_))
   iterate 2 refine sdm D λa D↦?_
   refine sdo D (qy Tryz.underlying55 rfl) λa D↦?_
   rcases tf (decide (((i : Nat) : Int) < ((gl.length : Nat) : Int))) with hb58 | hb58
   ·
    have hb58' := of_decide_eq_true hb58
    refine sdc D zq hb58 λa D↦?_
    iterate 3 refine sdm D λa D↦?_
    obtain ⟨by59, oby59, h1by59, h2by59, h3by59⟩ := qgf (i := i) hg (by omega)
    refine sdo (v := .pointer (some ⟨by59, oby59 + i, none⟩)) D (jj (k := i) Tryz.underlying55 (by kernel_rfl) rfl rfl rfl h1by59 (by omega)) λa D↦?_
    refine sdo D (vy M h2by59 (h3by59 i (by omega)) TeL_is1_4 rfl) λa D↦?_
    refine sdo (v := .bool (gl.getD i false)) D (vf rfl rfl rfl rfl) λa D↦?_
    refine qa (hK57 _ _ ?_)
    refine wp_cond_split (t := gl.getD i false) (D.ev rfl) (fun hc60 => ?_) (fun hc60 => ?_)
    ·
     refine wsk fun K61 hK61 => jh (S := fun w1 => Mg w w1 (.obj g53 (.cells ((jd g5 ((kk : Nat) : Int)).d.cells (jd g5 ((kk : Nat) : Int)).ts.length).toArray 38) :: .row 3 1 (.slice (some ⟨g8, 0, none⟩) 256 256) 256 (zj H) :: [])) (by kernel_rfl) ?_
     replace M := M.drew
     refine qe D 0 rfl rfl rfl rfl hP (M.sub (cc (cn (cn (cc (List.nil_sublist _)))))) (fun w1 M => qp rfl) λa D↦?_
     refine qe D 1 rfl rfl rfl rfl hP (M.sub (cc (cn (cn (cc (List.nil_sublist _)))))) (fun w1 M => qw M TeL_isS_38 rfl 0 rfl (cs := ((jd g5 ((kk : Nat) : Int)).d.cells (jd g5 ((kk : Nat) : Int)).ts.length)) rfl rfl) λa D↦?_
     refine qe D 4 rfl rfl rfl rfl hP (M.sub (cc (cn (cn (cc (List.nil_sublist _)))))) (fun w1 M => qp rfl) λa D↦?_
     refine qe D 5 rfl rfl rfl rfl hP (M.sub (cc (cn (cn (cc (List.nil_sublist _)))))) (fun w1 M => qp rfl) λa D↦?_
     refine qe (v := .pointer (some ⟨g8, kk * 1, none⟩)) D 6 rfl rfl rfl rfl hP (M.sub (cc (cn (cn (cc (List.nil_sublist _)))))) (fun w1 M => zt (k := kk) Tryz.underlying56 (by kernel_rfl) rfl rfl rfl (by omega)) λa D↦?_
     refine qe D 7 rfl rfl rfl rfl hP (M.sub (cc (cn (cn (cc (List.nil_sublist _)))))) (fun w1 M => va M 1 rfl (kg (l := H) (k := kk) (by omega)) TeL_is1_3 rfl) λa D↦?_
     rcases tf (decide (0 < ((H.getD kk 0 : Nat) : Int))) with hb62 | hb62
     ·
      have hb62' := of_decide_eq_true hb62
      refine qe (v := .bool true) D 8 rfl rfl rfl rfl hP (M.sub (cc (cn (cn (cc (List.nil_sublist _)))))) (fun w1 M => qg rfl rfl (fun w => (xi w).trans (by rw [hb62]))) λa D↦?_
      have etk := (show (jd g5 ((kk : Nat) : Int)).tr = xq ((kk : Nat) : Int) from qch _ _)
      refine qh (by kernel_rfl) (qn D 2 rfl rfl rfl rfl (qi rfl rfl (fun w => by kernel_rfl)) (zuj qeb hs (Y := [.obj g53 (.cells ((jd g5 ((kk : Nat) : Int)).d.cells (jd g5 ((kk : Nat) : Int)).ts.length).toArray 38), .row 38 11 (.slice (some ⟨g5, 0, none⟩) 1 1) 1 (cellsOf [chD ((kk : Nat) : Int)]), .row 3 1 (.slice so_ O.length ca_) O.length (zj O), .row 3 1 (.slice (some ⟨g8, 0, none⟩) 256 256) 256 (zj H)]) (g := g) (qf (by simp) (qf (by simp) (qf (by simp) (qf (by simp) (jr jx))))) hT (t := (jd g5 ((kk : Nat) : Int))) (fun w9 h9 => qci (h9.has 1 rfl) (by omega) (by omega)) (by rw [etk]; exact yw _) (by rw [etk]; exact vm (by omega) (by omega)) rfl (by rw [etk]; exact vm (by omega) (by omega)) (by rw [etk]; exact qec (by omega) (by omega)) hc M (by rw [etk]; exact qyb hH ((hL.mem kk).2 ⟨hk8, by have := of_decide_eq_true hb62; omega⟩))) ?_)
      rintro _ w63 ⟨s9, rfl, ⟨hs9, hl9, hc9, hH9⟩, hM9⟩
      replace M : Mg w w63 (.obj g53 (.cells ((jd g5 ((kk : Nat) : Int)).d.cells (jd g5 ((kk : Nat) : Int)).ts.length).toArray 38) :: .row 38 11 (.slice (some ⟨g5, 0, none⟩) 1 1) 1 (cellsOf [chD ((kk : Nat) : Int)]) :: .row 3 1 (.slice so_ O.length ca_) O.length (zj O) :: .row 3 1 (.slice (some ⟨g8, 0, none⟩) 256 256) 256 (zj H) :: (s9.P g 1)) := hM9
      refine ⟨_, rfl, (M.sub (cc (cn (cn (cc (List.nil_sublist _)))))), ?_⟩
      intro a D
      refine qe (v := .bool true) D 3 rfl rfl rfl rfl hP (M.sub (cc (cn (cn (cc (List.nil_sublist _)))))) (fun w1 M => qg rfl rfl (fun w => by kernel_rfl)) λa D↦?_
      refine qe (v := .bool false) D 9 rfl rfl rfl rfl hP (M.sub (cc (cn (cn (cc (List.nil_sublist _)))))) (fun w1 M => qg rfl rfl (qeh Tryz.underlying4)) λa D↦?_
      refine ze (by kernel_rfl) ?_
      refine hK61 _ _ (wp_cond_false (D.ev rfl) ?_)
      refine wp_skip (hK56 _ _ (wsk fun K64 hK64 => wrl ?_))
      iterate 2 refine sdm D λa D↦?_
      refine sdo (v := .pointer (some ⟨g8, kk * 1, none⟩)) D (zt (k := kk) Tryz.underlying56 (by kernel_rfl) rfl rfl rfl (by omega)) λa D↦?_
      refine sdo D (va M 3 rfl (kg (l := H) (k := kk) (by omega)) TeL_is1_3 rfl) λa D↦?_
      refine sdo (v := .bool true) D (qg rfl rfl (fun w => (xi w).trans (by rw [show (decide (0 < ((H.getD kk 0 : Nat) : Int))) = true from hb62]))) λa D↦?_
      refine sda D λa D↦?_
      refine qa (hK64 _ _ (wsk fun K65 hK65 => wrl ?_))
      iterate 3 refine sdm D λa D↦?_
      refine sdo (v := .int .i64 (((i + 1 : Nat) : Int))) D (qg rfl rfl (ar_add ((in_i64 (by omega) (by omega)).trans (by omega)))) λa D↦?_
      refine sdo (v := .pointer (some ⟨g8, kk * 1, none⟩)) D (zt (k := kk) Tryz.underlying56 (by kernel_rfl) rfl rfl rfl (by omega)) λa D↦?_
      refine vz (cs := [.int .i64 (((i + 1 : Nat) : Int))]) (L' := (.obj g53 (.cells ((jd g5 ((kk : Nat) : Int)).d.cells (jd g5 ((kk : Nat) : Int)).ts.length).toArray 38) :: .row 38 11 (.slice (some ⟨g5, 0, none⟩) 1 1) 1 (cellsOf [chD ((kk : Nat) : Int)]) :: .row 3 1 (.slice so_ O.length ca_) O.length (zj O) :: .row 3 1 (.slice (some ⟨g8, 0, none⟩) 256 256) 256 (over (zj H) (kk * 1) [.int .i64 (((i + 1 : Nat) : Int))]) :: (s9.P g 1))) (us := []) D M rfl rfl (xv rfl rfl rfl (by kernel_rfl) M 3 rfl (by show kk * 1 + 1 ≤ _; omega) rfl) 3 rfl rfl ?_
      intro w66 M
      replace M : Mg w w66 (.obj g53 (.cells ((jd g5 ((kk : Nat) : Int)).d.cells (jd g5 ((kk : Nat) : Int)).ts.length).toArray 38) :: .row 38 11 (.slice (some ⟨g5, 0, none⟩) 1 1) 1 (cellsOf [chD ((kk : Nat) : Int)]) :: .row 3 1 (.slice so_ O.length ca_) O.length (zj O) :: .row 3 1 (.slice (some ⟨g8, 0, none⟩) 256 256) 256 (zj (H.set kk (i + 1))) :: (s9.P g 1)) := by
       have e9 : over (zj H) (kk * 1) [.int .i64 (((i + 1 : Nat) : Int))] = zj (H.set kk (i + 1)) := (yd (l := H) (k := kk) (i + 1)).trans rfl
       rw [e9] at M; exact M
      refine qa (hK65 _ _ (wsk fun K67 hK67 => wsk fun K68 hK68 => wrl ?_))
      iterate 2 refine sdm D λa D↦?_
      refine sdo D (qy Tryz.underlying55 rfl) λa D↦?_
      refine sdo (v := .bool true) D (qg rfl rfl (fun w => (zq w).trans (by rw [show (decide (((i : Nat) : Int) < ((gl.length : Nat) : Int))) = true from hb58]))) λa D↦?_
      iterate 3 refine sdm D λa D↦?_
      obtain ⟨by69, oby69, h1by69, h2by69, h3by69⟩ := qgf (i := i) hg (by omega)
      refine sdo (v := .pointer (some ⟨by69, oby69 + i, none⟩)) D (jj (k := i) Tryz.underlying55 (by kernel_rfl) rfl rfl rfl h1by69 (by omega)) λa D↦?_
      refine sdo D (vy M h2by69 ((h3by69 i (by omega)).trans (by rw [hc60])) TeL_is1_4 rfl) λa D↦?_
      refine sdk (v := .bool true) D λa D↦?_
      refine qa (hK68 _ _ (wp_cond_true (D.ev rfl) ?_))
      refine wrl ?_
      iterate 2 refine sdm D λa D↦?_
      refine sdo (v := .pointer (some ⟨g8, kk * 1, none⟩)) D (zt (k := kk) Tryz.underlying56 (by kernel_rfl) rfl rfl rfl (by omega)) λa D↦?_
      refine vz (cs := [.int .i64 0]) (L' := (.obj g53 (.cells ((jd g5 ((kk : Nat) : Int)).d.cells (jd g5 ((kk : Nat) : Int)).ts.length).toArray 38) :: .row 38 11 (.slice (some ⟨g5, 0, none⟩) 1 1) 1 (cellsOf [chD ((kk : Nat) : Int)]) :: .row 3 1 (.slice so_ O.length ca_) O.length (zj O) :: .row 3 1 (.slice (some ⟨g8, 0, none⟩) 256 256) 256 (over (zj (H.set kk (i + 1))) (kk * 1) [.int .i64 0]) :: (s9.P g 1))) (us := []) D M rfl rfl (xv rfl rfl rfl (by kernel_rfl) M 3 rfl (by show kk * 1 + 1 ≤ _; omega) rfl) 3 rfl rfl ?_
      intro w70 M
      replace M : Mg w w70 (.obj g53 (.cells ((jd g5 ((kk : Nat) : Int)).d.cells (jd g5 ((kk : Nat) : Int)).ts.length).toArray 38) :: .row 38 11 (.slice (some ⟨g5, 0, none⟩) 1 1) 1 (cellsOf [chD ((kk : Nat) : Int)]) :: .row 3 1 (.slice so_ O.length ca_) O.length (zj O) :: .row 3 1 (.slice (some ⟨g8, 0, none⟩) 256 256) 256 (zj (H.set kk 0)) :: (s9.P g 1)) := by
       have e9 : over (zj (H.set kk (i + 1))) (kk * 1) [.int .i64 0] = zj (H.set kk 0) := (yd (l := (H.set kk (i + 1))) (k := kk) 0).trans (congrArg zj (List.set_set _))
       rw [e9] at M; exact M
      refine qa (hK67 _ _ (wsk fun K71 hK71 => wsk fun K72 hK72 => wrl ?_))
      iterate 4 refine sdm D λa D↦?_
      refine sdo (v := .pointer (some ⟨g8, kk * 1, none⟩)) D (zt (k := kk) Tryz.underlying56 (by kernel_rfl) rfl rfl rfl (by omega)) λa D↦?_
      refine sdo D (va M 3 rfl (uq (H := H) (k := kk) (by omega)) TeL_is1_3 rfl) λa D↦?_
      refine sdo (v := .bool true) D (qg rfl rfl (fun w => by kernel_rfl)) λa D↦?_
      refine sdk (v := .bool true) D λa D↦?_
      refine qa (hK72 _ _ (wp_cond_true (D.ev rfl) ?_))
      refine wrl ?_
      iterate 2 refine sdm D λa D↦?_
      replace M := M.b2
      refine sct D (ef rfl rfl) (qxj (X := (.obj g53 (.cells ((jd g5 ((kk : Nat) : Int)).d.cells (jd g5 ((kk : Nat) : Int)).ts.length).toArray 38) :: .row 38 11 (.slice (some ⟨g5, 0, none⟩) 1 1) 1 (cellsOf [chD ((kk : Nat) : Int)]) :: .row 3 1 (.slice (some ⟨g8, 0, none⟩) 256 256) 256 (zj (H.set kk 0)) :: (s9.P g 1))) (qf (by simp) (qf (by simp) (qf (by simp) (zzh hs9.nb g 1)))) (by omega) (by omega) M) ?_
      rintro _ w73 ⟨so9, ca9, rfl, hM9⟩
      replace M : Mg w w73 (.row 3 1 (.slice so9 ((O.filter fun j => decide (j ≠ kk)).length) ca9) ((O.filter fun j => decide (j ≠ kk)).length) (zj (O.filter fun j => decide (j ≠ kk))) :: .obj g53 (.cells ((jd g5 ((kk : Nat) : Int)).d.cells (jd g5 ((kk : Nat) : Int)).ts.length).toArray 38) :: .row 38 11 (.slice (some ⟨g5, 0, none⟩) 1 1) 1 (cellsOf [chD ((kk : Nat) : Int)]) :: .row 3 1 (.slice (some ⟨g8, 0, none⟩) 256 256) 256 (zj (H.set kk 0)) :: (s9.P g 1)) := hM9
      refine ⟨_, rfl, ?_⟩
      intro a D
      refine sda D λa D↦?_
      refine qa (hK71 _ _ (wsk fun K74 hK74 => wrl (sdm D λa D↦?_)))
      refine sdo (v := .bool false) D (je rfl jl) λa D↦?_
      refine sdm D λa D↦?_
      iterate 5 refine zg D rfl rfl rfl λa D↦?_
      refine sdk (v := .bool false) D λa D↦?_
      refine qa (hK74 _ _ (wp_cond_false (D.ev rfl) ?_))
      refine wp_skip (hK49 _ _ (wrl (sdm D λa D↦?_)))
      refine sdo (v := .int .i64 (((i + 1 : Nat) : Int))) D (qg rfl rfl (ar_add ((in_i64 (by omega) (by omega)).trans (by omega)))) λa D↦?_
      refine sda D λa D↦?_
      refine qa ?_
      replace M := M.b3
      replace M := M.b1
      replace M := M.sub (cc (cc (cn (cn (.refl _)))))
      refine hK43 _ _ _ (by omega) ⟨i + 1, (O.filter fun j => decide (j ≠ kk)), (H.set kk 0), so9, ca9, s9, rfl, ⟨by omega, by omega, hL.del hk8, hs9, (by have := hH9 _ hH; rw [etk, zue hL hk8] at this; exact this), by omega, hc9⟩, D.keep _ (by repeat' constructor), M⟩
     ·
      have hb62' := of_decide_eq_false hb62
      refine qe (v := .bool false) D 8 rfl rfl rfl rfl hP (M.sub (cc (cn (cn (cc (List.nil_sublist _)))))) (fun w1 M => qg rfl rfl (fun w => (xi w).trans (by rw [hb62]))) λa D↦?_
      have etk := (show (jd g5 ((kk : Nat) : Int)).tr = xq ((kk : Nat) : Int) from qch _ _)
      refine qh (by kernel_rfl) (qn D 2 rfl rfl rfl rfl (qi rfl rfl (fun w => by kernel_rfl)) (zva qeb hs (Y := [.obj g53 (.cells ((jd g5 ((kk : Nat) : Int)).d.cells (jd g5 ((kk : Nat) : Int)).ts.length).toArray 38), .row 38 11 (.slice (some ⟨g5, 0, none⟩) 1 1) 1 (cellsOf [chD ((kk : Nat) : Int)]), .row 3 1 (.slice so_ O.length ca_) O.length (zj O), .row 3 1 (.slice (some ⟨g8, 0, none⟩) 256 256) 256 (zj H)]) (g := g) (qf (by simp) (qf (by simp) (qf (by simp) (qf (by simp) (jr jx))))) hT (t := (jd g5 ((kk : Nat) : Int))) (fun w9 h9 => qci (h9.has 1 rfl) (by omega) (by omega)) (by rw [etk]; exact yw _) (by rw [etk]; exact vm (by omega) (by omega)) rfl (by rw [etk]; exact vm (by omega) (by omega)) (by rw [etk]; exact qec (by omega) (by omega)) hc M (by rw [etk]; exact zqa hH (fun e => by have := ((hL.mem kk).1 e).2; have := of_decide_eq_false hb62; omega))) ?_)
      rintro _ w75 ⟨rfl, hM9⟩
      replace M : Mg w w75 (.obj g53 (.cells ((jd g5 ((kk : Nat) : Int)).d.cells (jd g5 ((kk : Nat) : Int)).ts.length).toArray 38) :: .row 38 11 (.slice (some ⟨g5, 0, none⟩) 1 1) 1 (cellsOf [chD ((kk : Nat) : Int)]) :: .row 3 1 (.slice so_ O.length ca_) O.length (zj O) :: .row 3 1 (.slice (some ⟨g8, 0, none⟩) 256 256) 256 (zj H) :: (s.P g 1)) := hM9
      refine ⟨_, rfl, (M.sub (cc (cn (cn (cc (List.nil_sublist _)))))), ?_⟩
      intro a D
      refine qe (v := .bool false) D 3 rfl rfl rfl rfl hP (M.sub (cc (cn (cn (cc (List.nil_sublist _)))))) (fun w1 M => qg rfl rfl (fun w => by kernel_rfl)) λa D↦?_
      refine qe (v := .bool false) D 9 rfl rfl rfl rfl hP (M.sub (cc (cn (cn (cc (List.nil_sublist _)))))) (fun w1 M => qg rfl rfl (qeh Tryz.underlying4)) λa D↦?_
      refine ze (by kernel_rfl) ?_
      refine hK61 _ _ (wp_cond_false (D.ev rfl) ?_)
      refine wp_skip (hK56 _ _ (wsk fun K76 hK76 => wrl ?_))
      iterate 2 refine sdm D λa D↦?_
      refine sdo (v := .pointer (some ⟨g8, kk * 1, none⟩)) D (zt (k := kk) Tryz.underlying56 (by kernel_rfl) rfl rfl rfl (by omega)) λa D↦?_
      refine sdo D (va M 3 rfl (kg (l := H) (k := kk) (by omega)) TeL_is1_3 rfl) λa D↦?_
      refine sdo (v := .bool false) D (qg rfl rfl (fun w => (xi w).trans (by rw [show (decide (0 < ((H.getD kk 0 : Nat) : Int))) = false from hb62]))) λa D↦?_
      refine sda D λa D↦?_
      refine qa (hK76 _ _ (wsk fun K77 hK77 => wrl ?_))
      iterate 3 refine sdm D λa D↦?_
      refine sdo (v := .int .i64 (((i + 1 : Nat) : Int))) D (qg rfl rfl (ar_add ((in_i64 (by omega) (by omega)).trans (by omega)))) λa D↦?_
      refine sdo (v := .pointer (some ⟨g8, kk * 1, none⟩)) D (zt (k := kk) Tryz.underlying56 (by kernel_rfl) rfl rfl rfl (by omega)) λa D↦?_
      refine vz (cs := [.int .i64 (((i + 1 : Nat) : Int))]) (L' := (.obj g53 (.cells ((jd g5 ((kk : Nat) : Int)).d.cells (jd g5 ((kk : Nat) : Int)).ts.length).toArray 38) :: .row 38 11 (.slice (some ⟨g5, 0, none⟩) 1 1) 1 (cellsOf [chD ((kk : Nat) : Int)]) :: .row 3 1 (.slice so_ O.length ca_) O.length (zj O) :: .row 3 1 (.slice (some ⟨g8, 0, none⟩) 256 256) 256 (over (zj H) (kk * 1) [.int .i64 (((i + 1 : Nat) : Int))]) :: (s.P g 1))) (us := []) D M rfl rfl (xv rfl rfl rfl (by kernel_rfl) M 3 rfl (by show kk * 1 + 1 ≤ _; omega) rfl) 3 rfl rfl ?_
      intro w78 M
      replace M : Mg w w78 (.obj g53 (.cells ((jd g5 ((kk : Nat) : Int)).d.cells (jd g5 ((kk : Nat) : Int)).ts.length).toArray 38) :: .row 38 11 (.slice (some ⟨g5, 0, none⟩) 1 1) 1 (cellsOf [chD ((kk : Nat) : Int)]) :: .row 3 1 (.slice so_ O.length ca_) O.length (zj O) :: .row 3 1 (.slice (some ⟨g8, 0, none⟩) 256 256) 256 (zj (H.set kk (i + 1))) :: (s.P g 1)) := by
       have e9 : over (zj H) (kk * 1) [.int .i64 (((i + 1 : Nat) : Int))] = zj (H.set kk (i + 1)) := (yd (l := H) (k := kk) (i + 1)).trans rfl
       rw [e9] at M; exact M
      refine qa (hK77 _ _ (wsk fun K79 hK79 => wsk fun K80 hK80 => wrl ?_))
      iterate 2 refine sdm D λa D↦?_
      refine sdo D (qy Tryz.underlying55 rfl) λa D↦?_
      refine sdo (v := .bool true) D (qg rfl rfl (fun w => (zq w).trans (by rw [show (decide (((i : Nat) : Int) < ((gl.length : Nat) : Int))) = true from hb58]))) λa D↦?_
      iterate 3 refine sdm D λa D↦?_
      obtain ⟨by81, oby81, h1by81, h2by81, h3by81⟩ := qgf (i := i) hg (by omega)
      refine sdo (v := .pointer (some ⟨by81, oby81 + i, none⟩)) D (jj (k := i) Tryz.underlying55 (by kernel_rfl) rfl rfl rfl h1by81 (by omega)) λa D↦?_
      refine sdo D (vy M h2by81 ((h3by81 i (by omega)).trans (by rw [hc60])) TeL_is1_4 rfl) λa D↦?_
      refine sdk (v := .bool true) D λa D↦?_
      refine qa (hK80 _ _ (wp_cond_true (D.ev rfl) ?_))
      refine wrl ?_
      iterate 2 refine sdm D λa D↦?_
      refine sdo (v := .pointer (some ⟨g8, kk * 1, none⟩)) D (zt (k := kk) Tryz.underlying56 (by kernel_rfl) rfl rfl rfl (by omega)) λa D↦?_
      refine vz (cs := [.int .i64 0]) (L' := (.obj g53 (.cells ((jd g5 ((kk : Nat) : Int)).d.cells (jd g5 ((kk : Nat) : Int)).ts.length).toArray 38) :: .row 38 11 (.slice (some ⟨g5, 0, none⟩) 1 1) 1 (cellsOf [chD ((kk : Nat) : Int)]) :: .row 3 1 (.slice so_ O.length ca_) O.length (zj O) :: .row 3 1 (.slice (some ⟨g8, 0, none⟩) 256 256) 256 (over (zj (H.set kk (i + 1))) (kk * 1) [.int .i64 0]) :: (s.P g 1))) (us := []) D M rfl rfl (xv rfl rfl rfl (by kernel_rfl) M 3 rfl (by show kk * 1 + 1 ≤ _; omega) rfl) 3 rfl rfl ?_
      intro w82 M
      replace M : Mg w w82 (.obj g53 (.cells ((jd g5 ((kk : Nat) : Int)).d.cells (jd g5 ((kk : Nat) : Int)).ts.length).toArray 38) :: .row 38 11 (.slice (some ⟨g5, 0, none⟩) 1 1) 1 (cellsOf [chD ((kk : Nat) : Int)]) :: .row 3 1 (.slice so_ O.length ca_) O.length (zj O) :: .row 3 1 (.slice (some ⟨g8, 0, none⟩) 256 256) 256 (zj (H.set kk 0)) :: (s.P g 1)) := by
       have e9 : over (zj (H.set kk (i + 1))) (kk * 1) [.int .i64 0] = zj (H.set kk 0) := (yd (l := (H.set kk (i + 1))) (k := kk) 0).trans (congrArg zj (List.set_set _))
       rw [e9] at M; exact M
      refine qa (hK79 _ _ (wsk fun K83 hK83 => wsk fun K84 hK84 => wrl ?_))
      iterate 2 refine sdm D λa D↦?_
      iterate 5 refine zg D rfl rfl rfl λa D↦?_
      refine sdk (v := .bool false) D λa D↦?_
      refine qa (hK84 _ _ (wp_cond_false (D.ev rfl) ?_))
      refine wp_skip (hK83 _ _ (wsk fun K85 hK85 => wrl (sdm D λa D↦?_)))
      refine sdo (v := .bool true) D (je rfl jl) λa D↦?_
      iterate 3 refine sdm D λa D↦?_
      refine sdo (v := .pointer (some ⟨g8, kk * 1, none⟩)) D (zt (k := kk) Tryz.underlying56 (by kernel_rfl) rfl rfl rfl (by omega)) λa D↦?_
      refine sdo D (va M 3 rfl (uq (H := H) (k := kk) (by omega)) TeL_is1_3 rfl) λa D↦?_
      refine sdo (v := .bool false) D (qg rfl rfl (fun w => by kernel_rfl)) λa D↦?_
      refine sdk (v := .bool false) D λa D↦?_
      refine qa (hK85 _ _ (wp_cond_false (D.ev rfl) ?_))
      refine wp_skip (hK49 _ _ (wrl (sdm D λa D↦?_)))
      refine sdo (v := .int .i64 (((i + 1 : Nat) : Int))) D (qg rfl rfl (ar_add ((in_i64 (by omega) (by omega)).trans (by omega)))) λa D↦?_
      refine sda D λa D↦?_
      refine qa ?_
      replace M := M.b3
      replace M := M.b3
      replace M := M.sub (cc (cc (cn (cn (.refl _)))))
      refine hK43 _ _ _ (by omega) ⟨i + 1, O, (H.set kk 0), so_, ca_, s, rfl, ⟨by omega, by omega, (by have := hL.del hk8; rw [zia (fun e => by have := ((hL.mem kk).1 e).2; have := of_decide_eq_false hb62; omega)] at this; exact this), hs, (by rw [zuh (by omega) (fun e => by have := ((hL.mem kk).1 e).2; have := of_decide_eq_false hb62; omega)]; exact hH), by omega, hc⟩, D.keep _ (by repeat' constructor), M⟩
    ·
     refine wsk fun K86 hK86 => wrl (sdm D λa D↦?_)
     refine sdo D (qw M TeL_isS_38 rfl 0 rfl (cs := ((jd g5 ((kk : Nat) : Int)).d.cells (jd g5 ((kk : Nat) : Int)).ts.length)) rfl rfl) λa D↦?_
     refine sdm D λa D↦?_
     refine sdo (v := .agg ((chD ((i : Nat) : Int)).d.cells (chD ((i : Nat) : Int)).ts.length).toArray) D (zp rfl (fun w => by kernel_rfl)) λa D↦?_
     rcases tf (decide (0 < ((H.getD kk 0 : Nat) : Int))) with hb87 | hb87
     ·
      have hb87' := of_decide_eq_true hb87
      have etk := (show (jd g5 ((kk : Nat) : Int)).tr = xq ((kk : Nat) : Int) from qch _ _)
      have eti := (show (chD ((i : Nat) : Int)).tr = chT ((i : Nat) : Int) from qnf _)
      refine sct D (ef rfl rfl) (qkh qeb hs (Y := [.obj g53 (.cells ((jd g5 ((kk : Nat) : Int)).d.cells (jd g5 ((kk : Nat) : Int)).ts.length).toArray 38), .row 38 11 (.slice (some ⟨g5, 0, none⟩) 1 1) 1 (cellsOf [chD ((kk : Nat) : Int)]), .row 3 1 (.slice so_ O.length ca_) O.length (zj O), .row 3 1 (.slice (some ⟨g8, 0, none⟩) 256 256) 256 (zj H)]) (g := g) (qf (by simp) (qf (by simp) (qf (by simp) (qf (by simp) (jr jx))))) hT (t := (jd g5 ((kk : Nat) : Int))) (fun w9 h9 => qci (h9.has 1 rfl) (by omega) (by omega)) (v := (chD ((i : Nat) : Int))) (fun w9 _ => qng w9 (by omega) (by omega)) (by rw [etk]; exact yw _) (by rw [eti]; exact qkg _) (by rw [etk]; exact vm (by omega) (by omega)) (by rw [eti]; exact qxg (by omega) (by omega)) rfl (by rw [etk]; exact vm (by omega) (by omega)) (by rw [etk]; exact qec (by omega) (by omega)) (by omega) (by omega) M) ?_
      rintro _ w88 ⟨s9, rfl, ⟨hs9, hl9, hc9, hH9⟩, hM9⟩
      replace M : Mg w w88 (.obj g53 (.cells ((jd g5 ((kk : Nat) : Int)).d.cells (jd g5 ((kk : Nat) : Int)).ts.length).toArray 38) :: .row 38 11 (.slice (some ⟨g5, 0, none⟩) 1 1) 1 (cellsOf [chD ((kk : Nat) : Int)]) :: .row 3 1 (.slice so_ O.length ca_) O.length (zj O) :: .row 3 1 (.slice (some ⟨g8, 0, none⟩) 256 256) 256 (zj H) :: (s9.P g 1)) := hM9
      refine ⟨_, rfl, ?_⟩
      intro a D
      refine sdo (v := .bool false) D (qg rfl rfl (fun w => by kernel_rfl)) λa D↦?_
      refine qa (hK86 _ _ (wp_cond_false (D.ev rfl) ?_))
      refine wp_skip (hK56 _ _ (wsk fun K89 hK89 => wrl ?_))
      iterate 2 refine sdm D λa D↦?_
      refine sdo (v := .pointer (some ⟨g8, kk * 1, none⟩)) D (zt (k := kk) Tryz.underlying56 (by kernel_rfl) rfl rfl rfl (by omega)) λa D↦?_
      refine sdo D (va M 3 rfl (kg (l := H) (k := kk) (by omega)) TeL_is1_3 rfl) λa D↦?_
      refine sdo (v := .bool true) D (qg rfl rfl (fun w => (xi w).trans (by rw [show (decide (0 < ((H.getD kk 0 : Nat) : Int))) = true from hb87]))) λa D↦?_
      refine sda D λa D↦?_
      refine qa (hK89 _ _ (wsk fun K90 hK90 => wrl ?_))
      iterate 3 refine sdm D λa D↦?_
      refine sdo (v := .int .i64 (((i + 1 : Nat) : Int))) D (qg rfl rfl (ar_add ((in_i64 (by omega) (by omega)).trans (by omega)))) λa D↦?_
      refine sdo (v := .pointer (some ⟨g8, kk * 1, none⟩)) D (zt (k := kk) Tryz.underlying56 (by kernel_rfl) rfl rfl rfl (by omega)) λa D↦?_
      refine vz (cs := [.int .i64 (((i + 1 : Nat) : Int))]) (L' := (.obj g53 (.cells ((jd g5 ((kk : Nat) : Int)).d.cells (jd g5 ((kk : Nat) : Int)).ts.length).toArray 38) :: .row 38 11 (.slice (some ⟨g5, 0, none⟩) 1 1) 1 (cellsOf [chD ((kk : Nat) : Int)]) :: .row 3 1 (.slice so_ O.length ca_) O.length (zj O) :: .row 3 1 (.slice (some ⟨g8, 0, none⟩) 256 256) 256 (over (zj H) (kk * 1) [.int .i64 (((i + 1 : Nat) : Int))]) :: (s9.P g 1))) (us := []) D M rfl rfl (xv rfl rfl rfl (by kernel_rfl) M 3 rfl (by show kk * 1 + 1 ≤ _; omega) rfl) 3 rfl rfl ?_
      intro w91 M
      replace M : Mg w w91 (.obj g53 (.cells ((jd g5 ((kk : Nat) : Int)).d.cells (jd g5 ((kk : Nat) : Int)).ts.length).toArray 38) :: .row 38 11 (.slice (some ⟨g5, 0, none⟩) 1 1) 1 (cellsOf [chD ((kk : Nat) : Int)]) :: .row 3 1 (.slice so_ O.length ca_) O.length (zj O) :: .row 3 1 (.slice (some ⟨g8, 0, none⟩) 256 256) 256 (zj (H.set kk (i + 1))) :: (s9.P g 1)) := by
       have e9 : over (zj H) (kk * 1) [.int .i64 (((i + 1 : Nat) : Int))] = zj (H.set kk (i + 1)) := (yd (l := H) (k := kk) (i + 1)).trans rfl
       rw [e9] at M; exact M
      refine qa (hK90 _ _ (wsk fun K92 hK92 => wsk fun K93 hK93 => wrl ?_))
      iterate 2 refine sdm D λa D↦?_
      refine sdo D (qy Tryz.underlying55 rfl) λa D↦?_
      refine sdo (v := .bool true) D (qg rfl rfl (fun w => (zq w).trans (by rw [show (decide (((i : Nat) : Int) < ((gl.length : Nat) : Int))) = true from hb58]))) λa D↦?_
      iterate 3 refine sdm D λa D↦?_
      obtain ⟨by94, oby94, h1by94, h2by94, h3by94⟩ := qgf (i := i) hg (by omega)
      refine sdo (v := .pointer (some ⟨by94, oby94 + i, none⟩)) D (jj (k := i) Tryz.underlying55 (by kernel_rfl) rfl rfl rfl h1by94 (by omega)) λa D↦?_
      refine sdo D (vy M h2by94 ((h3by94 i (by omega)).trans (by rw [hc60])) TeL_is1_4 rfl) λa D↦?_
      refine sdk (v := .bool false) D λa D↦?_
      refine qa (hK93 _ _ (wp_cond_false (D.ev rfl) ?_))
      refine wp_skip (hK92 _ _ (wsk fun K95 hK95 => wsk fun K96 hK96 => wrl ?_))
      iterate 4 refine sdm D λa D↦?_
      refine sdo (v := .pointer (some ⟨g8, kk * 1, none⟩)) D (zt (k := kk) Tryz.underlying56 (by kernel_rfl) rfl rfl rfl (by omega)) λa D↦?_
      refine sdo D (va M 3 rfl (uq (H := H) (k := kk) (by omega)) TeL_is1_3 rfl) λa D↦?_
      refine sdo (v := .bool false) D (qg rfl rfl (fun w => (qm w).trans (by rw [show ((((i + 1 : Nat) : Int) == 0)) = false from (beq_eq_false_iff_ne.2 (by omega))]))) λa D↦?_
      refine sdk (v := .bool false) D λa D↦?_
      refine qa (hK96 _ _ (wp_cond_false (D.ev rfl) ?_))
      refine wp_skip (hK95 _ _ (wsk fun K97 hK97 => wrl (sdm D λa D↦?_)))
      refine sdo (v := .bool false) D (je rfl jl) λa D↦?_
      refine sdm D λa D↦?_
      iterate 5 refine zg D rfl rfl rfl λa D↦?_
      refine sdk (v := .bool false) D λa D↦?_
      refine qa (hK97 _ _ (wp_cond_false (D.ev rfl) ?_))
      refine wp_skip (hK49 _ _ (wrl (sdm D λa D↦?_)))
      refine sdo (v := .int .i64 (((i + 1 : Nat) : Int))) D (qg rfl rfl (ar_add ((in_i64 (by omega) (by omega)).trans (by omega)))) λa D↦?_
      refine sda D λa D↦?_
      refine qa ?_
      replace M := M.b3
      replace M := M.b3
      replace M := M.sub (cc (cc (cn (cn (.refl _)))))
      refine hK43 _ _ _ (by omega) ⟨i + 1, O, (H.set kk (i + 1)), so_, ca_, s9, rfl, ⟨by omega, by omega, hL.hit hk8 ((hL.mem kk).2 ⟨hk8, by have := of_decide_eq_true hb87; omega⟩), hs9, (by have := hH9 _ hH; rw [etk, eti, zdh hL hk8 ((hL.mem kk).2 ⟨hk8, by have := of_decide_eq_true hb87; omega⟩)] at this; exact this), by omega, hc9⟩, D.keep _ (by repeat' constructor), M⟩
     ·
      have hb87' := of_decide_eq_false hb87
      have etk := (show (jd g5 ((kk : Nat) : Int)).tr = xq ((kk : Nat) : Int) from qch _ _)
      have eti := (show (chD ((i : Nat) : Int)).tr = chT ((i : Nat) : Int) from qnf _)
      refine sct D (ef rfl rfl) (qkh qeb hs (Y := [.obj g53 (.cells ((jd g5 ((kk : Nat) : Int)).d.cells (jd g5 ((kk : Nat) : Int)).ts.length).toArray 38), .row 38 11 (.slice (some ⟨g5, 0, none⟩) 1 1) 1 (cellsOf [chD ((kk : Nat) : Int)]), .row 3 1 (.slice so_ O.length ca_) O.length (zj O), .row 3 1 (.slice (some ⟨g8, 0, none⟩) 256 256) 256 (zj H)]) (g := g) (qf (by simp) (qf (by simp) (qf (by simp) (qf (by simp) (jr jx))))) hT (t := (jd g5 ((kk : Nat) : Int))) (fun w9 h9 => qci (h9.has 1 rfl) (by omega) (by omega)) (v := (chD ((i : Nat) : Int))) (fun w9 _ => qng w9 (by omega) (by omega)) (by rw [etk]; exact yw _) (by rw [eti]; exact qkg _) (by rw [etk]; exact vm (by omega) (by omega)) (by rw [eti]; exact qxg (by omega) (by omega)) rfl (by rw [etk]; exact vm (by omega) (by omega)) (by rw [etk]; exact qec (by omega) (by omega)) (by omega) (by omega) M) ?_
      rintro _ w98 ⟨s9, rfl, ⟨hs9, hl9, hc9, hH9⟩, hM9⟩
      replace M : Mg w w98 (.obj g53 (.cells ((jd g5 ((kk : Nat) : Int)).d.cells (jd g5 ((kk : Nat) : Int)).ts.length).toArray 38) :: .row 38 11 (.slice (some ⟨g5, 0, none⟩) 1 1) 1 (cellsOf [chD ((kk : Nat) : Int)]) :: .row 3 1 (.slice so_ O.length ca_) O.length (zj O) :: .row 3 1 (.slice (some ⟨g8, 0, none⟩) 256 256) 256 (zj H) :: (s9.P g 1)) := hM9
      refine ⟨_, rfl, ?_⟩
      intro a D
      refine sdo (v := .bool false) D (qg rfl rfl (fun w => by kernel_rfl)) λa D↦?_
      refine qa (hK86 _ _ (wp_cond_false (D.ev rfl) ?_))
      refine wp_skip (hK56 _ _ (wsk fun K99 hK99 => wrl ?_))
      iterate 2 refine sdm D λa D↦?_
      refine sdo (v := .pointer (some ⟨g8, kk * 1, none⟩)) D (zt (k := kk) Tryz.underlying56 (by kernel_rfl) rfl rfl rfl (by omega)) λa D↦?_
      refine sdo D (va M 3 rfl (kg (l := H) (k := kk) (by omega)) TeL_is1_3 rfl) λa D↦?_
      refine sdo (v := .bool false) D (qg rfl rfl (fun w => (xi w).trans (by rw [show (decide (0 < ((H.getD kk 0 : Nat) : Int))) = false from hb87]))) λa D↦?_
      refine sda D λa D↦?_
      refine qa (hK99 _ _ (wsk fun K100 hK100 => wrl ?_))
      iterate 3 refine sdm D λa D↦?_
      refine sdo (v := .int .i64 (((i + 1 : Nat) : Int))) D (qg rfl rfl (ar_add ((in_i64 (by omega) (by omega)).trans (by omega)))) λa D↦?_
      refine sdo (v := .pointer (some ⟨g8, kk * 1, none⟩)) D (zt (k := kk) Tryz.underlying56 (by kernel_rfl) rfl rfl rfl (by omega)) λa D↦?_
      refine vz (cs := [.int .i64 (((i + 1 : Nat) : Int))]) (L' := (.obj g53 (.cells ((jd g5 ((kk : Nat) : Int)).d.cells (jd g5 ((kk : Nat) : Int)).ts.length).toArray 38) :: .row 38 11 (.slice (some ⟨g5, 0, none⟩) 1 1) 1 (cellsOf [chD ((kk : Nat) : Int)]) :: .row 3 1 (.slice so_ O.length ca_) O.length (zj O) :: .row 3 1 (.slice (some ⟨g8, 0, none⟩) 256 256) 256 (over (zj H) (kk * 1) [.int .i64 (((i + 1 : Nat) : Int))]) :: (s9.P g 1))) (us := []) D M rfl rfl (xv rfl rfl rfl (by kernel_rfl) M 3 rfl (by show kk * 1 + 1 ≤ _; omega) rfl) 3 rfl rfl ?_
      intro w101 M
      replace M : Mg w w101 (.obj g53 (.cells ((jd g5 ((kk : Nat) : Int)).d.cells (jd g5 ((kk : Nat) : Int)).ts.length).toArray 38) :: .row 38 11 (.slice (some ⟨g5, 0, none⟩) 1 1) 1 (cellsOf [chD ((kk : Nat) : Int)]) :: .row 3 1 (.slice so_ O.length ca_) O.length (zj O) :: .row 3 1 (.slice (some ⟨g8, 0, none⟩) 256 256) 256 (zj (H.set kk (i + 1))) :: (s9.P g 1)) := by
       have e9 : over (zj H) (kk * 1) [.int .i64 (((i + 1 : Nat) : Int))] = zj (H.set kk (i + 1)) := (yd (l := H) (k := kk) (i + 1)).trans rfl
       rw [e9] at M; exact M
      refine qa (hK100 _ _ (wsk fun K102 hK102 => wsk fun K103 hK103 => wrl ?_))
      iterate 2 refine sdm D λa D↦?_
      refine sdo D (qy Tryz.underlying55 rfl) λa D↦?_
      refine sdo (v := .bool true) D (qg rfl rfl (fun w => (zq w).trans (by rw [show (decide (((i : Nat) : Int) < ((gl.length : Nat) : Int))) = true from hb58]))) λa D↦?_
      iterate 3 refine sdm D λa D↦?_
      obtain ⟨by104, oby104, h1by104, h2by104, h3by104⟩ := qgf (i := i) hg (by omega)
      refine sdo (v := .pointer (some ⟨by104, oby104 + i, none⟩)) D (jj (k := i) Tryz.underlying55 (by kernel_rfl) rfl rfl rfl h1by104 (by omega)) λa D↦?_
      refine sdo D (vy M h2by104 ((h3by104 i (by omega)).trans (by rw [hc60])) TeL_is1_4 rfl) λa D↦?_
      refine sdk (v := .bool false) D λa D↦?_
      refine qa (hK103 _ _ (wp_cond_false (D.ev rfl) ?_))
      refine wp_skip (hK102 _ _ (wsk fun K105 hK105 => wsk fun K106 hK106 => wrl ?_))
      iterate 2 refine sdm D λa D↦?_
      iterate 5 refine zg D rfl rfl rfl λa D↦?_
      refine sdk (v := .bool false) D λa D↦?_
      refine qa (hK106 _ _ (wp_cond_false (D.ev rfl) ?_))
      refine wp_skip (hK105 _ _ (wsk fun K107 hK107 => wrl (sdm D λa D↦?_)))
      refine sdo (v := .bool true) D (je rfl jl) λa D↦?_
      iterate 3 refine sdm D λa D↦?_
      refine sdo (v := .pointer (some ⟨g8, kk * 1, none⟩)) D (zt (k := kk) Tryz.underlying56 (by kernel_rfl) rfl rfl rfl (by omega)) λa D↦?_
      refine sdo D (va M 3 rfl (uq (H := H) (k := kk) (by omega)) TeL_is1_3 rfl) λa D↦?_
      refine sdo (v := .bool true) D (qg rfl rfl (fun w => (xi w).trans (by rw [show (decide (0 < ((i + 1 : Nat) : Int))) = true from (decide_eq_true (by omega))]))) λa D↦?_
      refine sdk (v := .bool true) D λa D↦?_
      refine qa (hK107 _ _ (wp_cond_true (D.ev rfl) ?_))
      refine wrl ?_
      iterate 2 refine sdm D λa D↦?_
      refine ui (e := 3) (sz := 1) (m := 1) (vs := zj [kk]) D M rfl rfl rfl (zh rfl (by kernel_rfl)) rfl rfl (.inl (by decide)) ?_
      intro g108 w109 M a D
      refine kl (e := 3) (sz := 1) (k := 3) (q := O.length) (m := 1) (xs := zj O) (news := zj [kk]) (L' := fun v110 => (.row 3 1 (.slice (some ⟨g108, 0, none⟩) 1 1) 1 (zj [kk]) :: .obj g53 (.cells ((jd g5 ((kk : Nat) : Int)).d.cells (jd g5 ((kk : Nat) : Int)).ts.length).toArray 38) :: .row 38 11 (.slice (some ⟨g5, 0, none⟩) 1 1) 1 (cellsOf [chD ((kk : Nat) : Int)]) :: .row 3 1 (v110) (O.length + 1) (zj O ++ zj [kk]) :: .row 3 1 (.slice (some ⟨g8, 0, none⟩) 256 256) 256 (zj (H.set kk (i + 1))) :: (s9.P g 1))) D rfl rfl rfl (vl (z := .int .i64 0) (sz := 1) (by_ := 8) Tryz.underlying56 (by kernel_rfl) rfl rfl rfl M 3 rfl rfl rfl rfl (ka (M.has 0 rfl)) (qne [kk]) (by omega)) (fun _ => rfl) ?_
      intro v110 w111 M a D
      replace M : Mg w w111 (.row 3 1 (.slice (some ⟨g108, 0, none⟩) 1 1) 1 (zj [kk]) :: .obj g53 (.cells ((jd g5 ((kk : Nat) : Int)).d.cells (jd g5 ((kk : Nat) : Int)).ts.length).toArray 38) :: .row 38 11 (.slice (some ⟨g5, 0, none⟩) 1 1) 1 (cellsOf [chD ((kk : Nat) : Int)]) :: .row 3 1 (v110) ((O ++ [kk]).length) (zj (O ++ [kk])) :: .row 3 1 (.slice (some ⟨g8, 0, none⟩) 256 256) 256 (zj (H.set kk (i + 1))) :: (s9.P g 1)) := by
       rw [qnd, List.length_append]; exact M
      obtain ⟨so112, ca113, rfl⟩ := xj (M.has 3 rfl)
      refine sda D λa D↦?_
      refine qa (hK49 _ _ (wrl (sdm D λa D↦?_)))
      refine sdo (v := .int .i64 (((i + 1 : Nat) : Int))) D (qg rfl rfl (ar_add ((in_i64 (by omega) (by omega)).trans (by omega)))) λa D↦?_
      refine sda D λa D↦?_
      refine qa ?_
      replace M := M.b4
      replace M := M.b4
      replace M := M.sub (cc (cc (cn (cn (cn (.refl _))))))
      refine hK43 _ _ _ (by omega) ⟨i + 1, (O ++ [kk]), (H.set kk (i + 1)), so112, ca113, s9, rfl, ⟨by omega, by omega, hL.new hk8 (fun e => by have := ((hL.mem kk).1 e).2; have := of_decide_eq_false hb87; omega), hs9, (by have := hH9 _ hH; rw [etk, eti, zdi hL hk8 (fun e => by have := ((hL.mem kk).1 e).2; have := of_decide_eq_false hb87; omega)] at this; exact this), by omega, hc9⟩, D.keep _ (by repeat' constructor), M⟩
   ·
    have hb58' := of_decide_eq_false hb58
    refine sdc D zq hb58 λa D↦?_
    refine sdm D λa D↦?_
    iterate 4 refine zg D rfl rfl rfl λa D↦?_
    refine sdk (v := .bool false) D λa D↦?_
    refine qa (hK57 _ _ (wp_cond_false (D.ev rfl) ?_))
    refine wsk fun K114 hK114 => wrl (sdm D λa D↦?_)
    refine sdo D (qw M TeL_isS_38 rfl 0 rfl (cs := ((jd g5 ((kk : Nat) : Int)).d.cells (jd g5 ((kk : Nat) : Int)).ts.length)) rfl rfl) λa D↦?_
    refine sdm D λa D↦?_
    refine sdo (v := .agg ((chD ((i : Nat) : Int)).d.cells (chD ((i : Nat) : Int)).ts.length).toArray) D (zp rfl (fun w => by kernel_rfl)) λa D↦?_
    rcases tf (decide (0 < ((H.getD kk 0 : Nat) : Int))) with hb115 | hb115
    ·
     have hb115' := of_decide_eq_true hb115
     have etk := (show (jd g5 ((kk : Nat) : Int)).tr = xq ((kk : Nat) : Int) from qch _ _)
     have eti := (show (chD ((i : Nat) : Int)).tr = chT ((i : Nat) : Int) from qnf _)
     refine sct D (ef rfl rfl) (qkh qeb hs (Y := [.obj g53 (.cells ((jd g5 ((kk : Nat) : Int)).d.cells (jd g5 ((kk : Nat) : Int)).ts.length).toArray 38), .row 38 11 (.slice (some ⟨g5, 0, none⟩) 1 1) 1 (cellsOf [chD ((kk : Nat) : Int)]), .row 3 1 (.slice so_ O.length ca_) O.length (zj O), .row 3 1 (.slice (some ⟨g8, 0, none⟩) 256 256) 256 (zj H)]) (g := g) (qf (by simp) (qf (by simp) (qf (by simp) (qf (by simp) (jr jx))))) hT (t := (jd g5 ((kk : Nat) : Int))) (fun w9 h9 => qci (h9.has 1 rfl) (by omega) (by omega)) (v := (chD ((i : Nat) : Int))) (fun w9 _ => qng w9 (by omega) (by omega)) (by rw [etk]; exact yw _) (by rw [eti]; exact qkg _) (by rw [etk]; exact vm (by omega) (by omega)) (by rw [eti]; exact qxg (by omega) (by omega)) rfl (by rw [etk]; exact vm (by omega) (by omega)) (by rw [etk]; exact qec (by omega) (by omega)) (by omega) (by omega) M) ?_
     rintro _ w116 ⟨s9, rfl, ⟨hs9, hl9, hc9, hH9⟩, hM9⟩
     replace M : Mg w w116 (.obj g53 (.cells ((jd g5 ((kk : Nat) : Int)).d.cells (jd g5 ((kk : Nat) : Int)).ts.length).toArray 38) :: .row 38 11 (.slice (some ⟨g5, 0, none⟩) 1 1) 1 (cellsOf [chD ((kk : Nat) : Int)]) :: .row 3 1 (.slice so_ O.length ca_) O.length (zj O) :: .row 3 1 (.slice (some ⟨g8, 0, none⟩) 256 256) 256 (zj H) :: (s9.P g 1)) := hM9
     refine ⟨_, rfl, ?_⟩
     intro a D
     refine sdo (v := .bool false) D (qg rfl rfl (fun w => by kernel_rfl)) λa D↦?_
     refine qa (hK114 _ _ (wp_cond_false (D.ev rfl) ?_))
     refine wp_skip (hK56 _ _ (wsk fun K117 hK117 => wrl ?_))
     iterate 2 refine sdm D λa D↦?_
     refine sdo (v := .pointer (some ⟨g8, kk * 1, none⟩)) D (zt (k := kk) Tryz.underlying56 (by kernel_rfl) rfl rfl rfl (by omega)) λa D↦?_
     refine sdo D (va M 3 rfl (kg (l := H) (k := kk) (by omega)) TeL_is1_3 rfl) λa D↦?_
     refine sdo (v := .bool true) D (qg rfl rfl (fun w => (xi w).trans (by rw [show (decide (0 < ((H.getD kk 0 : Nat) : Int))) = true from hb115]))) λa D↦?_
     refine sda D λa D↦?_
     refine qa (hK117 _ _ (wsk fun K118 hK118 => wrl ?_))
     iterate 3 refine sdm D λa D↦?_
     refine sdo (v := .int .i64 (((i + 1 : Nat) : Int))) D (qg rfl rfl (ar_add ((in_i64 (by omega) (by omega)).trans (by omega)))) λa D↦?_
     refine sdo (v := .pointer (some ⟨g8, kk * 1, none⟩)) D (zt (k := kk) Tryz.underlying56 (by kernel_rfl) rfl rfl rfl (by omega)) λa D↦?_
     refine vz (cs := [.int .i64 (((i + 1 : Nat) : Int))]) (L' := (.obj g53 (.cells ((jd g5 ((kk : Nat) : Int)).d.cells (jd g5 ((kk : Nat) : Int)).ts.length).toArray 38) :: .row 38 11 (.slice (some ⟨g5, 0, none⟩) 1 1) 1 (cellsOf [chD ((kk : Nat) : Int)]) :: .row 3 1 (.slice so_ O.length ca_) O.length (zj O) :: .row 3 1 (.slice (some ⟨g8, 0, none⟩) 256 256) 256 (over (zj H) (kk * 1) [.int .i64 (((i + 1 : Nat) : Int))]) :: (s9.P g 1))) (us := []) D M rfl rfl (xv rfl rfl rfl (by kernel_rfl) M 3 rfl (by show kk * 1 + 1 ≤ _; omega) rfl) 3 rfl rfl ?_
     intro w119 M
     replace M : Mg w w119 (.obj g53 (.cells ((jd g5 ((kk : Nat) : Int)).d.cells (jd g5 ((kk : Nat) : Int)).ts.length).toArray 38) :: .row 38 11 (.slice (some ⟨g5, 0, none⟩) 1 1) 1 (cellsOf [chD ((kk : Nat) : Int)]) :: .row 3 1 (.slice so_ O.length ca_) O.length (zj O) :: .row 3 1 (.slice (some ⟨g8, 0, none⟩) 256 256) 256 (zj (H.set kk (i + 1))) :: (s9.P g 1)) := by
      have e9 : over (zj H) (kk * 1) [.int .i64 (((i + 1 : Nat) : Int))] = zj (H.set kk (i + 1)) := (yd (l := H) (k := kk) (i + 1)).trans rfl
      rw [e9] at M; exact M
     refine qa (hK118 _ _ (wsk fun K120 hK120 => wsk fun K121 hK121 => wrl ?_))
     iterate 2 refine sdm D λa D↦?_
     refine sdo D (qy Tryz.underlying55 rfl) λa D↦?_
     refine sdo (v := .bool false) D (qg rfl rfl (fun w => (zq w).trans (by rw [show (decide (((i : Nat) : Int) < ((gl.length : Nat) : Int))) = false from hb58]))) λa D↦?_
     refine sdm D λa D↦?_
     iterate 4 refine zg D rfl rfl rfl λa D↦?_
     refine sdk (v := .bool false) D λa D↦?_
     refine qa (hK121 _ _ (wp_cond_false (D.ev rfl) ?_))
     refine wp_skip (hK120 _ _ (wsk fun K122 hK122 => wsk fun K123 hK123 => wrl ?_))
     iterate 4 refine sdm D λa D↦?_
     refine sdo (v := .pointer (some ⟨g8, kk * 1, none⟩)) D (zt (k := kk) Tryz.underlying56 (by kernel_rfl) rfl rfl rfl (by omega)) λa D↦?_
     refine sdo D (va M 3 rfl (uq (H := H) (k := kk) (by omega)) TeL_is1_3 rfl) λa D↦?_
     refine sdo (v := .bool false) D (qg rfl rfl (fun w => (qm w).trans (by rw [show ((((i + 1 : Nat) : Int) == 0)) = false from (beq_eq_false_iff_ne.2 (by omega))]))) λa D↦?_
     refine sdk (v := .bool false) D λa D↦?_
     refine qa (hK123 _ _ (wp_cond_false (D.ev rfl) ?_))
     refine wp_skip (hK122 _ _ (wsk fun K124 hK124 => wrl (sdm D λa D↦?_)))
     refine sdo (v := .bool false) D (je rfl jl) λa D↦?_
     refine sdm D λa D↦?_
     iterate 5 refine zg D rfl rfl rfl λa D↦?_
     refine sdk (v := .bool false) D λa D↦?_
     refine qa (hK124 _ _ (wp_cond_false (D.ev rfl) ?_))
     refine wp_skip (hK49 _ _ (wrl (sdm D λa D↦?_)))
     refine sdo (v := .int .i64 (((i + 1 : Nat) : Int))) D (qg rfl rfl (ar_add ((in_i64 (by omega) (by omega)).trans (by omega)))) λa D↦?_
     refine sda D λa D↦?_
     refine qa ?_
     replace M := M.b3
     replace M := M.b3
     replace M := M.sub (cc (cc (cn (cn (.refl _)))))
     refine hK43 _ _ _ (by omega) ⟨i + 1, O, (H.set kk (i + 1)), so_, ca_, s9, rfl, ⟨by omega, by omega, hL.hit hk8 ((hL.mem kk).2 ⟨hk8, by have := of_decide_eq_true hb115; omega⟩), hs9, (by have := hH9 _ hH; rw [etk, eti, zdh hL hk8 ((hL.mem kk).2 ⟨hk8, by have := of_decide_eq_true hb115; omega⟩)] at this; exact this), by omega, hc9⟩, D.keep _ (by repeat' constructor), M⟩
    ·
     have hb115' := of_decide_eq_false hb115
     have etk := (show (jd g5 ((kk : Nat) : Int)).tr = xq ((kk : Nat) : Int) from qch _ _)
     have eti := (show (chD ((i : Nat) : Int)).tr = chT ((i : Nat) : Int) from qnf _)
     refine sct D (ef rfl rfl) (qkh qeb hs (Y := [.obj g53 (.cells ((jd g5 ((kk : Nat) : Int)).d.cells (jd g5 ((kk : Nat) : Int)).ts.length).toArray 38), .row 38 11 (.slice (some ⟨g5, 0, none⟩) 1 1) 1 (cellsOf [chD ((kk : Nat) : Int)]), .row 3 1 (.slice so_ O.length ca_) O.length (zj O), .row 3 1 (.slice (some ⟨g8, 0, none⟩) 256 256) 256 (zj H)]) (g := g) (qf (by simp) (qf (by simp) (qf (by simp) (qf (by simp) (jr jx))))) hT (t := (jd g5 ((kk : Nat) : Int))) (fun w9 h9 => qci (h9.has 1 rfl) (by omega) (by omega)) (v := (chD ((i : Nat) : Int))) (fun w9 _ => qng w9 (by omega) (by omega)) (by rw [etk]; exact yw _) (by rw [eti]; exact qkg _) (by rw [etk]; exact vm (by omega) (by omega)) (by rw [eti]; exact qxg (by omega) (by omega)) rfl (by rw [etk]; exact vm (by omega) (by omega)) (by rw [etk]; exact qec (by omega) (by omega)) (by omega) (by omega) M) ?_
     rintro _ w125 ⟨s9, rfl, ⟨hs9, hl9, hc9, hH9⟩, hM9⟩
     replace M : Mg w w125 (.obj g53 (.cells ((jd g5 ((kk : Nat) : Int)).d.cells (jd g5 ((kk : Nat) : Int)).ts.length).toArray 38) :: .row 38 11 (.slice (some ⟨g5, 0, none⟩) 1 1) 1 (cellsOf [chD ((kk : Nat) : Int)]) :: .row 3 1 (.slice so_ O.length ca_) O.length (zj O) :: .row 3 1 (.slice (some ⟨g8, 0, none⟩) 256 256) 256 (zj H) :: (s9.P g 1)) := hM9
     refine ⟨_, rfl, ?_⟩
     intro a D
     refine sdo (v := .bool false) D (qg rfl rfl (fun w => by kernel_rfl)) λa D↦?_
     refine qa (hK114 _ _ (wp_cond_false (D.ev rfl) ?_))
     refine wp_skip (hK56 _ _ (wsk fun K126 hK126 => wrl ?_))
     iterate 2 refine sdm D λa D↦?_
     refine sdo (v := .pointer (some ⟨g8, kk * 1, none⟩)) D (zt (k := kk) Tryz.underlying56 (by kernel_rfl) rfl rfl rfl (by omega)) λa D↦?_
     refine sdo D (va M 3 rfl (kg (l := H) (k := kk) (by omega)) TeL_is1_3 rfl) λa D↦?_
     refine sdo (v := .bool false) D (qg rfl rfl (fun w => (xi w).trans (by rw [show (decide (0 < ((H.getD kk 0 : Nat) : Int))) = false from hb115]))) λa D↦?_
     refine sda D λa D↦?_
     refine qa (hK126 _ _ (wsk fun K127 hK127 => wrl ?_))
     iterate 3 refine sdm D λa D↦?_
     refine sdo (v := .int .i64 (((i + 1 : Nat) : Int))) D (qg rfl rfl (ar_add ((in_i64 (by omega) (by omega)).trans (by omega)))) λa D↦?_
     refine sdo (v := .pointer (some ⟨g8, kk * 1, none⟩)) D (zt (k := kk) Tryz.underlying56 (by kernel_rfl) rfl rfl rfl (by omega)) λa D↦?_
     refine vz (cs := [.int .i64 (((i + 1 : Nat) : Int))]) (L' := (.obj g53 (.cells ((jd g5 ((kk : Nat) : Int)).d.cells (jd g5 ((kk : Nat) : Int)).ts.length).toArray 38) :: .row 38 11 (.slice (some ⟨g5, 0, none⟩) 1 1) 1 (cellsOf [chD ((kk : Nat) : Int)]) :: .row 3 1 (.slice so_ O.length ca_) O.length (zj O) :: .row 3 1 (.slice (some ⟨g8, 0, none⟩) 256 256) 256 (over (zj H) (kk * 1) [.int .i64 (((i + 1 : Nat) : Int))]) :: (s9.P g 1))) (us := []) D M rfl rfl (xv rfl rfl rfl (by kernel_rfl) M 3 rfl (by show kk * 1 + 1 ≤ _; omega) rfl) 3 rfl rfl ?_
     intro w128 M
     replace M : Mg w w128 (.obj g53 (.cells ((jd g5 ((kk : Nat) : Int)).d.cells (jd g5 ((kk : Nat) : Int)).ts.length).toArray 38) :: .row 38 11 (.slice (some ⟨g5, 0, none⟩) 1 1) 1 (cellsOf [chD ((kk : Nat) : Int)]) :: .row 3 1 (.slice so_ O.length ca_) O.length (zj O) :: .row 3 1 (.slice (some ⟨g8, 0, none⟩) 256 256) 256 (zj (H.set kk (i + 1))) :: (s9.P g 1)) := by
      have e9 : over (zj H) (kk * 1) [.int .i64 (((i + 1 : Nat) : Int))] = zj (H.set kk (i + 1)) := (yd (l := H) (k := kk) (i + 1)).trans rfl
      rw [e9] at M; exact M
     refine qa (hK127 _ _ (wsk fun K129 hK129 => wsk fun K130 hK130 => wrl ?_))
     iterate 2 refine sdm D λa D↦?_
     refine sdo D (qy Tryz.underlying55 rfl) λa D↦?_
     refine sdo (v := .bool false) D (qg rfl rfl (fun w => (zq w).trans (by rw [show (decide (((i : Nat) : Int) < ((gl.length : Nat) : Int))) = false from hb58]))) λa D↦?_
     refine sdm D λa D↦?_
     iterate 4 refine zg D rfl rfl rfl λa D↦?_
     refine sdk (v := .bool false) D λa D↦?_
     refine qa (hK130 _ _ (wp_cond_false (D.ev rfl) ?_))
     refine wp_skip (hK129 _ _ (wsk fun K131 hK131 => wsk fun K132 hK132 => wrl ?_))
     iterate 2 refine sdm D λa D↦?_
     iterate 5 refine zg D rfl rfl rfl λa D↦?_
     refine sdk (v := .bool false) D λa D↦?_
     refine qa (hK132 _ _ (wp_cond_false (D.ev rfl) ?_))
     refine wp_skip (hK131 _ _ (wsk fun K133 hK133 => wrl (sdm D λa D↦?_)))
     refine sdo (v := .bool true) D (je rfl jl) λa D↦?_
     iterate 3 refine sdm D λa D↦?_
     refine sdo (v := .pointer (some ⟨g8, kk * 1, none⟩)) D (zt (k := kk) Tryz.underlying56 (by kernel_rfl) rfl rfl rfl (by omega)) λa D↦?_
     refine sdo D (va M 3 rfl (uq (H := H) (k := kk) (by omega)) TeL_is1_3 rfl) λa D↦?_
     refine sdo (v := .bool true) D (qg rfl rfl (fun w => (xi w).trans (by rw [show (decide (0 < ((i + 1 : Nat) : Int))) = true from (decide_eq_true (by omega))]))) λa D↦?_
     refine sdk (v := .bool true) D λa D↦?_
     refine qa (hK133 _ _ (wp_cond_true (D.ev rfl) ?_))
     refine wrl ?_
     iterate 2 refine sdm D λa D↦?_
     refine ui (e := 3) (sz := 1) (m := 1) (vs := zj [kk]) D M rfl rfl rfl (zh rfl (by kernel_rfl)) rfl rfl (.inl (by decide)) ?_
     intro g134 w135 M a D
     refine kl (e := 3) (sz := 1) (k := 3) (q := O.length) (m := 1) (xs := zj O) (news := zj [kk]) (L' := fun v136 => (.row 3 1 (.slice (some ⟨g134, 0, none⟩) 1 1) 1 (zj [kk]) :: .obj g53 (.cells ((jd g5 ((kk : Nat) : Int)).d.cells (jd g5 ((kk : Nat) : Int)).ts.length).toArray 38) :: .row 38 11 (.slice (some ⟨g5, 0, none⟩) 1 1) 1 (cellsOf [chD ((kk : Nat) : Int)]) :: .row 3 1 (v136) (O.length + 1) (zj O ++ zj [kk]) :: .row 3 1 (.slice (some ⟨g8, 0, none⟩) 256 256) 256 (zj (H.set kk (i + 1))) :: (s9.P g 1))) D rfl rfl rfl (vl (z := .int .i64 0) (sz := 1) (by_ := 8) Tryz.underlying56 (by kernel_rfl) rfl rfl rfl M 3 rfl rfl rfl rfl (ka (M.has 0 rfl)) (qne [kk]) (by omega)) (fun _ => rfl) ?_
     intro v136 w137 M a D
     replace M : Mg w w137 (.row 3 1 (.slice (some ⟨g134, 0, none⟩) 1 1) 1 (zj [kk]) :: .obj g53 (.cells ((jd g5 ((kk : Nat) : Int)).d.cells (jd g5 ((kk : Nat) : Int)).ts.length).toArray 38) :: .row 38 11 (.slice (some ⟨g5, 0, none⟩) 1 1) 1 (cellsOf [chD ((kk : Nat) : Int)]) :: .row 3 1 (v136) ((O ++ [kk]).length) (zj (O ++ [kk])) :: .row 3 1 (.slice (some ⟨g8, 0, none⟩) 256 256) 256 (zj (H.set kk (i + 1))) :: (s9.P g 1)) := by
      rw [qnd, List.length_append]; exact M
     obtain ⟨so138, ca139, rfl⟩ := xj (M.has 3 rfl)
     refine sda D λa D↦?_
     refine qa (hK49 _ _ (wrl (sdm D λa D↦?_)))
     refine sdo (v := .int .i64 (((i + 1 : Nat) : Int))) D (qg rfl rfl (ar_add ((in_i64 (by omega) (by omega)).trans (by omega)))) λa D↦?_
     refine sda D λa D↦?_
     refine qa ?_
     replace M := M.b4
     replace M := M.b4
     replace M := M.sub (cc (cc (cn (cn (cn (.refl _))))))
     refine hK43 _ _ _ (by omega) ⟨i + 1, (O ++ [kk]), (H.set kk (i + 1)), so138, ca139, s9, rfl, ⟨by omega, by omega, hL.new hk8 (fun e => by have := ((hL.mem kk).1 e).2; have := of_decide_eq_false hb115; omega), hs9, (by have := hH9 _ hH; rw [etk, eti, zdi hL hk8 (fun e => by have := ((hL.mem kk).1 e).2; have := of_decide_eq_false hb115; omega)] at this; exact this), by omega, hc9⟩, D.keep _ (by repeat' constructor), M⟩
  ·
   have hb48' := of_decide_eq_false hb48
   refine sdc D zq hb48 λa D↦?_
   refine sdk (v := .bool false) D λa D↦?_
   refine qa (hK46 _ _ (wp_cond_false (D.ev rfl) ?_))
   refine wp_exit ?_
   exact hJ14 _ _ ⟨i, O, H, so_, ca_, s, ⟨hi0, hi1, hL, hs, hH, hsl, hc⟩, D.keep _ (by repeat' constructor), M⟩
 ·
  have hb47' := of_decide_eq_false hb47
  refine sdc D zq hb47 λa D↦?_
  refine sdm D λa D↦?_
  iterate 2 refine zg D rfl rfl rfl λa D↦?_
  refine sdk (v := .bool false) D λa D↦?_
  refine qa (hK46 _ _ (wp_cond_false (D.ev rfl) ?_))
  refine wp_exit ?_
  exact hJ14 _ _ ⟨i, O, H, so_, ca_, s, ⟨hi0, hi1, hL, hs, hH, hsl, hc⟩, D.keep _ (by repeat' constructor), M⟩
open Go.ChangeShapes Go.WideShapes Go.ChangeAt Go.RowKit Go.Joins Go.Deep
section
variable {H : Type} {enc : TypeId × Value → H} {W : World}
end
theorem zic {w : World} {x : Addr} {len cap : Nat} {zs : List Int} (hl : len ≤ cap) (hz : zs.length = cap)
    (hc : ∀ i, i < zs.length → w.cell? (x.add i) = some (.int .u8 (zs.getD i 0))) (hw : ∀ n ∈ zs, (Lit.int .u8 n).wf = true) :
    ∃ l : List UInt8, l.length = len ∧ Rb w (some x) l := by
  have hbd : ∀ n ∈ zs, 0 ≤ n ∧ n < 256 := by
    intro n hn
    have := bounds_u8 (hw n hn)
    omega
  refine ⟨(zs.take len).map b8, by rw [List.length_map, List.length_take]; omega, ⟨fun hne => ?_⟩⟩
  have hlen : ((zs.take len).map b8).length = len := by rw [List.length_map, List.length_take]; omega
  have h0 : 0 < len := by
    apply Classical.byContradiction
    intro h
    have : len = 0 := by omega
    subst this
    simp at hne
  obtain ⟨b, off, spot⟩ := x
  have hspot : spot = none := by
    have := hc 0 (by omega)
    simp only [World.cell?, Addr.add] at this
    split at this
    · cases spot with
      | none => rfl
      | some s => simp at this
    · cases this
  subst hspot
  have hcj : ∀ j, j < len → w.cell? ⟨b, off + j, none⟩ = some (.int .u8 (((((zs.take len).map b8).getD j 0).toNat : Nat) : Int)) := by
    intro j hj
    have h1 := hc j (by omega)
    rw [Addr.add_lit] at h1
    rw [h1]
    have hjz : j < zs.length := by omega
    have h2 := hbd zs[j] (List.getElem_mem hjz)
    have e1 : zs.getD j 0 = zs[j] := by simp [hjz]
    have e2 : ((zs.take len).map b8).getD j 0 = b8 zs[j] := by simp [List.getD_eq_getElem?_getD, hj, hjz]
    rw [e1, e2, zvh h2.1 h2.2]
  refine ⟨b, off, rfl, ?_, fun j hj => hcj j (by omega)⟩
  have := hcj 0 h0
  apply Classical.byContradiction
  intro h
  simp [World.cell?, Array.getElem?_eq_none (Nat.le_of_not_lt h)] at this
section
variable {H : Type} {enc : TypeId × Value → H} {W : World}
end
theorem Rb.take {w : World} {so : Option Addr} {l : List UInt8} (h : Rb w so l) (n : Nat) : Rb w so (l.take n) := by
  refine ⟨fun hne => ?_⟩
  obtain ⟨b, off, h1, h2, h3⟩ := h.pos (fun k => hne (by rw [k]; simp))
  refine ⟨b, off, h1, h2, fun j hj => ?_⟩
  rw [List.length_take] at hj
  rw [h3 j (by omega), List.getD_eq_getElem?_getD, List.getD_eq_getElem?_getD, List.getElem?_take_of_lt (by omega)]
section
variable {P : Program} {w : World} {l : List (Nat × Value)} {dst : Option Tmp} {ty : TypeId} {pos : String} {after : Array Edge} {guard : Option (Nat × Bool)}
end
theorem zid {w : World} {x : Addr} {len : Nat} (hc : ∀ i, i < len → ∃ b, w.cell? (x.add i) = some (.bool b)) : ∃ l : List Bool, l.length = len ∧ Rbl w (some x) l := by
  have hf : ∃ f : Nat → Bool, ∀ i, i < len → w.cell? (x.add i) = some (.bool (f i)) := by
    refine ⟨fun i => match w.cell? (x.add i) with | some (.bool b) => b | _ => false, fun i hi => ?_⟩
    obtain ⟨b, hb⟩ := hc i hi
    simp only [hb]
  obtain ⟨f, hf⟩ := hf
  refine ⟨(List.range len).map f, by rw [List.length_map, List.length_range], ⟨fun hne => ?_⟩⟩
  have hlen : ((List.range len).map f).length = len := by rw [List.length_map, List.length_range]
  have h0 : 0 < len := by
    apply Classical.byContradiction
    intro h
    have : len = 0 := by omega
    subst this
    simp at hne
  obtain ⟨b, off, spot⟩ := x
  have hspot : spot = none := by
    have := hf 0 (by omega)
    simp only [World.cell?, Addr.add] at this
    split at this
    · cases spot with
      | none => rfl
      | some s => simp at this
    · cases this
  subst hspot
  have hcj : ∀ j, j < len → w.cell? ⟨b, off + j, none⟩ = some (.bool (((List.range len).map f).getD j false)) := by
    intro j hj
    have h1 := hf j hj
    rw [Addr.add_lit] at h1
    rw [h1, List.getD_eq_getElem?_getD, List.getElem?_map, List.getElem?_range hj]; rfl
  refine ⟨b, off, rfl, ?_, fun j hj => hcj j (by omega)⟩
  have := hcj 0 h0
  apply Classical.byContradiction
  intro h
  simp [World.cell?, Array.getElem?_eq_none (Nat.le_of_not_lt h)] at this
section
variable {H : Type} {enc : TypeId × Value → H} {W : World}
theorem zai {base : Nat} {v : Value} {d : DataW H} {p : List MemPlace} (hv : Value.okWide Tryz.prog W .any base 55 v) (h : DataW.Trod enc Tryz.prog W 0 (fun _ => true) true 55 v d p) :
    ∃ so cap l, v = .slice so l.length cap ∧ Rbl W so l ∧ l.length ≤ cap ∧ l.length ≤ 9223372036854775807 := by
  obtain ⟨a, n, c, rfl⟩ := okWide_slice Tryz.underlying55 hv
  obtain ⟨fuel, hf⟩ := h
  rcases DataW.trod_slice Tryz.underlying55 hf with ⟨hcs, _⟩ | ⟨x, len, cap, elems, rest, m, _, hcs, _, _, hl, hm, hlen, hel, _, _⟩
  · simp [Value.cells] at hcs
    obtain ⟨rfl, rfl, rfl⟩ := hcs
    exact ⟨none, 0, [], rfl, ⟨fun k => absurd rfl k⟩, Nat.le_refl _, by show (0 : Nat) ≤ _; omega⟩
  · simp [Value.cells] at hcs
    obtain ⟨rfl, rfl, rfl⟩ := hcs
    have hm2 : maxLen = 9223372036854775807 := by decide
    obtain ⟨us, e, ha⟩ := zid (w := W) (x := x) (len := n) fun i hi => by
      have hE := hel i hi
      rw [show Tryz.prog.cellsOf 4 = 1 by kernel_rfl, Nat.mul_one] at hE
      rw [List.getElem?_eq_getElem (by omega), Option.bind_eq_some_iff] at hE
      obtain ⟨c1, hc1, hy1⟩ := hE
      obtain ⟨b, rfl, _⟩ := DataW.trod_bool Tryz.underlying4 hy1
      exact ⟨b, cell_of_cells?_one hc1⟩
    subst e
    exact ⟨_, _, us, rfl, ha, hl, by omega⟩
end
end Go.Proofs.YtjlpecapebhgjaaGreatDoor.G
