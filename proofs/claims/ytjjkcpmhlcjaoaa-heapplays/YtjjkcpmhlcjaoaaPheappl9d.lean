/- Walks of the document: a word is set. Walks of the document: what is reached, and a collection. Walks of the document: a collection. Walks of a new heap. Walks of Alloc. Walks of Alloc. -/
import Derived.Test.YtjjkcpmhlcjaoaaPheappl9c
import Derived.Test.YtjjkcpmhlcjaoaaProg
namespace Go.Proofs.Ytjjkcpmhlcjaoaa
open Go.RowKit
set_option linter.unusedVariables false
set_option linter.unusedSimpArgs false
set_option maxRecDepth 100000
theorem HdD_is1_28 : Is1 Try.prog 28 := ⟨⟨_, Try.underlying28, rfl⟩, by kernel_rfl⟩
theorem HdD_is1_3 : Is1 Try.prog 3 := ⟨⟨_, Try.underlying3, rfl⟩, by kernel_rfl⟩
theorem HdD_is1_4 : Is1 Try.prog 4 := ⟨⟨_, Try.underlying4, rfl⟩, by kernel_rfl⟩
theorem HdD_is1_68 : Is1 Try.prog 68 := ⟨⟨_, Try.underlying68, rfl⟩, by kernel_rfl⟩
theorem HdD_fld_30_3 : FieldAt Try.prog 30 3 3 := ⟨_, _, Try.underlying30, rfl, rfl, by kernel_rfl⟩
theorem HdD_fld_32_0 : FieldAt Try.prog 32 0 0 := ⟨_, _, Try.underlying32, rfl, rfl, by kernel_rfl⟩
theorem HdD_fld_32_1 : FieldAt Try.prog 32 1 1 := ⟨_, _, Try.underlying32, rfl, rfl, by kernel_rfl⟩
theorem HdD_fld_73_2 : FieldAt Try.prog 73 2 2 := ⟨_, _, Try.underlying73, rfl, rfl, by kernel_rfl⟩
theorem HdD_isS_30 : IsS Try.prog 30 4 := ⟨⟨_, Try.underlying30⟩, by kernel_rfl⟩
theorem HdD_isS_32 : IsS Try.prog 32 2 := ⟨⟨_, Try.underlying32⟩, by kernel_rfl⟩
/-- An object whose words lie anew, one of them set. -/
def Ob.anew (d : Ob) (g c j : Nat) (z : Int × Bool) : Ob := { d with g := g, c := c, ws := d.ws.set j z }
theorem anew_sl (d : Ob) (g c j : Nat) (z : Int × Bool) : (d.anew g c j z).sl = .slice (some ⟨g, 0, none⟩) d.ws.length c := by simp [Ob.sl, Ob.anew]
theorem qcf {ds : List Ob} {k : Nat} {d : Ob} (hk : ds[k]? = some d) (g c j : Nat) (z : Int × Bool) : over (obD ds) (k * 3 + 2) [.slice (some ⟨g, 0, none⟩) d.ws.length c] = obD (ds.set k (d.anew g c j z)) := by
 rw [← anew_sl d g c j z]
 exact obD_set hk rfl rfl
theorem qcg {w : World} {ss ls last ca : Nat} {so : Option Addr} {ds : List Ob} (hO : RO w so ds) (hol : ds.length ≤ 1000000) (hq : ∀ d ∈ ds, d.p + d.ws.length ≤ 1000000) {x : Int} {i c1 : Int} (hx : ixO x ds = -1) : Calls Try.prog 11 #[.agg #[.int .i64 ((ss : Nat) : Int), .int .i64 ((ls : Nat) : Int), .int .i64 ((last : Nat) : Int), .slice so ds.length ca], .int .i64 x, .int .i64 i, .agg #[.int .i64 c1, .bool true]] w fun e w' => e = .returned (.tuple #[.int .i64 7, .agg #[.int .i64 ((ss : Nat) : Int), .int .i64 ((ls : Nat) : Int), .int .i64 ((last : Nat) : Int), .slice so ds.length ca]]) ∧ Below w.heap.size w w' := by
 have M : Mg w w ([]) := Mg.start w
 refine qp (l := [(0, .agg #[.int .i64 (((ss : Nat) : Int)), .int .i64 (((ls : Nat) : Int)), .int .i64 (((last : Nat) : Int)), .slice so ds.length ca]), (1, .int .i64 x), (2, .int .i64 i), (3, .agg #[.int .i64 c1, .bool true])]) Try.func11 rfl Try.ntmps11 rfl rfl ?_
 intro Q hret hnorm hP a A
 refine wsk fun K1 hK1 => wrl (qt (vs := [.int .i64 (((ss : Nat) : Int)), .int .i64 (((ls : Nat) : Int)), .int .i64 (((last : Nat) : Int)), .slice so ds.length ca]) (t := 30) A M rfl rfl rfl pg (qw rfl rfl) (by decide) ?_)
 intro g2 w3 M a A
 refine qt (vs := [.int .i64 c1, .bool true]) (t := 32) A M rfl rfl rfl pg (qw rfl rfl) (by decide) ?_
 intro g4 w5 M a A
 refine sda A λa A↦?_
 refine qt (vs := [.int .i64 0, .int .i64 0, .int .i64 0, .slice none 0 0]) (t := 30) A M rfl rfl rfl pg (ql (z := .agg #[.int .i64 0, .int .i64 0, .int .i64 0, .slice none 0 0]) (by kernel_rfl) rfl) (by decide) ?_
 intro g6 w7 M a A
 refine qb (hK1 _ _ (wsk fun K8 hK8 => wrl (sdo A (qq M HdD_isS_30 rfl 2 rfl (cs := [.int .i64 (((ss : Nat) : Int)), .int .i64 (((ls : Nat) : Int)), .int .i64 (((last : Nat) : Int)), .slice so ds.length ca]) rfl rfl) λa A↦?_)))
 iterate 2 refine sdm A λa A↦?_
 refine gcl A M (ef rfl rfl) (ud (hO.below M.bel) hol hq hx) fun w10 hb9 M a A => ?_
 refine sdm A λa A↦?_
 iterate 2 refine sdo A (qk (vs := [.agg #[.int .i64 0, .bool false], .int .i64 7]) rfl rfl) λa A↦?_
 refine qt (vs := [.int .i64 0, .bool false]) (t := 32) A M rfl rfl rfl pg (ql (z := .agg #[.int .i64 0, .bool false]) (by kernel_rfl) rfl) (by decide) ?_
 intro g11 w12 M a A
 refine qs (us := [.int .i64 0, .bool false]) (L' := (.obj g11 (.cells #[.int .i64 0, .bool false] 32) :: .obj g6 (.cells #[.int .i64 0, .int .i64 0, .int .i64 0, .slice none 0 0] 30) :: .obj g4 (.cells #[.int .i64 c1, .bool true] 32) :: .obj g2 (.cells #[.int .i64 (((ss : Nat) : Int)), .int .i64 (((ls : Nat) : Int)), .int .i64 (((last : Nat) : Int)), .slice so ds.length ca] 30) :: [])) A M rfl rfl (qo rfl rfl rfl (by kernel_rfl) M 0 rfl rfl rfl) 0 rfl rfl rfl ?_
 intro w13 M
 refine sda A λa A↦?_
 refine qb (hK8 _ _ (wsk fun K14 hK14 => wsk fun K15 hK15 => wrl (sdm A λa A↦?_)))
 refine sdo (v := .bool true) A (qe rfl rfl (fun w => by kernel_rfl)) λa A↦?_
 refine qb (hK15 _ _ (wp_cond_true (A.ev rfl) ?_))
 refine wsk fun K16 hK16 => zn (S := fun w1 => Mg w w1 (.obj g2 (.cells #[.int .i64 (((ss : Nat) : Int)), .int .i64 (((ls : Nat) : Int)), .int .i64 (((last : Nat) : Int)), .slice so ds.length ca] 30) :: [])) (by kernel_rfl) ?_
 replace M := M.drew
 refine qf A 0 rfl rfl rfl rfl hP (M.sub (cn (cn (cn (cc (List.nil_sublist _)))))) (fun w1 M => qn rfl) λa A↦?_
 refine qf A 1 rfl rfl rfl rfl hP (M.sub (cn (cn (cn (cc (List.nil_sublist _)))))) (fun w1 M => qq M HdD_isS_30 rfl 0 rfl (cs := [.int .i64 (((ss : Nat) : Int)), .int .i64 (((ls : Nat) : Int)), .int .i64 (((last : Nat) : Int)), .slice so ds.length ca]) rfl rfl) λa A↦?_
 refine qf A 2 rfl rfl rfl rfl hP (M.sub (cn (cn (cn (cc (List.nil_sublist _)))))) (fun w1 M => qz rfl) λa A↦?_
 refine zd (by kernel_rfl) (jh (us := [.int .i64 (((ss : Nat) : Int)), .int .i64 (((ls : Nat) : Int)), .int .i64 (((last : Nat) : Int)), .slice so ds.length ca]) (L' := (.obj g11 (.cells #[.int .i64 0, .bool false] 32) :: .obj g6 (.cells #[.int .i64 (((ss : Nat) : Int)), .int .i64 (((ls : Nat) : Int)), .int .i64 (((last : Nat) : Int)), .slice so ds.length ca] 30) :: .obj g4 (.cells #[.int .i64 c1, .bool true] 32) :: .obj g2 (.cells #[.int .i64 (((ss : Nat) : Int)), .int .i64 (((ls : Nat) : Int)), .int .i64 (((last : Nat) : Int)), .slice so ds.length ca] 30) :: [])) A M 3 rfl rfl rfl (qo rfl rfl rfl (by kernel_rfl) M 1 rfl rfl rfl) 1 rfl rfl rfl ?_)
 intro w17 M
 refine ⟨(M.sub (cn (cn (cn (cc (List.nil_sublist _)))))), ?_⟩
 refine zi (by kernel_rfl) ?_
 refine hK16 _ _ (wp_ret (hret _ _ (en2 A rfl (qi rfl) (zk M HdD_isS_30 rfl 1 rfl (cs := [.int .i64 (((ss : Nat) : Int)), .int .i64 (((ls : Nat) : Int)), .int .i64 (((last : Nat) : Int)), .slice so ds.length ca]) rfl rfl) ?_)))
 exact ⟨rfl, M.bel⟩
theorem qda {w : World} {ss ls last ca : Nat} {so : Option Addr} {ds : List Ob} (hO : RO w so ds) (hol : ds.length ≤ 1000000) (hq : ∀ d ∈ ds, d.p + d.ws.length ≤ 1000000) {x : Int} {i c1 : Int} {k : Nat} {d : Ob} (hx : ixO x ds = ((k : Nat) : Int)) (hk : ds[k]? = some d) (hi : i < 0 ∨ ((d.ws.length : Nat) : Int) ≤ i) : Calls Try.prog 11 #[.agg #[.int .i64 ((ss : Nat) : Int), .int .i64 ((ls : Nat) : Int), .int .i64 ((last : Nat) : Int), .slice so ds.length ca], .int .i64 x, .int .i64 i, .agg #[.int .i64 c1, .bool true]] w fun e w' => e = .returned (.tuple #[.int .i64 1, .agg #[.int .i64 ((ss : Nat) : Int), .int .i64 ((ls : Nat) : Int), .int .i64 ((last : Nat) : Int), .slice so ds.length ca]]) ∧ Below w.heap.size w w' := by
 have M : Mg w w ([]) := Mg.start w
 refine qp (l := [(0, .agg #[.int .i64 (((ss : Nat) : Int)), .int .i64 (((ls : Nat) : Int)), .int .i64 (((last : Nat) : Int)), .slice so ds.length ca]), (1, .int .i64 x), (2, .int .i64 i), (3, .agg #[.int .i64 c1, .bool true])]) Try.func11 rfl Try.ntmps11 rfl rfl ?_
 intro Q hret hnorm hP a A
 refine wsk fun K1 hK1 => wrl (qt (vs := [.int .i64 (((ss : Nat) : Int)), .int .i64 (((ls : Nat) : Int)), .int .i64 (((last : Nat) : Int)), .slice so ds.length ca]) (t := 30) A M rfl rfl rfl pg (qw rfl rfl) (by decide) ?_)
 intro g2 w3 M a A
 refine qt (vs := [.int .i64 c1, .bool true]) (t := 32) A M rfl rfl rfl pg (qw rfl rfl) (by decide) ?_
 intro g4 w5 M a A
 refine sda A λa A↦?_
 refine qt (vs := [.int .i64 0, .int .i64 0, .int .i64 0, .slice none 0 0]) (t := 30) A M rfl rfl rfl pg (ql (z := .agg #[.int .i64 0, .int .i64 0, .int .i64 0, .slice none 0 0]) (by kernel_rfl) rfl) (by decide) ?_
 intro g6 w7 M a A
 refine qb (hK1 _ _ (wsk fun K8 hK8 => wrl (sdo A (qq M HdD_isS_30 rfl 2 rfl (cs := [.int .i64 (((ss : Nat) : Int)), .int .i64 (((ls : Nat) : Int)), .int .i64 (((last : Nat) : Int)), .slice so ds.length ca]) rfl rfl) λa A↦?_)))
 iterate 2 refine sdm A λa A↦?_
 refine gcl A M (ef rfl rfl) (qce (hO.below M.bel) hol hq hx hk hi) fun w10 hb9 M a A => ?_
 refine sdm A λa A↦?_
 iterate 2 refine sdo A (qk (vs := [.agg #[.int .i64 0, .bool false], .int .i64 1]) rfl rfl) λa A↦?_
 refine qt (vs := [.int .i64 0, .bool false]) (t := 32) A M rfl rfl rfl pg (ql (z := .agg #[.int .i64 0, .bool false]) (by kernel_rfl) rfl) (by decide) ?_
 intro g11 w12 M a A
 refine qs (us := [.int .i64 0, .bool false]) (L' := (.obj g11 (.cells #[.int .i64 0, .bool false] 32) :: .obj g6 (.cells #[.int .i64 0, .int .i64 0, .int .i64 0, .slice none 0 0] 30) :: .obj g4 (.cells #[.int .i64 c1, .bool true] 32) :: .obj g2 (.cells #[.int .i64 (((ss : Nat) : Int)), .int .i64 (((ls : Nat) : Int)), .int .i64 (((last : Nat) : Int)), .slice so ds.length ca] 30) :: [])) A M rfl rfl (qo rfl rfl rfl (by kernel_rfl) M 0 rfl rfl rfl) 0 rfl rfl rfl ?_
 intro w13 M
 refine sda A λa A↦?_
 refine qb (hK8 _ _ (wsk fun K14 hK14 => wsk fun K15 hK15 => wrl (sdm A λa A↦?_)))
 refine sdo (v := .bool true) A (qe rfl rfl (fun w => by kernel_rfl)) λa A↦?_
 refine qb (hK15 _ _ (wp_cond_true (A.ev rfl) ?_))
 refine wsk fun K16 hK16 => zn (S := fun w1 => Mg w w1 (.obj g2 (.cells #[.int .i64 (((ss : Nat) : Int)), .int .i64 (((ls : Nat) : Int)), .int .i64 (((last : Nat) : Int)), .slice so ds.length ca] 30) :: [])) (by kernel_rfl) ?_
 replace M := M.drew
 refine qf A 0 rfl rfl rfl rfl hP (M.sub (cn (cn (cn (cc (List.nil_sublist _)))))) (fun w1 M => qn rfl) λa A↦?_
 refine qf A 1 rfl rfl rfl rfl hP (M.sub (cn (cn (cn (cc (List.nil_sublist _)))))) (fun w1 M => qq M HdD_isS_30 rfl 0 rfl (cs := [.int .i64 (((ss : Nat) : Int)), .int .i64 (((ls : Nat) : Int)), .int .i64 (((last : Nat) : Int)), .slice so ds.length ca]) rfl rfl) λa A↦?_
 refine qf A 2 rfl rfl rfl rfl hP (M.sub (cn (cn (cn (cc (List.nil_sublist _)))))) (fun w1 M => qz rfl) λa A↦?_
 refine zd (by kernel_rfl) (jh (us := [.int .i64 (((ss : Nat) : Int)), .int .i64 (((ls : Nat) : Int)), .int .i64 (((last : Nat) : Int)), .slice so ds.length ca]) (L' := (.obj g11 (.cells #[.int .i64 0, .bool false] 32) :: .obj g6 (.cells #[.int .i64 (((ss : Nat) : Int)), .int .i64 (((ls : Nat) : Int)), .int .i64 (((last : Nat) : Int)), .slice so ds.length ca] 30) :: .obj g4 (.cells #[.int .i64 c1, .bool true] 32) :: .obj g2 (.cells #[.int .i64 (((ss : Nat) : Int)), .int .i64 (((ls : Nat) : Int)), .int .i64 (((last : Nat) : Int)), .slice so ds.length ca] 30) :: [])) A M 3 rfl rfl rfl (qo rfl rfl rfl (by kernel_rfl) M 1 rfl rfl rfl) 1 rfl rfl rfl ?_)
 intro w17 M
 refine ⟨(M.sub (cn (cn (cn (cc (List.nil_sublist _)))))), ?_⟩
 refine zi (by kernel_rfl) ?_
 refine hK16 _ _ (wp_ret (hret _ _ (en2 A rfl (qi rfl) (zk M HdD_isS_30 rfl 1 rfl (cs := [.int .i64 (((ss : Nat) : Int)), .int .i64 (((ls : Nat) : Int)), .int .i64 (((last : Nat) : Int)), .slice so ds.length ca]) rfl rfl) ?_)))
 exact ⟨rfl, M.bel⟩
theorem ur {w : World} {ss ls last ca : Nat} {so : Option Addr} {ds : List Ob} (hO : RO w so ds) (hol : ds.length ≤ 1000000) (hq : ∀ d ∈ ds, d.p + d.ws.length ≤ 1000000) {x : Int} {i c1 : Int} (hx : ixO x ds = -1) : Calls Try.prog 11 #[.agg #[.int .i64 ((ss : Nat) : Int), .int .i64 ((ls : Nat) : Int), .int .i64 ((last : Nat) : Int), .slice so ds.length ca], .int .i64 x, .int .i64 i, .agg #[.int .i64 c1, .bool false]] w fun e w' => e = .returned (.tuple #[.int .i64 7, .agg #[.int .i64 ((ss : Nat) : Int), .int .i64 ((ls : Nat) : Int), .int .i64 ((last : Nat) : Int), .slice so ds.length ca]]) ∧ Below w.heap.size w w' := by
 have M : Mg w w ([]) := Mg.start w
 refine qp (l := [(0, .agg #[.int .i64 (((ss : Nat) : Int)), .int .i64 (((ls : Nat) : Int)), .int .i64 (((last : Nat) : Int)), .slice so ds.length ca]), (1, .int .i64 x), (2, .int .i64 i), (3, .agg #[.int .i64 c1, .bool false])]) Try.func11 rfl Try.ntmps11 rfl rfl ?_
 intro Q hret hnorm hP a A
 refine wsk fun K1 hK1 => wrl (qt (vs := [.int .i64 (((ss : Nat) : Int)), .int .i64 (((ls : Nat) : Int)), .int .i64 (((last : Nat) : Int)), .slice so ds.length ca]) (t := 30) A M rfl rfl rfl pg (qw rfl rfl) (by decide) ?_)
 intro g2 w3 M a A
 refine qt (vs := [.int .i64 c1, .bool false]) (t := 32) A M rfl rfl rfl pg (qw rfl rfl) (by decide) ?_
 intro g4 w5 M a A
 refine sda A λa A↦?_
 refine qt (vs := [.int .i64 0, .int .i64 0, .int .i64 0, .slice none 0 0]) (t := 30) A M rfl rfl rfl pg (ql (z := .agg #[.int .i64 0, .int .i64 0, .int .i64 0, .slice none 0 0]) (by kernel_rfl) rfl) (by decide) ?_
 intro g6 w7 M a A
 refine qb (hK1 _ _ (wsk fun K8 hK8 => wrl (sdo A (qq M HdD_isS_30 rfl 2 rfl (cs := [.int .i64 (((ss : Nat) : Int)), .int .i64 (((ls : Nat) : Int)), .int .i64 (((last : Nat) : Int)), .slice so ds.length ca]) rfl rfl) λa A↦?_)))
 iterate 2 refine sdm A λa A↦?_
 refine gcl A M (ef rfl rfl) (ud (hO.below M.bel) hol hq hx) fun w10 hb9 M a A => ?_
 refine sdm A λa A↦?_
 iterate 2 refine sdo A (qk (vs := [.agg #[.int .i64 0, .bool false], .int .i64 7]) rfl rfl) λa A↦?_
 refine qt (vs := [.int .i64 0, .bool false]) (t := 32) A M rfl rfl rfl pg (ql (z := .agg #[.int .i64 0, .bool false]) (by kernel_rfl) rfl) (by decide) ?_
 intro g11 w12 M a A
 refine qs (us := [.int .i64 0, .bool false]) (L' := (.obj g11 (.cells #[.int .i64 0, .bool false] 32) :: .obj g6 (.cells #[.int .i64 0, .int .i64 0, .int .i64 0, .slice none 0 0] 30) :: .obj g4 (.cells #[.int .i64 c1, .bool false] 32) :: .obj g2 (.cells #[.int .i64 (((ss : Nat) : Int)), .int .i64 (((ls : Nat) : Int)), .int .i64 (((last : Nat) : Int)), .slice so ds.length ca] 30) :: [])) A M rfl rfl (qo rfl rfl rfl (by kernel_rfl) M 0 rfl rfl rfl) 0 rfl rfl rfl ?_
 intro w13 M
 refine sda A λa A↦?_
 refine qb (hK8 _ _ (wsk fun K14 hK14 => wsk fun K15 hK15 => wrl (sdm A λa A↦?_)))
 refine sdo (v := .bool true) A (qe rfl rfl (fun w => by kernel_rfl)) λa A↦?_
 refine qb (hK15 _ _ (wp_cond_true (A.ev rfl) ?_))
 refine wsk fun K16 hK16 => zn (S := fun w1 => Mg w w1 (.obj g2 (.cells #[.int .i64 (((ss : Nat) : Int)), .int .i64 (((ls : Nat) : Int)), .int .i64 (((last : Nat) : Int)), .slice so ds.length ca] 30) :: [])) (by kernel_rfl) ?_
 replace M := M.drew
 refine qf A 0 rfl rfl rfl rfl hP (M.sub (cn (cn (cn (cc (List.nil_sublist _)))))) (fun w1 M => qn rfl) λa A↦?_
 refine qf A 1 rfl rfl rfl rfl hP (M.sub (cn (cn (cn (cc (List.nil_sublist _)))))) (fun w1 M => qq M HdD_isS_30 rfl 0 rfl (cs := [.int .i64 (((ss : Nat) : Int)), .int .i64 (((ls : Nat) : Int)), .int .i64 (((last : Nat) : Int)), .slice so ds.length ca]) rfl rfl) λa A↦?_
 refine qf A 2 rfl rfl rfl rfl hP (M.sub (cn (cn (cn (cc (List.nil_sublist _)))))) (fun w1 M => qz rfl) λa A↦?_
 refine zd (by kernel_rfl) (jh (us := [.int .i64 (((ss : Nat) : Int)), .int .i64 (((ls : Nat) : Int)), .int .i64 (((last : Nat) : Int)), .slice so ds.length ca]) (L' := (.obj g11 (.cells #[.int .i64 0, .bool false] 32) :: .obj g6 (.cells #[.int .i64 (((ss : Nat) : Int)), .int .i64 (((ls : Nat) : Int)), .int .i64 (((last : Nat) : Int)), .slice so ds.length ca] 30) :: .obj g4 (.cells #[.int .i64 c1, .bool false] 32) :: .obj g2 (.cells #[.int .i64 (((ss : Nat) : Int)), .int .i64 (((ls : Nat) : Int)), .int .i64 (((last : Nat) : Int)), .slice so ds.length ca] 30) :: [])) A M 3 rfl rfl rfl (qo rfl rfl rfl (by kernel_rfl) M 1 rfl rfl rfl) 1 rfl rfl rfl ?_)
 intro w17 M
 refine ⟨(M.sub (cn (cn (cn (cc (List.nil_sublist _)))))), ?_⟩
 refine zi (by kernel_rfl) ?_
 refine hK16 _ _ (wp_ret (hret _ _ (en2 A rfl (qi rfl) (zk M HdD_isS_30 rfl 1 rfl (cs := [.int .i64 (((ss : Nat) : Int)), .int .i64 (((ls : Nat) : Int)), .int .i64 (((last : Nat) : Int)), .slice so ds.length ca]) rfl rfl) ?_)))
 exact ⟨rfl, M.bel⟩
theorem qch {w : World} {ss ls last ca : Nat} {so : Option Addr} {ds : List Ob} (hO : RO w so ds) (hol : ds.length ≤ 1000000) (hq : ∀ d ∈ ds, d.p + d.ws.length ≤ 1000000) {x : Int} {i c1 : Int} {k : Nat} {d : Ob} (hx : ixO x ds = ((k : Nat) : Int)) (hk : ds[k]? = some d) (hi : i < 0 ∨ ((d.ws.length : Nat) : Int) ≤ i) : Calls Try.prog 11 #[.agg #[.int .i64 ((ss : Nat) : Int), .int .i64 ((ls : Nat) : Int), .int .i64 ((last : Nat) : Int), .slice so ds.length ca], .int .i64 x, .int .i64 i, .agg #[.int .i64 c1, .bool false]] w fun e w' => e = .returned (.tuple #[.int .i64 1, .agg #[.int .i64 ((ss : Nat) : Int), .int .i64 ((ls : Nat) : Int), .int .i64 ((last : Nat) : Int), .slice so ds.length ca]]) ∧ Below w.heap.size w w' := by
 have M : Mg w w ([]) := Mg.start w
 refine qp (l := [(0, .agg #[.int .i64 (((ss : Nat) : Int)), .int .i64 (((ls : Nat) : Int)), .int .i64 (((last : Nat) : Int)), .slice so ds.length ca]), (1, .int .i64 x), (2, .int .i64 i), (3, .agg #[.int .i64 c1, .bool false])]) Try.func11 rfl Try.ntmps11 rfl rfl ?_
 intro Q hret hnorm hP a A
 refine wsk fun K1 hK1 => wrl (qt (vs := [.int .i64 (((ss : Nat) : Int)), .int .i64 (((ls : Nat) : Int)), .int .i64 (((last : Nat) : Int)), .slice so ds.length ca]) (t := 30) A M rfl rfl rfl pg (qw rfl rfl) (by decide) ?_)
 intro g2 w3 M a A
 refine qt (vs := [.int .i64 c1, .bool false]) (t := 32) A M rfl rfl rfl pg (qw rfl rfl) (by decide) ?_
 intro g4 w5 M a A
 refine sda A λa A↦?_
 refine qt (vs := [.int .i64 0, .int .i64 0, .int .i64 0, .slice none 0 0]) (t := 30) A M rfl rfl rfl pg (ql (z := .agg #[.int .i64 0, .int .i64 0, .int .i64 0, .slice none 0 0]) (by kernel_rfl) rfl) (by decide) ?_
 intro g6 w7 M a A
 refine qb (hK1 _ _ (wsk fun K8 hK8 => wrl (sdo A (qq M HdD_isS_30 rfl 2 rfl (cs := [.int .i64 (((ss : Nat) : Int)), .int .i64 (((ls : Nat) : Int)), .int .i64 (((last : Nat) : Int)), .slice so ds.length ca]) rfl rfl) λa A↦?_)))
 iterate 2 refine sdm A λa A↦?_
 refine gcl A M (ef rfl rfl) (qce (hO.below M.bel) hol hq hx hk hi) fun w10 hb9 M a A => ?_
 refine sdm A λa A↦?_
 iterate 2 refine sdo A (qk (vs := [.agg #[.int .i64 0, .bool false], .int .i64 1]) rfl rfl) λa A↦?_
 refine qt (vs := [.int .i64 0, .bool false]) (t := 32) A M rfl rfl rfl pg (ql (z := .agg #[.int .i64 0, .bool false]) (by kernel_rfl) rfl) (by decide) ?_
 intro g11 w12 M a A
 refine qs (us := [.int .i64 0, .bool false]) (L' := (.obj g11 (.cells #[.int .i64 0, .bool false] 32) :: .obj g6 (.cells #[.int .i64 0, .int .i64 0, .int .i64 0, .slice none 0 0] 30) :: .obj g4 (.cells #[.int .i64 c1, .bool false] 32) :: .obj g2 (.cells #[.int .i64 (((ss : Nat) : Int)), .int .i64 (((ls : Nat) : Int)), .int .i64 (((last : Nat) : Int)), .slice so ds.length ca] 30) :: [])) A M rfl rfl (qo rfl rfl rfl (by kernel_rfl) M 0 rfl rfl rfl) 0 rfl rfl rfl ?_
 intro w13 M
 refine sda A λa A↦?_
 refine qb (hK8 _ _ (wsk fun K14 hK14 => wsk fun K15 hK15 => wrl (sdm A λa A↦?_)))
 refine sdo (v := .bool true) A (qe rfl rfl (fun w => by kernel_rfl)) λa A↦?_
 refine qb (hK15 _ _ (wp_cond_true (A.ev rfl) ?_))
 refine wsk fun K16 hK16 => zn (S := fun w1 => Mg w w1 (.obj g2 (.cells #[.int .i64 (((ss : Nat) : Int)), .int .i64 (((ls : Nat) : Int)), .int .i64 (((last : Nat) : Int)), .slice so ds.length ca] 30) :: [])) (by kernel_rfl) ?_
 replace M := M.drew
 refine qf A 0 rfl rfl rfl rfl hP (M.sub (cn (cn (cn (cc (List.nil_sublist _)))))) (fun w1 M => qn rfl) λa A↦?_
 refine qf A 1 rfl rfl rfl rfl hP (M.sub (cn (cn (cn (cc (List.nil_sublist _)))))) (fun w1 M => qq M HdD_isS_30 rfl 0 rfl (cs := [.int .i64 (((ss : Nat) : Int)), .int .i64 (((ls : Nat) : Int)), .int .i64 (((last : Nat) : Int)), .slice so ds.length ca]) rfl rfl) λa A↦?_
 refine qf A 2 rfl rfl rfl rfl hP (M.sub (cn (cn (cn (cc (List.nil_sublist _)))))) (fun w1 M => qz rfl) λa A↦?_
 refine zd (by kernel_rfl) (jh (us := [.int .i64 (((ss : Nat) : Int)), .int .i64 (((ls : Nat) : Int)), .int .i64 (((last : Nat) : Int)), .slice so ds.length ca]) (L' := (.obj g11 (.cells #[.int .i64 0, .bool false] 32) :: .obj g6 (.cells #[.int .i64 (((ss : Nat) : Int)), .int .i64 (((ls : Nat) : Int)), .int .i64 (((last : Nat) : Int)), .slice so ds.length ca] 30) :: .obj g4 (.cells #[.int .i64 c1, .bool false] 32) :: .obj g2 (.cells #[.int .i64 (((ss : Nat) : Int)), .int .i64 (((ls : Nat) : Int)), .int .i64 (((last : Nat) : Int)), .slice so ds.length ca] 30) :: [])) A M 3 rfl rfl rfl (qo rfl rfl rfl (by kernel_rfl) M 1 rfl rfl rfl) 1 rfl rfl rfl ?_)
 intro w17 M
 refine ⟨(M.sub (cn (cn (cn (cc (List.nil_sublist _)))))), ?_⟩
 refine zi (by kernel_rfl) ?_
 refine hK16 _ _ (wp_ret (hret _ _ (en2 A rfl (qi rfl) (zk M HdD_isS_30 rfl 1 rfl (cs := [.int .i64 (((ss : Nat) : Int)), .int .i64 (((ls : Nat) : Int)), .int .i64 (((last : Nat) : Int)), .slice so ds.length ca]) rfl rfl) ?_)))
 exact ⟨rfl, M.bel⟩
theorem rset_ref {w : World} {ss ls last ca : Nat} {so : Option Addr} {ds : List Ob} (hO : RO w so ds) (hol : ds.length ≤ 1000000) (hq : ∀ d ∈ ds, d.p + d.ws.length ≤ 1000000) {x : Int} {i c1 : Int} {j k : Nat} {d : Ob} (hx : ixO x ds = ((k : Nat) : Int)) (hk : ds[k]? = some d) (hj : i = ((j : Nat) : Int)) (hjl : j < d.ws.length) (h0 : c1 ≠ 0) (hr : ixO c1 ds = -1) : Calls Try.prog 11 #[.agg #[.int .i64 ((ss : Nat) : Int), .int .i64 ((ls : Nat) : Int), .int .i64 ((last : Nat) : Int), .slice so ds.length ca], .int .i64 x, .int .i64 i, .agg #[.int .i64 c1, .bool true]] w fun e w' => e = .returned (.tuple #[.int .i64 1, .agg #[.int .i64 ((ss : Nat) : Int), .int .i64 ((ls : Nat) : Int), .int .i64 ((last : Nat) : Int), .slice so ds.length ca]]) ∧ Below w.heap.size w w' := by
 obtain ⟨⟨e1, e2⟩, hcc⟩ : ∃ c, d.ws[j]? = some c := ⟨d.ws[j], List.getElem?_eq_getElem hjl⟩
 have hdm := List.mem_of_getElem? hk
 have hkl := (List.getElem?_eq_some_iff.1 hk).1
 have hqd := hq d hdm
 have M : Mg w w ([]) := Mg.start w
 refine qp (l := [(0, .agg #[.int .i64 (((ss : Nat) : Int)), .int .i64 (((ls : Nat) : Int)), .int .i64 (((last : Nat) : Int)), .slice so ds.length ca]), (1, .int .i64 x), (2, .int .i64 i), (3, .agg #[.int .i64 c1, .bool true])]) Try.func11 rfl Try.ntmps11 rfl rfl ?_
 intro Q hret hnorm hP a A
 refine wsk fun K1 hK1 => wrl (qt (vs := [.int .i64 (((ss : Nat) : Int)), .int .i64 (((ls : Nat) : Int)), .int .i64 (((last : Nat) : Int)), .slice so ds.length ca]) (t := 30) A M rfl rfl rfl pg (qw rfl rfl) (by decide) ?_)
 intro g2 w3 M a A
 refine qt (vs := [.int .i64 c1, .bool true]) (t := 32) A M rfl rfl rfl pg (qw rfl rfl) (by decide) ?_
 intro g4 w5 M a A
 refine sda A λa A↦?_
 refine qt (vs := [.int .i64 0, .int .i64 0, .int .i64 0, .slice none 0 0]) (t := 30) A M rfl rfl rfl pg (ql (z := .agg #[.int .i64 0, .int .i64 0, .int .i64 0, .slice none 0 0]) (by kernel_rfl) rfl) (by decide) ?_
 intro g6 w7 M a A
 refine qb (hK1 _ _ (wsk fun K8 hK8 => wrl (sdo A (qq M HdD_isS_30 rfl 2 rfl (cs := [.int .i64 (((ss : Nat) : Int)), .int .i64 (((ls : Nat) : Int)), .int .i64 (((last : Nat) : Int)), .slice so ds.length ca]) rfl rfl) λa A↦?_)))
 iterate 2 refine sdm A λa A↦?_
 refine gcl A M (ef rfl rfl) (yv (hO.below M.bel) hol hq hx hk hj hcc) fun w10 hb9 M a A => ?_
 refine sdm A λa A↦?_
 iterate 2 refine sdo A (qk (vs := [.agg #[.int .i64 e1, .bool e2], .int .i64 0]) rfl rfl) λa A↦?_
 refine qt (vs := [.int .i64 0, .bool false]) (t := 32) A M rfl rfl rfl pg (ql (z := .agg #[.int .i64 0, .bool false]) (by kernel_rfl) rfl) (by decide) ?_
 intro g11 w12 M a A
 refine qs (us := [.int .i64 e1, .bool e2]) (L' := (.obj g11 (.cells #[.int .i64 e1, .bool e2] 32) :: .obj g6 (.cells #[.int .i64 0, .int .i64 0, .int .i64 0, .slice none 0 0] 30) :: .obj g4 (.cells #[.int .i64 c1, .bool true] 32) :: .obj g2 (.cells #[.int .i64 (((ss : Nat) : Int)), .int .i64 (((ls : Nat) : Int)), .int .i64 (((last : Nat) : Int)), .slice so ds.length ca] 30) :: [])) A M rfl rfl (qo rfl rfl rfl (by kernel_rfl) M 0 rfl rfl rfl) 0 rfl rfl rfl ?_
 intro w13 M
 refine sda A λa A↦?_
 refine qb (hK8 _ _ (wsk fun K14 hK14 => wsk fun K15 hK15 => wrl (sdm A λa A↦?_)))
 refine sdo (v := .bool false) A (qe rfl rfl (fun w => by kernel_rfl)) λa A↦?_
 refine qb (hK15 _ _ (wp_cond_false (A.ev rfl) ?_))
 refine wp_skip (hK14 _ _ (wsk fun K16 hK16 => wsk fun K17 hK17 => wrl (sdo (v := .pointer (some ⟨g4, 1, none⟩)) A (qd HdD_fld_32_1 rfl rfl) λa A↦?_)))
 refine sdo A (qh M HdD_is1_4 rfl 2 rfl rfl) λa A↦?_
 refine sdm A λa A↦?_
 refine sdo (v := .pointer (some ⟨g4, 0, none⟩)) A (qd HdD_fld_32_0 rfl rfl) λa A↦?_
 refine sdo A (qh M HdD_is1_3 rfl 2 rfl rfl) λa A↦?_
 refine sdo (v := .bool true) A (qe rfl rfl (fun w => (jd w).trans (by rw [show ((c1 != 0)) = true from (bne_iff_ne.2 h0)]))) λa A↦?_
 refine sdk (v := .bool true) A λa A↦?_
 refine sdm A λa A↦?_
 refine sdo A (qq M HdD_isS_30 rfl 3 rfl (cs := [.int .i64 (((ss : Nat) : Int)), .int .i64 (((ls : Nat) : Int)), .int .i64 (((last : Nat) : Int)), .slice so ds.length ca]) rfl rfl) λa A↦?_
 refine sdo (v := .pointer (some ⟨g4, 0, none⟩)) A (qd HdD_fld_32_0 rfl rfl) λa A↦?_
 refine sdo A (qh M HdD_is1_3 rfl 2 rfl rfl) λa A↦?_
 refine gcl A M (ef rfl rfl) (ja (hO.below M.bel) hol hq) fun w19 hb18 M a A => ?_
 refine sdo (v := .bool true) A (qe rfl rfl (fun w => (qm w).trans (by rw [show (decide (ixO c1 ds < 0)) = true from (decide_eq_true (by rw [hr]; decide))]))) λa A↦?_
 refine sdk (v := .bool true) A λa A↦?_
 refine qb (hK17 _ _ (wp_cond_true (A.ev rfl) ?_))
 refine wsk fun K20 hK20 => zn (S := fun w1 => Mg w w1 (.obj g2 (.cells #[.int .i64 (((ss : Nat) : Int)), .int .i64 (((ls : Nat) : Int)), .int .i64 (((last : Nat) : Int)), .slice so ds.length ca] 30) :: [])) (by kernel_rfl) ?_
 replace M := M.drew
 refine qf A 0 rfl rfl rfl rfl hP (M.sub (cn (cn (cn (cc (List.nil_sublist _)))))) (fun w1 M => qq M HdD_isS_30 rfl 0 rfl (cs := [.int .i64 (((ss : Nat) : Int)), .int .i64 (((ls : Nat) : Int)), .int .i64 (((last : Nat) : Int)), .slice so ds.length ca]) rfl rfl) λa A↦?_
 refine qf A 1 rfl rfl rfl rfl hP (M.sub (cn (cn (cn (cc (List.nil_sublist _)))))) (fun w1 M => qz rfl) λa A↦?_
 refine zd (by kernel_rfl) (jh (us := [.int .i64 (((ss : Nat) : Int)), .int .i64 (((ls : Nat) : Int)), .int .i64 (((last : Nat) : Int)), .slice so ds.length ca]) (L' := (.obj g11 (.cells #[.int .i64 e1, .bool e2] 32) :: .obj g6 (.cells #[.int .i64 (((ss : Nat) : Int)), .int .i64 (((ls : Nat) : Int)), .int .i64 (((last : Nat) : Int)), .slice so ds.length ca] 30) :: .obj g4 (.cells #[.int .i64 c1, .bool true] 32) :: .obj g2 (.cells #[.int .i64 (((ss : Nat) : Int)), .int .i64 (((ls : Nat) : Int)), .int .i64 (((last : Nat) : Int)), .slice so ds.length ca] 30) :: [])) A M 2 rfl rfl rfl (qo rfl rfl rfl (by kernel_rfl) M 1 rfl rfl rfl) 1 rfl rfl rfl ?_)
 intro w21 M
 refine ⟨(M.sub (cn (cn (cn (cc (List.nil_sublist _)))))), ?_⟩
 refine zi (by kernel_rfl) ?_
 refine hK20 _ _ (wp_ret (hret _ _ (en2 A rfl (qi rfl) (zk M HdD_isS_30 rfl 1 rfl (cs := [.int .i64 (((ss : Nat) : Int)), .int .i64 (((ls : Nat) : Int)), .int .i64 (((last : Nat) : Int)), .slice so ds.length ca]) rfl rfl) ?_)))
 exact ⟨rfl, M.bel⟩
theorem qhg {w : World} {ss ls last ca : Nat} {so : Option Addr} {ds : List Ob} (hO : RO w so ds) (hol : ds.length ≤ 1000000) (hq : ∀ d ∈ ds, d.p + d.ws.length ≤ 1000000) {x : Int} {i c1 : Int} {j k : Nat} {d : Ob} (hx : ixO x ds = ((k : Nat) : Int)) (hk : ds[k]? = some d) (hj : i = ((j : Nat) : Int)) (hjl : j < d.ws.length) (hr : c1 = 0 ∨ 0 ≤ ixO c1 ds) : Calls Try.prog 11 #[.agg #[.int .i64 ((ss : Nat) : Int), .int .i64 ((ls : Nat) : Int), .int .i64 ((last : Nat) : Int), .slice so ds.length ca], .int .i64 x, .int .i64 i, .agg #[.int .i64 c1, .bool true]] w fun e w' => ∃ so' ca' g c, e = .returned (.tuple #[.int .i64 0, .agg #[.int .i64 ((ss : Nat) : Int), .int .i64 ((ls : Nat) : Int), .int .i64 ((last : Nat) : Int), .slice so' ds.length ca']]) ∧ Mg w w' [.row 73 3 (.slice so' ds.length ca') ds.length (obD (ds.set k (d.anew g c j (c1, true)))), .row 32 2 (.slice (some ⟨g, 0, none⟩) d.ws.length c) d.ws.length (za (d.ws.set j (c1, true)))] := by
 obtain ⟨⟨e1, e2⟩, hcc⟩ : ∃ c, d.ws[j]? = some c := ⟨d.ws[j], List.getElem?_eq_getElem hjl⟩
 have hdm := List.mem_of_getElem? hk
 have hkl := (List.getElem?_eq_some_iff.1 hk).1
 have hqd := hq d hdm
 have M : Mg w w ([]) := Mg.start w
 refine qp (l := [(0, .agg #[.int .i64 (((ss : Nat) : Int)), .int .i64 (((ls : Nat) : Int)), .int .i64 (((last : Nat) : Int)), .slice so ds.length ca]), (1, .int .i64 x), (2, .int .i64 i), (3, .agg #[.int .i64 c1, .bool true])]) Try.func11 rfl Try.ntmps11 rfl rfl ?_
 intro Q hret hnorm hP a A
 refine wsk fun K1 hK1 => wrl (qt (vs := [.int .i64 (((ss : Nat) : Int)), .int .i64 (((ls : Nat) : Int)), .int .i64 (((last : Nat) : Int)), .slice so ds.length ca]) (t := 30) A M rfl rfl rfl pg (qw rfl rfl) (by decide) ?_)
 intro g2 w3 M a A
 refine qt (vs := [.int .i64 c1, .bool true]) (t := 32) A M rfl rfl rfl pg (qw rfl rfl) (by decide) ?_
 intro g4 w5 M a A
 refine sda A λa A↦?_
 refine qt (vs := [.int .i64 0, .int .i64 0, .int .i64 0, .slice none 0 0]) (t := 30) A M rfl rfl rfl pg (ql (z := .agg #[.int .i64 0, .int .i64 0, .int .i64 0, .slice none 0 0]) (by kernel_rfl) rfl) (by decide) ?_
 intro g6 w7 M a A
 refine qb (hK1 _ _ (wsk fun K8 hK8 => wrl (sdo A (qq M HdD_isS_30 rfl 2 rfl (cs := [.int .i64 (((ss : Nat) : Int)), .int .i64 (((ls : Nat) : Int)), .int .i64 (((last : Nat) : Int)), .slice so ds.length ca]) rfl rfl) λa A↦?_)))
 iterate 2 refine sdm A λa A↦?_
 refine gcl A M (ef rfl rfl) (yv (hO.below M.bel) hol hq hx hk hj hcc) fun w10 hb9 M a A => ?_
 refine sdm A λa A↦?_
 iterate 2 refine sdo A (qk (vs := [.agg #[.int .i64 e1, .bool e2], .int .i64 0]) rfl rfl) λa A↦?_
 refine qt (vs := [.int .i64 0, .bool false]) (t := 32) A M rfl rfl rfl pg (ql (z := .agg #[.int .i64 0, .bool false]) (by kernel_rfl) rfl) (by decide) ?_
 intro g11 w12 M a A
 refine qs (us := [.int .i64 e1, .bool e2]) (L' := (.obj g11 (.cells #[.int .i64 e1, .bool e2] 32) :: .obj g6 (.cells #[.int .i64 0, .int .i64 0, .int .i64 0, .slice none 0 0] 30) :: .obj g4 (.cells #[.int .i64 c1, .bool true] 32) :: .obj g2 (.cells #[.int .i64 (((ss : Nat) : Int)), .int .i64 (((ls : Nat) : Int)), .int .i64 (((last : Nat) : Int)), .slice so ds.length ca] 30) :: [])) A M rfl rfl (qo rfl rfl rfl (by kernel_rfl) M 0 rfl rfl rfl) 0 rfl rfl rfl ?_
 intro w14 M
 refine sda A λa A↦?_
 refine qb (hK8 _ _ (wsk fun K15 hK15 => wsk fun K16 hK16 => wrl (sdm A λa A↦?_)))
 refine sdo (v := .bool false) A (qe rfl rfl (fun w => by kernel_rfl)) λa A↦?_
 refine qb (hK16 _ _ (wp_cond_false (A.ev rfl) ?_))
 refine wp_skip (hK15 _ _ (wsk fun K17 hK17 => wsk fun K18 hK18 => wrl (sdo (v := .pointer (some ⟨g4, 1, none⟩)) A (qd HdD_fld_32_1 rfl rfl) λa A↦?_)))
 refine sdo A (qh M HdD_is1_4 rfl 2 rfl rfl) λa A↦?_
 refine sdm A λa A↦?_
 refine sdo (v := .pointer (some ⟨g4, 0, none⟩)) A (qd HdD_fld_32_0 rfl rfl) λa A↦?_
 refine sdo A (qh M HdD_is1_3 rfl 2 rfl rfl) λa A↦?_
 rcases tf ((c1 != 0)) with hb19 | hb19
 ·
  have hb19' := bne_iff_ne.1 hb19
  refine sdc A jd hb19 λa A↦?_
  refine sdk (v := .bool true) A λa A↦?_
  refine sdm A λa A↦?_
  refine sdo A (qq M HdD_isS_30 rfl 3 rfl (cs := [.int .i64 (((ss : Nat) : Int)), .int .i64 (((ls : Nat) : Int)), .int .i64 (((last : Nat) : Int)), .slice so ds.length ca]) rfl rfl) λa A↦?_
  refine sdo (v := .pointer (some ⟨g4, 0, none⟩)) A (qd HdD_fld_32_0 rfl rfl) λa A↦?_
  refine sdo A (qh M HdD_is1_3 rfl 2 rfl rfl) λa A↦?_
  refine gcl A M (ef rfl rfl) (ja (hO.below M.bel) hol hq) fun w21 hb20 M a A => ?_
  refine sdo (v := .bool false) A (qe rfl rfl (fun w => (qm w).trans (by rw [show (decide (ixO c1 ds < 0)) = false from (decide_eq_false (by omega))]))) λa A↦?_
  refine sdk (v := .bool false) A λa A↦?_
  refine qb (hK18 _ _ (wp_cond_false (A.ev rfl) ?_))
  refine wp_skip (hK17 _ _ (wsk fun K22 hK22 => wrl (sdo A (qq M HdD_isS_30 rfl 3 rfl (cs := [.int .i64 (((ss : Nat) : Int)), .int .i64 (((ls : Nat) : Int)), .int .i64 (((last : Nat) : Int)), .slice so ds.length ca]) rfl rfl) λa A↦?_)))
  refine sdm A λa A↦?_
  refine gcl A M (ef rfl rfl) (ja (hO.below M.bel) hol hq) fun w24 hb23 M a A => ?_
  refine sda A λa A↦?_
  refine qb (hK22 _ _ (wsk fun K25 hK25 => wrl (jm (e := 73) (sz := 3) (m := 0) (vs := []) A M rfl rfl rfl (qx rfl (by kernel_rfl)) rfl rfl (.inl (by decide)) ?_)))
  intro g26 w27 M a A
  refine sdo (v := .pointer (some ⟨g2, 3, none⟩)) A (qd HdD_fld_30_3 rfl rfl) λa A↦?_
  refine sdo A (qh M HdD_is1_28 rfl 4 rfl rfl) λa A↦?_
  refine zz (e := 73) (sz := 3) (k := 0) (q := 0) (m := ds.length) (xs := []) (news := obD ds) (L' := fun v28 => (.row 73 3 (v28) (0 + ds.length) ([] ++ obD ds) :: .obj g11 (.cells #[.int .i64 e1, .bool e2] 32) :: .obj g6 (.cells #[.int .i64 0, .int .i64 0, .int .i64 0, .slice none 0 0] 30) :: .obj g4 (.cells #[.int .i64 c1, .bool true] 32) :: .obj g2 (.cells #[.int .i64 (((ss : Nat) : Int)), .int .i64 (((ls : Nat) : Int)), .int .i64 (((last : Nat) : Int)), .slice so ds.length ca] 30) :: [])) A rfl rfl rfl (xi (z := .agg #[.int .i64 0, .int .i64 0, .slice none 0 0]) (sz := 3) (by_ := 40) Try.underlying28 (by kernel_rfl) rfl rfl rfl M 0 rfl rfl rfl (kn ds) (hO.row.below M.bel) (yu ds) (by omega)) (fun _ => rfl) ?_
  intro v28 w29 M a A
  replace M : Mg w w29 (.row 73 3 (v28) ds.length (obD ds) :: .obj g11 (.cells #[.int .i64 e1, .bool e2] 32) :: .obj g6 (.cells #[.int .i64 0, .int .i64 0, .int .i64 0, .slice none 0 0] 30) :: .obj g4 (.cells #[.int .i64 c1, .bool true] 32) :: .obj g2 (.cells #[.int .i64 (((ss : Nat) : Int)), .int .i64 (((ls : Nat) : Int)), .int .i64 (((last : Nat) : Int)), .slice so ds.length ca] 30) :: []) := by
   rw [Nat.zero_add, List.nil_append] at M; exact M
  obtain ⟨so30, ca31, rfl⟩ := zx (M.has 0 rfl)
  obtain ⟨g32, rfl⟩ := zy (M.has 0 rfl) (by omega)
  refine sda A λa A↦?_
  refine qb (hK25 _ _ (wsk fun K33 hK33 => wrl (jm (e := 32) (sz := 2) (m := 0) (vs := []) A M rfl rfl rfl (qx rfl (by kernel_rfl)) rfl rfl (.inl (by decide)) ?_)))
  intro g34 w35 M a A
  iterate 2 refine sdm A λa A↦?_
  refine sdo (v := .pointer (some ⟨g32, k * 3, none⟩)) A (ze (k := k) Try.underlying28 (by kernel_rfl) rfl rfl hx (by omega)) λa A↦?_
  refine sdo (v := .pointer (some ⟨g32, k * 3 + 2, none⟩)) A (qd HdD_fld_73_2 rfl rfl) λa A↦?_
  refine sdo A (xr M 1 rfl (qca hk).2.2 HdD_is1_68 rfl) λa A↦?_
  refine zz (e := 32) (sz := 2) (k := 0) (q := 0) (m := d.ws.length) (xs := []) (news := za d.ws) (L' := fun v36 => (.row 32 2 (v36) (0 + d.ws.length) ([] ++ za d.ws) :: .row 73 3 (.slice (some ⟨g32, 0, none⟩) ds.length ca31) ds.length (obD ds) :: .obj g11 (.cells #[.int .i64 e1, .bool e2] 32) :: .obj g6 (.cells #[.int .i64 0, .int .i64 0, .int .i64 0, .slice none 0 0] 30) :: .obj g4 (.cells #[.int .i64 c1, .bool true] 32) :: .obj g2 (.cells #[.int .i64 (((ss : Nat) : Int)), .int .i64 (((ls : Nat) : Int)), .int .i64 (((last : Nat) : Int)), .slice so ds.length ca] 30) :: [])) A rfl rfl rfl (xi (z := .agg #[.int .i64 0, .bool false]) (sz := 2) (by_ := 16) Try.underlying68 (by kernel_rfl) rfl rfl rfl M 0 rfl rfl rfl (xy d.ws) ((hO.wrd d hdm).below M.bel) (ko d.ws) (by omega)) (fun _ => rfl) ?_
  intro v36 w37 M a A
  replace M : Mg w w37 (.row 32 2 (v36) d.ws.length (za d.ws) :: .row 73 3 (.slice (some ⟨g32, 0, none⟩) ds.length ca31) ds.length (obD ds) :: .obj g11 (.cells #[.int .i64 e1, .bool e2] 32) :: .obj g6 (.cells #[.int .i64 0, .int .i64 0, .int .i64 0, .slice none 0 0] 30) :: .obj g4 (.cells #[.int .i64 c1, .bool true] 32) :: .obj g2 (.cells #[.int .i64 (((ss : Nat) : Int)), .int .i64 (((ls : Nat) : Int)), .int .i64 (((last : Nat) : Int)), .slice so ds.length ca] 30) :: []) := by
   rw [Nat.zero_add, List.nil_append] at M; exact M
  obtain ⟨so38, ca39, rfl⟩ := zx (M.has 0 rfl)
  obtain ⟨g40, rfl⟩ := zy (M.has 0 rfl) (by omega)
  refine sda A λa A↦?_
  refine qb (hK33 _ _ (wsk fun K41 hK41 => wrl ?_))
  iterate 2 refine sdm A λa A↦?_
  refine sdo A (qq M HdD_isS_32 rfl 4 rfl (cs := [.int .i64 c1, .bool true]) rfl rfl) λa A↦?_
  refine sdo (v := .pointer (some ⟨g40, j * 2, none⟩)) A (ze (k := j) Try.underlying68 (by kernel_rfl) rfl rfl hj (by omega)) λa A↦?_
  refine jx (us := []) (L' := (.row 32 2 (.slice (some ⟨g40, 0, none⟩) d.ws.length ca39) d.ws.length (za (d.ws.set j (c1, true))) :: .row 73 3 (.slice (some ⟨g32, 0, none⟩) ds.length ca31) ds.length (obD ds) :: .obj g11 (.cells #[.int .i64 e1, .bool e2] 32) :: .obj g6 (.cells #[.int .i64 0, .int .i64 0, .int .i64 0, .slice none 0 0] 30) :: .obj g4 (.cells #[.int .i64 c1, .bool true] 32) :: .obj g2 (.cells #[.int .i64 (((ss : Nat) : Int)), .int .i64 (((ls : Nat) : Int)), .int .i64 (((last : Nat) : Int)), .slice so ds.length ca] 30) :: [])) A M rfl rfl (jq (cs := [.int .i64 c1, .bool true]) rfl rfl rfl (by kernel_rfl) M 0 rfl (by show _ + 2 ≤ _; omega) rfl) 0 rfl (by rw [xz _ _ hjl]; rfl) ?_
  intro w42 M
  refine qb (hK41 _ _ (wsk fun K43 hK43 => wrl ?_))
  iterate 3 refine sdm A λa A↦?_
  refine sdo (v := .pointer (some ⟨g32, k * 3, none⟩)) A (ze (k := k) Try.underlying28 (by kernel_rfl) rfl rfl hx (by omega)) λa A↦?_
  refine sdo (v := .pointer (some ⟨g32, k * 3 + 2, none⟩)) A (qd HdD_fld_73_2 rfl rfl) λa A↦?_
  refine jx (us := []) (L' := (.row 32 2 (.slice (some ⟨g40, 0, none⟩) d.ws.length ca39) d.ws.length (za (d.ws.set j (c1, true))) :: .row 73 3 (.slice (some ⟨g32, 0, none⟩) ds.length ca31) ds.length (obD (ds.set k (d.anew g40 ca39 j (c1, true)))) :: .obj g11 (.cells #[.int .i64 e1, .bool e2] 32) :: .obj g6 (.cells #[.int .i64 0, .int .i64 0, .int .i64 0, .slice none 0 0] 30) :: .obj g4 (.cells #[.int .i64 c1, .bool true] 32) :: .obj g2 (.cells #[.int .i64 (((ss : Nat) : Int)), .int .i64 (((ls : Nat) : Int)), .int .i64 (((last : Nat) : Int)), .slice so ds.length ca] 30) :: [])) A M rfl rfl (jq (cs := [.slice (some ⟨g40, 0, none⟩) d.ws.length ca39]) rfl rfl rfl (by kernel_rfl) M 1 rfl (by show _ + 1 ≤ _; omega) rfl) 1 rfl (by rw [qcf hk g40 ca39 j (c1, true)]; rfl) ?_
  intro w44 M
  refine qb (hK43 _ _ (wsk fun K45 hK45 => wrl (sdm A λa A↦?_)))
  refine sdo (v := .pointer (some ⟨g2, 3, none⟩)) A (qd HdD_fld_30_3 rfl rfl) λa A↦?_
  refine qs (us := [.int .i64 (((ss : Nat) : Int)), .int .i64 (((ls : Nat) : Int)), .int .i64 (((last : Nat) : Int)), .slice (some ⟨g32, 0, none⟩) ds.length ca31]) (L' := (.row 32 2 (.slice (some ⟨g40, 0, none⟩) d.ws.length ca39) d.ws.length (za (d.ws.set j (c1, true))) :: .row 73 3 (.slice (some ⟨g32, 0, none⟩) ds.length ca31) ds.length (obD (ds.set k (d.anew g40 ca39 j (c1, true)))) :: .obj g11 (.cells #[.int .i64 e1, .bool e2] 32) :: .obj g6 (.cells #[.int .i64 0, .int .i64 0, .int .i64 0, .slice none 0 0] 30) :: .obj g4 (.cells #[.int .i64 c1, .bool true] 32) :: .obj g2 (.cells #[.int .i64 (((ss : Nat) : Int)), .int .i64 (((ls : Nat) : Int)), .int .i64 (((last : Nat) : Int)), .slice (some ⟨g32, 0, none⟩) ds.length ca31] 30) :: [])) A M rfl rfl (qo rfl rfl rfl (by kernel_rfl) M 5 rfl rfl rfl) 5 rfl rfl rfl ?_
  intro w47 M
  refine qb (hK45 _ _ (wsk fun K48 hK48 => zn (S := fun w1 => Mg w w1 (.obj g2 (.cells #[.int .i64 (((ss : Nat) : Int)), .int .i64 (((ls : Nat) : Int)), .int .i64 (((last : Nat) : Int)), .slice (some ⟨g32, 0, none⟩) ds.length ca31] 30) :: [])) (by kernel_rfl) ?_))
  replace M := M.drew
  refine qf A 0 rfl rfl rfl rfl hP (M.sub (cn (cn (cn (cn (cn (cc (List.nil_sublist _)))))))) (fun w1 M => qq M HdD_isS_30 rfl 0 rfl (cs := [.int .i64 (((ss : Nat) : Int)), .int .i64 (((ls : Nat) : Int)), .int .i64 (((last : Nat) : Int)), .slice (some ⟨g32, 0, none⟩) ds.length ca31]) rfl rfl) λa A↦?_
  refine qf A 1 rfl rfl rfl rfl hP (M.sub (cn (cn (cn (cn (cn (cc (List.nil_sublist _)))))))) (fun w1 M => qz rfl) λa A↦?_
  refine zd (by kernel_rfl) (jh (us := [.int .i64 (((ss : Nat) : Int)), .int .i64 (((ls : Nat) : Int)), .int .i64 (((last : Nat) : Int)), .slice (some ⟨g32, 0, none⟩) ds.length ca31]) (L' := (.row 32 2 (.slice (some ⟨g40, 0, none⟩) d.ws.length ca39) d.ws.length (za (d.ws.set j (c1, true))) :: .row 73 3 (.slice (some ⟨g32, 0, none⟩) ds.length ca31) ds.length (obD (ds.set k (d.anew g40 ca39 j (c1, true)))) :: .obj g11 (.cells #[.int .i64 e1, .bool e2] 32) :: .obj g6 (.cells #[.int .i64 (((ss : Nat) : Int)), .int .i64 (((ls : Nat) : Int)), .int .i64 (((last : Nat) : Int)), .slice (some ⟨g32, 0, none⟩) ds.length ca31] 30) :: .obj g4 (.cells #[.int .i64 c1, .bool true] 32) :: .obj g2 (.cells #[.int .i64 (((ss : Nat) : Int)), .int .i64 (((ls : Nat) : Int)), .int .i64 (((last : Nat) : Int)), .slice (some ⟨g32, 0, none⟩) ds.length ca31] 30) :: [])) A M 2 rfl rfl rfl (qo rfl rfl rfl (by kernel_rfl) M 3 rfl rfl rfl) 3 rfl rfl rfl ?_)
  intro w50 M
  refine ⟨(M.sub (cn (cn (cn (cn (cn (cc (List.nil_sublist _)))))))), ?_⟩
  refine zi (by kernel_rfl) ?_
  refine hK48 _ _ (wp_ret (hret _ _ (en2 A rfl (qi rfl) (zk M HdD_isS_30 rfl 3 rfl (cs := [.int .i64 (((ss : Nat) : Int)), .int .i64 (((ls : Nat) : Int)), .int .i64 (((last : Nat) : Int)), .slice (some ⟨g32, 0, none⟩) ds.length ca31]) rfl rfl) ?_)))
  replace M : Mg w w50 (.row 73 3 (.slice (some ⟨g32, 0, none⟩) ds.length ca31) ds.length (obD (ds.set k (d.anew g40 ca39 j (c1, true)))) :: .row 32 2 (.slice (some ⟨g40, 0, none⟩) d.ws.length ca39) d.ws.length (za (d.ws.set j (c1, true))) :: .obj g11 (.cells #[.int .i64 e1, .bool e2] 32) :: .obj g6 (.cells #[.int .i64 (((ss : Nat) : Int)), .int .i64 (((ls : Nat) : Int)), .int .i64 (((last : Nat) : Int)), .slice (some ⟨g32, 0, none⟩) ds.length ca31] 30) :: .obj g4 (.cells #[.int .i64 c1, .bool true] 32) :: .obj g2 (.cells #[.int .i64 (((ss : Nat) : Int)), .int .i64 (((ls : Nat) : Int)), .int .i64 (((last : Nat) : Int)), .slice (some ⟨g32, 0, none⟩) ds.length ca31] 30) :: []) := M.bring 1 rfl rfl
  replace M : Mg w w50 (.row 73 3 (.slice (some ⟨g32, 0, none⟩) ds.length ca31) ds.length (obD (ds.set k (d.anew g40 ca39 j (c1, true)))) :: .row 32 2 (.slice (some ⟨g40, 0, none⟩) d.ws.length ca39) d.ws.length (za (d.ws.set j (c1, true))) :: []) := by
   have h9 := M.sub (cc (cc (cn (cn (cn (cn (.refl _)))))))
   exact h9
  exact ⟨_, _, _, _, rfl, M⟩
 ·
  have hb19' := bne_eq_false_iff_eq.1 hb19
  refine sdc A jd hb19 λa A↦?_
  refine sdk (v := .bool false) A λa A↦?_
  refine sdm A λa A↦?_
  iterate 5 refine zj A rfl rfl rfl λa A↦?_
  refine sdk (v := .bool false) A λa A↦?_
  refine qb (hK18 _ _ (wp_cond_false (A.ev rfl) ?_))
  refine wp_skip (hK17 _ _ (wsk fun K51 hK51 => wrl (sdo A (qq M HdD_isS_30 rfl 3 rfl (cs := [.int .i64 (((ss : Nat) : Int)), .int .i64 (((ls : Nat) : Int)), .int .i64 (((last : Nat) : Int)), .slice so ds.length ca]) rfl rfl) λa A↦?_)))
  refine sdm A λa A↦?_
  refine gcl A M (ef rfl rfl) (ja (hO.below M.bel) hol hq) fun w53 hb52 M a A => ?_
  refine sda A λa A↦?_
  refine qb (hK51 _ _ (wsk fun K54 hK54 => wrl (jm (e := 73) (sz := 3) (m := 0) (vs := []) A M rfl rfl rfl (qx rfl (by kernel_rfl)) rfl rfl (.inl (by decide)) ?_)))
  intro g55 w56 M a A
  refine sdo (v := .pointer (some ⟨g2, 3, none⟩)) A (qd HdD_fld_30_3 rfl rfl) λa A↦?_
  refine sdo A (qh M HdD_is1_28 rfl 4 rfl rfl) λa A↦?_
  refine zz (e := 73) (sz := 3) (k := 0) (q := 0) (m := ds.length) (xs := []) (news := obD ds) (L' := fun v57 => (.row 73 3 (v57) (0 + ds.length) ([] ++ obD ds) :: .obj g11 (.cells #[.int .i64 e1, .bool e2] 32) :: .obj g6 (.cells #[.int .i64 0, .int .i64 0, .int .i64 0, .slice none 0 0] 30) :: .obj g4 (.cells #[.int .i64 c1, .bool true] 32) :: .obj g2 (.cells #[.int .i64 (((ss : Nat) : Int)), .int .i64 (((ls : Nat) : Int)), .int .i64 (((last : Nat) : Int)), .slice so ds.length ca] 30) :: [])) A rfl rfl rfl (xi (z := .agg #[.int .i64 0, .int .i64 0, .slice none 0 0]) (sz := 3) (by_ := 40) Try.underlying28 (by kernel_rfl) rfl rfl rfl M 0 rfl rfl rfl (kn ds) (hO.row.below M.bel) (yu ds) (by omega)) (fun _ => rfl) ?_
  intro v57 w58 M a A
  replace M : Mg w w58 (.row 73 3 (v57) ds.length (obD ds) :: .obj g11 (.cells #[.int .i64 e1, .bool e2] 32) :: .obj g6 (.cells #[.int .i64 0, .int .i64 0, .int .i64 0, .slice none 0 0] 30) :: .obj g4 (.cells #[.int .i64 c1, .bool true] 32) :: .obj g2 (.cells #[.int .i64 (((ss : Nat) : Int)), .int .i64 (((ls : Nat) : Int)), .int .i64 (((last : Nat) : Int)), .slice so ds.length ca] 30) :: []) := by
   rw [Nat.zero_add, List.nil_append] at M; exact M
  obtain ⟨so59, ca60, rfl⟩ := zx (M.has 0 rfl)
  obtain ⟨g61, rfl⟩ := zy (M.has 0 rfl) (by omega)
  refine sda A λa A↦?_
  refine qb (hK54 _ _ (wsk fun K62 hK62 => wrl (jm (e := 32) (sz := 2) (m := 0) (vs := []) A M rfl rfl rfl (qx rfl (by kernel_rfl)) rfl rfl (.inl (by decide)) ?_)))
  intro g63 w64 M a A
  iterate 2 refine sdm A λa A↦?_
  refine sdo (v := .pointer (some ⟨g61, k * 3, none⟩)) A (ze (k := k) Try.underlying28 (by kernel_rfl) rfl rfl hx (by omega)) λa A↦?_
  refine sdo (v := .pointer (some ⟨g61, k * 3 + 2, none⟩)) A (qd HdD_fld_73_2 rfl rfl) λa A↦?_
  refine sdo A (xr M 1 rfl (qca hk).2.2 HdD_is1_68 rfl) λa A↦?_
  refine zz (e := 32) (sz := 2) (k := 0) (q := 0) (m := d.ws.length) (xs := []) (news := za d.ws) (L' := fun v65 => (.row 32 2 (v65) (0 + d.ws.length) ([] ++ za d.ws) :: .row 73 3 (.slice (some ⟨g61, 0, none⟩) ds.length ca60) ds.length (obD ds) :: .obj g11 (.cells #[.int .i64 e1, .bool e2] 32) :: .obj g6 (.cells #[.int .i64 0, .int .i64 0, .int .i64 0, .slice none 0 0] 30) :: .obj g4 (.cells #[.int .i64 c1, .bool true] 32) :: .obj g2 (.cells #[.int .i64 (((ss : Nat) : Int)), .int .i64 (((ls : Nat) : Int)), .int .i64 (((last : Nat) : Int)), .slice so ds.length ca] 30) :: [])) A rfl rfl rfl (xi (z := .agg #[.int .i64 0, .bool false]) (sz := 2) (by_ := 16) Try.underlying68 (by kernel_rfl) rfl rfl rfl M 0 rfl rfl rfl (xy d.ws) ((hO.wrd d hdm).below M.bel) (ko d.ws) (by omega)) (fun _ => rfl) ?_
  intro v65 w66 M a A
  replace M : Mg w w66 (.row 32 2 (v65) d.ws.length (za d.ws) :: .row 73 3 (.slice (some ⟨g61, 0, none⟩) ds.length ca60) ds.length (obD ds) :: .obj g11 (.cells #[.int .i64 e1, .bool e2] 32) :: .obj g6 (.cells #[.int .i64 0, .int .i64 0, .int .i64 0, .slice none 0 0] 30) :: .obj g4 (.cells #[.int .i64 c1, .bool true] 32) :: .obj g2 (.cells #[.int .i64 (((ss : Nat) : Int)), .int .i64 (((ls : Nat) : Int)), .int .i64 (((last : Nat) : Int)), .slice so ds.length ca] 30) :: []) := by
   rw [Nat.zero_add, List.nil_append] at M; exact M
  obtain ⟨so67, ca68, rfl⟩ := zx (M.has 0 rfl)
  obtain ⟨g69, rfl⟩ := zy (M.has 0 rfl) (by omega)
  refine sda A λa A↦?_
  refine qb (hK62 _ _ (wsk fun K70 hK70 => wrl ?_))
  iterate 2 refine sdm A λa A↦?_
  refine sdo A (qq M HdD_isS_32 rfl 4 rfl (cs := [.int .i64 c1, .bool true]) rfl rfl) λa A↦?_
  refine sdo (v := .pointer (some ⟨g69, j * 2, none⟩)) A (ze (k := j) Try.underlying68 (by kernel_rfl) rfl rfl hj (by omega)) λa A↦?_
  refine jx (us := []) (L' := (.row 32 2 (.slice (some ⟨g69, 0, none⟩) d.ws.length ca68) d.ws.length (za (d.ws.set j (c1, true))) :: .row 73 3 (.slice (some ⟨g61, 0, none⟩) ds.length ca60) ds.length (obD ds) :: .obj g11 (.cells #[.int .i64 e1, .bool e2] 32) :: .obj g6 (.cells #[.int .i64 0, .int .i64 0, .int .i64 0, .slice none 0 0] 30) :: .obj g4 (.cells #[.int .i64 c1, .bool true] 32) :: .obj g2 (.cells #[.int .i64 (((ss : Nat) : Int)), .int .i64 (((ls : Nat) : Int)), .int .i64 (((last : Nat) : Int)), .slice so ds.length ca] 30) :: [])) A M rfl rfl (jq (cs := [.int .i64 c1, .bool true]) rfl rfl rfl (by kernel_rfl) M 0 rfl (by show _ + 2 ≤ _; omega) rfl) 0 rfl (by rw [xz _ _ hjl]; rfl) ?_
  intro w71 M
  refine qb (hK70 _ _ (wsk fun K72 hK72 => wrl ?_))
  iterate 3 refine sdm A λa A↦?_
  refine sdo (v := .pointer (some ⟨g61, k * 3, none⟩)) A (ze (k := k) Try.underlying28 (by kernel_rfl) rfl rfl hx (by omega)) λa A↦?_
  refine sdo (v := .pointer (some ⟨g61, k * 3 + 2, none⟩)) A (qd HdD_fld_73_2 rfl rfl) λa A↦?_
  refine jx (us := []) (L' := (.row 32 2 (.slice (some ⟨g69, 0, none⟩) d.ws.length ca68) d.ws.length (za (d.ws.set j (c1, true))) :: .row 73 3 (.slice (some ⟨g61, 0, none⟩) ds.length ca60) ds.length (obD (ds.set k (d.anew g69 ca68 j (c1, true)))) :: .obj g11 (.cells #[.int .i64 e1, .bool e2] 32) :: .obj g6 (.cells #[.int .i64 0, .int .i64 0, .int .i64 0, .slice none 0 0] 30) :: .obj g4 (.cells #[.int .i64 c1, .bool true] 32) :: .obj g2 (.cells #[.int .i64 (((ss : Nat) : Int)), .int .i64 (((ls : Nat) : Int)), .int .i64 (((last : Nat) : Int)), .slice so ds.length ca] 30) :: [])) A M rfl rfl (jq (cs := [.slice (some ⟨g69, 0, none⟩) d.ws.length ca68]) rfl rfl rfl (by kernel_rfl) M 1 rfl (by show _ + 1 ≤ _; omega) rfl) 1 rfl (by rw [qcf hk g69 ca68 j (c1, true)]; rfl) ?_
  intro w73 M
  refine qb (hK72 _ _ (wsk fun K74 hK74 => wrl (sdm A λa A↦?_)))
  refine sdo (v := .pointer (some ⟨g2, 3, none⟩)) A (qd HdD_fld_30_3 rfl rfl) λa A↦?_
  refine qs (us := [.int .i64 (((ss : Nat) : Int)), .int .i64 (((ls : Nat) : Int)), .int .i64 (((last : Nat) : Int)), .slice (some ⟨g61, 0, none⟩) ds.length ca60]) (L' := (.row 32 2 (.slice (some ⟨g69, 0, none⟩) d.ws.length ca68) d.ws.length (za (d.ws.set j (c1, true))) :: .row 73 3 (.slice (some ⟨g61, 0, none⟩) ds.length ca60) ds.length (obD (ds.set k (d.anew g69 ca68 j (c1, true)))) :: .obj g11 (.cells #[.int .i64 e1, .bool e2] 32) :: .obj g6 (.cells #[.int .i64 0, .int .i64 0, .int .i64 0, .slice none 0 0] 30) :: .obj g4 (.cells #[.int .i64 c1, .bool true] 32) :: .obj g2 (.cells #[.int .i64 (((ss : Nat) : Int)), .int .i64 (((ls : Nat) : Int)), .int .i64 (((last : Nat) : Int)), .slice (some ⟨g61, 0, none⟩) ds.length ca60] 30) :: [])) A M rfl rfl (qo rfl rfl rfl (by kernel_rfl) M 5 rfl rfl rfl) 5 rfl rfl rfl ?_
  intro w76 M
  refine qb (hK74 _ _ (wsk fun K77 hK77 => zn (S := fun w1 => Mg w w1 (.obj g2 (.cells #[.int .i64 (((ss : Nat) : Int)), .int .i64 (((ls : Nat) : Int)), .int .i64 (((last : Nat) : Int)), .slice (some ⟨g61, 0, none⟩) ds.length ca60] 30) :: [])) (by kernel_rfl) ?_))
  replace M := M.drew
  refine qf A 0 rfl rfl rfl rfl hP (M.sub (cn (cn (cn (cn (cn (cc (List.nil_sublist _)))))))) (fun w1 M => qq M HdD_isS_30 rfl 0 rfl (cs := [.int .i64 (((ss : Nat) : Int)), .int .i64 (((ls : Nat) : Int)), .int .i64 (((last : Nat) : Int)), .slice (some ⟨g61, 0, none⟩) ds.length ca60]) rfl rfl) λa A↦?_
  refine qf A 1 rfl rfl rfl rfl hP (M.sub (cn (cn (cn (cn (cn (cc (List.nil_sublist _)))))))) (fun w1 M => qz rfl) λa A↦?_
  refine zd (by kernel_rfl) (jh (us := [.int .i64 (((ss : Nat) : Int)), .int .i64 (((ls : Nat) : Int)), .int .i64 (((last : Nat) : Int)), .slice (some ⟨g61, 0, none⟩) ds.length ca60]) (L' := (.row 32 2 (.slice (some ⟨g69, 0, none⟩) d.ws.length ca68) d.ws.length (za (d.ws.set j (c1, true))) :: .row 73 3 (.slice (some ⟨g61, 0, none⟩) ds.length ca60) ds.length (obD (ds.set k (d.anew g69 ca68 j (c1, true)))) :: .obj g11 (.cells #[.int .i64 e1, .bool e2] 32) :: .obj g6 (.cells #[.int .i64 (((ss : Nat) : Int)), .int .i64 (((ls : Nat) : Int)), .int .i64 (((last : Nat) : Int)), .slice (some ⟨g61, 0, none⟩) ds.length ca60] 30) :: .obj g4 (.cells #[.int .i64 c1, .bool true] 32) :: .obj g2 (.cells #[.int .i64 (((ss : Nat) : Int)), .int .i64 (((ls : Nat) : Int)), .int .i64 (((last : Nat) : Int)), .slice (some ⟨g61, 0, none⟩) ds.length ca60] 30) :: [])) A M 2 rfl rfl rfl (qo rfl rfl rfl (by kernel_rfl) M 3 rfl rfl rfl) 3 rfl rfl rfl ?_)
  intro w79 M
  refine ⟨(M.sub (cn (cn (cn (cn (cn (cc (List.nil_sublist _)))))))), ?_⟩
  refine zi (by kernel_rfl) ?_
  refine hK77 _ _ (wp_ret (hret _ _ (en2 A rfl (qi rfl) (zk M HdD_isS_30 rfl 3 rfl (cs := [.int .i64 (((ss : Nat) : Int)), .int .i64 (((ls : Nat) : Int)), .int .i64 (((last : Nat) : Int)), .slice (some ⟨g61, 0, none⟩) ds.length ca60]) rfl rfl) ?_)))
  replace M : Mg w w79 (.row 73 3 (.slice (some ⟨g61, 0, none⟩) ds.length ca60) ds.length (obD (ds.set k (d.anew g69 ca68 j (c1, true)))) :: .row 32 2 (.slice (some ⟨g69, 0, none⟩) d.ws.length ca68) d.ws.length (za (d.ws.set j (c1, true))) :: .obj g11 (.cells #[.int .i64 e1, .bool e2] 32) :: .obj g6 (.cells #[.int .i64 (((ss : Nat) : Int)), .int .i64 (((ls : Nat) : Int)), .int .i64 (((last : Nat) : Int)), .slice (some ⟨g61, 0, none⟩) ds.length ca60] 30) :: .obj g4 (.cells #[.int .i64 c1, .bool true] 32) :: .obj g2 (.cells #[.int .i64 (((ss : Nat) : Int)), .int .i64 (((ls : Nat) : Int)), .int .i64 (((last : Nat) : Int)), .slice (some ⟨g61, 0, none⟩) ds.length ca60] 30) :: []) := M.bring 1 rfl rfl
  replace M : Mg w w79 (.row 73 3 (.slice (some ⟨g61, 0, none⟩) ds.length ca60) ds.length (obD (ds.set k (d.anew g69 ca68 j (c1, true)))) :: .row 32 2 (.slice (some ⟨g69, 0, none⟩) d.ws.length ca68) d.ws.length (za (d.ws.set j (c1, true))) :: []) := by
   have h9 := M.sub (cc (cc (cn (cn (cn (cn (.refl _)))))))
   exact h9
  exact ⟨_, _, _, _, rfl, M⟩
theorem qdb {w : World} {ss ls last ca : Nat} {so : Option Addr} {ds : List Ob} (hO : RO w so ds) (hol : ds.length ≤ 1000000) (hq : ∀ d ∈ ds, d.p + d.ws.length ≤ 1000000) {x : Int} {i c1 : Int} {j k : Nat} {d : Ob} (hx : ixO x ds = ((k : Nat) : Int)) (hk : ds[k]? = some d) (hj : i = ((j : Nat) : Int)) (hjl : j < d.ws.length) : Calls Try.prog 11 #[.agg #[.int .i64 ((ss : Nat) : Int), .int .i64 ((ls : Nat) : Int), .int .i64 ((last : Nat) : Int), .slice so ds.length ca], .int .i64 x, .int .i64 i, .agg #[.int .i64 c1, .bool false]] w fun e w' => ∃ so' ca' g c, e = .returned (.tuple #[.int .i64 0, .agg #[.int .i64 ((ss : Nat) : Int), .int .i64 ((ls : Nat) : Int), .int .i64 ((last : Nat) : Int), .slice so' ds.length ca']]) ∧ Mg w w' [.row 73 3 (.slice so' ds.length ca') ds.length (obD (ds.set k (d.anew g c j (c1, false)))), .row 32 2 (.slice (some ⟨g, 0, none⟩) d.ws.length c) d.ws.length (za (d.ws.set j (c1, false)))] := by
 obtain ⟨⟨e1, e2⟩, hcc⟩ : ∃ c, d.ws[j]? = some c := ⟨d.ws[j], List.getElem?_eq_getElem hjl⟩
 have hdm := List.mem_of_getElem? hk
 have hkl := (List.getElem?_eq_some_iff.1 hk).1
 have hqd := hq d hdm
 have M : Mg w w ([]) := Mg.start w
 refine qp (l := [(0, .agg #[.int .i64 (((ss : Nat) : Int)), .int .i64 (((ls : Nat) : Int)), .int .i64 (((last : Nat) : Int)), .slice so ds.length ca]), (1, .int .i64 x), (2, .int .i64 i), (3, .agg #[.int .i64 c1, .bool false])]) Try.func11 rfl Try.ntmps11 rfl rfl ?_
 intro Q hret hnorm hP a A
 refine wsk fun K1 hK1 => wrl (qt (vs := [.int .i64 (((ss : Nat) : Int)), .int .i64 (((ls : Nat) : Int)), .int .i64 (((last : Nat) : Int)), .slice so ds.length ca]) (t := 30) A M rfl rfl rfl pg (qw rfl rfl) (by decide) ?_)
 intro g2 w3 M a A
 refine qt (vs := [.int .i64 c1, .bool false]) (t := 32) A M rfl rfl rfl pg (qw rfl rfl) (by decide) ?_
 intro g4 w5 M a A
 refine sda A λa A↦?_
 refine qt (vs := [.int .i64 0, .int .i64 0, .int .i64 0, .slice none 0 0]) (t := 30) A M rfl rfl rfl pg (ql (z := .agg #[.int .i64 0, .int .i64 0, .int .i64 0, .slice none 0 0]) (by kernel_rfl) rfl) (by decide) ?_
 intro g6 w7 M a A
 refine qb (hK1 _ _ (wsk fun K8 hK8 => wrl (sdo A (qq M HdD_isS_30 rfl 2 rfl (cs := [.int .i64 (((ss : Nat) : Int)), .int .i64 (((ls : Nat) : Int)), .int .i64 (((last : Nat) : Int)), .slice so ds.length ca]) rfl rfl) λa A↦?_)))
 iterate 2 refine sdm A λa A↦?_
 refine gcl A M (ef rfl rfl) (yv (hO.below M.bel) hol hq hx hk hj hcc) fun w10 hb9 M a A => ?_
 refine sdm A λa A↦?_
 iterate 2 refine sdo A (qk (vs := [.agg #[.int .i64 e1, .bool e2], .int .i64 0]) rfl rfl) λa A↦?_
 refine qt (vs := [.int .i64 0, .bool false]) (t := 32) A M rfl rfl rfl pg (ql (z := .agg #[.int .i64 0, .bool false]) (by kernel_rfl) rfl) (by decide) ?_
 intro g11 w12 M a A
 refine qs (us := [.int .i64 e1, .bool e2]) (L' := (.obj g11 (.cells #[.int .i64 e1, .bool e2] 32) :: .obj g6 (.cells #[.int .i64 0, .int .i64 0, .int .i64 0, .slice none 0 0] 30) :: .obj g4 (.cells #[.int .i64 c1, .bool false] 32) :: .obj g2 (.cells #[.int .i64 (((ss : Nat) : Int)), .int .i64 (((ls : Nat) : Int)), .int .i64 (((last : Nat) : Int)), .slice so ds.length ca] 30) :: [])) A M rfl rfl (qo rfl rfl rfl (by kernel_rfl) M 0 rfl rfl rfl) 0 rfl rfl rfl ?_
 intro w14 M
 refine sda A λa A↦?_
 refine qb (hK8 _ _ (wsk fun K15 hK15 => wsk fun K16 hK16 => wrl (sdm A λa A↦?_)))
 refine sdo (v := .bool false) A (qe rfl rfl (fun w => by kernel_rfl)) λa A↦?_
 refine qb (hK16 _ _ (wp_cond_false (A.ev rfl) ?_))
 refine wp_skip (hK15 _ _ (wsk fun K17 hK17 => wsk fun K18 hK18 => wrl (sdo (v := .pointer (some ⟨g4, 1, none⟩)) A (qd HdD_fld_32_1 rfl rfl) λa A↦?_)))
 refine sdo A (qh M HdD_is1_4 rfl 2 rfl rfl) λa A↦?_
 refine sdm A λa A↦?_
 iterate 3 refine zj A rfl rfl rfl λa A↦?_
 refine sdk (v := .bool false) A λa A↦?_
 refine sdm A λa A↦?_
 iterate 5 refine zj A rfl rfl rfl λa A↦?_
 refine sdk (v := .bool false) A λa A↦?_
 refine qb (hK18 _ _ (wp_cond_false (A.ev rfl) ?_))
 refine wp_skip (hK17 _ _ (wsk fun K19 hK19 => wrl (sdo A (qq M HdD_isS_30 rfl 3 rfl (cs := [.int .i64 (((ss : Nat) : Int)), .int .i64 (((ls : Nat) : Int)), .int .i64 (((last : Nat) : Int)), .slice so ds.length ca]) rfl rfl) λa A↦?_)))
 refine sdm A λa A↦?_
 refine gcl A M (ef rfl rfl) (ja (hO.below M.bel) hol hq) fun w21 hb20 M a A => ?_
 refine sda A λa A↦?_
 refine qb (hK19 _ _ (wsk fun K22 hK22 => wrl (jm (e := 73) (sz := 3) (m := 0) (vs := []) A M rfl rfl rfl (qx rfl (by kernel_rfl)) rfl rfl (.inl (by decide)) ?_)))
 intro g23 w24 M a A
 refine sdo (v := .pointer (some ⟨g2, 3, none⟩)) A (qd HdD_fld_30_3 rfl rfl) λa A↦?_
 refine sdo A (qh M HdD_is1_28 rfl 4 rfl rfl) λa A↦?_
 refine zz (e := 73) (sz := 3) (k := 0) (q := 0) (m := ds.length) (xs := []) (news := obD ds) (L' := fun v25 => (.row 73 3 (v25) (0 + ds.length) ([] ++ obD ds) :: .obj g11 (.cells #[.int .i64 e1, .bool e2] 32) :: .obj g6 (.cells #[.int .i64 0, .int .i64 0, .int .i64 0, .slice none 0 0] 30) :: .obj g4 (.cells #[.int .i64 c1, .bool false] 32) :: .obj g2 (.cells #[.int .i64 (((ss : Nat) : Int)), .int .i64 (((ls : Nat) : Int)), .int .i64 (((last : Nat) : Int)), .slice so ds.length ca] 30) :: [])) A rfl rfl rfl (xi (z := .agg #[.int .i64 0, .int .i64 0, .slice none 0 0]) (sz := 3) (by_ := 40) Try.underlying28 (by kernel_rfl) rfl rfl rfl M 0 rfl rfl rfl (kn ds) (hO.row.below M.bel) (yu ds) (by omega)) (fun _ => rfl) ?_
 intro v25 w26 M a A
 replace M : Mg w w26 (.row 73 3 (v25) ds.length (obD ds) :: .obj g11 (.cells #[.int .i64 e1, .bool e2] 32) :: .obj g6 (.cells #[.int .i64 0, .int .i64 0, .int .i64 0, .slice none 0 0] 30) :: .obj g4 (.cells #[.int .i64 c1, .bool false] 32) :: .obj g2 (.cells #[.int .i64 (((ss : Nat) : Int)), .int .i64 (((ls : Nat) : Int)), .int .i64 (((last : Nat) : Int)), .slice so ds.length ca] 30) :: []) := by
  rw [Nat.zero_add, List.nil_append] at M; exact M
 obtain ⟨so27, ca28, rfl⟩ := zx (M.has 0 rfl)
 obtain ⟨g29, rfl⟩ := zy (M.has 0 rfl) (by omega)
 refine sda A λa A↦?_
 refine qb (hK22 _ _ (wsk fun K30 hK30 => wrl (jm (e := 32) (sz := 2) (m := 0) (vs := []) A M rfl rfl rfl (qx rfl (by kernel_rfl)) rfl rfl (.inl (by decide)) ?_)))
 intro g31 w32 M a A
 iterate 2 refine sdm A λa A↦?_
 refine sdo (v := .pointer (some ⟨g29, k * 3, none⟩)) A (ze (k := k) Try.underlying28 (by kernel_rfl) rfl rfl hx (by omega)) λa A↦?_
 refine sdo (v := .pointer (some ⟨g29, k * 3 + 2, none⟩)) A (qd HdD_fld_73_2 rfl rfl) λa A↦?_
 refine sdo A (xr M 1 rfl (qca hk).2.2 HdD_is1_68 rfl) λa A↦?_
 refine zz (e := 32) (sz := 2) (k := 0) (q := 0) (m := d.ws.length) (xs := []) (news := za d.ws) (L' := fun v33 => (.row 32 2 (v33) (0 + d.ws.length) ([] ++ za d.ws) :: .row 73 3 (.slice (some ⟨g29, 0, none⟩) ds.length ca28) ds.length (obD ds) :: .obj g11 (.cells #[.int .i64 e1, .bool e2] 32) :: .obj g6 (.cells #[.int .i64 0, .int .i64 0, .int .i64 0, .slice none 0 0] 30) :: .obj g4 (.cells #[.int .i64 c1, .bool false] 32) :: .obj g2 (.cells #[.int .i64 (((ss : Nat) : Int)), .int .i64 (((ls : Nat) : Int)), .int .i64 (((last : Nat) : Int)), .slice so ds.length ca] 30) :: [])) A rfl rfl rfl (xi (z := .agg #[.int .i64 0, .bool false]) (sz := 2) (by_ := 16) Try.underlying68 (by kernel_rfl) rfl rfl rfl M 0 rfl rfl rfl (xy d.ws) ((hO.wrd d hdm).below M.bel) (ko d.ws) (by omega)) (fun _ => rfl) ?_
 intro v33 w34 M a A
 replace M : Mg w w34 (.row 32 2 (v33) d.ws.length (za d.ws) :: .row 73 3 (.slice (some ⟨g29, 0, none⟩) ds.length ca28) ds.length (obD ds) :: .obj g11 (.cells #[.int .i64 e1, .bool e2] 32) :: .obj g6 (.cells #[.int .i64 0, .int .i64 0, .int .i64 0, .slice none 0 0] 30) :: .obj g4 (.cells #[.int .i64 c1, .bool false] 32) :: .obj g2 (.cells #[.int .i64 (((ss : Nat) : Int)), .int .i64 (((ls : Nat) : Int)), .int .i64 (((last : Nat) : Int)), .slice so ds.length ca] 30) :: []) := by
  rw [Nat.zero_add, List.nil_append] at M; exact M
 obtain ⟨so35, ca36, rfl⟩ := zx (M.has 0 rfl)
 obtain ⟨g37, rfl⟩ := zy (M.has 0 rfl) (by omega)
 refine sda A λa A↦?_
 refine qb (hK30 _ _ (wsk fun K38 hK38 => wrl ?_))
 iterate 2 refine sdm A λa A↦?_
 refine sdo A (qq M HdD_isS_32 rfl 4 rfl (cs := [.int .i64 c1, .bool false]) rfl rfl) λa A↦?_
 refine sdo (v := .pointer (some ⟨g37, j * 2, none⟩)) A (ze (k := j) Try.underlying68 (by kernel_rfl) rfl rfl hj (by omega)) λa A↦?_
 refine jx (us := []) (L' := (.row 32 2 (.slice (some ⟨g37, 0, none⟩) d.ws.length ca36) d.ws.length (za (d.ws.set j (c1, false))) :: .row 73 3 (.slice (some ⟨g29, 0, none⟩) ds.length ca28) ds.length (obD ds) :: .obj g11 (.cells #[.int .i64 e1, .bool e2] 32) :: .obj g6 (.cells #[.int .i64 0, .int .i64 0, .int .i64 0, .slice none 0 0] 30) :: .obj g4 (.cells #[.int .i64 c1, .bool false] 32) :: .obj g2 (.cells #[.int .i64 (((ss : Nat) : Int)), .int .i64 (((ls : Nat) : Int)), .int .i64 (((last : Nat) : Int)), .slice so ds.length ca] 30) :: [])) A M rfl rfl (jq (cs := [.int .i64 c1, .bool false]) rfl rfl rfl (by kernel_rfl) M 0 rfl (by show _ + 2 ≤ _; omega) rfl) 0 rfl (by rw [xz _ _ hjl]; rfl) ?_
 intro w39 M
 refine qb (hK38 _ _ (wsk fun K40 hK40 => wrl ?_))
 iterate 3 refine sdm A λa A↦?_
 refine sdo (v := .pointer (some ⟨g29, k * 3, none⟩)) A (ze (k := k) Try.underlying28 (by kernel_rfl) rfl rfl hx (by omega)) λa A↦?_
 refine sdo (v := .pointer (some ⟨g29, k * 3 + 2, none⟩)) A (qd HdD_fld_73_2 rfl rfl) λa A↦?_
 refine jx (us := []) (L' := (.row 32 2 (.slice (some ⟨g37, 0, none⟩) d.ws.length ca36) d.ws.length (za (d.ws.set j (c1, false))) :: .row 73 3 (.slice (some ⟨g29, 0, none⟩) ds.length ca28) ds.length (obD (ds.set k (d.anew g37 ca36 j (c1, false)))) :: .obj g11 (.cells #[.int .i64 e1, .bool e2] 32) :: .obj g6 (.cells #[.int .i64 0, .int .i64 0, .int .i64 0, .slice none 0 0] 30) :: .obj g4 (.cells #[.int .i64 c1, .bool false] 32) :: .obj g2 (.cells #[.int .i64 (((ss : Nat) : Int)), .int .i64 (((ls : Nat) : Int)), .int .i64 (((last : Nat) : Int)), .slice so ds.length ca] 30) :: [])) A M rfl rfl (jq (cs := [.slice (some ⟨g37, 0, none⟩) d.ws.length ca36]) rfl rfl rfl (by kernel_rfl) M 1 rfl (by show _ + 1 ≤ _; omega) rfl) 1 rfl (by rw [qcf hk g37 ca36 j (c1, false)]; rfl) ?_
 intro w41 M
 refine qb (hK40 _ _ (wsk fun K42 hK42 => wrl (sdm A λa A↦?_)))
 refine sdo (v := .pointer (some ⟨g2, 3, none⟩)) A (qd HdD_fld_30_3 rfl rfl) λa A↦?_
 refine qs (us := [.int .i64 (((ss : Nat) : Int)), .int .i64 (((ls : Nat) : Int)), .int .i64 (((last : Nat) : Int)), .slice (some ⟨g29, 0, none⟩) ds.length ca28]) (L' := (.row 32 2 (.slice (some ⟨g37, 0, none⟩) d.ws.length ca36) d.ws.length (za (d.ws.set j (c1, false))) :: .row 73 3 (.slice (some ⟨g29, 0, none⟩) ds.length ca28) ds.length (obD (ds.set k (d.anew g37 ca36 j (c1, false)))) :: .obj g11 (.cells #[.int .i64 e1, .bool e2] 32) :: .obj g6 (.cells #[.int .i64 0, .int .i64 0, .int .i64 0, .slice none 0 0] 30) :: .obj g4 (.cells #[.int .i64 c1, .bool false] 32) :: .obj g2 (.cells #[.int .i64 (((ss : Nat) : Int)), .int .i64 (((ls : Nat) : Int)), .int .i64 (((last : Nat) : Int)), .slice (some ⟨g29, 0, none⟩) ds.length ca28] 30) :: [])) A M rfl rfl (qo rfl rfl rfl (by kernel_rfl) M 5 rfl rfl rfl) 5 rfl rfl rfl ?_
 intro w44 M
 refine qb (hK42 _ _ (wsk fun K45 hK45 => zn (S := fun w1 => Mg w w1 (.obj g2 (.cells #[.int .i64 (((ss : Nat) : Int)), .int .i64 (((ls : Nat) : Int)), .int .i64 (((last : Nat) : Int)), .slice (some ⟨g29, 0, none⟩) ds.length ca28] 30) :: [])) (by kernel_rfl) ?_))
 replace M := M.drew
 refine qf A 0 rfl rfl rfl rfl hP (M.sub (cn (cn (cn (cn (cn (cc (List.nil_sublist _)))))))) (fun w1 M => qq M HdD_isS_30 rfl 0 rfl (cs := [.int .i64 (((ss : Nat) : Int)), .int .i64 (((ls : Nat) : Int)), .int .i64 (((last : Nat) : Int)), .slice (some ⟨g29, 0, none⟩) ds.length ca28]) rfl rfl) λa A↦?_
 refine qf A 1 rfl rfl rfl rfl hP (M.sub (cn (cn (cn (cn (cn (cc (List.nil_sublist _)))))))) (fun w1 M => qz rfl) λa A↦?_
 refine zd (by kernel_rfl) (jh (us := [.int .i64 (((ss : Nat) : Int)), .int .i64 (((ls : Nat) : Int)), .int .i64 (((last : Nat) : Int)), .slice (some ⟨g29, 0, none⟩) ds.length ca28]) (L' := (.row 32 2 (.slice (some ⟨g37, 0, none⟩) d.ws.length ca36) d.ws.length (za (d.ws.set j (c1, false))) :: .row 73 3 (.slice (some ⟨g29, 0, none⟩) ds.length ca28) ds.length (obD (ds.set k (d.anew g37 ca36 j (c1, false)))) :: .obj g11 (.cells #[.int .i64 e1, .bool e2] 32) :: .obj g6 (.cells #[.int .i64 (((ss : Nat) : Int)), .int .i64 (((ls : Nat) : Int)), .int .i64 (((last : Nat) : Int)), .slice (some ⟨g29, 0, none⟩) ds.length ca28] 30) :: .obj g4 (.cells #[.int .i64 c1, .bool false] 32) :: .obj g2 (.cells #[.int .i64 (((ss : Nat) : Int)), .int .i64 (((ls : Nat) : Int)), .int .i64 (((last : Nat) : Int)), .slice (some ⟨g29, 0, none⟩) ds.length ca28] 30) :: [])) A M 2 rfl rfl rfl (qo rfl rfl rfl (by kernel_rfl) M 3 rfl rfl rfl) 3 rfl rfl rfl ?_)
 intro w47 M
 refine ⟨(M.sub (cn (cn (cn (cn (cn (cc (List.nil_sublist _)))))))), ?_⟩
 refine zi (by kernel_rfl) ?_
 refine hK45 _ _ (wp_ret (hret _ _ (en2 A rfl (qi rfl) (zk M HdD_isS_30 rfl 3 rfl (cs := [.int .i64 (((ss : Nat) : Int)), .int .i64 (((ls : Nat) : Int)), .int .i64 (((last : Nat) : Int)), .slice (some ⟨g29, 0, none⟩) ds.length ca28]) rfl rfl) ?_)))
 replace M : Mg w w47 (.row 73 3 (.slice (some ⟨g29, 0, none⟩) ds.length ca28) ds.length (obD (ds.set k (d.anew g37 ca36 j (c1, false)))) :: .row 32 2 (.slice (some ⟨g37, 0, none⟩) d.ws.length ca36) d.ws.length (za (d.ws.set j (c1, false))) :: .obj g11 (.cells #[.int .i64 e1, .bool e2] 32) :: .obj g6 (.cells #[.int .i64 (((ss : Nat) : Int)), .int .i64 (((ls : Nat) : Int)), .int .i64 (((last : Nat) : Int)), .slice (some ⟨g29, 0, none⟩) ds.length ca28] 30) :: .obj g4 (.cells #[.int .i64 c1, .bool false] 32) :: .obj g2 (.cells #[.int .i64 (((ss : Nat) : Int)), .int .i64 (((ls : Nat) : Int)), .int .i64 (((last : Nat) : Int)), .slice (some ⟨g29, 0, none⟩) ds.length ca28] 30) :: []) := M.bring 1 rfl rfl
 replace M : Mg w w47 (.row 73 3 (.slice (some ⟨g29, 0, none⟩) ds.length ca28) ds.length (obD (ds.set k (d.anew g37 ca36 j (c1, false)))) :: .row 32 2 (.slice (some ⟨g37, 0, none⟩) d.ws.length ca36) d.ws.length (za (d.ws.set j (c1, false))) :: []) := by
  have h9 := M.sub (cc (cc (cn (cn (cn (cn (.refl _)))))))
  exact h9
 exact ⟨_, _, _, _, rfl, M⟩
theorem HdE_is1_28 : Is1 Try.prog 28 := ⟨⟨_, Try.underlying28, rfl⟩, by kernel_rfl⟩
theorem HdE_is1_3 : Is1 Try.prog 3 := ⟨⟨_, Try.underlying3, rfl⟩, by kernel_rfl⟩
theorem HdE_is1_4 : Is1 Try.prog 4 := ⟨⟨_, Try.underlying4, rfl⟩, by kernel_rfl⟩
theorem HdE_is1_68 : Is1 Try.prog 68 := ⟨⟨_, Try.underlying68, rfl⟩, by kernel_rfl⟩
theorem HdE_fld_30_3 : FieldAt Try.prog 30 3 3 := ⟨_, _, Try.underlying30, rfl, rfl, by kernel_rfl⟩
theorem HdE_fld_32_0 : FieldAt Try.prog 32 0 0 := ⟨_, _, Try.underlying32, rfl, rfl, by kernel_rfl⟩
theorem HdE_fld_32_1 : FieldAt Try.prog 32 1 1 := ⟨_, _, Try.underlying32, rfl, rfl, by kernel_rfl⟩
theorem HdE_fld_73_2 : FieldAt Try.prog 73 2 2 := ⟨_, _, Try.underlying73, rfl, rfl, by kernel_rfl⟩
theorem HdE_isS_30 : IsS Try.prog 30 4 := ⟨⟨_, Try.underlying30⟩, by kernel_rfl⟩
theorem HdE_isS_32 : IsS Try.prog 32 2 := ⟨⟨_, Try.underlying32⟩, by kernel_rfl⟩
theorem no_ob {ds : List Ob} {l0 : Nat} (hx : Hx ds l0) {z : Int} (h : ¬ 0 ≤ ixO z ds) {i : Nat} {d : Ob} (hd : ds[i]? = some d) : ((d.x : Nat) : Int) ≠ z := fun e => by
 rcases qcb z ds with ⟨a1, a2, a3, _⟩ | ⟨a3, a4⟩
 ·
  omega
 ·
  have := hx.at (List.mem_of_getElem? hd)
  rw [e, a4] at this
  cases this
theorem yes_ob {ds : List Ob} {z : Int} (h : 0 ≤ ixO z ds) : ∃ (k : Nat) (d : Ob), ixO z ds = ((k : Nat) : Int) ∧ ds[k]? = some d ∧ ((d.x : Nat) : Int) = z := by
 rcases qcb z ds with ⟨k, d, h1, h2, h3, _⟩ | ⟨a3, a4⟩
 ·
  exact ⟨k, d, h1, h2, h3⟩
 ·
  omega
def cf (bs : List Bool) : Nat := bs.count false
theorem cf_set {bs : List Bool} {k : Nat} (h : bs[k]? = some false) : cf (bs.set k true) < cf bs := by
 unfold cf
 induction bs generalizing k with
 | nil => simp at h
 | cons b t ih =>
  cases k with
  | zero => simp at h; subst h; simp
  | succ k =>
   have := ih (k := k) (by simpa using h)
   rw [List.set_cons_succ, List.count_cons, List.count_cons]
   omega
theorem set_up {bs : List Bool} {k i : Nat} (h : bs[i]? = some true) : (bs.set k true)[i]? = some true := by
 by_cases e : k = i
 ·
  subst e; rw [List.getElem?_set_self (List.getElem?_eq_some_iff.1 h).1]
 ·
  rw [List.getElem?_set_ne e]; exact h
/-- What is marked is reached. -/
def MkS (ds : List Ob) (rs : List Int) (bs : List Bool) : Prop := ∀ (i : Nat) (d : Ob), bs[i]? = some true → ds[i]? = some d → Rc ds rs ((d.x : Nat) : Int)
theorem MkS.zero (ds : List Ob) (rs : List Int) (n : Nat) : MkS ds rs (List.replicate n false) := fun i d h => by
 rw [List.getElem?_replicate] at h
 split at h <;> simp at h
theorem MkS.set {ds : List Ob} {rs : List Int} {bs : List Bool} (h : MkS ds rs bs) {k : Nat} {d : Ob} (hd : ds[k]? = some d) (hr : Rc ds rs ((d.x : Nat) : Int)) : MkS ds rs (bs.set k true) := fun i e hi he => by
 by_cases q : k = i
 ·
  subst q; rw [hd] at he; cases he; exact hr
 ·
  rw [List.getElem?_set_ne q] at hi; exact h i e hi he
def MkR (ds : List Ob) (rs : List Int) (n : Nat) (bs : List Bool) : Prop := ∀ r ∈ rs.take n, ∀ (i : Nat) (d : Ob), ds[i]? = some d → ((d.x : Nat) : Int) = r → bs[i]? = some true
theorem MkR.up {ds : List Ob} {rs : List Int} {n : Nat} {bs : List Bool} (h : MkR ds rs n bs) (k : Nat) : MkR ds rs n (bs.set k true) := fun r hr i d hd hx => set_up (h r hr i d hd hx)
/-- What an object names is marked, as far as it was looked at. -/
def ClW (ds : List Ob) (bs : List Bool) (d : Ob) (j : Nat) : Prop := ∀ (y : Int), (y, true) ∈ d.ws.take j → ∀ (i : Nat) (e : Ob), ds[i]? = some e → ((e.x : Nat) : Int) = y → bs[i]? = some true
def ClA (ds : List Ob) (bs : List Bool) (n : Nat) : Prop := ∀ (i : Nat) (d : Ob), i < n → ds[i]? = some d → bs[i]? = some true → ClW ds bs d d.ws.length
theorem rise_at {ds : List Ob} {last : Nat} (hx : Hx ds last) {i k : Nat} {d e : Ob} (hd : ds[i]? = some d) (he : ds[k]? = some e) (hxx : ((d.x : Nat) : Int) = ((e.x : Nat) : Int)) : i = k := by
 obtain ⟨h1, h2⟩ := List.getElem?_eq_some_iff.1 hd
 obtain ⟨h3, h4⟩ := List.getElem?_eq_some_iff.1 he
 have hr := List.pairwise_iff_getElem.1 hx.rise
 rcases Nat.lt_trichotomy i k with h | h | h
 ·
  have := hr i k h1 h3 h; rw [h2, h4] at this; omega
 ·
  exact h
 ·
  have := hr k i h3 h1 h; rw [h2, h4] at this; omega
theorem ClW.step {ds : List Ob} {bs : List Bool} {d : Ob} {j : Nat} {z : Int} {b : Bool} (h : ClW ds bs d j) (hw : d.ws[j]? = some (z, b)) (hz : b = true → ∀ (i : Nat) (e : Ob), ds[i]? = some e → ((e.x : Nat) : Int) = z → bs[i]? = some true) : ClW ds bs d (j + 1) := fun y hy i e he hx => by
 rw [List.take_add_one, hw] at hy
 rcases List.mem_append.1 hy with k | k
 ·
  exact h y k i e he hx
 ·
  simp at k
  obtain ⟨rfl, rfl⟩ := k
  exact hz rfl i e he hx
theorem marked {ds : List Ob} {last : Nat} {rs ws : List Int} {bs : List Bool} (hx : Hx ds last) (hl : bs.length = ds.length) (V : MkS ds rs bs) (hR : MkR ds rs rs.length bs) (hC : ClA ds bs ds.length) (hW : ∀ x, x ∈ ws ↔ Rc ds rs x) : ∀ (i : Nat) (d : Ob), ds[i]? = some d → bs[i]? = some (decide (((d.x : Nat) : Int) ∈ ws)) := by
 have key : ∀ x, Rc ds rs x → ∀ (i : Nat) (d : Ob), ds[i]? = some d → ((d.x : Nat) : Int) = x → bs[i]? = some true := by
  intro x hr
  induction hr with
  | root h1 h2 => intro i d hd he; exact hR _ (by rw [List.take_length]; exact h1) i d hd he
  | ref h1 h2 h3 h4 ih =>
   intro i d hd he
   obtain ⟨m1, m2⟩ := yd h2
   obtain ⟨k, hk⟩ := List.mem_iff_getElem?.1 m1
   have hb := ih k _ hk m2
   exact hC k _ (List.getElem?_eq_some_iff.1 hk).1 hk hb _ (by rw [List.take_length]; exact h3) i d hd he
 intro i d hd
 by_cases h : ((d.x : Nat) : Int) ∈ ws
 ·
  rw [decide_eq_true h]; exact key _ ((hW _).1 h) i d hd rfl
 ·
  rw [decide_eq_false h]
  have hlt : i < bs.length := by rw [hl]; exact (List.getElem?_eq_some_iff.1 hd).1
  have e : bs[i]? = some bs[i] := List.getElem?_eq_getElem hlt
  cases hb : bs[i] with
  | true => rw [hb] at e; exact absurd ((hW _).2 (V i d e hd)) h
  | false => rw [hb] at e; exact e
set_option maxHeartbeats 1000000 in
theorem rreach_any {w : World} {ss ls last ca : Nat} {so : Option Addr} {ds : List Ob} (hO : RO w so ds) (hol : ds.length ≤ 1000000) (hq : ∀ d ∈ ds, d.p + d.ws.length ≤ 1000000) {sr : Option Addr} {cr : Nat} {rs : List Int} (hr : Ri w sr rs) (hrl : rs.length ≤ 17592186044416) {l0 : Nat} (hx : Hx ds l0) {ws : List Int} (hW : ∀ x, x ∈ ws ↔ Rc ds rs x) : Calls Try.prog 37 #[.agg #[.int .i64 ((ss : Nat) : Int), .int .i64 ((ls : Nat) : Int), .int .i64 ((last : Nat) : Int), .slice so ds.length ca], .slice sr rs.length cr] w fun e w' => ∃ so' ca' bs, e = .returned (.slice so' ds.length ca') ∧ ((bs : List Bool).length = ds.length ∧ ∀ (i : Nat) (d : Ob), ds[i]? = some d → bs[i]? = some (decide (((d.x : Nat) : Int) ∈ ws))) ∧ Mg w w' [.row 4 1 (.slice so' ds.length ca') ds.length (zb bs)] := by
 have M : Mg w w ([]) := Mg.start w
 refine qp (l := [(0, .agg #[.int .i64 (((ss : Nat) : Int)), .int .i64 (((ls : Nat) : Int)), .int .i64 (((last : Nat) : Int)), .slice so ds.length ca]), (1, .slice sr rs.length cr)]) Try.func37 rfl Try.ntmps37 rfl rfl ?_
 intro Q hret hnorm hP a A
 refine wsk fun K1 hK1 => wrl (qt (vs := [.int .i64 (((ss : Nat) : Int)), .int .i64 (((ls : Nat) : Int)), .int .i64 (((last : Nat) : Int)), .slice so ds.length ca]) (t := 30) A M rfl rfl rfl pg (qw rfl rfl) (by decide) ?_)
 intro g2 w3 M a A
 refine sda A λa A↦?_
 refine qb (hK1 _ _ (wsk fun K4 hK4 => wrl (sdo (v := .pointer (some ⟨g2, 3, none⟩)) A (qd HdE_fld_30_3 rfl rfl) λa A↦?_)))
 refine sdo A (qh M HdE_is1_28 rfl 0 rfl rfl) λa A↦?_
 refine sdo A (qv Try.underlying28 rfl) λa A↦?_
 refine s_makeE (z := .bool false) (sz := 1) (by_ := 1) (m := ds.length) A M Try.underlying83 (by kernel_rfl) rfl rfl rfl rfl rfl rfl (by omega) (by omega) (.inl (by decide)) ?_
 intro g9 w5 M a A
 replace M : Mg w w5 (.row 4 1 (.slice (some ⟨g9, 0, none⟩) ds.length ds.length) ds.length (zb (List.replicate ds.length false)) :: .obj g2 (.cells #[.int .i64 (((ss : Nat) : Int)), .int .i64 (((ls : Nat) : Int)), .int .i64 (((last : Nat) : Int)), .slice so ds.length ca] 30) :: []) := by rw [← boolC_made]; exact M
 refine sda A λa A↦?_
 refine qb (hK4 _ _ (wsk fun K6 hK6 => wsk fun K7 hK7 => wrl (sda A λa A↦?_)))
 refine qb (hK7 _ _ (wp_block ?_))
 replace M : Mg w w5 (.obj g2 (.cells #[.int .i64 (((ss : Nat) : Int)), .int .i64 (((ls : Nat) : Int)), .int .i64 (((last : Nat) : Int)), .slice so ds.length ca] 30) :: .row 4 1 (.slice (some ⟨g9, 0, none⟩) ds.length ds.length) ds.length (zb (List.replicate ds.length false)) :: []) := M.bring 1 rfl rfl
 replace M : Mg w w5 (.row 4 1 (.slice (some ⟨g9, 0, none⟩) ds.length ds.length) ds.length (zb (List.replicate ds.length false)) :: .obj g2 (.cells #[.int .i64 (((ss : Nat) : Int)), .int .i64 (((ls : Nat) : Int)), .int .i64 (((last : Nat) : Int)), .slice so ds.length ca] 30) :: []) := M.bring 1 rfl rfl
 replace M : Mg w w5 (.row 4 1 (.slice (some ⟨g9, 0, none⟩) ds.length ds.length) ds.length (zb (List.replicate ds.length false)) :: .obj g2 (.cells #[.int .i64 (((ss : Nat) : Int)), .int .i64 (((ls : Nat) : Int)), .int .i64 (((last : Nat) : Int)), .slice so ds.length ca] 30) :: []) := by
  have h9 := M.sub (cc (cc (.refl _)))
  exact h9
 refine zh (fun m_ a w1 => ∃ (ii : Nat) (bs : List Bool), m_ = 1 + (rs.length - ii) ∧ (ii ≤ rs.length ∧ bs.length = ds.length ∧ MkS ds rs bs ∧ MkR ds rs ii bs) ∧ Sl a 87 [(0, .agg #[.int .i64 (((ss : Nat) : Int)), .int .i64 (((ls : Nat) : Int)), .int .i64 (((last : Nat) : Int)), .slice so ds.length ca]), (1, .slice sr rs.length cr), (2, .pointer (some ⟨g2, 0, none⟩)), (4, .slice none 0 0), (5, .slice (some ⟨g9, 0, none⟩) ds.length ds.length), (6, .int .i64 (((ii : Nat) : Int))), (13, .pointer (some ⟨g2, 3, none⟩)), (14, .slice so ds.length ca), (15, .int .i64 (((ds.length : Nat) : Int))), (16, .slice (some ⟨g9, 0, none⟩) ds.length ds.length)] ∧ Mg w w1 (.row 4 1 (.slice (some ⟨g9, 0, none⟩) ds.length ds.length) ds.length (zb bs) :: .obj g2 (.cells #[.int .i64 (((ss : Nat) : Int)), .int .i64 (((ls : Nat) : Int)), .int .i64 (((last : Nat) : Int)), .slice so ds.length ca] 30) :: [])) _ ⟨0, List.replicate ds.length false, rfl, ⟨Nat.zero_le _, by simp, MkS.zero _ _ _, fun r hr => by simp at hr⟩, A.keep _ (by repeat' constructor), M⟩ ?_
 clear M A
 rintro m_ a w8 ⟨ii, bs, rfl, hinv10, A, M⟩ K9 hK9
 obtain ⟨hi0, hbl, V, hR⟩ := hinv10
 refine wsk fun K11 hK11 => wsk fun K12 hK12 => wrl ?_
 iterate 2 refine sdm A λa A↦?_
 refine sdo A (qv Try.underlying33 rfl) λa A↦?_
 rcases tf (decide (((ii : Nat) : Int) < ((rs.length : Nat) : Int))) with hb13 | hb13
 ·
  have hb13' := of_decide_eq_true hb13
  refine sdc A qm hb13 λa A↦?_
  refine qb (hK12 _ _ (wp_cond_true (A.ev rfl) ?_))
  refine wp_skip (hK11 _ _ (wsk fun K14 hK14 => wp_block (wsk fun K15 hK15 => zn (S := fun w1 => Mg w w1 (.obj g2 (.cells #[.int .i64 (((ss : Nat) : Int)), .int .i64 (((ls : Nat) : Int)), .int .i64 (((last : Nat) : Int)), .slice so ds.length ca] 30) :: [])) (by kernel_rfl) ?_)))
  replace M := M.drew
  refine qf A 0 rfl rfl rfl rfl hP (M.sub (cn (cc (List.nil_sublist _)))) (fun w1 M => qq M HdE_isS_30 rfl 0 rfl (cs := [.int .i64 (((ss : Nat) : Int)), .int .i64 (((ls : Nat) : Int)), .int .i64 (((last : Nat) : Int)), .slice so ds.length ca]) rfl rfl) λa A↦?_
  refine qf A 1 rfl rfl rfl rfl hP (M.sub (cn (cc (List.nil_sublist _)))) (fun w1 M => qn rfl) λa A↦?_
  refine qf A 2 rfl rfl rfl rfl hP (M.sub (cn (cc (List.nil_sublist _)))) (fun w1 M => qn rfl) λa A↦?_
  obtain ⟨bi16, oi17, z18, hs19, hc20, hi21⟩ := hr.at_ (i := ii) (by omega)
  refine qf (v := .pointer (some ⟨bi16, oi17 + ii, none⟩)) A 3 rfl rfl rfl rfl hP (M.sub (cn (cc (List.nil_sublist _)))) (fun w1 M => ji (k := ii) Try.underlying33 (by kernel_rfl) rfl rfl (by first | rfl | omega) hs19 (by omega)) λa A↦?_
  refine qf A 4 rfl rfl rfl rfl hP (M.sub (cn (cc (List.nil_sublist _)))) (fun w1 M => jf M hc20 HdE_is1_3 rfl) λa A↦?_
  refine zd (by kernel_rfl) (jk A 5 rfl rfl rfl rfl (zp rfl rfl (fun w => by kernel_rfl)) (ja (hO.below M.bel) hol hq) ?_)
  rintro _ w24 ⟨rfl, hb22⟩
  have hrg23 := qab z18 ds
  replace M := M.call hb22
  refine ⟨_, rfl, (M.sub (cn (cc (List.nil_sublist _)))), ?_⟩
  intro a A
  refine qf A 6 rfl rfl rfl rfl hP (M.sub (cn (cc (List.nil_sublist _)))) (fun w1 M => qz rfl) λa A↦?_
  refine zi (by kernel_rfl) ?_
  refine hK15 _ _ (wsk fun K25 hK25 => wrl (sdm A λa A↦?_))
  rcases tf (decide (0 ≤ ixO z18 ds)) with hb26 | hb26
  ·
   have hb26' := of_decide_eq_true hb26
   refine sdc A vf hb26 λa A↦?_
   refine qb (hK25 _ _ (wp_cond_true (A.ev rfl) ?_))
   refine wrl ?_
   iterate 2 refine sdm A λa A↦?_
   refine sdo (v := .pointer (some ⟨g9, ((ixO z18 ds).toNat) * 1, none⟩)) A (ze (k := (ixO z18 ds).toNat) Try.underlying83 (by kernel_rfl) rfl rfl (by first | rfl | omega) (by omega)) λa A↦?_
   refine jx (us := []) (L' := (.row 4 1 (.slice (some ⟨g9, 0, none⟩) ds.length ds.length) ds.length (zb (bs.set ((ixO z18 ds).toNat) true)) :: .obj g2 (.cells #[.int .i64 (((ss : Nat) : Int)), .int .i64 (((ls : Nat) : Int)), .int .i64 (((last : Nat) : Int)), .slice so ds.length ca] 30) :: [])) A M rfl rfl (jq (cs := [.bool true]) rfl rfl rfl (by kernel_rfl) M 0 rfl (by show _ + 1 ≤ _; omega) rfl) 0 rfl (by rw [Nat.mul_one, qeg]; rfl) ?_
   intro w27 M
   refine qb (hK14 _ _ (wrl (sdm A λa A↦?_)))
   refine sdo (v := .int .i64 (((ii + 1 : Nat) : Int))) A (qe rfl rfl (ar_add ((in_i64 (by omega) (by omega)).trans (by omega)))) λa A↦?_
   refine sda A λa A↦?_
   refine qb ?_
   replace M : Mg w w27 (.obj g2 (.cells #[.int .i64 (((ss : Nat) : Int)), .int .i64 (((ls : Nat) : Int)), .int .i64 (((last : Nat) : Int)), .slice so ds.length ca] 30) :: .row 4 1 (.slice (some ⟨g9, 0, none⟩) ds.length ds.length) ds.length (zb (bs.set ((ixO z18 ds).toNat) true)) :: []) := M.bring 1 rfl rfl
   replace M : Mg w w27 (.row 4 1 (.slice (some ⟨g9, 0, none⟩) ds.length ds.length) ds.length (zb (bs.set ((ixO z18 ds).toNat) true)) :: .obj g2 (.cells #[.int .i64 (((ss : Nat) : Int)), .int .i64 (((ls : Nat) : Int)), .int .i64 (((last : Nat) : Int)), .slice so ds.length ca] 30) :: []) := M.bring 1 rfl rfl
   replace M : Mg w w27 (.row 4 1 (.slice (some ⟨g9, 0, none⟩) ds.length ds.length) ds.length (zb (bs.set ((ixO z18 ds).toNat) true)) :: .obj g2 (.cells #[.int .i64 (((ss : Nat) : Int)), .int .i64 (((ls : Nat) : Int)), .int .i64 (((last : Nat) : Int)), .slice so ds.length ca] 30) :: []) := by
    have h9 := M.sub (cc (cc (.refl _)))
    exact h9
   obtain ⟨k9, e9, f1, f2, f3⟩ := yes_ob (ds := ds) (z := z18) (by omega)
   have hk9 : (ixO z18 ds).toNat = k9 := by omega
   rw [hk9] at M
   have hzr : z18 ∈ rs := List.mem_of_getElem? hi21
   have hz0 : z18 ≠ 0 := fun q9 => by have := hx.lo e9 (List.mem_of_getElem? f2); omega
   have hR2 : MkR ds rs (ii + 1) (bs.set k9 true) := fun r hr i2 d2 hd2 hx2 => by
      rw [List.take_add_one, hi21] at hr
      rcases List.mem_append.1 hr with m9 | m9
      ·
       exact (hR.up k9) r m9 i2 d2 hd2 hx2
      ·
       simp at m9; subst m9; exact (by have q := rise_at hx hd2 f2 (hx2.trans f3.symm); subst q; exact List.getElem?_set_self (by rw [hbl]; exact (List.getElem?_eq_some_iff.1 hd2).1))
   refine hK9 _ _ _ (by omega) ⟨ii + 1, bs.set k9 true, rfl, ⟨by omega, by rw [List.length_set]; exact hbl, V.set f2 (by rw [f3]; exact .root hzr hz0), hR2⟩, A.keep _ (by repeat' constructor), M⟩
  ·
   have hb26' := of_decide_eq_false hb26
   refine sdc A vf hb26 λa A↦?_
   refine qb (hK25 _ _ (wp_cond_false (A.ev rfl) ?_))
   refine wp_skip (hK14 _ _ (wrl (sdm A λa A↦?_)))
   refine sdo (v := .int .i64 (((ii + 1 : Nat) : Int))) A (qe rfl rfl (ar_add ((in_i64 (by omega) (by omega)).trans (by omega)))) λa A↦?_
   refine sda A λa A↦?_
   refine qb ?_
   replace M : Mg w w24 (.obj g2 (.cells #[.int .i64 (((ss : Nat) : Int)), .int .i64 (((ls : Nat) : Int)), .int .i64 (((last : Nat) : Int)), .slice so ds.length ca] 30) :: .row 4 1 (.slice (some ⟨g9, 0, none⟩) ds.length ds.length) ds.length (zb bs) :: []) := M.bring 1 rfl rfl
   replace M : Mg w w24 (.row 4 1 (.slice (some ⟨g9, 0, none⟩) ds.length ds.length) ds.length (zb bs) :: .obj g2 (.cells #[.int .i64 (((ss : Nat) : Int)), .int .i64 (((ls : Nat) : Int)), .int .i64 (((last : Nat) : Int)), .slice so ds.length ca] 30) :: []) := M.bring 1 rfl rfl
   replace M : Mg w w24 (.row 4 1 (.slice (some ⟨g9, 0, none⟩) ds.length ds.length) ds.length (zb bs) :: .obj g2 (.cells #[.int .i64 (((ss : Nat) : Int)), .int .i64 (((ls : Nat) : Int)), .int .i64 (((last : Nat) : Int)), .slice so ds.length ca] 30) :: []) := by
    have h9 := M.sub (cc (cc (.refl _)))
    exact h9
   have hR2 : MkR ds rs (ii + 1) bs := fun r hr i2 d2 hd2 hx2 => by
      rw [List.take_add_one, hi21] at hr
      rcases List.mem_append.1 hr with m9 | m9
      ·
       exact hR r m9 i2 d2 hd2 hx2
      ·
       simp at m9; subst m9; exact (absurd hx2 (no_ob hx (by omega) hd2))
   refine hK9 _ _ _ (by omega) ⟨ii + 1, bs, rfl, ⟨by omega, hbl, V, hR2⟩, A.keep _ (by repeat' constructor), M⟩
 ·
  have hb13' := of_decide_eq_false hb13
  refine sdc A qm hb13 λa A↦?_
  refine qb (hK12 _ _ (wp_cond_false (A.ev rfl) ?_))
  refine wp_exit (hK6 _ _ (wsk fun K28 hK28 => wsk fun K29 hK29 => wrl (sda A λa A↦?_)))
  refine qb (hK29 _ _ (wp_block ?_))
  replace M : Mg w w8 (.obj g2 (.cells #[.int .i64 (((ss : Nat) : Int)), .int .i64 (((ls : Nat) : Int)), .int .i64 (((last : Nat) : Int)), .slice so ds.length ca] 30) :: .row 4 1 (.slice (some ⟨g9, 0, none⟩) ds.length ds.length) ds.length (zb bs) :: []) := M.bring 1 rfl rfl
  replace M : Mg w w8 (.row 4 1 (.slice (some ⟨g9, 0, none⟩) ds.length ds.length) ds.length (zb bs) :: .obj g2 (.cells #[.int .i64 (((ss : Nat) : Int)), .int .i64 (((ls : Nat) : Int)), .int .i64 (((last : Nat) : Int)), .slice so ds.length ca] 30) :: []) := M.bring 1 rfl rfl
  replace M : Mg w w8 (.row 4 1 (.slice (some ⟨g9, 0, none⟩) ds.length ds.length) ds.length (zb bs) :: .obj g2 (.cells #[.int .i64 (((ss : Nat) : Int)), .int .i64 (((ls : Nat) : Int)), .int .i64 (((last : Nat) : Int)), .slice so ds.length ca] 30) :: []) := by
   have h9 := M.sub (cc (cc (.refl _)))
   exact h9
  refine zh (fun m_ a w1 => ∃ (bs : List Bool) (mo : Bool), m_ = 1 + (2 * cf bs + (if mo = true then 1 else 0)) ∧ (bs.length = ds.length ∧ MkS ds rs bs ∧ MkR ds rs rs.length bs ∧ (mo = false → ClA ds bs ds.length)) ∧ Sl a 87 [(0, .agg #[.int .i64 (((ss : Nat) : Int)), .int .i64 (((ls : Nat) : Int)), .int .i64 (((last : Nat) : Int)), .slice so ds.length ca]), (1, .slice sr rs.length cr), (2, .pointer (some ⟨g2, 0, none⟩)), (4, .slice none 0 0), (5, .slice (some ⟨g9, 0, none⟩) ds.length ds.length), (6, .int .i64 (((ii : Nat) : Int))), (8, .bool mo), (13, .pointer (some ⟨g2, 3, none⟩)), (14, .slice so ds.length ca), (15, .int .i64 (((ds.length : Nat) : Int))), (16, .slice (some ⟨g9, 0, none⟩) ds.length ds.length), (17, .int .i64 (((ii : Nat) : Int))), (18, .slice sr rs.length cr), (19, .int .i64 (((rs.length : Nat) : Int))), (20, .bool false)] ∧ Mg w w1 (.row 4 1 (.slice (some ⟨g9, 0, none⟩) ds.length ds.length) ds.length (zb bs) :: .obj g2 (.cells #[.int .i64 (((ss : Nat) : Int)), .int .i64 (((ls : Nat) : Int)), .int .i64 (((last : Nat) : Int)), .slice so ds.length ca] 30) :: [])) _ ⟨bs, true, rfl, ⟨hbl, V, (show rs.length = ii by omega) ▸ hR, fun h => by cases h⟩, A.keep _ (by repeat' constructor), M⟩ ?_
  clear M A
  rintro m_ a w30 ⟨bs, mo, rfl, hinv32, A, M⟩ K31 hK31
  obtain ⟨hbl, V, hR, hC⟩ := hinv32
  refine wsk fun K33 hK33 => wsk fun K34 hK34 => wrl (sdm A λa A↦?_)
  refine qb (hK34 _ _ ?_)
  refine wp_cond_split (t := mo) (A.ev rfl) (fun hc35 => ?_) (fun hc35 => ?_)
  ·
   refine wp_skip (hK33 _ _ (wp_block (wsk fun K36 hK36 => wrl (sda A λa A↦?_))))
   refine qb (hK36 _ _ (wsk fun K37 hK37 => wrl (sda A λa A↦?_)))
   refine qb (hK37 _ _ (wp_block ?_))
   replace M : Mg w w30 (.obj g2 (.cells #[.int .i64 (((ss : Nat) : Int)), .int .i64 (((ls : Nat) : Int)), .int .i64 (((last : Nat) : Int)), .slice so ds.length ca] 30) :: .row 4 1 (.slice (some ⟨g9, 0, none⟩) ds.length ds.length) ds.length (zb bs) :: []) := M.bring 1 rfl rfl
   replace M : Mg w w30 (.row 4 1 (.slice (some ⟨g9, 0, none⟩) ds.length ds.length) ds.length (zb bs) :: .obj g2 (.cells #[.int .i64 (((ss : Nat) : Int)), .int .i64 (((ls : Nat) : Int)), .int .i64 (((last : Nat) : Int)), .slice so ds.length ca] 30) :: []) := M.bring 1 rfl rfl
   replace M : Mg w w30 (.row 4 1 (.slice (some ⟨g9, 0, none⟩) ds.length ds.length) ds.length (zb bs) :: .obj g2 (.cells #[.int .i64 (((ss : Nat) : Int)), .int .i64 (((ls : Nat) : Int)), .int .i64 (((last : Nat) : Int)), .slice so ds.length ca] 30) :: []) := by
    have h9 := M.sub (cc (cc (.refl _)))
    exact h9
   obtain ⟨b0, hb0⟩ : ∃ b0 : List Bool, b0 = bs := ⟨_, rfl⟩
   refine zh (fun m_ a w1 => ∃ (i : Nat) (bs : List Bool) (mm : Bool), m_ = 1 + (ds.length - i) ∧ (i ≤ ds.length ∧ bs.length = ds.length ∧ MkS ds rs bs ∧ MkR ds rs rs.length bs ∧ cf bs ≤ cf b0 ∧ (mm = true → cf bs < cf b0) ∧ (mm = false → ClA ds bs i)) ∧ Sl a 87 [(0, .agg #[.int .i64 (((ss : Nat) : Int)), .int .i64 (((ls : Nat) : Int)), .int .i64 (((last : Nat) : Int)), .slice so ds.length ca]), (1, .slice sr rs.length cr), (2, .pointer (some ⟨g2, 0, none⟩)), (4, .slice none 0 0), (5, .slice (some ⟨g9, 0, none⟩) ds.length ds.length), (6, .int .i64 (((ii : Nat) : Int))), (8, .bool mm), (9, .int .i64 (((i : Nat) : Int))), (13, .pointer (some ⟨g2, 3, none⟩)), (14, .slice so ds.length ca), (15, .int .i64 (((ds.length : Nat) : Int))), (16, .slice (some ⟨g9, 0, none⟩) ds.length ds.length), (17, .int .i64 (((ii : Nat) : Int))), (18, .slice sr rs.length cr), (19, .int .i64 (((rs.length : Nat) : Int))), (20, .bool false), (34, .bool mo)] ∧ Mg w w1 (.row 4 1 (.slice (some ⟨g9, 0, none⟩) ds.length ds.length) ds.length (zb bs) :: .obj g2 (.cells #[.int .i64 (((ss : Nat) : Int)), .int .i64 (((ls : Nat) : Int)), .int .i64 (((last : Nat) : Int)), .slice so ds.length ca] 30) :: [])) _ ⟨0, bs, false, rfl, ⟨Nat.zero_le _, hbl, V, hR, by rw [hb0]; exact Nat.le_refl _, (fun h => by cases h), fun _ i d h => absurd h (Nat.not_lt_zero _)⟩, A.keep _ (by repeat' constructor), M⟩ ?_
   clear M A
   rintro m_ a w38 ⟨i, bs, mm, rfl, hinv40, A, M⟩ K39 hK39
   obtain ⟨hi0, hbl, V, hR, hc1, hc2, hC⟩ := hinv40
   refine wsk fun K41 hK41 => wsk fun K42 hK42 => wrl ?_
   iterate 2 refine sdm A λa A↦?_
   refine sdo A (qv Try.underlying83 rfl) λa A↦?_
   rcases tf (decide (((i : Nat) : Int) < ((ds.length : Nat) : Int))) with hb43 | hb43
   ·
    have hb43' := of_decide_eq_true hb43
    refine sdc A qm hb43 λa A↦?_
    refine qb (hK42 _ _ (wp_cond_true (A.ev rfl) ?_))
    refine wp_skip (hK41 _ _ (wsk fun K44 hK44 => wp_block (wsk fun K45 hK45 => wrl (sda A λa A↦?_))))
    refine qb (hK45 _ _ (wp_block ?_))
    replace M : Mg w w38 (.obj g2 (.cells #[.int .i64 (((ss : Nat) : Int)), .int .i64 (((ls : Nat) : Int)), .int .i64 (((last : Nat) : Int)), .slice so ds.length ca] 30) :: .row 4 1 (.slice (some ⟨g9, 0, none⟩) ds.length ds.length) ds.length (zb bs) :: []) := M.bring 1 rfl rfl
    replace M : Mg w w38 (.row 4 1 (.slice (some ⟨g9, 0, none⟩) ds.length ds.length) ds.length (zb bs) :: .obj g2 (.cells #[.int .i64 (((ss : Nat) : Int)), .int .i64 (((ls : Nat) : Int)), .int .i64 (((last : Nat) : Int)), .slice so ds.length ca] 30) :: []) := M.bring 1 rfl rfl
    replace M : Mg w w38 (.row 4 1 (.slice (some ⟨g9, 0, none⟩) ds.length ds.length) ds.length (zb bs) :: .obj g2 (.cells #[.int .i64 (((ss : Nat) : Int)), .int .i64 (((ls : Nat) : Int)), .int .i64 (((last : Nat) : Int)), .slice so ds.length ca] 30) :: []) := by
     have h9 := M.sub (cc (cc (.refl _)))
     exact h9
    obtain ⟨di, hdi⟩ : ∃ d, ds[i]? = some d := ⟨ds[i], List.getElem?_eq_getElem (by omega)⟩
    have hqi := hq di (List.mem_of_getElem? hdi)
    refine zh (fun m_ a w1 => ∃ (j : Nat) (bs : List Bool) (mi : Bool), m_ = 1 + (di.ws.length - j) ∧ (j ≤ di.ws.length ∧ bs.length = ds.length ∧ MkS ds rs bs ∧ MkR ds rs rs.length bs ∧ cf bs ≤ cf b0 ∧ (mi = true → cf bs < cf b0) ∧ (mi = false → ClA ds bs i) ∧ (mi = false → bs[i]? = some true → ClW ds bs di j)) ∧ Sl a 87 [(0, .agg #[.int .i64 (((ss : Nat) : Int)), .int .i64 (((ls : Nat) : Int)), .int .i64 (((last : Nat) : Int)), .slice so ds.length ca]), (1, .slice sr rs.length cr), (2, .pointer (some ⟨g2, 0, none⟩)), (4, .slice none 0 0), (5, .slice (some ⟨g9, 0, none⟩) ds.length ds.length), (6, .int .i64 (((ii : Nat) : Int))), (8, .bool mi), (9, .int .i64 (((i : Nat) : Int))), (10, .int .i64 (((j : Nat) : Int))), (13, .pointer (some ⟨g2, 3, none⟩)), (14, .slice so ds.length ca), (15, .int .i64 (((ds.length : Nat) : Int))), (16, .slice (some ⟨g9, 0, none⟩) ds.length ds.length), (17, .int .i64 (((ii : Nat) : Int))), (18, .slice sr rs.length cr), (19, .int .i64 (((rs.length : Nat) : Int))), (20, .bool false), (34, .bool mo), (35, .int .i64 (((i : Nat) : Int))), (36, .slice (some ⟨g9, 0, none⟩) ds.length ds.length), (37, .int .i64 (((ds.length : Nat) : Int))), (38, .bool true)] ∧ Mg w w1 (.row 4 1 (.slice (some ⟨g9, 0, none⟩) ds.length ds.length) ds.length (zb bs) :: .obj g2 (.cells #[.int .i64 (((ss : Nat) : Int)), .int .i64 (((ls : Nat) : Int)), .int .i64 (((last : Nat) : Int)), .slice so ds.length ca] 30) :: [])) _ ⟨0, bs, mm, rfl, ⟨Nat.zero_le _, hbl, V, hR, hc1, hc2, hC, fun _ _ y hy => by simp at hy⟩, A.keep _ (by repeat' constructor), M⟩ ?_
    clear M A
    rintro m_ a w46 ⟨j, bs, mi, rfl, hinv48, A, M⟩ K47 hK47
    obtain ⟨hj0, hbl, V, hR, hc1, hc2, hC, hW9⟩ := hinv48
    refine wsk fun K49 hK49 => wsk fun K50 hK50 => wrl ?_
    iterate 2 refine sdm A λa A↦?_
    refine sdo (v := .pointer (some ⟨g9, i * 1, none⟩)) A (ze (k := i) Try.underlying83 (by kernel_rfl) rfl rfl (by first | rfl | omega) (by omega)) λa A↦?_
    obtain ⟨b51, hb52⟩ : ∃ b, bs[i]? = some b := ⟨bs[i]'(by omega), List.getElem?_eq_getElem (by omega)⟩
    rcases b51 with _ | _
    ·
     refine sdo (v := .bool false) A (xr M 0 rfl (by rw [Nat.mul_one]; exact vb hb52) HdE_is1_4 rfl) λa A↦?_
     refine sdm A λa A↦?_
     iterate 9 refine zj A rfl rfl rfl λa A↦?_
     refine sdk (v := .bool false) A λa A↦?_
     refine qb (hK50 _ _ (wp_cond_false (A.ev rfl) ?_))
     refine wp_exit (hK44 _ _ (wrl (sdm A λa A↦?_)))
     refine sdo (v := .int .i64 (((i + 1 : Nat) : Int))) A (qe rfl rfl (ar_add ((in_i64 (by omega) (by omega)).trans (by omega)))) λa A↦?_
     refine sda A λa A↦?_
     refine qb ?_
     replace M : Mg w w46 (.obj g2 (.cells #[.int .i64 (((ss : Nat) : Int)), .int .i64 (((ls : Nat) : Int)), .int .i64 (((last : Nat) : Int)), .slice so ds.length ca] 30) :: .row 4 1 (.slice (some ⟨g9, 0, none⟩) ds.length ds.length) ds.length (zb bs) :: []) := M.bring 1 rfl rfl
     replace M : Mg w w46 (.row 4 1 (.slice (some ⟨g9, 0, none⟩) ds.length ds.length) ds.length (zb bs) :: .obj g2 (.cells #[.int .i64 (((ss : Nat) : Int)), .int .i64 (((ls : Nat) : Int)), .int .i64 (((last : Nat) : Int)), .slice so ds.length ca] 30) :: []) := M.bring 1 rfl rfl
     replace M : Mg w w46 (.row 4 1 (.slice (some ⟨g9, 0, none⟩) ds.length ds.length) ds.length (zb bs) :: .obj g2 (.cells #[.int .i64 (((ss : Nat) : Int)), .int .i64 (((ls : Nat) : Int)), .int .i64 (((last : Nat) : Int)), .slice so ds.length ca] 30) :: []) := by
      have h9 := M.sub (cc (cc (.refl _)))
      exact h9
     refine hK39 _ _ _ (by omega) ⟨i + 1, bs, mi, rfl, ⟨by omega, hbl, V, hR, hc1, hc2, (fun h9 i2 d2 hi2 hd2 hb2 => if q9 : i2 < i then hC h9 i2 d2 q9 hd2 hb2 else by have q8 : i2 = i := (by omega); subst q8; rw [hdi] at hd2; cases hd2; exact absurd hb2 (by rw [hb52]; simp))⟩, A.keep _ (by repeat' constructor), M⟩
    ·
     refine sdo (v := .bool true) A (xr M 0 rfl (by rw [Nat.mul_one]; exact vb hb52) HdE_is1_4 rfl) λa A↦?_
     iterate 2 refine sdm A λa A↦?_
     refine sdo (v := .pointer (some ⟨g2, 3, none⟩)) A (qd HdE_fld_30_3 rfl rfl) λa A↦?_
     refine sdo A (qh M HdE_is1_28 rfl 1 rfl rfl) λa A↦?_
     refine sdm A λa A↦?_
     obtain ⟨bd53, od54, d55, hs56, hd57, hc58, hc59, hc60⟩ := hO.at_ (i := i) (by omega)
     have hm61 := List.mem_of_getElem? hd57
     have hq62 := hq d55 hm61
     refine sdo (v := .pointer (some ⟨bd53, od54 + i * 3, none⟩)) A (zt (k := i) Try.underlying28 (by kernel_rfl) rfl rfl (by first | rfl | omega) hs56 (by omega)) λa A↦?_
     refine sdo (v := .pointer (some ⟨bd53, od54 + i * 3 + 2, none⟩)) A (qd HdE_fld_73_2 rfl rfl) λa A↦?_
     refine sdo A (jf M hc60 HdE_is1_68 rfl) λa A↦?_
     refine sdo A (qv Try.underlying68 rfl) λa A↦?_
     rcases tf (decide (((j : Nat) : Int) < ((d55.ws.length : Nat) : Int))) with hb63 | hb63
     ·
      have hb63' := of_decide_eq_true hb63
      refine sdc A qm hb63 λa A↦?_
      refine sdk (v := .bool true) A λa A↦?_
      refine qb (hK50 _ _ (wp_cond_true (A.ev rfl) ?_))
      refine wp_skip (hK49 _ _ (wsk fun K64 hK64 => wp_block (wsk fun K65 hK65 => wrl (sdo (v := .pointer (some ⟨g2, 3, none⟩)) A (qd HdE_fld_30_3 rfl rfl) λa A↦?_))))
      refine sdo A (qh M HdE_is1_28 rfl 1 rfl rfl) λa A↦?_
      refine sdm A λa A↦?_
      refine sdo (v := .pointer (some ⟨bd53, od54 + i * 3, none⟩)) A (zt (k := i) Try.underlying28 (by kernel_rfl) rfl rfl (by first | rfl | omega) hs56 (by omega)) λa A↦?_
      refine sdo (v := .pointer (some ⟨bd53, od54 + i * 3 + 2, none⟩)) A (qd HdE_fld_73_2 rfl rfl) λa A↦?_
      refine sdo A (jf M hc60 HdE_is1_68 rfl) λa A↦?_
      refine sdm A λa A↦?_
      obtain ⟨z66, c67, hw68, hc69, hc70⟩ := hO.word hm61 (k := j) (by omega)
      refine sdo (v := .pointer (some ⟨d55.g, j * 2, none⟩)) A (ze (k := j) Try.underlying68 (by kernel_rfl) rfl rfl (by first | rfl | omega) (by omega)) λa A↦?_
      refine sdo A (qkd M hc69 hc70 HdE_isS_32 rfl) λa A↦?_
      refine qt (vs := [.int .i64 0, .bool false]) (t := 32) A M rfl rfl rfl pg (ql (z := .agg #[.int .i64 0, .bool false]) (by kernel_rfl) rfl) (by decide) ?_
      intro g71 w72 M a A
      refine qs (us := [.int .i64 z66, .bool c67]) (L' := (.obj g71 (.cells #[.int .i64 z66, .bool c67] 32) :: .row 4 1 (.slice (some ⟨g9, 0, none⟩) ds.length ds.length) ds.length (zb bs) :: .obj g2 (.cells #[.int .i64 (((ss : Nat) : Int)), .int .i64 (((ls : Nat) : Int)), .int .i64 (((last : Nat) : Int)), .slice so ds.length ca] 30) :: [])) A M rfl rfl (qo rfl rfl rfl (by kernel_rfl) M 0 rfl rfl rfl) 0 rfl rfl rfl ?_
      intro w73 M
      refine qb (hK65 _ _ (wsk fun K74 hK74 => wsk fun K75 hK75 => wrl (sdo (v := .pointer (some ⟨g71, 1, none⟩)) A (qd HdE_fld_32_1 rfl rfl) λa A↦?_)))
      refine sdo A (qh M HdE_is1_4 rfl 0 rfl rfl) λa A↦?_
      rcases c67 with _ | _
      ·
       refine sdo (v := .bool true) A (zf rfl zm) λa A↦?_
       refine qb (hK75 _ _ (wp_cond_true (A.ev rfl) ?_))
       refine wp_exit (hK64 _ _ (wrl (sdm A λa A↦?_)))
       refine sdo (v := .int .i64 (((j + 1 : Nat) : Int))) A (qe rfl rfl (ar_add ((in_i64 (by omega) (by omega)).trans (by omega)))) λa A↦?_
       refine sda A λa A↦?_
       refine qb ?_
       replace M : Mg w w73 (.obj g2 (.cells #[.int .i64 (((ss : Nat) : Int)), .int .i64 (((ls : Nat) : Int)), .int .i64 (((last : Nat) : Int)), .slice so ds.length ca] 30) :: .obj g71 (.cells #[.int .i64 z66, .bool false] 32) :: .row 4 1 (.slice (some ⟨g9, 0, none⟩) ds.length ds.length) ds.length (zb bs) :: []) := M.bring 2 rfl rfl
       replace M : Mg w w73 (.row 4 1 (.slice (some ⟨g9, 0, none⟩) ds.length ds.length) ds.length (zb bs) :: .obj g2 (.cells #[.int .i64 (((ss : Nat) : Int)), .int .i64 (((ls : Nat) : Int)), .int .i64 (((last : Nat) : Int)), .slice so ds.length ca] 30) :: .obj g71 (.cells #[.int .i64 z66, .bool false] 32) :: []) := M.bring 2 rfl rfl
       replace M : Mg w w73 (.row 4 1 (.slice (some ⟨g9, 0, none⟩) ds.length ds.length) ds.length (zb bs) :: .obj g2 (.cells #[.int .i64 (((ss : Nat) : Int)), .int .i64 (((ls : Nat) : Int)), .int .i64 (((last : Nat) : Int)), .slice so ds.length ca] 30) :: []) := by
        have h9 := M.sub (cc (cc (cn (.refl _))))
        exact h9
       have hdd : di = d55 := by rw [hdi] at hd57; exact Option.some.inj hd57
       have hdl : di.ws.length = d55.ws.length := by rw [hdd]
       rw [← hdd] at hw68
       refine hK47 _ _ _ (by omega) ⟨j + 1, bs, mi, rfl, ⟨by omega, hbl, V, hR, hc1, hc2, hC, fun h9 hb9 => (hW9 h9 hb9).step hw68 (fun q => by cases q)⟩, A.keep _ (by repeat' constructor), M⟩
      ·
       refine sdo (v := .bool false) A (zf rfl zm) λa A↦?_
       refine qb (hK75 _ _ (wp_cond_false (A.ev rfl) ?_))
       refine wp_skip (hK74 _ _ (wsk fun K76 hK76 => wrl (sdo A (qq M HdE_isS_30 rfl 2 rfl (cs := [.int .i64 (((ss : Nat) : Int)), .int .i64 (((ls : Nat) : Int)), .int .i64 (((last : Nat) : Int)), .slice so ds.length ca]) rfl rfl) λa A↦?_)))
       refine sdo (v := .pointer (some ⟨g71, 0, none⟩)) A (qd HdE_fld_32_0 rfl rfl) λa A↦?_
       refine sdo A (qh M HdE_is1_3 rfl 0 rfl rfl) λa A↦?_
       refine sct A (ef rfl rfl) (ja (hO.below M.bel) hol hq) ?_
       rintro _ w79 ⟨rfl, hb77⟩
       have hrg78 := qab z66 ds
       replace M := M.call hb77
       refine ⟨_, rfl, ?_⟩
       intro a A
       refine sda A λa A↦?_
       refine qb (hK76 _ _ (wsk fun K80 hK80 => wrl (sdm A λa A↦?_)))
       rcases tf (decide (0 ≤ ixO z66 ds)) with hb81 | hb81
       ·
        have hb81' := of_decide_eq_true hb81
        refine sdc A vf hb81 λa A↦?_
        iterate 3 refine sdm A λa A↦?_
        refine sdo (v := .pointer (some ⟨g9, ((ixO z66 ds).toNat) * 1, none⟩)) A (ze (k := (ixO z66 ds).toNat) Try.underlying83 (by kernel_rfl) rfl rfl (by first | rfl | omega) (by omega)) λa A↦?_
        obtain ⟨b82, hb83⟩ : ∃ b, bs[(ixO z66 ds).toNat]? = some b := ⟨bs[(ixO z66 ds).toNat]'(by omega), List.getElem?_eq_getElem (by omega)⟩
        rcases b82 with _ | _
        ·
         refine sdo (v := .bool false) A (xr M 1 rfl (by rw [Nat.mul_one]; exact vb hb83) HdE_is1_4 rfl) λa A↦?_
         refine sdo (v := .bool true) A (zf rfl zm) λa A↦?_
         refine sdk (v := .bool true) A λa A↦?_
         refine qb (hK80 _ _ (wp_cond_true (A.ev rfl) ?_))
         refine wsk fun K84 hK84 => wrl ?_
         iterate 2 refine sdm A λa A↦?_
         refine sdo (v := .pointer (some ⟨g9, ((ixO z66 ds).toNat) * 1, none⟩)) A (ze (k := (ixO z66 ds).toNat) Try.underlying83 (by kernel_rfl) rfl rfl (by first | rfl | omega) (by omega)) λa A↦?_
         refine jx (us := []) (L' := (.obj g71 (.cells #[.int .i64 z66, .bool true] 32) :: .row 4 1 (.slice (some ⟨g9, 0, none⟩) ds.length ds.length) ds.length (zb (bs.set ((ixO z66 ds).toNat) true)) :: .obj g2 (.cells #[.int .i64 (((ss : Nat) : Int)), .int .i64 (((ls : Nat) : Int)), .int .i64 (((last : Nat) : Int)), .slice so ds.length ca] 30) :: [])) A M rfl rfl (jq (cs := [.bool true]) rfl rfl rfl (by kernel_rfl) M 1 rfl (by show _ + 1 ≤ _; omega) rfl) 1 rfl (by rw [Nat.mul_one, qeg]; rfl) ?_
         intro w85 M
         refine qb (hK84 _ _ (wrl (sda A λa A↦?_)))
         refine qb (hK64 _ _ (wrl (sdm A λa A↦?_)))
         refine sdo (v := .int .i64 (((j + 1 : Nat) : Int))) A (qe rfl rfl (ar_add ((in_i64 (by omega) (by omega)).trans (by omega)))) λa A↦?_
         refine sda A λa A↦?_
         refine qb ?_
         replace M : Mg w w85 (.obj g2 (.cells #[.int .i64 (((ss : Nat) : Int)), .int .i64 (((ls : Nat) : Int)), .int .i64 (((last : Nat) : Int)), .slice so ds.length ca] 30) :: .obj g71 (.cells #[.int .i64 z66, .bool true] 32) :: .row 4 1 (.slice (some ⟨g9, 0, none⟩) ds.length ds.length) ds.length (zb (bs.set ((ixO z66 ds).toNat) true)) :: []) := M.bring 2 rfl rfl
         replace M : Mg w w85 (.row 4 1 (.slice (some ⟨g9, 0, none⟩) ds.length ds.length) ds.length (zb (bs.set ((ixO z66 ds).toNat) true)) :: .obj g2 (.cells #[.int .i64 (((ss : Nat) : Int)), .int .i64 (((ls : Nat) : Int)), .int .i64 (((last : Nat) : Int)), .slice so ds.length ca] 30) :: .obj g71 (.cells #[.int .i64 z66, .bool true] 32) :: []) := M.bring 2 rfl rfl
         replace M : Mg w w85 (.row 4 1 (.slice (some ⟨g9, 0, none⟩) ds.length ds.length) ds.length (zb (bs.set ((ixO z66 ds).toNat) true)) :: .obj g2 (.cells #[.int .i64 (((ss : Nat) : Int)), .int .i64 (((ls : Nat) : Int)), .int .i64 (((last : Nat) : Int)), .slice so ds.length ca] 30) :: []) := by
          have h9 := M.sub (cc (cc (cn (.refl _))))
          exact h9
         have hdd : di = d55 := by rw [hdi] at hd57; exact Option.some.inj hd57
         have hdl : di.ws.length = d55.ws.length := by rw [hdd]
         rw [← hdd] at hw68
         obtain ⟨k9, e9, f1, f2, f3⟩ := yes_ob (ds := ds) (z := z66) (by omega)
         have hk9 : (ixO z66 ds).toNat = k9 := by omega
         rw [hk9] at M hb83
         have hz0 : z66 ≠ 0 := fun q9 => by have := hx.lo e9 (List.mem_of_getElem? f2); omega
         have hrc : Rc ds rs ((e9.x : Nat) : Int) := by
          rw [f3]
          exact .ref (V i di hb52 hdi) (hx.at (List.mem_of_getElem? hdi)) (List.mem_of_getElem? hw68) hz0
         have hcl := cf_set hb83
         refine hK47 _ _ _ (by omega) ⟨j + 1, bs.set k9 true, true, rfl, ⟨by omega, by rw [List.length_set]; exact hbl, V.set f2 hrc, hR.up k9, by omega, fun _ => by omega, (fun h9 => by cases h9), (fun h9 => by cases h9)⟩, A.keep _ (by repeat' constructor), M⟩
        ·
         refine sdo (v := .bool true) A (xr M 1 rfl (by rw [Nat.mul_one]; exact vb hb83) HdE_is1_4 rfl) λa A↦?_
         refine sdo (v := .bool false) A (zf rfl zm) λa A↦?_
         refine sdk (v := .bool false) A λa A↦?_
         refine qb (hK80 _ _ (wp_cond_false (A.ev rfl) ?_))
         refine wp_skip (hK64 _ _ (wrl (sdm A λa A↦?_)))
         refine sdo (v := .int .i64 (((j + 1 : Nat) : Int))) A (qe rfl rfl (ar_add ((in_i64 (by omega) (by omega)).trans (by omega)))) λa A↦?_
         refine sda A λa A↦?_
         refine qb ?_
         replace M : Mg w w79 (.obj g2 (.cells #[.int .i64 (((ss : Nat) : Int)), .int .i64 (((ls : Nat) : Int)), .int .i64 (((last : Nat) : Int)), .slice so ds.length ca] 30) :: .obj g71 (.cells #[.int .i64 z66, .bool true] 32) :: .row 4 1 (.slice (some ⟨g9, 0, none⟩) ds.length ds.length) ds.length (zb bs) :: []) := M.bring 2 rfl rfl
         replace M : Mg w w79 (.row 4 1 (.slice (some ⟨g9, 0, none⟩) ds.length ds.length) ds.length (zb bs) :: .obj g2 (.cells #[.int .i64 (((ss : Nat) : Int)), .int .i64 (((ls : Nat) : Int)), .int .i64 (((last : Nat) : Int)), .slice so ds.length ca] 30) :: .obj g71 (.cells #[.int .i64 z66, .bool true] 32) :: []) := M.bring 2 rfl rfl
         replace M : Mg w w79 (.row 4 1 (.slice (some ⟨g9, 0, none⟩) ds.length ds.length) ds.length (zb bs) :: .obj g2 (.cells #[.int .i64 (((ss : Nat) : Int)), .int .i64 (((ls : Nat) : Int)), .int .i64 (((last : Nat) : Int)), .slice so ds.length ca] 30) :: []) := by
          have h9 := M.sub (cc (cc (cn (.refl _))))
          exact h9
         have hdd : di = d55 := by rw [hdi] at hd57; exact Option.some.inj hd57
         have hdl : di.ws.length = d55.ws.length := by rw [hdd]
         rw [← hdd] at hw68
         obtain ⟨k9, e9, f1, f2, f3⟩ := yes_ob (ds := ds) (z := z66) (by omega)
         have hk9 : (ixO z66 ds).toNat = k9 := by omega
         refine hK47 _ _ _ (by omega) ⟨j + 1, bs, mi, rfl, ⟨by omega, hbl, V, hR, hc1, hc2, hC, fun h9 hb9 => (hW9 h9 hb9).step hw68 (fun _ i2 e2 he2 hx2 => by have q := rise_at hx he2 f2 (hx2.trans f3.symm); subst q; rw [← hk9]; exact hb83)⟩, A.keep _ (by repeat' constructor), M⟩
       ·
        have hb81' := of_decide_eq_false hb81
        refine sdc A vf hb81 λa A↦?_
        refine sdm A λa A↦?_
        iterate 5 refine zj A rfl rfl rfl λa A↦?_
        refine sdk (v := .bool false) A λa A↦?_
        refine qb (hK80 _ _ (wp_cond_false (A.ev rfl) ?_))
        refine wp_skip (hK64 _ _ (wrl (sdm A λa A↦?_)))
        refine sdo (v := .int .i64 (((j + 1 : Nat) : Int))) A (qe rfl rfl (ar_add ((in_i64 (by omega) (by omega)).trans (by omega)))) λa A↦?_
        refine sda A λa A↦?_
        refine qb ?_
        replace M : Mg w w79 (.obj g2 (.cells #[.int .i64 (((ss : Nat) : Int)), .int .i64 (((ls : Nat) : Int)), .int .i64 (((last : Nat) : Int)), .slice so ds.length ca] 30) :: .obj g71 (.cells #[.int .i64 z66, .bool true] 32) :: .row 4 1 (.slice (some ⟨g9, 0, none⟩) ds.length ds.length) ds.length (zb bs) :: []) := M.bring 2 rfl rfl
        replace M : Mg w w79 (.row 4 1 (.slice (some ⟨g9, 0, none⟩) ds.length ds.length) ds.length (zb bs) :: .obj g2 (.cells #[.int .i64 (((ss : Nat) : Int)), .int .i64 (((ls : Nat) : Int)), .int .i64 (((last : Nat) : Int)), .slice so ds.length ca] 30) :: .obj g71 (.cells #[.int .i64 z66, .bool true] 32) :: []) := M.bring 2 rfl rfl
        replace M : Mg w w79 (.row 4 1 (.slice (some ⟨g9, 0, none⟩) ds.length ds.length) ds.length (zb bs) :: .obj g2 (.cells #[.int .i64 (((ss : Nat) : Int)), .int .i64 (((ls : Nat) : Int)), .int .i64 (((last : Nat) : Int)), .slice so ds.length ca] 30) :: []) := by
         have h9 := M.sub (cc (cc (cn (.refl _))))
         exact h9
        have hdd : di = d55 := by rw [hdi] at hd57; exact Option.some.inj hd57
        have hdl : di.ws.length = d55.ws.length := by rw [hdd]
        rw [← hdd] at hw68
        refine hK47 _ _ _ (by omega) ⟨j + 1, bs, mi, rfl, ⟨by omega, hbl, V, hR, hc1, hc2, hC, fun h9 hb9 => (hW9 h9 hb9).step hw68 (fun _ i2 e2 he2 hx2 => absurd hx2 (no_ob hx (by omega) he2))⟩, A.keep _ (by repeat' constructor), M⟩
     ·
      have hb63' := of_decide_eq_false hb63
      refine sdc A qm hb63 λa A↦?_
      refine sdk (v := .bool false) A λa A↦?_
      refine qb (hK50 _ _ (wp_cond_false (A.ev rfl) ?_))
      refine wp_exit (hK44 _ _ (wrl (sdm A λa A↦?_)))
      refine sdo (v := .int .i64 (((i + 1 : Nat) : Int))) A (qe rfl rfl (ar_add ((in_i64 (by omega) (by omega)).trans (by omega)))) λa A↦?_
      refine sda A λa A↦?_
      refine qb ?_
      replace M : Mg w w46 (.obj g2 (.cells #[.int .i64 (((ss : Nat) : Int)), .int .i64 (((ls : Nat) : Int)), .int .i64 (((last : Nat) : Int)), .slice so ds.length ca] 30) :: .row 4 1 (.slice (some ⟨g9, 0, none⟩) ds.length ds.length) ds.length (zb bs) :: []) := M.bring 1 rfl rfl
      replace M : Mg w w46 (.row 4 1 (.slice (some ⟨g9, 0, none⟩) ds.length ds.length) ds.length (zb bs) :: .obj g2 (.cells #[.int .i64 (((ss : Nat) : Int)), .int .i64 (((ls : Nat) : Int)), .int .i64 (((last : Nat) : Int)), .slice so ds.length ca] 30) :: []) := M.bring 1 rfl rfl
      replace M : Mg w w46 (.row 4 1 (.slice (some ⟨g9, 0, none⟩) ds.length ds.length) ds.length (zb bs) :: .obj g2 (.cells #[.int .i64 (((ss : Nat) : Int)), .int .i64 (((ls : Nat) : Int)), .int .i64 (((last : Nat) : Int)), .slice so ds.length ca] 30) :: []) := by
       have h9 := M.sub (cc (cc (.refl _)))
       exact h9
      have hdl : di.ws.length = d55.ws.length := by rw [hdi] at hd57; rw [Option.some.inj hd57]
      refine hK39 _ _ _ (by omega) ⟨i + 1, bs, mi, rfl, ⟨by omega, hbl, V, hR, hc1, hc2, (fun h9 i2 d2 hi2 hd2 hb2 => if q9 : i2 < i then hC h9 i2 d2 q9 hd2 hb2 else by have q8 : i2 = i := (by omega); subst q8; rw [hdi] at hd2; cases hd2; exact (show j = di.ws.length by omega) ▸ hW9 h9 hb52)⟩, A.keep _ (by repeat' constructor), M⟩
   ·
    have hb43' := of_decide_eq_false hb43
    refine sdc A qm hb43 λa A↦?_
    refine qb (hK42 _ _ (wp_cond_false (A.ev rfl) ?_))
    refine wp_exit ?_
    replace M : Mg w w38 (.obj g2 (.cells #[.int .i64 (((ss : Nat) : Int)), .int .i64 (((ls : Nat) : Int)), .int .i64 (((last : Nat) : Int)), .slice so ds.length ca] 30) :: .row 4 1 (.slice (some ⟨g9, 0, none⟩) ds.length ds.length) ds.length (zb bs) :: []) := M.bring 1 rfl rfl
    replace M : Mg w w38 (.row 4 1 (.slice (some ⟨g9, 0, none⟩) ds.length ds.length) ds.length (zb bs) :: .obj g2 (.cells #[.int .i64 (((ss : Nat) : Int)), .int .i64 (((ls : Nat) : Int)), .int .i64 (((last : Nat) : Int)), .slice so ds.length ca] 30) :: []) := M.bring 1 rfl rfl
    replace M : Mg w w38 (.row 4 1 (.slice (some ⟨g9, 0, none⟩) ds.length ds.length) ds.length (zb bs) :: .obj g2 (.cells #[.int .i64 (((ss : Nat) : Int)), .int .i64 (((ls : Nat) : Int)), .int .i64 (((last : Nat) : Int)), .slice so ds.length ca] 30) :: []) := by
     have h9 := M.sub (cc (cc (.refl _)))
     exact h9
    have hmo : mo = true := hc35
    refine hK31 _ _ _ (by subst hb0; rw [if_pos hmo]; rcases mm with _ | _ <;> simp at hc2 ⊢ <;> omega) ⟨bs, mm, rfl, ⟨hbl, V, hR, fun h9 => (show i = ds.length by omega) ▸ hC h9⟩, A.keep _ (by repeat' constructor), M⟩
  ·
   refine wp_exit (hK28 _ _ (wsk fun K86 hK86 => wrl (sdm A λa A↦?_)))
   refine sda A λa A↦?_
   refine qb (hK86 _ _ (wp_ret (hret _ _ (en1 A rfl (qi rfl) ?_))))
   replace M : Mg w w30 (.row 4 1 (.slice (some ⟨g9, 0, none⟩) ds.length ds.length) ds.length (zb bs) :: []) := by
    have h9 := M.sub (cc (cn (.refl _)))
    exact h9
   exact ⟨_, _, bs, rfl, ⟨hbl, marked hx hbl V hR (hC hc35) hW⟩, M⟩
theorem HdF_is1_28 : Is1 Try.prog 28 := ⟨⟨_, Try.underlying28, rfl⟩, by kernel_rfl⟩
theorem HdF_is1_3 : Is1 Try.prog 3 := ⟨⟨_, Try.underlying3, rfl⟩, by kernel_rfl⟩
theorem HdF_is1_4 : Is1 Try.prog 4 := ⟨⟨_, Try.underlying4, rfl⟩, by kernel_rfl⟩
theorem HdF_is1_68 : Is1 Try.prog 68 := ⟨⟨_, Try.underlying68, rfl⟩, by kernel_rfl⟩
theorem HdF_fld_30_3 : FieldAt Try.prog 30 3 3 := ⟨_, _, Try.underlying30, rfl, rfl, by kernel_rfl⟩
theorem HdF_fld_73_1 : FieldAt Try.prog 73 1 1 := ⟨_, _, Try.underlying73, rfl, rfl, by kernel_rfl⟩
theorem HdF_fld_73_2 : FieldAt Try.prog 73 2 2 := ⟨_, _, Try.underlying73, rfl, rfl, by kernel_rfl⟩
theorem HdF_isS_30 : IsS Try.prog 30 4 := ⟨⟨_, Try.underlying30⟩, by kernel_rfl⟩
theorem HdF_isS_73 : IsS Try.prog 73 3 := ⟨⟨_, Try.underlying73⟩, by kernel_rfl⟩
theorem xp {ws : List Int} {ds : List Ob} {i : Nat} {d : Ob} (h : ds[i]? = some d) : stay ws (ds.take (i + 1)) = stay ws (ds.take i) ++ (if decide (((d.x : Nat) : Int) ∈ ws) = true then [d] else []) := by
 unfold stay
 rw [List.take_add_one, h, List.filter_append, Option.toList_some, List.filter_cons, List.filter_nil]
theorem ue {ws : List Int} {ds : List Ob} {i : Nat} {d : Ob} (h : ds[i]? = some d) : yf ws (ds.take (i + 1)) = yf ws (ds.take i) ++ (if decide (((d.x : Nat) : Int) ∈ ws) = true then [] else [d]) := by
 unfold yf
 rw [List.take_add_one, h, List.filter_append, Option.toList_some, List.filter_cons, List.filter_nil]
 by_cases k : ((d.x : Nat) : Int) ∈ ws <;> simp [k]
theorem qkh (L : List Ob) (d : Ob) (p : Nat) : obD L ++ [.int .i64 ((d.x : Nat) : Int), .int .i64 ((p : Nat) : Int), .slice (some ⟨d.g, 0, none⟩) d.ws.length d.c] = obD (L ++ [{ d with p := p }]) := by
 rw [obD_app]
 rfl
theorem sumW_part (ds : List Ob) (ws : List Int) (i : Nat) : zr (yf ws (ds.take i)) ≤ zr ds := vv (List.Sublist.trans List.filter_sublist (List.take_sublist _ _))
theorem mvP_part (ds : List Ob) (ws : List Int) (i : Nat) : mvP 0 (stay ws (ds.take i)) ≤ zr ds := by
 have h1 := qhb (stay ws (ds.take i)) 0
 have h2 : zr (stay ws (ds.take i)) ≤ zr ds := vv (List.Sublist.trans List.filter_sublist (List.take_sublist _ _))
 omega
theorem rcoll_bad {w : World} {ss ls last ca : Nat} {so : Option Addr} {ds : List Ob} (hO : RO w so ds) (hol : ds.length ≤ 1000000) (hq : ∀ d ∈ ds, d.p + d.ws.length ≤ 1000000) {sr : Option Addr} {cr : Nat} {rs : List Int} (hr : Ri w sr rs) (hrl : rs.length ≤ 17592186044416) (hbad : ∃ r ∈ rs, r ≠ 0 ∧ ixO r ds = -1) : Calls Try.prog 13 #[.agg #[.int .i64 ((ss : Nat) : Int), .int .i64 ((ls : Nat) : Int), .int .i64 ((last : Nat) : Int), .slice so ds.length ca], .slice sr rs.length cr] w fun e w' => e = .returned (.tuple #[.int .i64 0, .int .i64 7, .agg #[.int .i64 ((ss : Nat) : Int), .int .i64 ((ls : Nat) : Int), .int .i64 ((last : Nat) : Int), .slice so ds.length ca]]) ∧ Below w.heap.size w w' := by
 have M : Mg w w ([]) := Mg.start w
 refine qp (l := [(0, .agg #[.int .i64 (((ss : Nat) : Int)), .int .i64 (((ls : Nat) : Int)), .int .i64 (((last : Nat) : Int)), .slice so ds.length ca]), (1, .slice sr rs.length cr)]) Try.func13 rfl Try.ntmps13 rfl rfl ?_
 intro Q hret hnorm hP a A
 refine wsk fun K1 hK1 => wrl (qt (vs := [.int .i64 (((ss : Nat) : Int)), .int .i64 (((ls : Nat) : Int)), .int .i64 (((last : Nat) : Int)), .slice so ds.length ca]) (t := 30) A M rfl rfl rfl pg (qw rfl rfl) (by decide) ?_)
 intro g2 w3 M a A
 iterate 2 refine sda A λa A↦?_
 refine qt (vs := [.int .i64 0, .int .i64 0, .int .i64 0, .slice none 0 0]) (t := 30) A M rfl rfl rfl pg (ql (z := .agg #[.int .i64 0, .int .i64 0, .int .i64 0, .slice none 0 0]) (by kernel_rfl) rfl) (by decide) ?_
 intro g4 w5 M a A
 refine qb (hK1 _ _ (wsk fun K6 hK6 => wsk fun K7 hK7 => wrl (sda A λa A↦?_)))
 refine qb (hK7 _ _ (wp_block (zh (fun m_ a w1 => ∃ (ii : Nat), m_ = 1 + (rs.length - ii) ∧ (ii ≤ rs.length ∧ ∀ r ∈ rs.take ii, r = 0 ∨ 0 ≤ ixO r ds) ∧ Sl a 81 [(0, .agg #[.int .i64 (((ss : Nat) : Int)), .int .i64 (((ls : Nat) : Int)), .int .i64 (((last : Nat) : Int)), .slice so ds.length ca]), (1, .slice sr rs.length cr), (2, .pointer (some ⟨g2, 0, none⟩)), (6, .pointer (some ⟨g4, 0, none⟩)), (7, .int .i64 (((ii : Nat) : Int)))] ∧ Mg w w1 (.obj g4 (.cells #[.int .i64 0, .int .i64 0, .int .i64 0, .slice none 0 0] 30) :: .obj g2 (.cells #[.int .i64 (((ss : Nat) : Int)), .int .i64 (((ls : Nat) : Int)), .int .i64 (((last : Nat) : Int)), .slice so ds.length ca] 30) :: [])) _ ⟨0, rfl, ⟨Nat.zero_le _, fun r hr => by simp at hr⟩, A.keep _ ⟨rfl, rfl, rfl, rfl, rfl, trivial⟩, M⟩ ?_)))
 clear M A
 rintro m_ a w8 ⟨ii, rfl, hinv10, A, M⟩ K9 hK9
 obtain ⟨hi0, hG⟩ := hinv10
 refine wsk fun K11 hK11 => wsk fun K12 hK12 => wrl ?_
 iterate 2 refine sdm A λa A↦?_
 refine sdo A (qv Try.underlying33 rfl) λa A↦?_
 rcases tf (decide (((ii : Nat) : Int) < ((rs.length : Nat) : Int))) with hb13 | hb13
 ·
  have hb13' := of_decide_eq_true hb13
  refine sdc A qm hb13 λa A↦?_
  refine qb (hK12 _ _ (wp_cond_true (A.ev rfl) ?_))
  refine wp_skip (hK11 _ _ (wsk fun K14 hK14 => wp_block (wsk fun K15 hK15 => zn (S := fun w1 => Mg w w1 (.obj g2 (.cells #[.int .i64 (((ss : Nat) : Int)), .int .i64 (((ls : Nat) : Int)), .int .i64 (((last : Nat) : Int)), .slice so ds.length ca] 30) :: [])) (by kernel_rfl) ?_)))
  replace M := M.drew
  refine qf A 0 rfl rfl rfl rfl hP (M.sub (cn (cc (List.nil_sublist _)))) (fun w1 M => qn rfl) λa A↦?_
  refine qf A 1 rfl rfl rfl rfl hP (M.sub (cn (cc (List.nil_sublist _)))) (fun w1 M => qn rfl) λa A↦?_
  obtain ⟨bi16, oi17, z18, hs19, hc20, hi21⟩ := hr.at_ (i := ii) (by omega)
  refine qf (v := .pointer (some ⟨bi16, oi17 + ii, none⟩)) A 2 rfl rfl rfl rfl hP (M.sub (cn (cc (List.nil_sublist _)))) (fun w1 M => ji (k := ii) Try.underlying33 (by kernel_rfl) rfl rfl (by first | rfl | omega) hs19 (by omega)) λa A↦?_
  refine qf A 3 rfl rfl rfl rfl hP (M.sub (cn (cc (List.nil_sublist _)))) (fun w1 M => jf M hc20 HdF_is1_3 rfl) λa A↦?_
  rcases tf ((z18 != 0)) with hb22 | hb22
  ·
   have hb22' := bne_iff_ne.1 hb22
   refine qf (v := .bool true) A 4 rfl rfl rfl rfl hP (M.sub (cn (cc (List.nil_sublist _)))) (fun w1 M => qe rfl rfl (fun w => (jd w).trans (by rw [hb22]))) λa A↦?_
   refine qf A 5 rfl rfl rfl rfl hP (M.sub (cn (cc (List.nil_sublist _)))) (fun w1 M => qn rfl) λa A↦?_
   refine qf A 6 rfl rfl rfl rfl hP (M.sub (cn (cc (List.nil_sublist _)))) (fun w1 M => qq M HdF_isS_30 rfl 0 rfl (cs := [.int .i64 (((ss : Nat) : Int)), .int .i64 (((ls : Nat) : Int)), .int .i64 (((last : Nat) : Int)), .slice so ds.length ca]) rfl rfl) λa A↦?_
   refine qf A 7 rfl rfl rfl rfl hP (M.sub (cn (cc (List.nil_sublist _)))) (fun w1 M => qn rfl) λa A↦?_
   refine qf A 8 rfl rfl rfl rfl hP (M.sub (cn (cc (List.nil_sublist _)))) (fun w1 M => qn rfl) λa A↦?_
   refine qf (v := .pointer (some ⟨bi16, oi17 + ii, none⟩)) A 9 rfl rfl rfl rfl hP (M.sub (cn (cc (List.nil_sublist _)))) (fun w1 M => ji (k := ii) Try.underlying33 (by kernel_rfl) rfl rfl (by first | rfl | omega) hs19 (by omega)) λa A↦?_
   refine qf A 10 rfl rfl rfl rfl hP (M.sub (cn (cc (List.nil_sublist _)))) (fun w1 M => jf M hc20 HdF_is1_3 rfl) λa A↦?_
   refine zd (by kernel_rfl) (jk A 11 rfl rfl rfl rfl (zp rfl rfl (fun w => by kernel_rfl)) (ja (hO.below M.bel) hol hq) ?_)
   rintro _ w25 ⟨rfl, hb23⟩
   have hrg24 := qab z18 ds
   replace M := M.call hb23
   refine ⟨_, rfl, (M.sub (cn (cc (List.nil_sublist _)))), ?_⟩
   intro a A
   rcases tf (decide (ixO z18 ds < 0)) with hb26 | hb26
   ·
    have hb26' := of_decide_eq_true hb26
    refine qf (v := .bool true) A 12 rfl rfl rfl rfl hP (M.sub (cn (cc (List.nil_sublist _)))) (fun w1 M => qe rfl rfl (fun w => (qm w).trans (by rw [hb26]))) λa A↦?_
    refine qf (v := .bool true) A 13 rfl rfl rfl rfl hP (M.sub (cn (cc (List.nil_sublist _)))) (fun w1 M => jr rfl rfl rfl rfl) λa A↦?_
    refine zi (by kernel_rfl) ?_
    refine hK15 _ _ (wp_cond_true (A.ev rfl) ?_)
    refine wsk fun K27 hK27 => zn (S := fun w1 => Mg w w1 (.obj g2 (.cells #[.int .i64 (((ss : Nat) : Int)), .int .i64 (((ls : Nat) : Int)), .int .i64 (((last : Nat) : Int)), .slice so ds.length ca] 30) :: [])) (by kernel_rfl) ?_
    replace M := M.drew
    refine qf A 0 rfl rfl rfl rfl hP (M.sub (cn (cc (List.nil_sublist _)))) (fun w1 M => qq M HdF_isS_30 rfl 0 rfl (cs := [.int .i64 (((ss : Nat) : Int)), .int .i64 (((ls : Nat) : Int)), .int .i64 (((last : Nat) : Int)), .slice so ds.length ca]) rfl rfl) λa A↦?_
    refine qf A 1 rfl rfl rfl rfl hP (M.sub (cn (cc (List.nil_sublist _)))) (fun w1 M => qz rfl) λa A↦?_
    refine qf A 2 rfl rfl rfl rfl hP (M.sub (cn (cc (List.nil_sublist _)))) (fun w1 M => qz rfl) λa A↦?_
    refine zd (by kernel_rfl) (jh (us := [.int .i64 (((ss : Nat) : Int)), .int .i64 (((ls : Nat) : Int)), .int .i64 (((last : Nat) : Int)), .slice so ds.length ca]) (L' := (.obj g4 (.cells #[.int .i64 (((ss : Nat) : Int)), .int .i64 (((ls : Nat) : Int)), .int .i64 (((last : Nat) : Int)), .slice so ds.length ca] 30) :: .obj g2 (.cells #[.int .i64 (((ss : Nat) : Int)), .int .i64 (((ls : Nat) : Int)), .int .i64 (((last : Nat) : Int)), .slice so ds.length ca] 30) :: [])) A M 3 rfl rfl rfl (qo rfl rfl rfl (by kernel_rfl) M 0 rfl rfl rfl) 0 rfl rfl rfl ?_)
    intro w28 M
    refine ⟨(M.sub (cn (cc (List.nil_sublist _)))), ?_⟩
    refine zi (by kernel_rfl) ?_
    refine hK27 _ _ (wp_ret (hret _ _ (en3 A rfl (qi rfl) (qi rfl) (zk M HdF_isS_30 rfl 0 rfl (cs := [.int .i64 (((ss : Nat) : Int)), .int .i64 (((ls : Nat) : Int)), .int .i64 (((last : Nat) : Int)), .slice so ds.length ca]) rfl rfl) ?_)))
    exact ⟨rfl, M.bel⟩
   ·
    have hb26' := of_decide_eq_false hb26
    refine qf (v := .bool false) A 12 rfl rfl rfl rfl hP (M.sub (cn (cc (List.nil_sublist _)))) (fun w1 M => qe rfl rfl (fun w => (qm w).trans (by rw [hb26]))) λa A↦?_
    refine qf (v := .bool false) A 13 rfl rfl rfl rfl hP (M.sub (cn (cc (List.nil_sublist _)))) (fun w1 M => jr rfl rfl rfl rfl) λa A↦?_
    refine zi (by kernel_rfl) ?_
    refine hK15 _ _ (wp_cond_false (A.ev rfl) ?_)
    refine wp_skip (hK14 _ _ (wrl (sdm A λa A↦?_)))
    refine sdo (v := .int .i64 (((ii + 1 : Nat) : Int))) A (qe rfl rfl (ar_add ((in_i64 (by omega) (by omega)).trans (by omega)))) λa A↦?_
    refine sda A λa A↦?_
    refine qb ?_
    refine hK9 _ _ _ (by omega) ⟨ii + 1, rfl, ⟨by omega, fun r hr9 => by
       rw [List.take_add_one, hi21] at hr9
       rcases List.mem_append.1 hr9 with m9 | m9
       ·
        exact hG r m9
       ·
        simp at m9; subst m9; exact (by first | (right; omega) | exact hgood _ (List.mem_of_getElem? hi21))⟩, A.keep _ ⟨rfl, rfl, rfl, rfl, rfl, trivial⟩, M⟩
  ·
   have hb22' := bne_eq_false_iff_eq.1 hb22
   refine qf (v := .bool false) A 4 rfl rfl rfl rfl hP (M.sub (cn (cc (List.nil_sublist _)))) (fun w1 M => qe rfl rfl (fun w => (jd w).trans (by rw [hb22]))) λa A↦?_
   refine qf A 5 rfl rfl rfl rfl hP (M.sub (cn (cc (List.nil_sublist _)))) (fun w1 M => qn rfl) λa A↦?_
   refine xe A 6 rfl rfl rfl rfl hP (M.sub (cn (cc (List.nil_sublist _)))) λa A↦?_
   refine xe A 7 rfl rfl rfl rfl hP (M.sub (cn (cc (List.nil_sublist _)))) λa A↦?_
   refine xe A 8 rfl rfl rfl rfl hP (M.sub (cn (cc (List.nil_sublist _)))) λa A↦?_
   refine xe A 9 rfl rfl rfl rfl hP (M.sub (cn (cc (List.nil_sublist _)))) λa A↦?_
   refine xe A 10 rfl rfl rfl rfl hP (M.sub (cn (cc (List.nil_sublist _)))) λa A↦?_
   refine xe A 11 rfl rfl rfl rfl hP (M.sub (cn (cc (List.nil_sublist _)))) λa A↦?_
   refine xe A 12 rfl rfl rfl rfl hP (M.sub (cn (cc (List.nil_sublist _)))) λa A↦?_
   refine qf (v := .bool false) A 13 rfl rfl rfl rfl hP (M.sub (cn (cc (List.nil_sublist _)))) (fun w1 M => jr rfl rfl rfl rfl) λa A↦?_
   refine zi (by kernel_rfl) ?_
   refine hK15 _ _ (wp_cond_false (A.ev rfl) ?_)
   refine wp_skip (hK14 _ _ (wrl (sdm A λa A↦?_)))
   refine sdo (v := .int .i64 (((ii + 1 : Nat) : Int))) A (qe rfl rfl (ar_add ((in_i64 (by omega) (by omega)).trans (by omega)))) λa A↦?_
   refine sda A λa A↦?_
   refine qb ?_
   refine hK9 _ _ _ (by omega) ⟨ii + 1, rfl, ⟨by omega, fun r hr9 => by
      rw [List.take_add_one, hi21] at hr9
      rcases List.mem_append.1 hr9 with m9 | m9
      ·
       exact hG r m9
      ·
       simp at m9; subst m9; exact (.inl hb22')⟩, A.keep _ ⟨rfl, rfl, rfl, rfl, rfl, trivial⟩, M⟩
 ·
  have hb13' := of_decide_eq_false hb13
  refine sdc A qm hb13 λa A↦?_
  refine qb (hK12 _ _ (wp_cond_false (A.ev rfl) ?_))
  refine wp_exit (hK6 _ _ (wsk fun K29 hK29 => ?_))
  exfalso
  obtain ⟨r9, hr9, hr0, hr1⟩ := hbad
  have := hG r9 (by rw [List.take_of_length_le (by omega)]; exact hr9)
  omega
set_option maxHeartbeats 1000000 in
theorem rcoll_ok {w : World} {ss ls last ca : Nat} {so : Option Addr} {ds : List Ob} (hO : RO w so ds) (hol : ds.length ≤ 1000000) (hq : ∀ d ∈ ds, d.p + d.ws.length ≤ 1000000) {sr : Option Addr} {cr : Nat} {rs : List Int} (hr : Ri w sr rs) (hrl : rs.length ≤ 17592186044416) {l0 : Nat} (hx : Hx ds l0) (hsw : zr ds ≤ 1000000) {ws : List Int} (hW : ∀ x, x ∈ ws ↔ Rc ds rs x) (hgood : ∀ r ∈ rs, r = 0 ∨ 0 ≤ ixO r ds) : Calls Try.prog 13 #[.agg #[.int .i64 ((ss : Nat) : Int), .int .i64 ((ls : Nat) : Int), .int .i64 ((last : Nat) : Int), .slice so ds.length ca], .slice sr rs.length cr] w fun e w' => ∃ so' ca', e = .returned (.tuple #[.int .i64 ((zr (yf ws ds) : Nat) : Int), .int .i64 0, .agg #[.int .i64 ((ss : Nat) : Int), .int .i64 ((ls : Nat) : Int), .int .i64 ((last : Nat) : Int), .slice so' (mvD 0 (stay ws ds)).length ca']]) ∧ Mg w w' [.row 73 3 (.slice so' (mvD 0 (stay ws ds)).length ca') (mvD 0 (stay ws ds)).length (obD (mvD 0 (stay ws ds)))] := by
 have M : Mg w w ([]) := Mg.start w
 refine qp (l := [(0, .agg #[.int .i64 (((ss : Nat) : Int)), .int .i64 (((ls : Nat) : Int)), .int .i64 (((last : Nat) : Int)), .slice so ds.length ca]), (1, .slice sr rs.length cr)]) Try.func13 rfl Try.ntmps13 rfl rfl ?_
 intro Q hret hnorm hP a A
 refine wsk fun K1 hK1 => wrl (qt (vs := [.int .i64 (((ss : Nat) : Int)), .int .i64 (((ls : Nat) : Int)), .int .i64 (((last : Nat) : Int)), .slice so ds.length ca]) (t := 30) A M rfl rfl rfl pg (qw rfl rfl) (by decide) ?_)
 intro g2 w3 M a A
 iterate 2 refine sda A λa A↦?_
 refine qt (vs := [.int .i64 0, .int .i64 0, .int .i64 0, .slice none 0 0]) (t := 30) A M rfl rfl rfl pg (ql (z := .agg #[.int .i64 0, .int .i64 0, .int .i64 0, .slice none 0 0]) (by kernel_rfl) rfl) (by decide) ?_
 intro g4 w5 M a A
 refine qb (hK1 _ _ (wsk fun K6 hK6 => wsk fun K7 hK7 => wrl (sda A λa A↦?_)))
 refine qb (hK7 _ _ (wp_block (zh (fun m_ a w1 => ∃ (ii : Nat), m_ = 1 + (rs.length - ii) ∧ (ii ≤ rs.length ∧ ∀ r ∈ rs.take ii, r = 0 ∨ 0 ≤ ixO r ds) ∧ Sl a 81 [(0, .agg #[.int .i64 (((ss : Nat) : Int)), .int .i64 (((ls : Nat) : Int)), .int .i64 (((last : Nat) : Int)), .slice so ds.length ca]), (1, .slice sr rs.length cr), (2, .pointer (some ⟨g2, 0, none⟩)), (6, .pointer (some ⟨g4, 0, none⟩)), (7, .int .i64 (((ii : Nat) : Int)))] ∧ Mg w w1 (.obj g4 (.cells #[.int .i64 0, .int .i64 0, .int .i64 0, .slice none 0 0] 30) :: .obj g2 (.cells #[.int .i64 (((ss : Nat) : Int)), .int .i64 (((ls : Nat) : Int)), .int .i64 (((last : Nat) : Int)), .slice so ds.length ca] 30) :: [])) _ ⟨0, rfl, ⟨Nat.zero_le _, fun r hr => by simp at hr⟩, A.keep _ ⟨rfl, rfl, rfl, rfl, rfl, trivial⟩, M⟩ ?_)))
 clear M A
 rintro m_ a w8 ⟨ii, rfl, hinv10, A, M⟩ K9 hK9
 obtain ⟨hi0, hG⟩ := hinv10
 refine wsk fun K11 hK11 => wsk fun K12 hK12 => wrl ?_
 iterate 2 refine sdm A λa A↦?_
 refine sdo A (qv Try.underlying33 rfl) λa A↦?_
 rcases tf (decide (((ii : Nat) : Int) < ((rs.length : Nat) : Int))) with hb13 | hb13
 ·
  have hb13' := of_decide_eq_true hb13
  refine sdc A qm hb13 λa A↦?_
  refine qb (hK12 _ _ (wp_cond_true (A.ev rfl) ?_))
  refine wp_skip (hK11 _ _ (wsk fun K14 hK14 => wp_block (wsk fun K15 hK15 => zn (S := fun w1 => Mg w w1 (.obj g2 (.cells #[.int .i64 (((ss : Nat) : Int)), .int .i64 (((ls : Nat) : Int)), .int .i64 (((last : Nat) : Int)), .slice so ds.length ca] 30) :: [])) (by kernel_rfl) ?_)))
  replace M := M.drew
  refine qf A 0 rfl rfl rfl rfl hP (M.sub (cn (cc (List.nil_sublist _)))) (fun w1 M => qn rfl) λa A↦?_
  refine qf A 1 rfl rfl rfl rfl hP (M.sub (cn (cc (List.nil_sublist _)))) (fun w1 M => qn rfl) λa A↦?_
  obtain ⟨bi16, oi17, z18, hs19, hc20, hi21⟩ := hr.at_ (i := ii) (by omega)
  refine qf (v := .pointer (some ⟨bi16, oi17 + ii, none⟩)) A 2 rfl rfl rfl rfl hP (M.sub (cn (cc (List.nil_sublist _)))) (fun w1 M => ji (k := ii) Try.underlying33 (by kernel_rfl) rfl rfl (by first | rfl | omega) hs19 (by omega)) λa A↦?_
  refine qf A 3 rfl rfl rfl rfl hP (M.sub (cn (cc (List.nil_sublist _)))) (fun w1 M => jf M hc20 HdF_is1_3 rfl) λa A↦?_
  rcases tf ((z18 != 0)) with hb22 | hb22
  ·
   have hb22' := bne_iff_ne.1 hb22
   refine qf (v := .bool true) A 4 rfl rfl rfl rfl hP (M.sub (cn (cc (List.nil_sublist _)))) (fun w1 M => qe rfl rfl (fun w => (jd w).trans (by rw [hb22]))) λa A↦?_
   refine qf A 5 rfl rfl rfl rfl hP (M.sub (cn (cc (List.nil_sublist _)))) (fun w1 M => qn rfl) λa A↦?_
   refine qf A 6 rfl rfl rfl rfl hP (M.sub (cn (cc (List.nil_sublist _)))) (fun w1 M => qq M HdF_isS_30 rfl 0 rfl (cs := [.int .i64 (((ss : Nat) : Int)), .int .i64 (((ls : Nat) : Int)), .int .i64 (((last : Nat) : Int)), .slice so ds.length ca]) rfl rfl) λa A↦?_
   refine qf A 7 rfl rfl rfl rfl hP (M.sub (cn (cc (List.nil_sublist _)))) (fun w1 M => qn rfl) λa A↦?_
   refine qf A 8 rfl rfl rfl rfl hP (M.sub (cn (cc (List.nil_sublist _)))) (fun w1 M => qn rfl) λa A↦?_
   refine qf (v := .pointer (some ⟨bi16, oi17 + ii, none⟩)) A 9 rfl rfl rfl rfl hP (M.sub (cn (cc (List.nil_sublist _)))) (fun w1 M => ji (k := ii) Try.underlying33 (by kernel_rfl) rfl rfl (by first | rfl | omega) hs19 (by omega)) λa A↦?_
   refine qf A 10 rfl rfl rfl rfl hP (M.sub (cn (cc (List.nil_sublist _)))) (fun w1 M => jf M hc20 HdF_is1_3 rfl) λa A↦?_
   refine zd (by kernel_rfl) (jk A 11 rfl rfl rfl rfl (zp rfl rfl (fun w => by kernel_rfl)) (ja (hO.below M.bel) hol hq) ?_)
   rintro _ w25 ⟨rfl, hb23⟩
   have hrg24 := qab z18 ds
   replace M := M.call hb23
   refine ⟨_, rfl, (M.sub (cn (cc (List.nil_sublist _)))), ?_⟩
   intro a A
   refine qf (v := .bool false) A 12 rfl rfl rfl rfl hP (M.sub (cn (cc (List.nil_sublist _)))) (fun w1 M => qe rfl rfl (fun w => (qm w).trans (by rw [show (decide (ixO z18 ds < 0)) = false from (decide_eq_false (by have := hgood _ (List.mem_of_getElem? hi21); omega))]))) λa A↦?_
   refine qf (v := .bool false) A 13 rfl rfl rfl rfl hP (M.sub (cn (cc (List.nil_sublist _)))) (fun w1 M => jr rfl rfl rfl rfl) λa A↦?_
   refine zi (by kernel_rfl) ?_
   refine hK15 _ _ (wp_cond_false (A.ev rfl) ?_)
   refine wp_skip (hK14 _ _ (wrl (sdm A λa A↦?_)))
   refine sdo (v := .int .i64 (((ii + 1 : Nat) : Int))) A (qe rfl rfl (ar_add ((in_i64 (by omega) (by omega)).trans (by omega)))) λa A↦?_
   refine sda A λa A↦?_
   refine qb ?_
   refine hK9 _ _ _ (by omega) ⟨ii + 1, rfl, ⟨by omega, fun r hr9 => by
      rw [List.take_add_one, hi21] at hr9
      rcases List.mem_append.1 hr9 with m9 | m9
      ·
       exact hG r m9
      ·
       simp at m9; subst m9; exact (by first | (right; omega) | exact hgood _ (List.mem_of_getElem? hi21))⟩, A.keep _ ⟨rfl, rfl, rfl, rfl, rfl, trivial⟩, M⟩
  ·
   have hb22' := bne_eq_false_iff_eq.1 hb22
   refine qf (v := .bool false) A 4 rfl rfl rfl rfl hP (M.sub (cn (cc (List.nil_sublist _)))) (fun w1 M => qe rfl rfl (fun w => (jd w).trans (by rw [hb22]))) λa A↦?_
   refine qf A 5 rfl rfl rfl rfl hP (M.sub (cn (cc (List.nil_sublist _)))) (fun w1 M => qn rfl) λa A↦?_
   refine xe A 6 rfl rfl rfl rfl hP (M.sub (cn (cc (List.nil_sublist _)))) λa A↦?_
   refine xe A 7 rfl rfl rfl rfl hP (M.sub (cn (cc (List.nil_sublist _)))) λa A↦?_
   refine xe A 8 rfl rfl rfl rfl hP (M.sub (cn (cc (List.nil_sublist _)))) λa A↦?_
   refine xe A 9 rfl rfl rfl rfl hP (M.sub (cn (cc (List.nil_sublist _)))) λa A↦?_
   refine xe A 10 rfl rfl rfl rfl hP (M.sub (cn (cc (List.nil_sublist _)))) λa A↦?_
   refine xe A 11 rfl rfl rfl rfl hP (M.sub (cn (cc (List.nil_sublist _)))) λa A↦?_
   refine xe A 12 rfl rfl rfl rfl hP (M.sub (cn (cc (List.nil_sublist _)))) λa A↦?_
   refine qf (v := .bool false) A 13 rfl rfl rfl rfl hP (M.sub (cn (cc (List.nil_sublist _)))) (fun w1 M => jr rfl rfl rfl rfl) λa A↦?_
   refine zi (by kernel_rfl) ?_
   refine hK15 _ _ (wp_cond_false (A.ev rfl) ?_)
   refine wp_skip (hK14 _ _ (wrl (sdm A λa A↦?_)))
   refine sdo (v := .int .i64 (((ii + 1 : Nat) : Int))) A (qe rfl rfl (ar_add ((in_i64 (by omega) (by omega)).trans (by omega)))) λa A↦?_
   refine sda A λa A↦?_
   refine qb ?_
   refine hK9 _ _ _ (by omega) ⟨ii + 1, rfl, ⟨by omega, fun r hr9 => by
      rw [List.take_add_one, hi21] at hr9
      rcases List.mem_append.1 hr9 with m9 | m9
      ·
       exact hG r m9
      ·
       simp at m9; subst m9; exact (.inl hb22')⟩, A.keep _ ⟨rfl, rfl, rfl, rfl, rfl, trivial⟩, M⟩
 ·
  have hb13' := of_decide_eq_false hb13
  refine sdc A qm hb13 λa A↦?_
  refine qb (hK12 _ _ (wp_cond_false (A.ev rfl) ?_))
  refine wp_exit (hK6 _ _ (wsk fun K26 hK26 => wrl (sdo A (qq M HdF_isS_30 rfl 1 rfl (cs := [.int .i64 (((ss : Nat) : Int)), .int .i64 (((ls : Nat) : Int)), .int .i64 (((last : Nat) : Int)), .slice so ds.length ca]) rfl rfl) λa A↦?_)))
  refine sdm A λa A↦?_
  refine sct A (ef rfl rfl) (rreach_any (hO.below M.bel) hol hq (hr.below M.bel) hrl hx hW) ?_
  rintro _ w31 ⟨so27, ca28, bs, rfl, ⟨hbl, hbs⟩, hM30⟩
  replace M : Mg w w31 (.row 4 1 (.slice so27 ds.length ca28) ds.length (zb bs) :: .obj g4 (.cells #[.int .i64 0, .int .i64 0, .int .i64 0, .slice none 0 0] 30) :: .obj g2 (.cells #[.int .i64 (((ss : Nat) : Int)), .int .i64 (((ls : Nat) : Int)), .int .i64 (((last : Nat) : Int)), .slice so ds.length ca] 30) :: []) := (M.both hM30 (qj (by simp) (qj (by simp) (xa xf))) (qj (by simp) (xa xf)))
  refine ⟨_, rfl, ?_⟩
  intro a A
  refine sda A λa A↦?_
  refine qb (hK26 _ _ (wsk fun K32 hK32 => wrl (jm (e := 73) (sz := 3) (m := 0) (vs := []) A M rfl rfl rfl (qx rfl (by kernel_rfl)) rfl rfl (.inl (by decide)) ?_)))
  intro g33 w34 M a A
  refine sda A λa A↦?_
  refine qb (hK32 _ _ (wsk fun K35 hK35 => wrl ?_))
  iterate 2 refine sda A λa A↦?_
  refine qb (hK35 _ _ (wsk fun K36 hK36 => wsk fun K37 hK37 => wrl (sda A λa A↦?_)))
  refine qb (hK37 _ _ (wp_block ?_))
  replace M : Mg w w34 (.obj g2 (.cells #[.int .i64 (((ss : Nat) : Int)), .int .i64 (((ls : Nat) : Int)), .int .i64 (((last : Nat) : Int)), .slice so ds.length ca] 30) :: .row 73 3 (.slice (some ⟨g33, 0, none⟩) 0 0) 0 ([]) :: .row 4 1 (.slice so27 ds.length ca28) ds.length (zb bs) :: .obj g4 (.cells #[.int .i64 0, .int .i64 0, .int .i64 0, .slice none 0 0] 30) :: []) := M.bring 3 rfl rfl
  replace M : Mg w w34 (.obj g4 (.cells #[.int .i64 0, .int .i64 0, .int .i64 0, .slice none 0 0] 30) :: .obj g2 (.cells #[.int .i64 (((ss : Nat) : Int)), .int .i64 (((ls : Nat) : Int)), .int .i64 (((last : Nat) : Int)), .slice so ds.length ca] 30) :: .row 73 3 (.slice (some ⟨g33, 0, none⟩) 0 0) 0 ([]) :: .row 4 1 (.slice so27 ds.length ca28) ds.length (zb bs) :: []) := M.bring 3 rfl rfl
  replace M : Mg w w34 (.row 4 1 (.slice so27 ds.length ca28) ds.length (zb bs) :: .obj g4 (.cells #[.int .i64 0, .int .i64 0, .int .i64 0, .slice none 0 0] 30) :: .obj g2 (.cells #[.int .i64 (((ss : Nat) : Int)), .int .i64 (((ls : Nat) : Int)), .int .i64 (((last : Nat) : Int)), .slice so ds.length ca] 30) :: .row 73 3 (.slice (some ⟨g33, 0, none⟩) 0 0) 0 ([]) :: []) := M.bring 3 rfl rfl
  replace M : Mg w w34 (.row 73 3 (.slice (some ⟨g33, 0, none⟩) 0 0) 0 ([]) :: .row 4 1 (.slice so27 ds.length ca28) ds.length (zb bs) :: .obj g4 (.cells #[.int .i64 0, .int .i64 0, .int .i64 0, .slice none 0 0] 30) :: .obj g2 (.cells #[.int .i64 (((ss : Nat) : Int)), .int .i64 (((ls : Nat) : Int)), .int .i64 (((last : Nat) : Int)), .slice so ds.length ca] 30) :: []) := M.bring 3 rfl rfl
  replace M : Mg w w34 (.row 73 3 (.slice (some ⟨g33, 0, none⟩) 0 0) 0 ([]) :: .row 4 1 (.slice so27 ds.length ca28) ds.length (zb bs) :: .obj g4 (.cells #[.int .i64 0, .int .i64 0, .int .i64 0, .slice none 0 0] 30) :: .obj g2 (.cells #[.int .i64 (((ss : Nat) : Int)), .int .i64 (((ls : Nat) : Int)), .int .i64 (((last : Nat) : Int)), .slice so ds.length ca] 30) :: []) := by
   have h9 := M.sub (cc (cc (cc (cc (.refl _)))))
   exact h9
  refine zh (fun m_ a w1 => ∃ (i : Nat) (xs : List Ob) (so_ : Option Addr) (ca_ : Nat) (fr : Nat) (at_ : Nat), m_ = 1 + (ds.length - i) ∧ (i ≤ ds.length ∧ xs = mvD 0 (stay ws (ds.take i)) ∧ fr = zr (yf ws (ds.take i)) ∧ at_ = mvP 0 (stay ws (ds.take i))) ∧ Sl a 81 [(0, .agg #[.int .i64 (((ss : Nat) : Int)), .int .i64 (((ls : Nat) : Int)), .int .i64 (((last : Nat) : Int)), .slice so ds.length ca]), (1, .slice sr rs.length cr), (2, .pointer (some ⟨g2, 0, none⟩)), (6, .pointer (some ⟨g4, 0, none⟩)), (7, .int .i64 (((ii : Nat) : Int))), (8, .slice so27 ds.length ca28), (9, .slice so_ xs.length ca_), (10, .int .i64 (((fr : Nat) : Int))), (11, .int .i64 (((at_ : Nat) : Int))), (12, .int .i64 (((i : Nat) : Int))), (14, .int .i64 (((ii : Nat) : Int))), (15, .slice sr rs.length cr), (16, .int .i64 (((rs.length : Nat) : Int))), (17, .bool false), (35, .agg #[.int .i64 (((ss : Nat) : Int)), .int .i64 (((ls : Nat) : Int)), .int .i64 (((last : Nat) : Int)), .slice so ds.length ca]), (36, .slice sr rs.length cr), (37, .slice so27 ds.length ca28), (38, .slice (some ⟨g33, 0, none⟩) 0 0)] ∧ Mg w w1 (.row 73 3 (.slice so_ xs.length ca_) xs.length (obD xs) :: .row 4 1 (.slice so27 ds.length ca28) ds.length (zb bs) :: .obj g4 (.cells #[.int .i64 0, .int .i64 0, .int .i64 0, .slice none 0 0] 30) :: .obj g2 (.cells #[.int .i64 (((ss : Nat) : Int)), .int .i64 (((ls : Nat) : Int)), .int .i64 (((last : Nat) : Int)), .slice so ds.length ca] 30) :: [])) _ ⟨0, [], _, 0, 0, 0, rfl, ⟨Nat.zero_le _, rfl, rfl, rfl⟩, A.keep _ (by repeat' constructor), M⟩ ?_
  clear M A
  rintro m_ a w38 ⟨i, xs, so_, ca_, fr, at_, rfl, hinv40, A, M⟩ K39 hK39
  obtain ⟨hi0, hxs, hfr, hat⟩ := hinv40
  have hb1 := sumW_part ds ws i
  have hb2 := mvP_part ds ws i
  have hxl : xs.length ≤ i := by
   rw [hxs, kk]
   exact Nat.le_trans (List.length_filter_le _ _) (by rw [List.length_take]; omega)
  refine wsk fun K41 hK41 => wsk fun K42 hK42 => wrl (sdm A λa A↦?_)
  refine sdo (v := .pointer (some ⟨g2, 3, none⟩)) A (qd HdF_fld_30_3 rfl rfl) λa A↦?_
  refine sdo A (qh M HdF_is1_28 rfl 3 rfl rfl) λa A↦?_
  refine sdo A (qv Try.underlying28 rfl) λa A↦?_
  rcases tf (decide (((i : Nat) : Int) < ((ds.length : Nat) : Int))) with hb43 | hb43
  ·
   have hb43' := of_decide_eq_true hb43
   refine sdc A qm hb43 λa A↦?_
   refine qb (hK42 _ _ (wp_cond_true (A.ev rfl) ?_))
   refine wp_skip (hK41 _ _ (wsk fun K44 hK44 => wp_block (wsk fun K45 hK45 => wrl (sdo (v := .pointer (some ⟨g2, 3, none⟩)) A (qd HdF_fld_30_3 rfl rfl) λa A↦?_))))
   refine sdo A (qh M HdF_is1_28 rfl 3 rfl rfl) λa A↦?_
   refine sdm A λa A↦?_
   obtain ⟨bd46, od47, d48, hs49, hd50, hc51, hc52, hc53⟩ := hO.at_ (i := i) (by omega)
   have hm54 := List.mem_of_getElem? hd50
   have hq55 := hq d48 hm54
   refine sdo (v := .pointer (some ⟨bd46, od47 + i * 3, none⟩)) A (zt (k := i) Try.underlying28 (by kernel_rfl) rfl rfl (by first | rfl | omega) hs49 (by omega)) λa A↦?_
   refine sdo A (qbj M hc51 hc52 hc53 HdF_isS_73 rfl) λa A↦?_
   refine qt (vs := [.int .i64 0, .int .i64 0, .slice none 0 0]) (t := 73) A M rfl rfl rfl pg (ql (z := .agg #[.int .i64 0, .int .i64 0, .slice none 0 0]) (by kernel_rfl) rfl) (by decide) ?_
   intro g56 w57 M a A
   refine qs (us := [.int .i64 (((d48.x : Nat) : Int)), .int .i64 (((d48.p : Nat) : Int)), .slice (some ⟨d48.g, 0, none⟩) d48.ws.length d48.c]) (L' := (.obj g56 (.cells #[.int .i64 (((d48.x : Nat) : Int)), .int .i64 (((d48.p : Nat) : Int)), .slice (some ⟨d48.g, 0, none⟩) d48.ws.length d48.c] 73) :: .row 73 3 (.slice so_ xs.length ca_) xs.length (obD xs) :: .row 4 1 (.slice so27 ds.length ca28) ds.length (zb bs) :: .obj g4 (.cells #[.int .i64 0, .int .i64 0, .int .i64 0, .slice none 0 0] 30) :: .obj g2 (.cells #[.int .i64 (((ss : Nat) : Int)), .int .i64 (((ls : Nat) : Int)), .int .i64 (((last : Nat) : Int)), .slice so ds.length ca] 30) :: [])) A M rfl rfl (qo rfl rfl rfl (by kernel_rfl) M 0 rfl rfl rfl) 0 rfl rfl rfl ?_
   intro w58 M
   refine qb (hK45 _ _ (wsk fun K59 hK59 => wsk fun K60 hK60 => wrl ?_))
   iterate 2 refine sdm A λa A↦?_
   obtain ⟨g61, hg62⟩ := zy (M.has 2 rfl) (by omega)
   refine sdo (v := .pointer (some ⟨g61, i * 1, none⟩)) A (jy (k := i) Try.underlying83 (by kernel_rfl) rfl rfl (by first | rfl | omega) hg62 (by omega)) λa A↦?_
   rcases tf (decide (((d48.x : Nat) : Int) ∈ ws)) with hb63 | hb63
   ·
    have hb63' := of_decide_eq_true hb63
    refine sdo (v := .bool true) A (ye M 2 rfl hg62 (by rw [Nat.mul_one, vb (hbs i d48 hd50), hb63]) HdF_is1_4 rfl) λa A↦?_
    refine sdo (v := .bool false) A (zf rfl zm) λa A↦?_
    refine qb (hK60 _ _ (wp_cond_false (A.ev rfl) ?_))
    refine wp_skip (hK59 _ _ (wsk fun K64 hK64 => wsk fun K65 hK65 => wrl (sdo (v := .pointer (some ⟨g56, 2, none⟩)) A (qd HdF_fld_73_2 rfl rfl) λa A↦?_)))
    refine sdo A (qh M HdF_is1_68 rfl 0 rfl rfl) λa A↦?_
    refine sdo A (qv Try.underlying68 rfl) λa A↦?_
    rcases tf (decide (16 < ((d48.ws.length : Nat) : Int))) with hb66 | hb66
    ·
     have hb66' := of_decide_eq_true hb66
     refine gcl A M (ef rfl rfl) (jg hb66) fun w68 hb67 M a A => ?_
     refine sdo (v := .bool false) A (zf rfl zm) λa A↦?_
     refine qb (hK65 _ _ (wp_cond_false (A.ev rfl) ?_))
     refine wp_skip (hK64 _ _ (wrl (sdm A λa A↦?_)))
     refine sdo A (qq M HdF_isS_73 rfl 0 rfl (cs := [.int .i64 (((d48.x : Nat) : Int)), .int .i64 (((d48.p : Nat) : Int)), .slice (some ⟨d48.g, 0, none⟩) d48.ws.length d48.c]) rfl rfl) λa A↦?_
     refine jm (e := 73) (sz := 3) (m := 1) (vs := [.int .i64 (((d48.x : Nat) : Int)), .int .i64 (((d48.p : Nat) : Int)), .slice (some ⟨d48.g, 0, none⟩) d48.ws.length d48.c]) A M rfl rfl rfl (qx rfl (by kernel_rfl)) rfl rfl (.inl (by decide)) ?_
     intro g69 w70 M a A
     refine zz (e := 73) (sz := 3) (k := 2) (q := xs.length) (m := 1) (xs := obD xs) (news := [.int .i64 (((d48.x : Nat) : Int)), .int .i64 (((d48.p : Nat) : Int)), .slice (some ⟨d48.g, 0, none⟩) d48.ws.length d48.c]) (L' := fun v71 => (.row 73 3 (.slice (some ⟨g69, 0, none⟩) 1 1) 1 ([.int .i64 (((d48.x : Nat) : Int)), .int .i64 (((d48.p : Nat) : Int)), .slice (some ⟨d48.g, 0, none⟩) d48.ws.length d48.c]) :: .obj g56 (.cells #[.int .i64 (((d48.x : Nat) : Int)), .int .i64 (((d48.p : Nat) : Int)), .slice (some ⟨d48.g, 0, none⟩) d48.ws.length d48.c] 73) :: .row 73 3 (v71) (xs.length + 1) (obD xs ++ [.int .i64 (((d48.x : Nat) : Int)), .int .i64 (((d48.p : Nat) : Int)), .slice (some ⟨d48.g, 0, none⟩) d48.ws.length d48.c]) :: .row 4 1 (.slice so27 ds.length ca28) ds.length (zb bs) :: .obj g4 (.cells #[.int .i64 0, .int .i64 0, .int .i64 0, .slice none 0 0] 30) :: .obj g2 (.cells #[.int .i64 (((ss : Nat) : Int)), .int .i64 (((ls : Nat) : Int)), .int .i64 (((last : Nat) : Int)), .slice so ds.length ca] 30) :: [])) A rfl rfl rfl (xi (z := .agg #[.int .i64 0, .int .i64 0, .slice none 0 0]) (sz := 3) (by_ := 40) Try.underlying28 (by kernel_rfl) rfl rfl rfl M 2 rfl rfl rfl rfl (vi (M.has 0 rfl)) (by intro u hu; simp at hu; rcases hu with rfl | rfl | rfl <;> rfl) (by omega)) (fun _ => rfl) ?_
     intro v71 w72 M a A
     replace M : Mg w w72 (.row 73 3 (.slice (some ⟨g69, 0, none⟩) 1 1) 1 ([.int .i64 (((d48.x : Nat) : Int)), .int .i64 (((d48.p : Nat) : Int)), .slice (some ⟨d48.g, 0, none⟩) d48.ws.length d48.c]) :: .obj g56 (.cells #[.int .i64 (((d48.x : Nat) : Int)), .int .i64 (((d48.p : Nat) : Int)), .slice (some ⟨d48.g, 0, none⟩) d48.ws.length d48.c] 73) :: .row 73 3 (v71) ((xs ++ [{ d48 with p := d48.p }]).length) (obD (xs ++ [{ d48 with p := d48.p }])) :: .row 4 1 (.slice so27 ds.length ca28) ds.length (zb bs) :: .obj g4 (.cells #[.int .i64 0, .int .i64 0, .int .i64 0, .slice none 0 0] 30) :: .obj g2 (.cells #[.int .i64 (((ss : Nat) : Int)), .int .i64 (((ls : Nat) : Int)), .int .i64 (((last : Nat) : Int)), .slice so ds.length ca] 30) :: []) := by rw [← qkh, List.length_append]; exact M
     obtain ⟨so73, ca74, rfl⟩ := zx (M.has 2 rfl)
     refine sda A λa A↦?_
     refine qb (hK44 _ _ (wrl (sdm A λa A↦?_)))
     refine sdo (v := .int .i64 (((i + 1 : Nat) : Int))) A (qe rfl rfl (ar_add ((in_i64 (by omega) (by omega)).trans (by omega)))) λa A↦?_
     refine sda A λa A↦?_
     refine qb ?_
     replace M : Mg w w72 (.obj g2 (.cells #[.int .i64 (((ss : Nat) : Int)), .int .i64 (((ls : Nat) : Int)), .int .i64 (((last : Nat) : Int)), .slice so ds.length ca] 30) :: .row 73 3 (.slice (some ⟨g69, 0, none⟩) 1 1) 1 ([.int .i64 (((d48.x : Nat) : Int)), .int .i64 (((d48.p : Nat) : Int)), .slice (some ⟨d48.g, 0, none⟩) d48.ws.length d48.c]) :: .obj g56 (.cells #[.int .i64 (((d48.x : Nat) : Int)), .int .i64 (((d48.p : Nat) : Int)), .slice (some ⟨d48.g, 0, none⟩) d48.ws.length d48.c] 73) :: .row 73 3 (.slice so73 ((xs ++ [{ d48 with p := d48.p }]).length) ca74) ((xs ++ [{ d48 with p := d48.p }]).length) (obD (xs ++ [{ d48 with p := d48.p }])) :: .row 4 1 (.slice so27 ds.length ca28) ds.length (zb bs) :: .obj g4 (.cells #[.int .i64 0, .int .i64 0, .int .i64 0, .slice none 0 0] 30) :: []) := M.bring 5 rfl rfl
     replace M : Mg w w72 (.obj g4 (.cells #[.int .i64 0, .int .i64 0, .int .i64 0, .slice none 0 0] 30) :: .obj g2 (.cells #[.int .i64 (((ss : Nat) : Int)), .int .i64 (((ls : Nat) : Int)), .int .i64 (((last : Nat) : Int)), .slice so ds.length ca] 30) :: .row 73 3 (.slice (some ⟨g69, 0, none⟩) 1 1) 1 ([.int .i64 (((d48.x : Nat) : Int)), .int .i64 (((d48.p : Nat) : Int)), .slice (some ⟨d48.g, 0, none⟩) d48.ws.length d48.c]) :: .obj g56 (.cells #[.int .i64 (((d48.x : Nat) : Int)), .int .i64 (((d48.p : Nat) : Int)), .slice (some ⟨d48.g, 0, none⟩) d48.ws.length d48.c] 73) :: .row 73 3 (.slice so73 ((xs ++ [{ d48 with p := d48.p }]).length) ca74) ((xs ++ [{ d48 with p := d48.p }]).length) (obD (xs ++ [{ d48 with p := d48.p }])) :: .row 4 1 (.slice so27 ds.length ca28) ds.length (zb bs) :: []) := M.bring 5 rfl rfl
     replace M : Mg w w72 (.row 4 1 (.slice so27 ds.length ca28) ds.length (zb bs) :: .obj g4 (.cells #[.int .i64 0, .int .i64 0, .int .i64 0, .slice none 0 0] 30) :: .obj g2 (.cells #[.int .i64 (((ss : Nat) : Int)), .int .i64 (((ls : Nat) : Int)), .int .i64 (((last : Nat) : Int)), .slice so ds.length ca] 30) :: .row 73 3 (.slice (some ⟨g69, 0, none⟩) 1 1) 1 ([.int .i64 (((d48.x : Nat) : Int)), .int .i64 (((d48.p : Nat) : Int)), .slice (some ⟨d48.g, 0, none⟩) d48.ws.length d48.c]) :: .obj g56 (.cells #[.int .i64 (((d48.x : Nat) : Int)), .int .i64 (((d48.p : Nat) : Int)), .slice (some ⟨d48.g, 0, none⟩) d48.ws.length d48.c] 73) :: .row 73 3 (.slice so73 ((xs ++ [{ d48 with p := d48.p }]).length) ca74) ((xs ++ [{ d48 with p := d48.p }]).length) (obD (xs ++ [{ d48 with p := d48.p }])) :: []) := M.bring 5 rfl rfl
     replace M : Mg w w72 (.row 73 3 (.slice so73 ((xs ++ [{ d48 with p := d48.p }]).length) ca74) ((xs ++ [{ d48 with p := d48.p }]).length) (obD (xs ++ [{ d48 with p := d48.p }])) :: .row 4 1 (.slice so27 ds.length ca28) ds.length (zb bs) :: .obj g4 (.cells #[.int .i64 0, .int .i64 0, .int .i64 0, .slice none 0 0] 30) :: .obj g2 (.cells #[.int .i64 (((ss : Nat) : Int)), .int .i64 (((ls : Nat) : Int)), .int .i64 (((last : Nat) : Int)), .slice so ds.length ca] 30) :: .row 73 3 (.slice (some ⟨g69, 0, none⟩) 1 1) 1 ([.int .i64 (((d48.x : Nat) : Int)), .int .i64 (((d48.p : Nat) : Int)), .slice (some ⟨d48.g, 0, none⟩) d48.ws.length d48.c]) :: .obj g56 (.cells #[.int .i64 (((d48.x : Nat) : Int)), .int .i64 (((d48.p : Nat) : Int)), .slice (some ⟨d48.g, 0, none⟩) d48.ws.length d48.c] 73) :: []) := M.bring 5 rfl rfl
     replace M : Mg w w72 (.row 73 3 (.slice so73 ((xs ++ [{ d48 with p := d48.p }]).length) ca74) ((xs ++ [{ d48 with p := d48.p }]).length) (obD (xs ++ [{ d48 with p := d48.p }])) :: .row 4 1 (.slice so27 ds.length ca28) ds.length (zb bs) :: .obj g4 (.cells #[.int .i64 0, .int .i64 0, .int .i64 0, .slice none 0 0] 30) :: .obj g2 (.cells #[.int .i64 (((ss : Nat) : Int)), .int .i64 (((ls : Nat) : Int)), .int .i64 (((last : Nat) : Int)), .slice so ds.length ca] 30) :: []) := by
      have h9 := M.sub (cc (cc (cc (cc (cn (cn (.refl _)))))))
      exact h9
     refine hK39 _ _ _ (by omega) ⟨i + 1, xs ++ [{ d48 with p := d48.p }], so73, ca74, fr, at_, rfl, ⟨by omega, by rw [xp hd50, hb63, if_pos rfl, yo, if_pos (show big d48 = true from hb66), ← hxs], by rw [ue hd50, hb63, if_pos rfl, List.append_nil, hfr], by rw [xp hd50, hb63, if_pos rfl, yp, if_pos (show big d48 = true from hb66), hat]⟩, A.keep _ (by repeat' constructor), M⟩
    ·
     have hb66' := of_decide_eq_false hb66
     refine gcl A M (ef rfl rfl) (jg hb66) fun w76 hb75 M a A => ?_
     refine sdo (v := .bool true) A (zf rfl zm) λa A↦?_
     refine qb (hK65 _ _ (wp_cond_true (A.ev rfl) ?_))
     refine wsk fun K77 hK77 => wrl (sdm A λa A↦?_)
     refine sdo (v := .pointer (some ⟨g56, 1, none⟩)) A (qd HdF_fld_73_1 rfl rfl) λa A↦?_
     refine qs (us := [.int .i64 (((d48.x : Nat) : Int)), .int .i64 (((at_ : Nat) : Int)), .slice (some ⟨d48.g, 0, none⟩) d48.ws.length d48.c]) (L' := (.obj g56 (.cells #[.int .i64 (((d48.x : Nat) : Int)), .int .i64 (((at_ : Nat) : Int)), .slice (some ⟨d48.g, 0, none⟩) d48.ws.length d48.c] 73) :: .row 73 3 (.slice so_ xs.length ca_) xs.length (obD xs) :: .row 4 1 (.slice so27 ds.length ca28) ds.length (zb bs) :: .obj g4 (.cells #[.int .i64 0, .int .i64 0, .int .i64 0, .slice none 0 0] 30) :: .obj g2 (.cells #[.int .i64 (((ss : Nat) : Int)), .int .i64 (((ls : Nat) : Int)), .int .i64 (((last : Nat) : Int)), .slice so ds.length ca] 30) :: [])) A M rfl rfl (qo rfl rfl rfl (by kernel_rfl) M 0 rfl rfl rfl) 0 rfl rfl rfl ?_
     intro w78 M
     refine qb (hK77 _ _ (wrl (sdm A λa A↦?_)))
     refine sdo (v := .pointer (some ⟨g56, 2, none⟩)) A (qd HdF_fld_73_2 rfl rfl) λa A↦?_
     refine sdo A (qh M HdF_is1_68 rfl 0 rfl rfl) λa A↦?_
     refine sdo A (qv Try.underlying68 rfl) λa A↦?_
     refine sdo (v := .int .i64 (((at_ + d48.ws.length : Nat) : Int))) A (qe rfl rfl (ar_add ((in_i64 (by omega) (by omega)).trans (by omega)))) λa A↦?_
     refine sda A λa A↦?_
     refine qb (hK64 _ _ (wrl (sdm A λa A↦?_)))
     refine sdo A (qq M HdF_isS_73 rfl 0 rfl (cs := [.int .i64 (((d48.x : Nat) : Int)), .int .i64 (((at_ : Nat) : Int)), .slice (some ⟨d48.g, 0, none⟩) d48.ws.length d48.c]) rfl rfl) λa A↦?_
     refine jm (e := 73) (sz := 3) (m := 1) (vs := [.int .i64 (((d48.x : Nat) : Int)), .int .i64 (((at_ : Nat) : Int)), .slice (some ⟨d48.g, 0, none⟩) d48.ws.length d48.c]) A M rfl rfl rfl (qx rfl (by kernel_rfl)) rfl rfl (.inl (by decide)) ?_
     intro g79 w80 M a A
     refine zz (e := 73) (sz := 3) (k := 2) (q := xs.length) (m := 1) (xs := obD xs) (news := [.int .i64 (((d48.x : Nat) : Int)), .int .i64 (((at_ : Nat) : Int)), .slice (some ⟨d48.g, 0, none⟩) d48.ws.length d48.c]) (L' := fun v81 => (.row 73 3 (.slice (some ⟨g79, 0, none⟩) 1 1) 1 ([.int .i64 (((d48.x : Nat) : Int)), .int .i64 (((at_ : Nat) : Int)), .slice (some ⟨d48.g, 0, none⟩) d48.ws.length d48.c]) :: .obj g56 (.cells #[.int .i64 (((d48.x : Nat) : Int)), .int .i64 (((at_ : Nat) : Int)), .slice (some ⟨d48.g, 0, none⟩) d48.ws.length d48.c] 73) :: .row 73 3 (v81) (xs.length + 1) (obD xs ++ [.int .i64 (((d48.x : Nat) : Int)), .int .i64 (((at_ : Nat) : Int)), .slice (some ⟨d48.g, 0, none⟩) d48.ws.length d48.c]) :: .row 4 1 (.slice so27 ds.length ca28) ds.length (zb bs) :: .obj g4 (.cells #[.int .i64 0, .int .i64 0, .int .i64 0, .slice none 0 0] 30) :: .obj g2 (.cells #[.int .i64 (((ss : Nat) : Int)), .int .i64 (((ls : Nat) : Int)), .int .i64 (((last : Nat) : Int)), .slice so ds.length ca] 30) :: [])) A rfl rfl rfl (xi (z := .agg #[.int .i64 0, .int .i64 0, .slice none 0 0]) (sz := 3) (by_ := 40) Try.underlying28 (by kernel_rfl) rfl rfl rfl M 2 rfl rfl rfl rfl (vi (M.has 0 rfl)) (by intro u hu; simp at hu; rcases hu with rfl | rfl | rfl <;> rfl) (by omega)) (fun _ => rfl) ?_
     intro v81 w82 M a A
     replace M : Mg w w82 (.row 73 3 (.slice (some ⟨g79, 0, none⟩) 1 1) 1 ([.int .i64 (((d48.x : Nat) : Int)), .int .i64 (((at_ : Nat) : Int)), .slice (some ⟨d48.g, 0, none⟩) d48.ws.length d48.c]) :: .obj g56 (.cells #[.int .i64 (((d48.x : Nat) : Int)), .int .i64 (((at_ : Nat) : Int)), .slice (some ⟨d48.g, 0, none⟩) d48.ws.length d48.c] 73) :: .row 73 3 (v81) ((xs ++ [{ d48 with p := at_ }]).length) (obD (xs ++ [{ d48 with p := at_ }])) :: .row 4 1 (.slice so27 ds.length ca28) ds.length (zb bs) :: .obj g4 (.cells #[.int .i64 0, .int .i64 0, .int .i64 0, .slice none 0 0] 30) :: .obj g2 (.cells #[.int .i64 (((ss : Nat) : Int)), .int .i64 (((ls : Nat) : Int)), .int .i64 (((last : Nat) : Int)), .slice so ds.length ca] 30) :: []) := by rw [← qkh, List.length_append]; exact M
     obtain ⟨so83, ca84, rfl⟩ := zx (M.has 2 rfl)
     refine sda A λa A↦?_
     refine qb (hK44 _ _ (wrl (sdm A λa A↦?_)))
     refine sdo (v := .int .i64 (((i + 1 : Nat) : Int))) A (qe rfl rfl (ar_add ((in_i64 (by omega) (by omega)).trans (by omega)))) λa A↦?_
     refine sda A λa A↦?_
     refine qb ?_
     replace M : Mg w w82 (.obj g2 (.cells #[.int .i64 (((ss : Nat) : Int)), .int .i64 (((ls : Nat) : Int)), .int .i64 (((last : Nat) : Int)), .slice so ds.length ca] 30) :: .row 73 3 (.slice (some ⟨g79, 0, none⟩) 1 1) 1 ([.int .i64 (((d48.x : Nat) : Int)), .int .i64 (((at_ : Nat) : Int)), .slice (some ⟨d48.g, 0, none⟩) d48.ws.length d48.c]) :: .obj g56 (.cells #[.int .i64 (((d48.x : Nat) : Int)), .int .i64 (((at_ : Nat) : Int)), .slice (some ⟨d48.g, 0, none⟩) d48.ws.length d48.c] 73) :: .row 73 3 (.slice so83 ((xs ++ [{ d48 with p := at_ }]).length) ca84) ((xs ++ [{ d48 with p := at_ }]).length) (obD (xs ++ [{ d48 with p := at_ }])) :: .row 4 1 (.slice so27 ds.length ca28) ds.length (zb bs) :: .obj g4 (.cells #[.int .i64 0, .int .i64 0, .int .i64 0, .slice none 0 0] 30) :: []) := M.bring 5 rfl rfl
     replace M : Mg w w82 (.obj g4 (.cells #[.int .i64 0, .int .i64 0, .int .i64 0, .slice none 0 0] 30) :: .obj g2 (.cells #[.int .i64 (((ss : Nat) : Int)), .int .i64 (((ls : Nat) : Int)), .int .i64 (((last : Nat) : Int)), .slice so ds.length ca] 30) :: .row 73 3 (.slice (some ⟨g79, 0, none⟩) 1 1) 1 ([.int .i64 (((d48.x : Nat) : Int)), .int .i64 (((at_ : Nat) : Int)), .slice (some ⟨d48.g, 0, none⟩) d48.ws.length d48.c]) :: .obj g56 (.cells #[.int .i64 (((d48.x : Nat) : Int)), .int .i64 (((at_ : Nat) : Int)), .slice (some ⟨d48.g, 0, none⟩) d48.ws.length d48.c] 73) :: .row 73 3 (.slice so83 ((xs ++ [{ d48 with p := at_ }]).length) ca84) ((xs ++ [{ d48 with p := at_ }]).length) (obD (xs ++ [{ d48 with p := at_ }])) :: .row 4 1 (.slice so27 ds.length ca28) ds.length (zb bs) :: []) := M.bring 5 rfl rfl
     replace M : Mg w w82 (.row 4 1 (.slice so27 ds.length ca28) ds.length (zb bs) :: .obj g4 (.cells #[.int .i64 0, .int .i64 0, .int .i64 0, .slice none 0 0] 30) :: .obj g2 (.cells #[.int .i64 (((ss : Nat) : Int)), .int .i64 (((ls : Nat) : Int)), .int .i64 (((last : Nat) : Int)), .slice so ds.length ca] 30) :: .row 73 3 (.slice (some ⟨g79, 0, none⟩) 1 1) 1 ([.int .i64 (((d48.x : Nat) : Int)), .int .i64 (((at_ : Nat) : Int)), .slice (some ⟨d48.g, 0, none⟩) d48.ws.length d48.c]) :: .obj g56 (.cells #[.int .i64 (((d48.x : Nat) : Int)), .int .i64 (((at_ : Nat) : Int)), .slice (some ⟨d48.g, 0, none⟩) d48.ws.length d48.c] 73) :: .row 73 3 (.slice so83 ((xs ++ [{ d48 with p := at_ }]).length) ca84) ((xs ++ [{ d48 with p := at_ }]).length) (obD (xs ++ [{ d48 with p := at_ }])) :: []) := M.bring 5 rfl rfl
     replace M : Mg w w82 (.row 73 3 (.slice so83 ((xs ++ [{ d48 with p := at_ }]).length) ca84) ((xs ++ [{ d48 with p := at_ }]).length) (obD (xs ++ [{ d48 with p := at_ }])) :: .row 4 1 (.slice so27 ds.length ca28) ds.length (zb bs) :: .obj g4 (.cells #[.int .i64 0, .int .i64 0, .int .i64 0, .slice none 0 0] 30) :: .obj g2 (.cells #[.int .i64 (((ss : Nat) : Int)), .int .i64 (((ls : Nat) : Int)), .int .i64 (((last : Nat) : Int)), .slice so ds.length ca] 30) :: .row 73 3 (.slice (some ⟨g79, 0, none⟩) 1 1) 1 ([.int .i64 (((d48.x : Nat) : Int)), .int .i64 (((at_ : Nat) : Int)), .slice (some ⟨d48.g, 0, none⟩) d48.ws.length d48.c]) :: .obj g56 (.cells #[.int .i64 (((d48.x : Nat) : Int)), .int .i64 (((at_ : Nat) : Int)), .slice (some ⟨d48.g, 0, none⟩) d48.ws.length d48.c] 73) :: []) := M.bring 5 rfl rfl
     replace M : Mg w w82 (.row 73 3 (.slice so83 ((xs ++ [{ d48 with p := at_ }]).length) ca84) ((xs ++ [{ d48 with p := at_ }]).length) (obD (xs ++ [{ d48 with p := at_ }])) :: .row 4 1 (.slice so27 ds.length ca28) ds.length (zb bs) :: .obj g4 (.cells #[.int .i64 0, .int .i64 0, .int .i64 0, .slice none 0 0] 30) :: .obj g2 (.cells #[.int .i64 (((ss : Nat) : Int)), .int .i64 (((ls : Nat) : Int)), .int .i64 (((last : Nat) : Int)), .slice so ds.length ca] 30) :: []) := by
      have h9 := M.sub (cc (cc (cc (cc (cn (cn (.refl _)))))))
      exact h9
     refine hK39 _ _ _ (by omega) ⟨i + 1, xs ++ [{ d48 with p := at_ }], so83, ca84, fr, at_ + d48.ws.length, rfl, ⟨by omega, by rw [xp hd50, hb63, if_pos rfl, yo, if_neg (by rw [show big d48 = false from hb66]; decide), ← hxs, hat], by rw [ue hd50, hb63, if_pos rfl, List.append_nil, hfr], by rw [xp hd50, hb63, if_pos rfl, yp, if_neg (by rw [show big d48 = false from hb66]; decide), hat]⟩, A.keep _ (by repeat' constructor), M⟩
   ·
    have hb63' := of_decide_eq_false hb63
    refine sdo (v := .bool false) A (ye M 2 rfl hg62 (by rw [Nat.mul_one, vb (hbs i d48 hd50), hb63]) HdF_is1_4 rfl) λa A↦?_
    refine sdo (v := .bool true) A (zf rfl zm) λa A↦?_
    refine qb (hK60 _ _ (wp_cond_true (A.ev rfl) ?_))
    refine wsk fun K85 hK85 => wrl (sdm A λa A↦?_)
    refine sdo (v := .pointer (some ⟨g56, 2, none⟩)) A (qd HdF_fld_73_2 rfl rfl) λa A↦?_
    refine sdo A (qh M HdF_is1_68 rfl 0 rfl rfl) λa A↦?_
    refine sdo A (qv Try.underlying68 rfl) λa A↦?_
    refine sdo (v := .int .i64 (((fr + d48.ws.length : Nat) : Int))) A (qe rfl rfl (ar_add ((in_i64 (by omega) (by omega)).trans (by omega)))) λa A↦?_
    refine sda A λa A↦?_
    refine qb (hK85 _ _ (wp_exit (hK44 _ _ (wrl (sdm A λa A↦?_)))))
    refine sdo (v := .int .i64 (((i + 1 : Nat) : Int))) A (qe rfl rfl (ar_add ((in_i64 (by omega) (by omega)).trans (by omega)))) λa A↦?_
    refine sda A λa A↦?_
    refine qb ?_
    replace M : Mg w w58 (.obj g2 (.cells #[.int .i64 (((ss : Nat) : Int)), .int .i64 (((ls : Nat) : Int)), .int .i64 (((last : Nat) : Int)), .slice so ds.length ca] 30) :: .obj g56 (.cells #[.int .i64 (((d48.x : Nat) : Int)), .int .i64 (((d48.p : Nat) : Int)), .slice (some ⟨d48.g, 0, none⟩) d48.ws.length d48.c] 73) :: .row 73 3 (.slice so_ xs.length ca_) xs.length (obD xs) :: .row 4 1 (.slice so27 ds.length ca28) ds.length (zb bs) :: .obj g4 (.cells #[.int .i64 0, .int .i64 0, .int .i64 0, .slice none 0 0] 30) :: []) := M.bring 4 rfl rfl
    replace M : Mg w w58 (.obj g4 (.cells #[.int .i64 0, .int .i64 0, .int .i64 0, .slice none 0 0] 30) :: .obj g2 (.cells #[.int .i64 (((ss : Nat) : Int)), .int .i64 (((ls : Nat) : Int)), .int .i64 (((last : Nat) : Int)), .slice so ds.length ca] 30) :: .obj g56 (.cells #[.int .i64 (((d48.x : Nat) : Int)), .int .i64 (((d48.p : Nat) : Int)), .slice (some ⟨d48.g, 0, none⟩) d48.ws.length d48.c] 73) :: .row 73 3 (.slice so_ xs.length ca_) xs.length (obD xs) :: .row 4 1 (.slice so27 ds.length ca28) ds.length (zb bs) :: []) := M.bring 4 rfl rfl
    replace M : Mg w w58 (.row 4 1 (.slice so27 ds.length ca28) ds.length (zb bs) :: .obj g4 (.cells #[.int .i64 0, .int .i64 0, .int .i64 0, .slice none 0 0] 30) :: .obj g2 (.cells #[.int .i64 (((ss : Nat) : Int)), .int .i64 (((ls : Nat) : Int)), .int .i64 (((last : Nat) : Int)), .slice so ds.length ca] 30) :: .obj g56 (.cells #[.int .i64 (((d48.x : Nat) : Int)), .int .i64 (((d48.p : Nat) : Int)), .slice (some ⟨d48.g, 0, none⟩) d48.ws.length d48.c] 73) :: .row 73 3 (.slice so_ xs.length ca_) xs.length (obD xs) :: []) := M.bring 4 rfl rfl
    replace M : Mg w w58 (.row 73 3 (.slice so_ xs.length ca_) xs.length (obD xs) :: .row 4 1 (.slice so27 ds.length ca28) ds.length (zb bs) :: .obj g4 (.cells #[.int .i64 0, .int .i64 0, .int .i64 0, .slice none 0 0] 30) :: .obj g2 (.cells #[.int .i64 (((ss : Nat) : Int)), .int .i64 (((ls : Nat) : Int)), .int .i64 (((last : Nat) : Int)), .slice so ds.length ca] 30) :: .obj g56 (.cells #[.int .i64 (((d48.x : Nat) : Int)), .int .i64 (((d48.p : Nat) : Int)), .slice (some ⟨d48.g, 0, none⟩) d48.ws.length d48.c] 73) :: []) := M.bring 4 rfl rfl
    replace M : Mg w w58 (.row 73 3 (.slice so_ xs.length ca_) xs.length (obD xs) :: .row 4 1 (.slice so27 ds.length ca28) ds.length (zb bs) :: .obj g4 (.cells #[.int .i64 0, .int .i64 0, .int .i64 0, .slice none 0 0] 30) :: .obj g2 (.cells #[.int .i64 (((ss : Nat) : Int)), .int .i64 (((ls : Nat) : Int)), .int .i64 (((last : Nat) : Int)), .slice so ds.length ca] 30) :: []) := by
     have h9 := M.sub (cc (cc (cc (cc (cn (.refl _))))))
     exact h9
    refine hK39 _ _ _ (by omega) ⟨i + 1, xs, so_, ca_, fr + d48.ws.length, at_, rfl, ⟨by omega, by rw [xp hd50, hb63, hxs]; simp, by rw [ue hd50, hb63, vt, hfr]; simp [zr], by rw [xp hd50, hb63, hat]; simp⟩, A.keep _ (by repeat' constructor), M⟩
  ·
   have hb43' := of_decide_eq_false hb43
   refine sdc A qm hb43 λa A↦?_
   refine qb (hK42 _ _ (wp_cond_false (A.ev rfl) ?_))
   refine wp_exit (hK36 _ _ (wsk fun K86 hK86 => wrl (sdm A λa A↦?_)))
   refine sdo (v := .pointer (some ⟨g2, 3, none⟩)) A (qd HdF_fld_30_3 rfl rfl) λa A↦?_
   refine qs (us := [.int .i64 (((ss : Nat) : Int)), .int .i64 (((ls : Nat) : Int)), .int .i64 (((last : Nat) : Int)), .slice so_ xs.length ca_]) (L' := (.row 73 3 (.slice so_ xs.length ca_) xs.length (obD xs) :: .row 4 1 (.slice so27 ds.length ca28) ds.length (zb bs) :: .obj g4 (.cells #[.int .i64 0, .int .i64 0, .int .i64 0, .slice none 0 0] 30) :: .obj g2 (.cells #[.int .i64 (((ss : Nat) : Int)), .int .i64 (((ls : Nat) : Int)), .int .i64 (((last : Nat) : Int)), .slice so_ xs.length ca_] 30) :: [])) A M rfl rfl (qo rfl rfl rfl (by kernel_rfl) M 3 rfl rfl rfl) 3 rfl rfl rfl ?_
   intro w87 M
   refine qb (hK86 _ _ (wsk fun K88 hK88 => zn (S := fun w1 => Mg w w1 (.obj g2 (.cells #[.int .i64 (((ss : Nat) : Int)), .int .i64 (((ls : Nat) : Int)), .int .i64 (((last : Nat) : Int)), .slice so_ xs.length ca_] 30) :: [])) (by kernel_rfl) ?_))
   replace M := M.drew
   refine qf A 0 rfl rfl rfl rfl hP (M.sub (cn (cn (cn (cc (List.nil_sublist _)))))) (fun w1 M => qn rfl) λa A↦?_
   refine qf A 1 rfl rfl rfl rfl hP (M.sub (cn (cn (cn (cc (List.nil_sublist _)))))) (fun w1 M => qq M HdF_isS_30 rfl 0 rfl (cs := [.int .i64 (((ss : Nat) : Int)), .int .i64 (((ls : Nat) : Int)), .int .i64 (((last : Nat) : Int)), .slice so_ xs.length ca_]) rfl rfl) λa A↦?_
   refine qf A 2 rfl rfl rfl rfl hP (M.sub (cn (cn (cn (cc (List.nil_sublist _)))))) (fun w1 M => qz rfl) λa A↦?_
   refine qf A 3 rfl rfl rfl rfl hP (M.sub (cn (cn (cn (cc (List.nil_sublist _)))))) (fun w1 M => qz rfl) λa A↦?_
   refine zd (by kernel_rfl) (jh (us := [.int .i64 (((ss : Nat) : Int)), .int .i64 (((ls : Nat) : Int)), .int .i64 (((last : Nat) : Int)), .slice so_ xs.length ca_]) (L' := (.row 73 3 (.slice so_ xs.length ca_) xs.length (obD xs) :: .row 4 1 (.slice so27 ds.length ca28) ds.length (zb bs) :: .obj g4 (.cells #[.int .i64 (((ss : Nat) : Int)), .int .i64 (((ls : Nat) : Int)), .int .i64 (((last : Nat) : Int)), .slice so_ xs.length ca_] 30) :: .obj g2 (.cells #[.int .i64 (((ss : Nat) : Int)), .int .i64 (((ls : Nat) : Int)), .int .i64 (((last : Nat) : Int)), .slice so_ xs.length ca_] 30) :: [])) A M 4 rfl rfl rfl (qo rfl rfl rfl (by kernel_rfl) M 2 rfl rfl rfl) 2 rfl rfl rfl ?_)
   intro w89 M
   refine ⟨(M.sub (cn (cn (cn (cc (List.nil_sublist _)))))), ?_⟩
   refine zi (by kernel_rfl) ?_
   refine hK88 _ _ (wp_ret (hret _ _ (en3 A rfl (qi rfl) (qi rfl) (zk M HdF_isS_30 rfl 2 rfl (cs := [.int .i64 (((ss : Nat) : Int)), .int .i64 (((ls : Nat) : Int)), .int .i64 (((last : Nat) : Int)), .slice so_ xs.length ca_]) rfl rfl) ?_)))
   replace M : Mg w w89 (.row 73 3 (.slice so_ xs.length ca_) xs.length (obD xs) :: []) := by
    have h9 := M.sub (cc (cn (cn (cn (.refl _)))))
    exact h9
   rw [List.take_of_length_le (show ds.length ≤ i by omega)] at hxs hfr
   subst hxs hfr
   exact ⟨_, _, rfl, M⟩
theorem HbA_isS_60 : IsS Try.prog 60 2 := ⟨⟨_, Try.underlying60⟩, by kernel_rfl⟩
theorem vy {w : World} {n : Int} : Calls Try.prog 23 #[.int .i64 n] w fun e w' => e = .returned (.bool (decide (0 ≤ n) && decide (n ≤ 65536))) ∧ Below w.heap.size w w' := by
 have M : Mg w w ([]) := Mg.start w
 refine qp (l := [(0, .int .i64 n)]) Try.func23 rfl Try.ntmps23 rfl rfl ?_
 intro Q hret hnorm hP a A
 refine wsk fun K1 hK1 => wrl (sda A λa A↦?_)
 refine qb (hK1 _ _ (wsk fun K2 hK2 => wrl (sdm A λa A↦?_)))
 rcases tf (decide (0 ≤ n)) with hb3 | hb3
 ·
  have hb3' := of_decide_eq_true hb3
  refine sdc A kg hb3 λa A↦?_
  iterate 2 refine sdm A λa A↦?_
  rcases tf (decide (n ≤ 65536)) with hb4 | hb4
  ·
   have hb4' := of_decide_eq_true hb4
   refine sdc A kg hb4 λa A↦?_
   refine sdk (v := .bool true) A λa A↦?_
   refine sda A λa A↦?_
   refine qb (hK2 _ _ (wp_ret (hret _ _ (en1 A rfl (qi rfl) ?_))))
   exact ⟨by rw [hb3, hb4]; rfl, M.bel⟩
  ·
   have hb4' := of_decide_eq_false hb4
   refine sdc A kg hb4 λa A↦?_
   refine sdk (v := .bool false) A λa A↦?_
   refine sda A λa A↦?_
   refine qb (hK2 _ _ (wp_ret (hret _ _ (en1 A rfl (qi rfl) ?_))))
   exact ⟨by rw [hb3, hb4]; rfl, M.bel⟩
 ·
  have hb3' := of_decide_eq_false hb3
  refine sdc A kg hb3 λa A↦?_
  refine sdm A λa A↦?_
  iterate 2 refine zj A rfl rfl rfl λa A↦?_
  refine sdk (v := .bool false) A λa A↦?_
  refine sda A λa A↦?_
  refine qb (hK2 _ _ (wp_ret (hret _ _ (en1 A rfl (qi rfl) ?_))))
  exact ⟨by rw [hb3]; rfl, M.bel⟩
theorem qfc {w : World} {n : Nat} : Calls Try.prog 24 #[.int .i64 ((n : Nat) : Int)] w fun e w' => ∃ g, e = .returned (.agg #[.int .i64 ((n : Nat) : Int), .slice (some ⟨g, 0, none⟩) 1 1]) ∧ Mg w w' [.row 88 2 (.slice (some ⟨g, 0, none⟩) 1 1) 1 (qa [(0, n)])] := by
 have M : Mg w w ([]) := Mg.start w
 refine qp (l := [(0, .int .i64 (((n : Nat) : Int)))]) Try.func24 rfl Try.ntmps24 rfl rfl ?_
 intro Q hret hnorm hP a A
 refine wsk fun K1 hK1 => wrl (qt (vs := [.int .i64 0, .slice none 0 0]) (t := 60) A M rfl rfl rfl pg (ql (z := .agg #[.int .i64 0, .slice none 0 0]) (by kernel_rfl) rfl) (by decide) ?_)
 intro g2 w3 M a A
 refine qb (hK1 _ _ (wsk fun K4 hK4 => wrl ?_))
 iterate 2 refine sdm A λa A↦?_
 refine sdo (v := .agg #[.int .i64 0, .int .i64 (((n : Nat) : Int))]) A (zq rfl (fun w => by kernel_rfl)) λa A↦?_
 refine jm (e := 88) (sz := 2) (m := 1) (vs := qa [(0, n)]) A M rfl rfl rfl (qx rfl (by kernel_rfl)) rfl rfl (.inl (by decide)) ?_
 intro g5 w6 M a A
 refine sdo (v := .agg #[.int .i64 (((n : Nat) : Int)), .slice (some ⟨g5, 0, none⟩) 1 1]) A (zq rfl (fun w => by kernel_rfl)) λa A↦?_
 refine qs (us := [.int .i64 (((n : Nat) : Int)), .slice (some ⟨g5, 0, none⟩) 1 1]) (L' := (.row 88 2 (.slice (some ⟨g5, 0, none⟩) 1 1) 1 (qa [(0, n)]) :: .obj g2 (.cells #[.int .i64 (((n : Nat) : Int)), .slice (some ⟨g5, 0, none⟩) 1 1] 60) :: [])) A M rfl rfl (qo rfl rfl rfl (by kernel_rfl) M 1 rfl rfl rfl) 1 rfl rfl rfl ?_
 intro w7 M
 refine qb (hK4 _ _ (wp_ret (hret _ _ (en1 A rfl (zk M HbA_isS_60 rfl 1 rfl (cs := [.int .i64 (((n : Nat) : Int)), .slice (some ⟨g5, 0, none⟩) 1 1]) rfl rfl) ?_))))
 replace M : Mg w w7 (.row 88 2 (.slice (some ⟨g5, 0, none⟩) 1 1) 1 (qa [(0, n)]) :: []) := by
  have h9 := M.sub (cc (cn (.refl _)))
  exact h9
 exact ⟨_, rfl, M⟩
theorem new_any {w : World} {s l : Nat} (hs : s ≤ 65536) (hl : l ≤ 65536) : Calls Try.prog 5 #[.int .i64 ((s : Nat) : Int), .int .i64 ((l : Nat) : Int)] w fun e w' => ∃ h m gs gl, e = .returned (.tuple #[.pointer (some ⟨h, 0, none⟩), .int .i64 0]) ∧ Mg w w' (.obj h (.cells #[.map (some m), .int .i64 0, .int .i64 (((s : Nat) : Int)), .slice (some ⟨gs, 0, none⟩) 1 1, .int .i64 (((l : Nat) : Int)), .slice (some ⟨gl, 0, none⟩) 1 1] 63) :: .obj m (qc ([]) 0) :: .row 88 2 (.slice (some ⟨gs, 0, none⟩) 1 1) 1 (qa [(0, s)]) :: .row 88 2 (.slice (some ⟨gl, 0, none⟩) 1 1) 1 (qa [(0, l)]) :: []) := by
 have hok1 : (decide (0 ≤ ((s : Nat) : Int)) && decide (((s : Nat) : Int) ≤ 65536)) = true := by simp; omega
 have hok2 : (decide (0 ≤ ((l : Nat) : Int)) && decide (((l : Nat) : Int) ≤ 65536)) = true := by simp; omega
 have M : Mg w w ([]) := Mg.start w
 refine qp (l := [(0, .int .i64 (((s : Nat) : Int))), (1, .int .i64 (((l : Nat) : Int)))]) Try.func5 rfl Try.ntmps5 rfl rfl ?_
 intro Q hret hnorm hP a A
 refine wsk fun K1 hK1 => wrl ?_
 iterate 2 refine sda A λa A↦?_
 refine qb (hK1 _ _ (wsk fun K2 hK2 => wsk fun K3 hK3 => wrl (sdm A λa A↦?_)))
 refine gcl A M (ef rfl rfl) ((hok1 ▸ vy)) fun w4 hbs M a A => ?_
 refine sdo (v := .bool false) A (zf rfl zm) λa A↦?_
 iterate 2 refine sdm A λa A↦?_
 refine gcl A M (ef rfl rfl) ((hok2 ▸ vy)) fun w5 hbl M a A => ?_
 refine sdo (v := .bool false) A (zf rfl zm) λa A↦?_
 refine sdk (v := .bool false) A λa A↦?_
 refine qb (hK3 _ _ (wp_cond_false (A.ev rfl) ?_))
 refine wp_skip (hK2 _ _ (wsk fun K6 hK6 => wrl (ub A M rfl rfl rfl rfl ?_)))
 intro g7 w8 M a A
 refine sdm A λa A↦?_
 refine sct A (ef rfl rfl) (qfc) ?_
 rintro _ w11 ⟨g9, rfl, hM10⟩
 replace M : Mg w w11 (.row 88 2 (.slice (some ⟨g9, 0, none⟩) 1 1) 1 (qa [(0, s)]) :: .obj g7 (qc ([]) 0) :: []) := (M.both hM10 (qj (by simp) (xa xf)) (qj (by simp) (xa xf)))
 refine ⟨_, rfl, ?_⟩
 intro a A
 refine sdm A λa A↦?_
 refine sct A (ef rfl rfl) (qfc) ?_
 rintro _ w14 ⟨g12, rfl, hM13⟩
 replace M : Mg w w14 (.row 88 2 (.slice (some ⟨g12, 0, none⟩) 1 1) 1 (qa [(0, l)]) :: .row 88 2 (.slice (some ⟨g9, 0, none⟩) 1 1) 1 (qa [(0, s)]) :: .obj g7 (qc ([]) 0) :: []) := (M.both hM13 (qj (by simp) (qj (by simp) (xa xf))) (qj (by simp) (xa xf)))
 refine ⟨_, rfl, ?_⟩
 intro a A
 refine sdo (v := .agg #[.map (some g7), .int .i64 0, .int .i64 (((s : Nat) : Int)), .slice (some ⟨g9, 0, none⟩) 1 1, .int .i64 (((l : Nat) : Int)), .slice (some ⟨g12, 0, none⟩) 1 1]) A (zq rfl (fun w => by kernel_rfl)) λa A↦?_
 refine qt (vs := [.map (some g7), .int .i64 0, .int .i64 (((s : Nat) : Int)), .slice (some ⟨g9, 0, none⟩) 1 1, .int .i64 (((l : Nat) : Int)), .slice (some ⟨g12, 0, none⟩) 1 1]) (t := 63) A M rfl rfl rfl pg (qw rfl rfl) (by decide) ?_
 intro g15 w16 M a A
 iterate 2 refine sda A λa A↦?_
 refine qb (hK6 _ _ (wp_ret (hret _ _ (en2 A rfl (qi rfl) (qi rfl) ?_))))
 replace M : Mg w w16 (.row 88 2 (.slice (some ⟨g12, 0, none⟩) 1 1) 1 (qa [(0, l)]) :: .obj g15 (.cells #[.map (some g7), .int .i64 0, .int .i64 (((s : Nat) : Int)), .slice (some ⟨g9, 0, none⟩) 1 1, .int .i64 (((l : Nat) : Int)), .slice (some ⟨g12, 0, none⟩) 1 1] 63) :: .row 88 2 (.slice (some ⟨g9, 0, none⟩) 1 1) 1 (qa [(0, s)]) :: .obj g7 (qc ([]) 0) :: []) := M.bring 1 rfl rfl
 replace M : Mg w w16 (.row 88 2 (.slice (some ⟨g9, 0, none⟩) 1 1) 1 (qa [(0, s)]) :: .row 88 2 (.slice (some ⟨g12, 0, none⟩) 1 1) 1 (qa [(0, l)]) :: .obj g15 (.cells #[.map (some g7), .int .i64 0, .int .i64 (((s : Nat) : Int)), .slice (some ⟨g9, 0, none⟩) 1 1, .int .i64 (((l : Nat) : Int)), .slice (some ⟨g12, 0, none⟩) 1 1] 63) :: .obj g7 (qc ([]) 0) :: []) := M.bring 2 rfl rfl
 replace M : Mg w w16 (.obj g7 (qc ([]) 0) :: .row 88 2 (.slice (some ⟨g9, 0, none⟩) 1 1) 1 (qa [(0, s)]) :: .row 88 2 (.slice (some ⟨g12, 0, none⟩) 1 1) 1 (qa [(0, l)]) :: .obj g15 (.cells #[.map (some g7), .int .i64 0, .int .i64 (((s : Nat) : Int)), .slice (some ⟨g9, 0, none⟩) 1 1, .int .i64 (((l : Nat) : Int)), .slice (some ⟨g12, 0, none⟩) 1 1] 63) :: []) := M.bring 3 rfl rfl
 replace M : Mg w w16 (.obj g15 (.cells #[.map (some g7), .int .i64 0, .int .i64 (((s : Nat) : Int)), .slice (some ⟨g9, 0, none⟩) 1 1, .int .i64 (((l : Nat) : Int)), .slice (some ⟨g12, 0, none⟩) 1 1] 63) :: .obj g7 (qc ([]) 0) :: .row 88 2 (.slice (some ⟨g9, 0, none⟩) 1 1) 1 (qa [(0, s)]) :: .row 88 2 (.slice (some ⟨g12, 0, none⟩) 1 1) 1 (qa [(0, l)]) :: []) := M.bring 3 rfl rfl
 exact ⟨_, _, _, _, rfl, M⟩
theorem HbB_is1_3 : Is1 Try.prog 3 := ⟨⟨_, Try.underlying3, rfl⟩, by kernel_rfl⟩
theorem HbB_is1_58 : Is1 Try.prog 58 := ⟨⟨_, Try.underlying58, rfl⟩, by kernel_rfl⟩
theorem HbB_fld_60_1 : FieldAt Try.prog 60 1 1 := ⟨_, _, Try.underlying60, rfl, rfl, by kernel_rfl⟩
theorem HbB_fld_63_2 : FieldAt Try.prog 63 2 2 := ⟨_, _, Try.underlying63, rfl, rfl, by kernel_rfl⟩
theorem HbB_fld_63_3 : FieldAt Try.prog 63 3 4 := ⟨_, _, Try.underlying63, rfl, rfl, by kernel_rfl⟩
theorem HbB_fld_88_0 : FieldAt Try.prog 88 0 0 := ⟨_, _, Try.underlying88, rfl, rfl, by kernel_rfl⟩
theorem HbB_fld_88_1 : FieldAt Try.prog 88 1 1 := ⟨_, _, Try.underlying88, rfl, rfl, by kernel_rfl⟩
theorem HbB_isS_88 : IsS Try.prog 88 2 := ⟨⟨_, Try.underlying88⟩, by kernel_rfl⟩
theorem xd {w : World} {n : Int} : Calls Try.prog 41 #[.int .i64 n] w fun e w' => e = .returned (.bool (decide (16 < n))) ∧ Below w.heap.size w w' := by
 have M : Mg w w ([]) := Mg.start w
 refine qp (l := [(0, .int .i64 n)]) Try.func41 rfl Try.ntmps41 rfl rfl ?_
 intro Q hret hnorm hP a A
 refine wsk fun K1 hK1 => wrl (sda A λa A↦?_)
 refine qb (hK1 _ _ (wsk fun K2 hK2 => wrl (sdm A λa A↦?_)))
 refine sdo (v := .bool (decide (16 < n))) A (qe rfl rfl jv) λa A↦?_
 refine sda A λa A↦?_
 refine qb (hK2 _ _ (wp_ret (hret _ _ (en1 A rfl (qi rfl) ?_))))
 exact ⟨rfl, M.bel⟩
theorem qfd {w : World} {h : Nat} {n : Int} (hl : decide (16 < n) = false) : Calls Try.prog 25 #[.pointer (some ⟨h, 0, none⟩), .int .i64 n] w fun e w' => e = .returned (.pointer (some ⟨h, 2, none⟩)) ∧ Below w.heap.size w w' := by
 have M : Mg w w ([]) := Mg.start w
 refine qp (l := [(0, .pointer (some ⟨h, 0, none⟩)), (1, .int .i64 n)]) Try.func25 rfl Try.ntmps25 rfl rfl ?_
 intro Q hret hnorm hP a A
 refine wsk fun K1 hK1 => wrl (sda A λa A↦?_)
 refine qb (hK1 _ _ (wsk fun K2 hK2 => wsk fun K3 hK3 => wrl (sdm A λa A↦?_)))
 refine gcl A M (ef rfl rfl) ((hl ▸ xd)) fun w5 hb4 M a A => ?_
 refine qb (hK3 _ _ (wp_cond_false (A.ev rfl) ?_))
 refine wp_skip (hK2 _ _ (wsk fun K6 hK6 => wrl (sdm A λa A↦?_)))
 refine sdo A (qu rfl) λa A↦?_
 refine sdo (v := .pointer (some ⟨h, 2, none⟩)) A (qd HbB_fld_63_2 rfl rfl) λa A↦?_
 refine sda A λa A↦?_
 refine qb (hK6 _ _ (wp_ret (hret _ _ (en1 A rfl (qi rfl) ?_))))
 exact ⟨rfl, M.bel⟩
theorem qfe {w : World} {h : Nat} {n : Int} (hl : decide (16 < n) = true) : Calls Try.prog 25 #[.pointer (some ⟨h, 0, none⟩), .int .i64 n] w fun e w' => e = .returned (.pointer (some ⟨h, 4, none⟩)) ∧ Below w.heap.size w w' := by
 have M : Mg w w ([]) := Mg.start w
 refine qp (l := [(0, .pointer (some ⟨h, 0, none⟩)), (1, .int .i64 n)]) Try.func25 rfl Try.ntmps25 rfl rfl ?_
 intro Q hret hnorm hP a A
 refine wsk fun K1 hK1 => wrl (sda A λa A↦?_)
 refine qb (hK1 _ _ (wsk fun K2 hK2 => wsk fun K3 hK3 => wrl (sdm A λa A↦?_)))
 refine gcl A M (ef rfl rfl) ((hl ▸ xd)) fun w5 hb4 M a A => ?_
 refine qb (hK3 _ _ (wp_cond_true (A.ev rfl) ?_))
 refine wsk fun K6 hK6 => wrl (sdm A λa A↦?_)
 refine sdo A (qu rfl) λa A↦?_
 refine sdo (v := .pointer (some ⟨h, 4, none⟩)) A (qd HbB_fld_63_3 rfl rfl) λa A↦?_
 refine sda A λa A↦?_
 refine qb (hK6 _ _ (wp_ret (hret _ _ (en1 A rfl (qi rfl) ?_))))
 exact ⟨rfl, M.bel⟩
theorem qki {w : World} {g p s : Nat} {n : Nat} (hF : w.heap[g]? = some (.cells #[.int .i64 ((n : Nat) : Int)] 3)) : Calls Try.prog 43 #[.agg #[.int .i64 (((p : Nat) : Int)), .int .i64 (((s : Nat) : Int))], .pointer (some ⟨g, 0, none⟩)] w fun e w' => e = .returned (.bool (decide (n ≤ s))) ∧ Below w.heap.size w w' := by
 have M : Mg w w ([]) := Mg.start w
 refine qp (l := [(0, .agg #[.int .i64 (((p : Nat) : Int)), .int .i64 (((s : Nat) : Int))]), (1, .pointer (some ⟨g, 0, none⟩))]) Try.func43 rfl Try.ntmps43 rfl rfl ?_
 intro Q hret hnorm hP a A
 refine wsk fun K1 hK1 => wrl (qt (vs := [.int .i64 (((p : Nat) : Int)), .int .i64 (((s : Nat) : Int))]) (t := 88) A M rfl rfl rfl pg (qw rfl rfl) (by decide) ?_)
 intro g2 w3 M a A
 refine sda A λa A↦?_
 refine qb (hK1 _ _ (wsk fun K4 hK4 => wrl (sdo (v := .pointer (some ⟨g2, 1, none⟩)) A (qd HbB_fld_88_1 rfl rfl) λa A↦?_)))
 refine sdo A (qh M HbB_is1_3 rfl 0 rfl rfl) λa A↦?_
 refine sdo A (m_load1F M hF HbB_is1_3 rfl rfl) λa A↦?_
 refine sdo (v := .bool (decide (((n : Nat) : Int) ≤ ((s : Nat) : Int)))) A (qe rfl rfl vf) λa A↦?_
 refine sda A λa A↦?_
 refine qb (hK4 _ _ (wp_ret (hret _ _ (en1 A rfl (qi rfl) ?_))))
 exact ⟨by congr 2; exact decide_eq_decide.2 (by omega), M.bel⟩
theorem yh {w0 w : World} {gb gg sc n : Nat} {gs : List (Nat × Nat)} {T : List Ck} (hgl : gs.length ≤ 1000000) (hM0 : Mg w0 w (.obj gb (.cells #[.int .i64 (((n : Nat) : Int))] 3) :: .row 88 2 (.slice (some ⟨gg, 0, none⟩) gs.length sc) gs.length (qa gs) :: T)) : Calls Try.prog 42 #[.slice (some ⟨gg, 0, none⟩) gs.length sc, .func (.func 43) #[] #[.pointer (some ⟨gb, 0, none⟩)]] w fun e w' => e = .returned (.int .i64 (ym n gs)) ∧ Mg w0 w' (.obj gb (.cells #[.int .i64 (((n : Nat) : Int))] 3) :: .row 88 2 (.slice (some ⟨gg, 0, none⟩) gs.length sc) gs.length (qa gs) :: T) := by
 have M : Mg w0 w (.obj gb (.cells #[.int .i64 (((n : Nat) : Int))] 3) :: .row 88 2 (.slice (some ⟨gg, 0, none⟩) gs.length sc) gs.length (qa gs) :: T) := hM0
 refine qp (l := [(0, .slice (some ⟨gg, 0, none⟩) gs.length sc), (1, .func (.func 43) #[] [.pointer (some ⟨gb, 0, none⟩)].toArray)]) Try.func42 rfl Try.ntmps42 rfl rfl ?_
 intro Q hret hnorm hP a A
 refine wsk fun K1 hK1 => wrl (sda A λa A↦?_)
 refine qb (hK1 _ _ (wsk fun K2 hK2 => wsk fun K3 hK3 => wrl (sdm A λa A↦?_)))
 refine sdo A (qv Try.underlying58 rfl) λa A↦?_
 refine sdm A λa A↦?_
 refine qb (hK3 _ _ (wp_block (zh (fun m_ a w1 => ∃ (i : Nat), m_ = 1 + (gs.length - i) ∧ (i ≤ gs.length ∧ ∀ (j : Nat) (g : Nat × Nat), j < i → gs[j]? = some g → ¬ n ≤ g.2) ∧ Sl a 19 [(0, .slice (some ⟨gg, 0, none⟩) gs.length sc), (1, .func (.func 43) #[] [.pointer (some ⟨gb, 0, none⟩)].toArray), (6, .slice (some ⟨gg, 0, none⟩) gs.length sc), (7, .int .i64 (((gs.length : Nat) : Int))), (8, .int .i64 (((i : Nat) : Int)))] ∧ Mg w0 w1 (.obj gb (.cells #[.int .i64 (((n : Nat) : Int))] 3) :: .row 88 2 (.slice (some ⟨gg, 0, none⟩) gs.length sc) gs.length (qa gs) :: T)) _ ⟨0, rfl, ⟨Nat.zero_le _, fun j g h => absurd h (Nat.not_lt_zero _)⟩, A.keep _ ⟨rfl, rfl, rfl, rfl, rfl, trivial⟩, M⟩ ?_)))
 clear M A
 rintro m_ a w4 ⟨i, rfl, hinv6, A, M⟩ K5 hK5
 obtain ⟨hi0, hin⟩ := hinv6
 refine wsk fun K7 hK7 => wrl ?_
 rcases tf (decide (((i : Nat) : Int) < ((gs.length : Nat) : Int))) with hb8 | hb8
 ·
  have hb8' := of_decide_eq_true hb8
  refine sdc A qm hb8 λa A↦?_
  refine qb (hK7 _ _ (wsk fun K9 hK9 => wp_cond_true (A.ev rfl) ?_))
  refine wp_skip (hK9 _ _ (wsk fun K10 hK10 => wp_block (wsk fun K11 hK11 => wrl (sdm A λa A↦?_))))
  refine sda A λa A↦?_
  refine qb (hK11 _ _ (wsk fun K12 hK12 => ?_))
  obtain ⟨p, s, hat⟩ : ∃ p s, gs[i]? = some (p, s) := ⟨_, _, List.getElem?_eq_getElem (show i < gs.length by omega)⟩
  refine wrl ?_
  iterate 3 refine sdm A λa A↦?_
  refine sdo (v := .pointer (some ⟨gg, i * 2, none⟩)) A (ze (k := i) Try.underlying58 (by kernel_rfl) rfl rfl rfl (by omega)) λa A↦?_
  refine sdo A (vo (o := i * 2) (cs := [.int .i64 ((p : Nat) : Int), .int .i64 ((s : Nat) : Int)]) M 1 rfl HbB_isS_88 (ki hat) rfl rfl) λa A↦?_
  rcases tf (decide (n ≤ s)) with hb13 | hb13
  ·
   have hb13' := of_decide_eq_true hb13
   refine xu A rfl rfl rfl (kf rfl rfl (fun us w => by kernel_rfl)) ((hb13 ▸ qki (M.obj 0 rfl))) ?_
   rintro _ w15 ⟨rfl, hb14⟩
   replace M := M.call hb14
   refine ⟨_, rfl, ?_⟩
   intro a A
   refine qb (hK12 _ _ (wp_cond_true (A.ev rfl) ?_))
   refine wsk fun K16 hK16 => wrl (sdm A λa A↦?_)
   refine sda A λa A↦?_
   refine qb (hK16 _ _ (wp_ret (hret _ _ (en1 A rfl (qi rfl) ?_))))
   exact ⟨by rw [show ym n gs = ((i : Nat) : Int) from by unfold ym; rw [qja hin hat (of_decide_eq_true hb13)]], M⟩
  ·
   have hb13' := of_decide_eq_false hb13
   refine xu A rfl rfl rfl (kf rfl rfl (fun us w => by kernel_rfl)) ((hb13 ▸ qki (M.obj 0 rfl))) ?_
   rintro _ w18 ⟨rfl, hb17⟩
   replace M := M.call hb17
   refine ⟨_, rfl, ?_⟩
   intro a A
   refine qb (hK12 _ _ (wp_cond_false (A.ev rfl) ?_))
   refine wp_skip (hK10 _ _ (wrl (sdo (v := .int .i64 (((i + 1 : Nat) : Int))) A (qe rfl rfl (ar_add ((in_i64 (by omega) (by omega)).trans (by omega)))) λa A↦?_)))
   refine sdm A λa A↦?_
   refine qb ?_
   refine hK5 _ _ _ (by omega) ⟨i + 1, rfl, ⟨by omega, fun j g hj hg => if h9 : j < i then hin j g h9 hg else by have h8 : j = i := (by omega); subst h8; rw [hat] at hg; cases hg; exact of_decide_eq_false hb13⟩, A.keep _ ⟨rfl, rfl, rfl, rfl, rfl, trivial⟩, M⟩
 ·
  have hb8' := of_decide_eq_false hb8
  refine sdc A qm hb8 λa A↦?_
  refine qb (hK7 _ _ (wsk fun K19 hK19 => wp_cond_false (A.ev rfl) ?_))
  refine wp_exit (hK2 _ _ (wsk fun K20 hK20 => wrl (sda A λa A↦?_)))
  refine qb (hK20 _ _ (wp_ret (hret _ _ (en1 A rfl (qi rfl) ?_))))
  exact ⟨by rw [show ym n gs = -1 from by unfold ym; rw [qdh (fun j g hg => hin j g (by have := (List.getElem?_eq_some_iff.1 hg).1; omega) hg)]], M⟩
theorem index_none {w0 w : World} {gb n : Nat} {T : List Ck} (hM0 : Mg w0 w (.obj gb (.cells #[.int .i64 (((n : Nat) : Int))] 3) :: .row 88 2 (.slice none 0 0) 0 ([]) :: T)) : Calls Try.prog 42 #[.slice none 0 0, .func (.func 43) #[] #[.pointer (some ⟨gb, 0, none⟩)]] w fun e w' => e = .returned (.int .i64 (-1)) ∧ Mg w0 w' (.obj gb (.cells #[.int .i64 (((n : Nat) : Int))] 3) :: .row 88 2 (.slice none 0 0) 0 ([]) :: T) := by
 have M : Mg w0 w (.obj gb (.cells #[.int .i64 (((n : Nat) : Int))] 3) :: .row 88 2 (.slice none 0 0) 0 ([]) :: T) := hM0
 refine qp (l := [(0, .slice none 0 0), (1, .func (.func 43) #[] [.pointer (some ⟨gb, 0, none⟩)].toArray)]) Try.func42 rfl Try.ntmps42 rfl rfl ?_
 intro Q hret hnorm hP a A
 refine wsk fun K1 hK1 => wrl (sda A λa A↦?_)
 refine qb (hK1 _ _ (wsk fun K2 hK2 => wsk fun K3 hK3 => wrl (sdm A λa A↦?_)))
 refine sdo A (qv Try.underlying58 rfl) λa A↦?_
 refine sdm A λa A↦?_
 refine qb (hK3 _ _ (wp_block (wp_loop_rounds 1 ?_)))
 refine rounds_k ?_
 intro K4 hK4
 refine wsk fun K5 hK5 => wrl (sdo (v := .bool false) A (qe rfl rfl (fun w => by kernel_rfl)) λa A↦?_)
 refine qb (hK5 _ _ (wsk fun K6 hK6 => wp_cond_false (A.ev rfl) ?_))
 refine wp_exit (hK2 _ _ (wsk fun K7 hK7 => wrl (sda A λa A↦?_)))
 refine qb (hK7 _ _ (wp_ret (hret _ _ (en1 A rfl (qi rfl) ?_))))
 exact ⟨rfl, M⟩
/-- .. whatever the row is. -/
theorem qff {w0 w : World} {gb sc n : Nat} {sg : Option Addr} {gs : List (Nat × Nat)} {T : List Ck} (hgl : gs.length ≤ 1000000) (hM0 : Mg w0 w (.obj gb (.cells #[.int .i64 (((n : Nat) : Int))] 3) :: .row 88 2 (.slice sg gs.length sc) gs.length (qa gs) :: T)) : Calls Try.prog 42 #[.slice sg gs.length sc, .func (.func 43) #[] #[.pointer (some ⟨gb, 0, none⟩)]] w fun e w' => e = .returned (.int .i64 (ym n gs)) ∧ Mg w0 w' (.obj gb (.cells #[.int .i64 (((n : Nat) : Int))] 3) :: .row 88 2 (.slice sg gs.length sc) gs.length (qa gs) :: T) := by
 rcases (hM0.has 1 rfl).2 with ⟨he, h0⟩ | ⟨gg, cap, cur, he, _⟩
 ·
  have : gs = [] := List.length_eq_zero_iff.1 h0
  subst this
  cases he
  exact index_none hM0
 ·
  cases he
  exact yh hgl hM0
theorem takeS_hit {w0 w : World} {h m last ss ls sc lc gg n i p s : Nat} {lg : Option Addr} {gs gl : List (Nat × Nat)} {os : List Ob} {T : List Ck} (hgl : gs.length ≤ 1000000) (hi : jp n gs = some i) (hat : gs[i]? = some (p, s)) (hns : n ≤ s) (hps : p + s ≤ 65536) (hM0 : Mg w0 w (.obj h (.cells #[.map (some m), .int .i64 (((last : Nat) : Int)), .int .i64 (((ss : Nat) : Int)), .slice (some ⟨gg, 0, none⟩) gs.length sc, .int .i64 (((ls : Nat) : Int)), .slice lg gl.length lc] 63) :: .obj m (qc (os.map Ob.en) last) :: .row 88 2 (.slice (some ⟨gg, 0, none⟩) gs.length sc) gs.length (qa gs) :: .row 88 2 (.slice lg gl.length lc) gl.length (qa gl) :: T)) : Calls Try.prog 26 #[.pointer (some ⟨h, 2, none⟩), .int .i64 ((n : Nat) : Int)] w fun e w' => e = .returned (.tuple #[.int .i64 ((p : Nat) : Int), .bool true]) ∧ Mg w0 w' (.obj h (.cells #[.map (some m), .int .i64 (((last : Nat) : Int)), .int .i64 (((ss : Nat) : Int)), .slice (some ⟨gg, 0, none⟩) gs.length sc, .int .i64 (((ls : Nat) : Int)), .slice lg gl.length lc] 63) :: .obj m (qc (os.map Ob.en) last) :: .row 88 2 (.slice (some ⟨gg, 0, none⟩) gs.length sc) gs.length (qa (gs.set i (p + n, s - n))) :: .row 88 2 (.slice lg gl.length lc) gl.length (qa gl) :: T) := by
 have hlt : i < gs.length := (List.getElem?_eq_some_iff.1 hat).1
 have M : Mg w0 w (.obj h (.cells #[.map (some m), .int .i64 (((last : Nat) : Int)), .int .i64 (((ss : Nat) : Int)), .slice (some ⟨gg, 0, none⟩) gs.length sc, .int .i64 (((ls : Nat) : Int)), .slice lg gl.length lc] 63) :: .obj m (qc (os.map Ob.en) last) :: .row 88 2 (.slice (some ⟨gg, 0, none⟩) gs.length sc) gs.length (qa gs) :: .row 88 2 (.slice lg gl.length lc) gl.length (qa gl) :: T) := hM0
 refine qp (l := [(0, .pointer (some ⟨h, 2, none⟩)), (1, .int .i64 (((n : Nat) : Int)))]) Try.func26 rfl Try.ntmps26 rfl rfl ?_
 intro Q hret hnorm hP a A
 refine wsk fun K1 hK1 => wrl (qt (vs := [.int .i64 (((n : Nat) : Int))]) (t := 3) A M rfl rfl rfl pg (qw rfl rfl) (by decide) ?_)
 intro g2 w3 M a A
 iterate 2 refine sda A λa A↦?_
 refine qb (hK1 _ _ (wsk fun K4 hK4 => wrl (sdm A λa A↦?_)))
 refine sdo A (qu rfl) λa A↦?_
 refine sdo (v := .pointer (some ⟨h, 3, none⟩)) A (qd HbB_fld_60_1 rfl rfl) λa A↦?_
 refine sdo A (qh M HbB_is1_58 rfl 1 rfl rfl) λa A↦?_
 refine sdo (v := .func (.func 43) #[] [.pointer (some ⟨g2, 0, none⟩)].toArray) A (jw rfl) λa A↦?_
 replace M : Mg w0 w3 (.row 88 2 (.slice (some ⟨gg, 0, none⟩) gs.length sc) gs.length (qa gs) :: .obj g2 (.cells #[.int .i64 (((n : Nat) : Int))] 3) :: .obj h (.cells #[.map (some m), .int .i64 (((last : Nat) : Int)), .int .i64 (((ss : Nat) : Int)), .slice (some ⟨gg, 0, none⟩) gs.length sc, .int .i64 (((ls : Nat) : Int)), .slice lg gl.length lc] 63) :: .obj m (qc (os.map Ob.en) last) :: .row 88 2 (.slice lg gl.length lc) gl.length (qa gl) :: T) := M.bring 3 rfl rfl
 replace M : Mg w0 w3 (.obj g2 (.cells #[.int .i64 (((n : Nat) : Int))] 3) :: .row 88 2 (.slice (some ⟨gg, 0, none⟩) gs.length sc) gs.length (qa gs) :: .obj h (.cells #[.map (some m), .int .i64 (((last : Nat) : Int)), .int .i64 (((ss : Nat) : Int)), .slice (some ⟨gg, 0, none⟩) gs.length sc, .int .i64 (((ls : Nat) : Int)), .slice lg gl.length lc] 63) :: .obj m (qc (os.map Ob.en) last) :: .row 88 2 (.slice lg gl.length lc) gl.length (qa gl) :: T) := M.bring 1 rfl rfl
 refine sct A (ef rfl rfl) (yh hgl M) ?_
 rintro _ w6 ⟨he9, hM5⟩
 rw [show ym n gs = ((i : Nat) : Int) from by unfold ym; rw [hi]] at he9
 subst he9
 replace M : Mg w0 w6 (.obj g2 (.cells #[.int .i64 (((n : Nat) : Int))] 3) :: .row 88 2 (.slice (some ⟨gg, 0, none⟩) gs.length sc) gs.length (qa gs) :: .obj h (.cells #[.map (some m), .int .i64 (((last : Nat) : Int)), .int .i64 (((ss : Nat) : Int)), .slice (some ⟨gg, 0, none⟩) gs.length sc, .int .i64 (((ls : Nat) : Int)), .slice lg gl.length lc] 63) :: .obj m (qc (os.map Ob.en) last) :: .row 88 2 (.slice lg gl.length lc) gl.length (qa gl) :: T) := hM5
 refine ⟨_, rfl, ?_⟩
 intro a A
 refine sda A λa A↦?_
 refine qb (hK4 _ _ (wsk fun K7 hK7 => wsk fun K8 hK8 => wrl (sdm A λa A↦?_)))
 refine sdo (v := .bool false) A (qe rfl rfl (fun w => (qm w).trans (by rw [show (decide (((i : Nat) : Int) < 0)) = false from (decide_eq_false (by omega))]))) λa A↦?_
 refine qb (hK8 _ _ (wp_cond_false (A.ev rfl) ?_))
 refine wp_skip (hK7 _ _ (wsk fun K9 hK9 => wrl (sdm A λa A↦?_)))
 refine sdo A (qu rfl) λa A↦?_
 refine sdo (v := .pointer (some ⟨h, 3, none⟩)) A (qd HbB_fld_60_1 rfl rfl) λa A↦?_
 refine sdo A (qh M HbB_is1_58 rfl 2 rfl rfl) λa A↦?_
 refine sdm A λa A↦?_
 refine sdo (v := .pointer (some ⟨gg, i * 2, none⟩)) A (ze (k := i) Try.underlying58 (by kernel_rfl) rfl rfl rfl (by omega)) λa A↦?_
 refine sdo A (vo (o := i * 2) (cs := [.int .i64 ((p : Nat) : Int), .int .i64 ((s : Nat) : Int)]) M 1 rfl HbB_isS_88 (ki hat) rfl rfl) λa A↦?_
 refine qt (vs := [.int .i64 0, .int .i64 0]) (t := 88) A M rfl rfl rfl pg (ql (z := .agg #[.int .i64 0, .int .i64 0]) (by kernel_rfl) rfl) (by decide) ?_
 intro g10 w11 M a A
 refine qs (us := [.int .i64 (((p : Nat) : Int)), .int .i64 (((s : Nat) : Int))]) (L' := (.obj g10 (.cells #[.int .i64 (((p : Nat) : Int)), .int .i64 (((s : Nat) : Int))] 88) :: .obj g2 (.cells #[.int .i64 (((n : Nat) : Int))] 3) :: .row 88 2 (.slice (some ⟨gg, 0, none⟩) gs.length sc) gs.length (qa gs) :: .obj h (.cells #[.map (some m), .int .i64 (((last : Nat) : Int)), .int .i64 (((ss : Nat) : Int)), .slice (some ⟨gg, 0, none⟩) gs.length sc, .int .i64 (((ls : Nat) : Int)), .slice lg gl.length lc] 63) :: .obj m (qc (os.map Ob.en) last) :: .row 88 2 (.slice lg gl.length lc) gl.length (qa gl) :: T)) A M rfl rfl (qo rfl rfl rfl (by kernel_rfl) M 0 rfl rfl rfl) 0 rfl rfl rfl ?_
 intro w12 M
 refine qb (hK9 _ _ (wsk fun K13 hK13 => zn (S := fun w1 => Mg w0 w1 (.obj g10 (.cells #[.int .i64 (((p : Nat) : Int)), .int .i64 (((s : Nat) : Int))] 88) :: .obj g2 (.cells #[.int .i64 (((n : Nat) : Int))] 3) :: .obj h (.cells #[.map (some m), .int .i64 (((last : Nat) : Int)), .int .i64 (((ss : Nat) : Int)), .slice (some ⟨gg, 0, none⟩) gs.length sc, .int .i64 (((ls : Nat) : Int)), .slice lg gl.length lc] 63) :: [])) (by kernel_rfl) ?_))
 replace M := M.drew
 refine qf A 0 rfl rfl rfl rfl hP (M.sub (cc (cc (cn (cc (cn (cn (List.nil_sublist _)))))))) (fun w1 M => qn rfl) λa A↦?_
 refine qf A 1 rfl rfl rfl rfl hP (M.sub (cc (cc (cn (cc (cn (cn (List.nil_sublist _)))))))) (fun w1 M => qu rfl) λa A↦?_
 refine qf (v := .pointer (some ⟨h, 3, none⟩)) A 2 rfl rfl rfl rfl hP (M.sub (cc (cc (cn (cc (cn (cn (List.nil_sublist _)))))))) (fun w1 M => qd HbB_fld_60_1 rfl rfl) λa A↦?_
 refine qf A 3 rfl rfl rfl rfl hP (M.sub (cc (cc (cn (cc (cn (cn (List.nil_sublist _)))))))) (fun w1 M => qh M HbB_is1_58 rfl 2 rfl rfl) λa A↦?_
 refine qf A 4 rfl rfl rfl rfl hP (M.sub (cc (cc (cn (cc (cn (cn (List.nil_sublist _)))))))) (fun w1 M => qn rfl) λa A↦?_
 refine qf (v := .pointer (some ⟨g10, 0, none⟩)) A 5 rfl rfl rfl rfl hP (M.sub (cc (cc (cn (cc (cn (cn (List.nil_sublist _)))))))) (fun w1 M => qd HbB_fld_88_0 rfl rfl) λa A↦?_
 refine qf A 6 rfl rfl rfl rfl hP (M.sub (cc (cc (cn (cc (cn (cn (List.nil_sublist _)))))))) (fun w1 M => qh M HbB_is1_3 rfl 0 rfl rfl) λa A↦?_
 refine qf A 7 rfl rfl rfl rfl hP (M.sub (cc (cc (cn (cc (cn (cn (List.nil_sublist _)))))))) (fun w1 M => qh M HbB_is1_3 rfl 1 rfl rfl) λa A↦?_
 refine qf (v := .int .i64 (((p + n : Nat) : Int))) A 8 rfl rfl rfl rfl hP (M.sub (cc (cc (cn (cc (cn (cn (List.nil_sublist _)))))))) (fun w1 M => qe rfl rfl (ar_add ((in_i64 (by omega) (by omega)).trans (by omega)))) λa A↦?_
 refine qf (v := .pointer (some ⟨g10, 1, none⟩)) A 9 rfl rfl rfl rfl hP (M.sub (cc (cc (cn (cc (cn (cn (List.nil_sublist _)))))))) (fun w1 M => qd HbB_fld_88_1 rfl rfl) λa A↦?_
 refine qf A 10 rfl rfl rfl rfl hP (M.sub (cc (cc (cn (cc (cn (cn (List.nil_sublist _)))))))) (fun w1 M => qh M HbB_is1_3 rfl 0 rfl rfl) λa A↦?_
 refine qf A 11 rfl rfl rfl rfl hP (M.sub (cc (cc (cn (cc (cn (cn (List.nil_sublist _)))))))) (fun w1 M => qh M HbB_is1_3 rfl 1 rfl rfl) λa A↦?_
 refine qf (v := .int .i64 (((s - n : Nat) : Int))) A 12 rfl rfl rfl rfl hP (M.sub (cc (cc (cn (cc (cn (cn (List.nil_sublist _)))))))) (fun w1 M => qe rfl rfl (ar_sub ((in_i64 (by omega) (by omega)).trans (by omega)))) λa A↦?_
 refine qf (v := .agg #[.int .i64 (((p + n : Nat) : Int)), .int .i64 (((s - n : Nat) : Int))]) A 13 rfl rfl rfl rfl hP (M.sub (cc (cc (cn (cc (cn (cn (List.nil_sublist _)))))))) (fun w1 M => zq rfl (fun w => by kernel_rfl)) λa A↦?_
 refine qf (v := .pointer (some ⟨gg, i * 2, none⟩)) A 14 rfl rfl rfl rfl hP (M.sub (cc (cc (cn (cc (cn (cn (List.nil_sublist _)))))))) (fun w1 M => ze (k := i) Try.underlying58 (by kernel_rfl) rfl rfl rfl (by omega)) λa A↦?_
 refine zd (by kernel_rfl) (qig (cs := [.int .i64 (((p + n : Nat) : Int)), .int .i64 (((s - n : Nat) : Int))]) (L' := (.obj g10 (.cells #[.int .i64 (((p : Nat) : Int)), .int .i64 (((s : Nat) : Int))] 88) :: .obj g2 (.cells #[.int .i64 (((n : Nat) : Int))] 3) :: .row 88 2 (.slice (some ⟨gg, 0, none⟩) gs.length sc) gs.length (over (qa gs) (i * 2) [.int .i64 (((p + n : Nat) : Int)), .int .i64 (((s - n : Nat) : Int))]) :: .obj h (.cells #[.map (some m), .int .i64 (((last : Nat) : Int)), .int .i64 (((ss : Nat) : Int)), .slice (some ⟨gg, 0, none⟩) gs.length sc, .int .i64 (((ls : Nat) : Int)), .slice lg gl.length lc] 63) :: .obj m (qc (os.map Ob.en) last) :: .row 88 2 (.slice lg gl.length lc) gl.length (qa gl) :: T)) (us := []) A M 15 rfl rfl rfl (jq rfl rfl rfl (by kernel_rfl) M 2 rfl (by show i * 2 + 2 ≤ _; omega) rfl) 2 rfl rfl ?_)
 intro w14 M
 replace M : Mg w0 w14 (.obj g10 (.cells #[.int .i64 (((p : Nat) : Int)), .int .i64 (((s : Nat) : Int))] 88) :: .obj g2 (.cells #[.int .i64 (((n : Nat) : Int))] 3) :: .row 88 2 (.slice (some ⟨gg, 0, none⟩) gs.length sc) gs.length (qa (gs.set i (p + n, s - n))) :: .obj h (.cells #[.map (some m), .int .i64 (((last : Nat) : Int)), .int .i64 (((ss : Nat) : Int)), .slice (some ⟨gg, 0, none⟩) gs.length sc, .int .i64 (((ls : Nat) : Int)), .slice lg gl.length lc] 63) :: .obj m (qc (os.map Ob.en) last) :: .row 88 2 (.slice lg gl.length lc) gl.length (qa gl) :: T) := by rw [qag _ _ hlt] at M; exact M
 refine ⟨(M.sub (cc (cc (cn (cc (cn (cn (List.nil_sublist _)))))))), ?_⟩
 refine zi (by kernel_rfl) ?_
 refine hK13 _ _ (wsk fun K15 hK15 => wrl (sdo (v := .pointer (some ⟨g10, 0, none⟩)) A (qd HbB_fld_88_0 rfl rfl) λa A↦?_))
 refine sdo A (qh M HbB_is1_3 rfl 0 rfl rfl) λa A↦?_
 iterate 2 refine sda A λa A↦?_
 refine qb (hK15 _ _ (wp_ret (hret _ _ (en2 A rfl (qi rfl) (qi rfl) ?_))))
 replace M : Mg w0 w14 (.row 88 2 (.slice lg gl.length lc) gl.length (qa gl) :: .obj g10 (.cells #[.int .i64 (((p : Nat) : Int)), .int .i64 (((s : Nat) : Int))] 88) :: .obj g2 (.cells #[.int .i64 (((n : Nat) : Int))] 3) :: .row 88 2 (.slice (some ⟨gg, 0, none⟩) gs.length sc) gs.length (qa (gs.set i (p + n, s - n))) :: .obj h (.cells #[.map (some m), .int .i64 (((last : Nat) : Int)), .int .i64 (((ss : Nat) : Int)), .slice (some ⟨gg, 0, none⟩) gs.length sc, .int .i64 (((ls : Nat) : Int)), .slice lg gl.length lc] 63) :: .obj m (qc (os.map Ob.en) last) :: T) := M.bring 5 rfl rfl
 replace M : Mg w0 w14 (.row 88 2 (.slice (some ⟨gg, 0, none⟩) gs.length sc) gs.length (qa (gs.set i (p + n, s - n))) :: .row 88 2 (.slice lg gl.length lc) gl.length (qa gl) :: .obj g10 (.cells #[.int .i64 (((p : Nat) : Int)), .int .i64 (((s : Nat) : Int))] 88) :: .obj g2 (.cells #[.int .i64 (((n : Nat) : Int))] 3) :: .obj h (.cells #[.map (some m), .int .i64 (((last : Nat) : Int)), .int .i64 (((ss : Nat) : Int)), .slice (some ⟨gg, 0, none⟩) gs.length sc, .int .i64 (((ls : Nat) : Int)), .slice lg gl.length lc] 63) :: .obj m (qc (os.map Ob.en) last) :: T) := M.bring 3 rfl rfl
 replace M : Mg w0 w14 (.obj m (qc (os.map Ob.en) last) :: .row 88 2 (.slice (some ⟨gg, 0, none⟩) gs.length sc) gs.length (qa (gs.set i (p + n, s - n))) :: .row 88 2 (.slice lg gl.length lc) gl.length (qa gl) :: .obj g10 (.cells #[.int .i64 (((p : Nat) : Int)), .int .i64 (((s : Nat) : Int))] 88) :: .obj g2 (.cells #[.int .i64 (((n : Nat) : Int))] 3) :: .obj h (.cells #[.map (some m), .int .i64 (((last : Nat) : Int)), .int .i64 (((ss : Nat) : Int)), .slice (some ⟨gg, 0, none⟩) gs.length sc, .int .i64 (((ls : Nat) : Int)), .slice lg gl.length lc] 63) :: T) := M.bring 5 rfl rfl
 replace M : Mg w0 w14 (.obj h (.cells #[.map (some m), .int .i64 (((last : Nat) : Int)), .int .i64 (((ss : Nat) : Int)), .slice (some ⟨gg, 0, none⟩) gs.length sc, .int .i64 (((ls : Nat) : Int)), .slice lg gl.length lc] 63) :: .obj m (qc (os.map Ob.en) last) :: .row 88 2 (.slice (some ⟨gg, 0, none⟩) gs.length sc) gs.length (qa (gs.set i (p + n, s - n))) :: .row 88 2 (.slice lg gl.length lc) gl.length (qa gl) :: .obj g10 (.cells #[.int .i64 (((p : Nat) : Int)), .int .i64 (((s : Nat) : Int))] 88) :: .obj g2 (.cells #[.int .i64 (((n : Nat) : Int))] 3) :: T) := M.bring 5 rfl rfl
 replace M : Mg w0 w14 (.obj h (.cells #[.map (some m), .int .i64 (((last : Nat) : Int)), .int .i64 (((ss : Nat) : Int)), .slice (some ⟨gg, 0, none⟩) gs.length sc, .int .i64 (((ls : Nat) : Int)), .slice lg gl.length lc] 63) :: .obj m (qc (os.map Ob.en) last) :: .row 88 2 (.slice (some ⟨gg, 0, none⟩) gs.length sc) gs.length (qa (gs.set i (p + n, s - n))) :: .row 88 2 (.slice lg gl.length lc) gl.length (qa gl) :: T) := by
  have h9 := M.sub (cc (cc (cc (cc (cn (cn (.refl _)))))))
  exact h9
 exact ⟨rfl, M⟩
theorem takeS_miss {w0 w : World} {n : Nat} {h m last ss ls sc lc : Nat} {sg lg : Option Addr} {gs gl : List (Nat × Nat)} {os : List Ob} {T : List Ck} (hgl : gs.length ≤ 1000000) (hi : jp n gs = none) (hM0 : Mg w0 w (.obj h (.cells #[.map (some m), .int .i64 (((last : Nat) : Int)), .int .i64 (((ss : Nat) : Int)), .slice sg gs.length sc, .int .i64 (((ls : Nat) : Int)), .slice lg gl.length lc] 63) :: .obj m (qc (os.map Ob.en) last) :: .row 88 2 (.slice sg gs.length sc) gs.length (qa gs) :: .row 88 2 (.slice lg gl.length lc) gl.length (qa gl) :: T)) : Calls Try.prog 26 #[.pointer (some ⟨h, 2, none⟩), .int .i64 ((n : Nat) : Int)] w fun e w' => e = .returned (.tuple #[.int .i64 0, .bool false]) ∧ Mg w0 w' (.obj h (.cells #[.map (some m), .int .i64 (((last : Nat) : Int)), .int .i64 (((ss : Nat) : Int)), .slice sg gs.length sc, .int .i64 (((ls : Nat) : Int)), .slice lg gl.length lc] 63) :: .obj m (qc (os.map Ob.en) last) :: .row 88 2 (.slice sg gs.length sc) gs.length (qa gs) :: .row 88 2 (.slice lg gl.length lc) gl.length (qa gl) :: T) := by
 have M : Mg w0 w (.obj h (.cells #[.map (some m), .int .i64 (((last : Nat) : Int)), .int .i64 (((ss : Nat) : Int)), .slice sg gs.length sc, .int .i64 (((ls : Nat) : Int)), .slice lg gl.length lc] 63) :: .obj m (qc (os.map Ob.en) last) :: .row 88 2 (.slice sg gs.length sc) gs.length (qa gs) :: .row 88 2 (.slice lg gl.length lc) gl.length (qa gl) :: T) := hM0
 refine qp (l := [(0, .pointer (some ⟨h, 2, none⟩)), (1, .int .i64 (((n : Nat) : Int)))]) Try.func26 rfl Try.ntmps26 rfl rfl ?_
 intro Q hret hnorm hP a A
 refine wsk fun K1 hK1 => wrl (qt (vs := [.int .i64 (((n : Nat) : Int))]) (t := 3) A M rfl rfl rfl pg (qw rfl rfl) (by decide) ?_)
 intro g2 w3 M a A
 iterate 2 refine sda A λa A↦?_
 refine qb (hK1 _ _ (wsk fun K4 hK4 => wrl (sdm A λa A↦?_)))
 refine sdo A (qu rfl) λa A↦?_
 refine sdo (v := .pointer (some ⟨h, 3, none⟩)) A (qd HbB_fld_60_1 rfl rfl) λa A↦?_
 refine sdo A (qh M HbB_is1_58 rfl 1 rfl rfl) λa A↦?_
 refine sdo (v := .func (.func 43) #[] [.pointer (some ⟨g2, 0, none⟩)].toArray) A (jw rfl) λa A↦?_
 replace M : Mg w0 w3 (.row 88 2 (.slice sg gs.length sc) gs.length (qa gs) :: .obj g2 (.cells #[.int .i64 (((n : Nat) : Int))] 3) :: .obj h (.cells #[.map (some m), .int .i64 (((last : Nat) : Int)), .int .i64 (((ss : Nat) : Int)), .slice sg gs.length sc, .int .i64 (((ls : Nat) : Int)), .slice lg gl.length lc] 63) :: .obj m (qc (os.map Ob.en) last) :: .row 88 2 (.slice lg gl.length lc) gl.length (qa gl) :: T) := M.bring 3 rfl rfl
 replace M : Mg w0 w3 (.obj g2 (.cells #[.int .i64 (((n : Nat) : Int))] 3) :: .row 88 2 (.slice sg gs.length sc) gs.length (qa gs) :: .obj h (.cells #[.map (some m), .int .i64 (((last : Nat) : Int)), .int .i64 (((ss : Nat) : Int)), .slice sg gs.length sc, .int .i64 (((ls : Nat) : Int)), .slice lg gl.length lc] 63) :: .obj m (qc (os.map Ob.en) last) :: .row 88 2 (.slice lg gl.length lc) gl.length (qa gl) :: T) := M.bring 1 rfl rfl
 refine sct A (ef rfl rfl) (qff hgl M) ?_
 rintro _ w6 ⟨he9, hM5⟩
 rw [show ym n gs = -1 from by unfold ym; rw [hi]] at he9
 subst he9
 replace M : Mg w0 w6 (.obj g2 (.cells #[.int .i64 (((n : Nat) : Int))] 3) :: .row 88 2 (.slice sg gs.length sc) gs.length (qa gs) :: .obj h (.cells #[.map (some m), .int .i64 (((last : Nat) : Int)), .int .i64 (((ss : Nat) : Int)), .slice sg gs.length sc, .int .i64 (((ls : Nat) : Int)), .slice lg gl.length lc] 63) :: .obj m (qc (os.map Ob.en) last) :: .row 88 2 (.slice lg gl.length lc) gl.length (qa gl) :: T) := hM5
 refine ⟨_, rfl, ?_⟩
 intro a A
 refine sda A λa A↦?_
 refine qb (hK4 _ _ (wsk fun K7 hK7 => wsk fun K8 hK8 => wrl (sdm A λa A↦?_)))
 refine sdo (v := .bool true) A (qe rfl rfl (fun w => by kernel_rfl)) λa A↦?_
 refine qb (hK8 _ _ (wp_cond_true (A.ev rfl) ?_))
 refine wsk fun K9 hK9 => wrl ?_
 iterate 2 refine sda A λa A↦?_
 refine qb (hK9 _ _ (wp_ret (hret _ _ (en2 A rfl (qi rfl) (qi rfl) ?_))))
 replace M : Mg w0 w6 (.row 88 2 (.slice lg gl.length lc) gl.length (qa gl) :: .obj g2 (.cells #[.int .i64 (((n : Nat) : Int))] 3) :: .row 88 2 (.slice sg gs.length sc) gs.length (qa gs) :: .obj h (.cells #[.map (some m), .int .i64 (((last : Nat) : Int)), .int .i64 (((ss : Nat) : Int)), .slice sg gs.length sc, .int .i64 (((ls : Nat) : Int)), .slice lg gl.length lc] 63) :: .obj m (qc (os.map Ob.en) last) :: T) := M.bring 4 rfl rfl
 replace M : Mg w0 w6 (.row 88 2 (.slice sg gs.length sc) gs.length (qa gs) :: .row 88 2 (.slice lg gl.length lc) gl.length (qa gl) :: .obj g2 (.cells #[.int .i64 (((n : Nat) : Int))] 3) :: .obj h (.cells #[.map (some m), .int .i64 (((last : Nat) : Int)), .int .i64 (((ss : Nat) : Int)), .slice sg gs.length sc, .int .i64 (((ls : Nat) : Int)), .slice lg gl.length lc] 63) :: .obj m (qc (os.map Ob.en) last) :: T) := M.bring 2 rfl rfl
 replace M : Mg w0 w6 (.obj m (qc (os.map Ob.en) last) :: .row 88 2 (.slice sg gs.length sc) gs.length (qa gs) :: .row 88 2 (.slice lg gl.length lc) gl.length (qa gl) :: .obj g2 (.cells #[.int .i64 (((n : Nat) : Int))] 3) :: .obj h (.cells #[.map (some m), .int .i64 (((last : Nat) : Int)), .int .i64 (((ss : Nat) : Int)), .slice sg gs.length sc, .int .i64 (((ls : Nat) : Int)), .slice lg gl.length lc] 63) :: T) := M.bring 4 rfl rfl
 replace M : Mg w0 w6 (.obj h (.cells #[.map (some m), .int .i64 (((last : Nat) : Int)), .int .i64 (((ss : Nat) : Int)), .slice sg gs.length sc, .int .i64 (((ls : Nat) : Int)), .slice lg gl.length lc] 63) :: .obj m (qc (os.map Ob.en) last) :: .row 88 2 (.slice sg gs.length sc) gs.length (qa gs) :: .row 88 2 (.slice lg gl.length lc) gl.length (qa gl) :: .obj g2 (.cells #[.int .i64 (((n : Nat) : Int))] 3) :: T) := M.bring 4 rfl rfl
 replace M : Mg w0 w6 (.obj h (.cells #[.map (some m), .int .i64 (((last : Nat) : Int)), .int .i64 (((ss : Nat) : Int)), .slice sg gs.length sc, .int .i64 (((ls : Nat) : Int)), .slice lg gl.length lc] 63) :: .obj m (qc (os.map Ob.en) last) :: .row 88 2 (.slice sg gs.length sc) gs.length (qa gs) :: .row 88 2 (.slice lg gl.length lc) gl.length (qa gl) :: T) := by
  have h9 := M.sub (cc (cc (cc (cc (cn (.refl _))))))
  exact h9
 exact ⟨rfl, M⟩
theorem takeL_hit {w0 w : World} {h m last ss ls sc lc gg n i p s : Nat} {sg : Option Addr} {gs gl : List (Nat × Nat)} {os : List Ob} {T : List Ck} (hgl : gl.length ≤ 1000000) (hi : jp n gl = some i) (hat : gl[i]? = some (p, s)) (hns : n ≤ s) (hps : p + s ≤ 65536) (hM0 : Mg w0 w (.obj h (.cells #[.map (some m), .int .i64 (((last : Nat) : Int)), .int .i64 (((ss : Nat) : Int)), .slice sg gs.length sc, .int .i64 (((ls : Nat) : Int)), .slice (some ⟨gg, 0, none⟩) gl.length lc] 63) :: .obj m (qc (os.map Ob.en) last) :: .row 88 2 (.slice sg gs.length sc) gs.length (qa gs) :: .row 88 2 (.slice (some ⟨gg, 0, none⟩) gl.length lc) gl.length (qa gl) :: T)) : Calls Try.prog 26 #[.pointer (some ⟨h, 4, none⟩), .int .i64 ((n : Nat) : Int)] w fun e w' => e = .returned (.tuple #[.int .i64 ((p : Nat) : Int), .bool true]) ∧ Mg w0 w' (.obj h (.cells #[.map (some m), .int .i64 (((last : Nat) : Int)), .int .i64 (((ss : Nat) : Int)), .slice sg gs.length sc, .int .i64 (((ls : Nat) : Int)), .slice (some ⟨gg, 0, none⟩) gl.length lc] 63) :: .obj m (qc (os.map Ob.en) last) :: .row 88 2 (.slice sg gs.length sc) gs.length (qa gs) :: .row 88 2 (.slice (some ⟨gg, 0, none⟩) gl.length lc) gl.length (qa (gl.set i (p + n, s - n))) :: T) := by
 have hlt : i < gl.length := (List.getElem?_eq_some_iff.1 hat).1
 have M : Mg w0 w (.obj h (.cells #[.map (some m), .int .i64 (((last : Nat) : Int)), .int .i64 (((ss : Nat) : Int)), .slice sg gs.length sc, .int .i64 (((ls : Nat) : Int)), .slice (some ⟨gg, 0, none⟩) gl.length lc] 63) :: .obj m (qc (os.map Ob.en) last) :: .row 88 2 (.slice sg gs.length sc) gs.length (qa gs) :: .row 88 2 (.slice (some ⟨gg, 0, none⟩) gl.length lc) gl.length (qa gl) :: T) := hM0
 refine qp (l := [(0, .pointer (some ⟨h, 4, none⟩)), (1, .int .i64 (((n : Nat) : Int)))]) Try.func26 rfl Try.ntmps26 rfl rfl ?_
 intro Q hret hnorm hP a A
 refine wsk fun K1 hK1 => wrl (qt (vs := [.int .i64 (((n : Nat) : Int))]) (t := 3) A M rfl rfl rfl pg (qw rfl rfl) (by decide) ?_)
 intro g2 w3 M a A
 iterate 2 refine sda A λa A↦?_
 refine qb (hK1 _ _ (wsk fun K4 hK4 => wrl (sdm A λa A↦?_)))
 refine sdo A (qu rfl) λa A↦?_
 refine sdo (v := .pointer (some ⟨h, 5, none⟩)) A (qd HbB_fld_60_1 rfl rfl) λa A↦?_
 refine sdo A (qh M HbB_is1_58 rfl 1 rfl rfl) λa A↦?_
 refine sdo (v := .func (.func 43) #[] [.pointer (some ⟨g2, 0, none⟩)].toArray) A (jw rfl) λa A↦?_
 replace M : Mg w0 w3 (.row 88 2 (.slice (some ⟨gg, 0, none⟩) gl.length lc) gl.length (qa gl) :: .obj g2 (.cells #[.int .i64 (((n : Nat) : Int))] 3) :: .obj h (.cells #[.map (some m), .int .i64 (((last : Nat) : Int)), .int .i64 (((ss : Nat) : Int)), .slice sg gs.length sc, .int .i64 (((ls : Nat) : Int)), .slice (some ⟨gg, 0, none⟩) gl.length lc] 63) :: .obj m (qc (os.map Ob.en) last) :: .row 88 2 (.slice sg gs.length sc) gs.length (qa gs) :: T) := M.bring 4 rfl rfl
 replace M : Mg w0 w3 (.obj g2 (.cells #[.int .i64 (((n : Nat) : Int))] 3) :: .row 88 2 (.slice (some ⟨gg, 0, none⟩) gl.length lc) gl.length (qa gl) :: .obj h (.cells #[.map (some m), .int .i64 (((last : Nat) : Int)), .int .i64 (((ss : Nat) : Int)), .slice sg gs.length sc, .int .i64 (((ls : Nat) : Int)), .slice (some ⟨gg, 0, none⟩) gl.length lc] 63) :: .obj m (qc (os.map Ob.en) last) :: .row 88 2 (.slice sg gs.length sc) gs.length (qa gs) :: T) := M.bring 1 rfl rfl
 refine sct A (ef rfl rfl) (yh hgl M) ?_
 rintro _ w6 ⟨he9, hM5⟩
 rw [show ym n gl = ((i : Nat) : Int) from by unfold ym; rw [hi]] at he9
 subst he9
 replace M : Mg w0 w6 (.obj g2 (.cells #[.int .i64 (((n : Nat) : Int))] 3) :: .row 88 2 (.slice (some ⟨gg, 0, none⟩) gl.length lc) gl.length (qa gl) :: .obj h (.cells #[.map (some m), .int .i64 (((last : Nat) : Int)), .int .i64 (((ss : Nat) : Int)), .slice sg gs.length sc, .int .i64 (((ls : Nat) : Int)), .slice (some ⟨gg, 0, none⟩) gl.length lc] 63) :: .obj m (qc (os.map Ob.en) last) :: .row 88 2 (.slice sg gs.length sc) gs.length (qa gs) :: T) := hM5
 refine ⟨_, rfl, ?_⟩
 intro a A
 refine sda A λa A↦?_
 refine qb (hK4 _ _ (wsk fun K7 hK7 => wsk fun K8 hK8 => wrl (sdm A λa A↦?_)))
 refine sdo (v := .bool false) A (qe rfl rfl (fun w => (qm w).trans (by rw [show (decide (((i : Nat) : Int) < 0)) = false from (decide_eq_false (by omega))]))) λa A↦?_
 refine qb (hK8 _ _ (wp_cond_false (A.ev rfl) ?_))
 refine wp_skip (hK7 _ _ (wsk fun K9 hK9 => wrl (sdm A λa A↦?_)))
 refine sdo A (qu rfl) λa A↦?_
 refine sdo (v := .pointer (some ⟨h, 5, none⟩)) A (qd HbB_fld_60_1 rfl rfl) λa A↦?_
 refine sdo A (qh M HbB_is1_58 rfl 2 rfl rfl) λa A↦?_
 refine sdm A λa A↦?_
 refine sdo (v := .pointer (some ⟨gg, i * 2, none⟩)) A (ze (k := i) Try.underlying58 (by kernel_rfl) rfl rfl rfl (by omega)) λa A↦?_
 refine sdo A (vo (o := i * 2) (cs := [.int .i64 ((p : Nat) : Int), .int .i64 ((s : Nat) : Int)]) M 1 rfl HbB_isS_88 (ki hat) rfl rfl) λa A↦?_
 refine qt (vs := [.int .i64 0, .int .i64 0]) (t := 88) A M rfl rfl rfl pg (ql (z := .agg #[.int .i64 0, .int .i64 0]) (by kernel_rfl) rfl) (by decide) ?_
 intro g10 w11 M a A
 refine qs (us := [.int .i64 (((p : Nat) : Int)), .int .i64 (((s : Nat) : Int))]) (L' := (.obj g10 (.cells #[.int .i64 (((p : Nat) : Int)), .int .i64 (((s : Nat) : Int))] 88) :: .obj g2 (.cells #[.int .i64 (((n : Nat) : Int))] 3) :: .row 88 2 (.slice (some ⟨gg, 0, none⟩) gl.length lc) gl.length (qa gl) :: .obj h (.cells #[.map (some m), .int .i64 (((last : Nat) : Int)), .int .i64 (((ss : Nat) : Int)), .slice sg gs.length sc, .int .i64 (((ls : Nat) : Int)), .slice (some ⟨gg, 0, none⟩) gl.length lc] 63) :: .obj m (qc (os.map Ob.en) last) :: .row 88 2 (.slice sg gs.length sc) gs.length (qa gs) :: T)) A M rfl rfl (qo rfl rfl rfl (by kernel_rfl) M 0 rfl rfl rfl) 0 rfl rfl rfl ?_
 intro w12 M
 refine qb (hK9 _ _ (wsk fun K13 hK13 => zn (S := fun w1 => Mg w0 w1 (.obj g10 (.cells #[.int .i64 (((p : Nat) : Int)), .int .i64 (((s : Nat) : Int))] 88) :: .obj g2 (.cells #[.int .i64 (((n : Nat) : Int))] 3) :: .obj h (.cells #[.map (some m), .int .i64 (((last : Nat) : Int)), .int .i64 (((ss : Nat) : Int)), .slice sg gs.length sc, .int .i64 (((ls : Nat) : Int)), .slice (some ⟨gg, 0, none⟩) gl.length lc] 63) :: [])) (by kernel_rfl) ?_))
 replace M := M.drew
 refine qf A 0 rfl rfl rfl rfl hP (M.sub (cc (cc (cn (cc (cn (cn (List.nil_sublist _)))))))) (fun w1 M => qn rfl) λa A↦?_
 refine qf A 1 rfl rfl rfl rfl hP (M.sub (cc (cc (cn (cc (cn (cn (List.nil_sublist _)))))))) (fun w1 M => qu rfl) λa A↦?_
 refine qf (v := .pointer (some ⟨h, 5, none⟩)) A 2 rfl rfl rfl rfl hP (M.sub (cc (cc (cn (cc (cn (cn (List.nil_sublist _)))))))) (fun w1 M => qd HbB_fld_60_1 rfl rfl) λa A↦?_
 refine qf A 3 rfl rfl rfl rfl hP (M.sub (cc (cc (cn (cc (cn (cn (List.nil_sublist _)))))))) (fun w1 M => qh M HbB_is1_58 rfl 2 rfl rfl) λa A↦?_
 refine qf A 4 rfl rfl rfl rfl hP (M.sub (cc (cc (cn (cc (cn (cn (List.nil_sublist _)))))))) (fun w1 M => qn rfl) λa A↦?_
 refine qf (v := .pointer (some ⟨g10, 0, none⟩)) A 5 rfl rfl rfl rfl hP (M.sub (cc (cc (cn (cc (cn (cn (List.nil_sublist _)))))))) (fun w1 M => qd HbB_fld_88_0 rfl rfl) λa A↦?_
 refine qf A 6 rfl rfl rfl rfl hP (M.sub (cc (cc (cn (cc (cn (cn (List.nil_sublist _)))))))) (fun w1 M => qh M HbB_is1_3 rfl 0 rfl rfl) λa A↦?_
 refine qf A 7 rfl rfl rfl rfl hP (M.sub (cc (cc (cn (cc (cn (cn (List.nil_sublist _)))))))) (fun w1 M => qh M HbB_is1_3 rfl 1 rfl rfl) λa A↦?_
 refine qf (v := .int .i64 (((p + n : Nat) : Int))) A 8 rfl rfl rfl rfl hP (M.sub (cc (cc (cn (cc (cn (cn (List.nil_sublist _)))))))) (fun w1 M => qe rfl rfl (ar_add ((in_i64 (by omega) (by omega)).trans (by omega)))) λa A↦?_
 refine qf (v := .pointer (some ⟨g10, 1, none⟩)) A 9 rfl rfl rfl rfl hP (M.sub (cc (cc (cn (cc (cn (cn (List.nil_sublist _)))))))) (fun w1 M => qd HbB_fld_88_1 rfl rfl) λa A↦?_
 refine qf A 10 rfl rfl rfl rfl hP (M.sub (cc (cc (cn (cc (cn (cn (List.nil_sublist _)))))))) (fun w1 M => qh M HbB_is1_3 rfl 0 rfl rfl) λa A↦?_
 refine qf A 11 rfl rfl rfl rfl hP (M.sub (cc (cc (cn (cc (cn (cn (List.nil_sublist _)))))))) (fun w1 M => qh M HbB_is1_3 rfl 1 rfl rfl) λa A↦?_
 refine qf (v := .int .i64 (((s - n : Nat) : Int))) A 12 rfl rfl rfl rfl hP (M.sub (cc (cc (cn (cc (cn (cn (List.nil_sublist _)))))))) (fun w1 M => qe rfl rfl (ar_sub ((in_i64 (by omega) (by omega)).trans (by omega)))) λa A↦?_
 refine qf (v := .agg #[.int .i64 (((p + n : Nat) : Int)), .int .i64 (((s - n : Nat) : Int))]) A 13 rfl rfl rfl rfl hP (M.sub (cc (cc (cn (cc (cn (cn (List.nil_sublist _)))))))) (fun w1 M => zq rfl (fun w => by kernel_rfl)) λa A↦?_
 refine qf (v := .pointer (some ⟨gg, i * 2, none⟩)) A 14 rfl rfl rfl rfl hP (M.sub (cc (cc (cn (cc (cn (cn (List.nil_sublist _)))))))) (fun w1 M => ze (k := i) Try.underlying58 (by kernel_rfl) rfl rfl rfl (by omega)) λa A↦?_
 refine zd (by kernel_rfl) (qig (cs := [.int .i64 (((p + n : Nat) : Int)), .int .i64 (((s - n : Nat) : Int))]) (L' := (.obj g10 (.cells #[.int .i64 (((p : Nat) : Int)), .int .i64 (((s : Nat) : Int))] 88) :: .obj g2 (.cells #[.int .i64 (((n : Nat) : Int))] 3) :: .row 88 2 (.slice (some ⟨gg, 0, none⟩) gl.length lc) gl.length (over (qa gl) (i * 2) [.int .i64 (((p + n : Nat) : Int)), .int .i64 (((s - n : Nat) : Int))]) :: .obj h (.cells #[.map (some m), .int .i64 (((last : Nat) : Int)), .int .i64 (((ss : Nat) : Int)), .slice sg gs.length sc, .int .i64 (((ls : Nat) : Int)), .slice (some ⟨gg, 0, none⟩) gl.length lc] 63) :: .obj m (qc (os.map Ob.en) last) :: .row 88 2 (.slice sg gs.length sc) gs.length (qa gs) :: T)) (us := []) A M 15 rfl rfl rfl (jq rfl rfl rfl (by kernel_rfl) M 2 rfl (by show i * 2 + 2 ≤ _; omega) rfl) 2 rfl rfl ?_)
 intro w14 M
 replace M : Mg w0 w14 (.obj g10 (.cells #[.int .i64 (((p : Nat) : Int)), .int .i64 (((s : Nat) : Int))] 88) :: .obj g2 (.cells #[.int .i64 (((n : Nat) : Int))] 3) :: .row 88 2 (.slice (some ⟨gg, 0, none⟩) gl.length lc) gl.length (qa (gl.set i (p + n, s - n))) :: .obj h (.cells #[.map (some m), .int .i64 (((last : Nat) : Int)), .int .i64 (((ss : Nat) : Int)), .slice sg gs.length sc, .int .i64 (((ls : Nat) : Int)), .slice (some ⟨gg, 0, none⟩) gl.length lc] 63) :: .obj m (qc (os.map Ob.en) last) :: .row 88 2 (.slice sg gs.length sc) gs.length (qa gs) :: T) := by rw [qag _ _ hlt] at M; exact M
 refine ⟨(M.sub (cc (cc (cn (cc (cn (cn (List.nil_sublist _)))))))), ?_⟩
 refine zi (by kernel_rfl) ?_
 refine hK13 _ _ (wsk fun K15 hK15 => wrl (sdo (v := .pointer (some ⟨g10, 0, none⟩)) A (qd HbB_fld_88_0 rfl rfl) λa A↦?_))
 refine sdo A (qh M HbB_is1_3 rfl 0 rfl rfl) λa A↦?_
 iterate 2 refine sda A λa A↦?_
 refine qb (hK15 _ _ (wp_ret (hret _ _ (en2 A rfl (qi rfl) (qi rfl) ?_))))
 replace M : Mg w0 w14 (.row 88 2 (.slice (some ⟨gg, 0, none⟩) gl.length lc) gl.length (qa (gl.set i (p + n, s - n))) :: .obj g10 (.cells #[.int .i64 (((p : Nat) : Int)), .int .i64 (((s : Nat) : Int))] 88) :: .obj g2 (.cells #[.int .i64 (((n : Nat) : Int))] 3) :: .obj h (.cells #[.map (some m), .int .i64 (((last : Nat) : Int)), .int .i64 (((ss : Nat) : Int)), .slice sg gs.length sc, .int .i64 (((ls : Nat) : Int)), .slice (some ⟨gg, 0, none⟩) gl.length lc] 63) :: .obj m (qc (os.map Ob.en) last) :: .row 88 2 (.slice sg gs.length sc) gs.length (qa gs) :: T) := M.bring 2 rfl rfl
 replace M : Mg w0 w14 (.row 88 2 (.slice sg gs.length sc) gs.length (qa gs) :: .row 88 2 (.slice (some ⟨gg, 0, none⟩) gl.length lc) gl.length (qa (gl.set i (p + n, s - n))) :: .obj g10 (.cells #[.int .i64 (((p : Nat) : Int)), .int .i64 (((s : Nat) : Int))] 88) :: .obj g2 (.cells #[.int .i64 (((n : Nat) : Int))] 3) :: .obj h (.cells #[.map (some m), .int .i64 (((last : Nat) : Int)), .int .i64 (((ss : Nat) : Int)), .slice sg gs.length sc, .int .i64 (((ls : Nat) : Int)), .slice (some ⟨gg, 0, none⟩) gl.length lc] 63) :: .obj m (qc (os.map Ob.en) last) :: T) := M.bring 5 rfl rfl
 replace M : Mg w0 w14 (.obj m (qc (os.map Ob.en) last) :: .row 88 2 (.slice sg gs.length sc) gs.length (qa gs) :: .row 88 2 (.slice (some ⟨gg, 0, none⟩) gl.length lc) gl.length (qa (gl.set i (p + n, s - n))) :: .obj g10 (.cells #[.int .i64 (((p : Nat) : Int)), .int .i64 (((s : Nat) : Int))] 88) :: .obj g2 (.cells #[.int .i64 (((n : Nat) : Int))] 3) :: .obj h (.cells #[.map (some m), .int .i64 (((last : Nat) : Int)), .int .i64 (((ss : Nat) : Int)), .slice sg gs.length sc, .int .i64 (((ls : Nat) : Int)), .slice (some ⟨gg, 0, none⟩) gl.length lc] 63) :: T) := M.bring 5 rfl rfl
 replace M : Mg w0 w14 (.obj h (.cells #[.map (some m), .int .i64 (((last : Nat) : Int)), .int .i64 (((ss : Nat) : Int)), .slice sg gs.length sc, .int .i64 (((ls : Nat) : Int)), .slice (some ⟨gg, 0, none⟩) gl.length lc] 63) :: .obj m (qc (os.map Ob.en) last) :: .row 88 2 (.slice sg gs.length sc) gs.length (qa gs) :: .row 88 2 (.slice (some ⟨gg, 0, none⟩) gl.length lc) gl.length (qa (gl.set i (p + n, s - n))) :: .obj g10 (.cells #[.int .i64 (((p : Nat) : Int)), .int .i64 (((s : Nat) : Int))] 88) :: .obj g2 (.cells #[.int .i64 (((n : Nat) : Int))] 3) :: T) := M.bring 5 rfl rfl
 replace M : Mg w0 w14 (.obj h (.cells #[.map (some m), .int .i64 (((last : Nat) : Int)), .int .i64 (((ss : Nat) : Int)), .slice sg gs.length sc, .int .i64 (((ls : Nat) : Int)), .slice (some ⟨gg, 0, none⟩) gl.length lc] 63) :: .obj m (qc (os.map Ob.en) last) :: .row 88 2 (.slice sg gs.length sc) gs.length (qa gs) :: .row 88 2 (.slice (some ⟨gg, 0, none⟩) gl.length lc) gl.length (qa (gl.set i (p + n, s - n))) :: T) := by
  have h9 := M.sub (cc (cc (cc (cc (cn (cn (.refl _)))))))
  exact h9
 exact ⟨rfl, M⟩
theorem takeL_miss {w0 w : World} {n : Nat} {h m last ss ls sc lc : Nat} {sg lg : Option Addr} {gs gl : List (Nat × Nat)} {os : List Ob} {T : List Ck} (hgl : gl.length ≤ 1000000) (hi : jp n gl = none) (hM0 : Mg w0 w (.obj h (.cells #[.map (some m), .int .i64 (((last : Nat) : Int)), .int .i64 (((ss : Nat) : Int)), .slice sg gs.length sc, .int .i64 (((ls : Nat) : Int)), .slice lg gl.length lc] 63) :: .obj m (qc (os.map Ob.en) last) :: .row 88 2 (.slice sg gs.length sc) gs.length (qa gs) :: .row 88 2 (.slice lg gl.length lc) gl.length (qa gl) :: T)) : Calls Try.prog 26 #[.pointer (some ⟨h, 4, none⟩), .int .i64 ((n : Nat) : Int)] w fun e w' => e = .returned (.tuple #[.int .i64 0, .bool false]) ∧ Mg w0 w' (.obj h (.cells #[.map (some m), .int .i64 (((last : Nat) : Int)), .int .i64 (((ss : Nat) : Int)), .slice sg gs.length sc, .int .i64 (((ls : Nat) : Int)), .slice lg gl.length lc] 63) :: .obj m (qc (os.map Ob.en) last) :: .row 88 2 (.slice sg gs.length sc) gs.length (qa gs) :: .row 88 2 (.slice lg gl.length lc) gl.length (qa gl) :: T) := by
 have M : Mg w0 w (.obj h (.cells #[.map (some m), .int .i64 (((last : Nat) : Int)), .int .i64 (((ss : Nat) : Int)), .slice sg gs.length sc, .int .i64 (((ls : Nat) : Int)), .slice lg gl.length lc] 63) :: .obj m (qc (os.map Ob.en) last) :: .row 88 2 (.slice sg gs.length sc) gs.length (qa gs) :: .row 88 2 (.slice lg gl.length lc) gl.length (qa gl) :: T) := hM0
 refine qp (l := [(0, .pointer (some ⟨h, 4, none⟩)), (1, .int .i64 (((n : Nat) : Int)))]) Try.func26 rfl Try.ntmps26 rfl rfl ?_
 intro Q hret hnorm hP a A
 refine wsk fun K1 hK1 => wrl (qt (vs := [.int .i64 (((n : Nat) : Int))]) (t := 3) A M rfl rfl rfl pg (qw rfl rfl) (by decide) ?_)
 intro g2 w3 M a A
 iterate 2 refine sda A λa A↦?_
 refine qb (hK1 _ _ (wsk fun K4 hK4 => wrl (sdm A λa A↦?_)))
 refine sdo A (qu rfl) λa A↦?_
 refine sdo (v := .pointer (some ⟨h, 5, none⟩)) A (qd HbB_fld_60_1 rfl rfl) λa A↦?_
 refine sdo A (qh M HbB_is1_58 rfl 1 rfl rfl) λa A↦?_
 refine sdo (v := .func (.func 43) #[] [.pointer (some ⟨g2, 0, none⟩)].toArray) A (jw rfl) λa A↦?_
 replace M : Mg w0 w3 (.row 88 2 (.slice lg gl.length lc) gl.length (qa gl) :: .obj g2 (.cells #[.int .i64 (((n : Nat) : Int))] 3) :: .obj h (.cells #[.map (some m), .int .i64 (((last : Nat) : Int)), .int .i64 (((ss : Nat) : Int)), .slice sg gs.length sc, .int .i64 (((ls : Nat) : Int)), .slice lg gl.length lc] 63) :: .obj m (qc (os.map Ob.en) last) :: .row 88 2 (.slice sg gs.length sc) gs.length (qa gs) :: T) := M.bring 4 rfl rfl
 replace M : Mg w0 w3 (.obj g2 (.cells #[.int .i64 (((n : Nat) : Int))] 3) :: .row 88 2 (.slice lg gl.length lc) gl.length (qa gl) :: .obj h (.cells #[.map (some m), .int .i64 (((last : Nat) : Int)), .int .i64 (((ss : Nat) : Int)), .slice sg gs.length sc, .int .i64 (((ls : Nat) : Int)), .slice lg gl.length lc] 63) :: .obj m (qc (os.map Ob.en) last) :: .row 88 2 (.slice sg gs.length sc) gs.length (qa gs) :: T) := M.bring 1 rfl rfl
 refine sct A (ef rfl rfl) (qff hgl M) ?_
 rintro _ w6 ⟨he9, hM5⟩
 rw [show ym n gl = -1 from by unfold ym; rw [hi]] at he9
 subst he9
 replace M : Mg w0 w6 (.obj g2 (.cells #[.int .i64 (((n : Nat) : Int))] 3) :: .row 88 2 (.slice lg gl.length lc) gl.length (qa gl) :: .obj h (.cells #[.map (some m), .int .i64 (((last : Nat) : Int)), .int .i64 (((ss : Nat) : Int)), .slice sg gs.length sc, .int .i64 (((ls : Nat) : Int)), .slice lg gl.length lc] 63) :: .obj m (qc (os.map Ob.en) last) :: .row 88 2 (.slice sg gs.length sc) gs.length (qa gs) :: T) := hM5
 refine ⟨_, rfl, ?_⟩
 intro a A
 refine sda A λa A↦?_
 refine qb (hK4 _ _ (wsk fun K7 hK7 => wsk fun K8 hK8 => wrl (sdm A λa A↦?_)))
 refine sdo (v := .bool true) A (qe rfl rfl (fun w => by kernel_rfl)) λa A↦?_
 refine qb (hK8 _ _ (wp_cond_true (A.ev rfl) ?_))
 refine wsk fun K9 hK9 => wrl ?_
 iterate 2 refine sda A λa A↦?_
 refine qb (hK9 _ _ (wp_ret (hret _ _ (en2 A rfl (qi rfl) (qi rfl) ?_))))
 replace M : Mg w0 w6 (.row 88 2 (.slice lg gl.length lc) gl.length (qa gl) :: .obj g2 (.cells #[.int .i64 (((n : Nat) : Int))] 3) :: .obj h (.cells #[.map (some m), .int .i64 (((last : Nat) : Int)), .int .i64 (((ss : Nat) : Int)), .slice sg gs.length sc, .int .i64 (((ls : Nat) : Int)), .slice lg gl.length lc] 63) :: .obj m (qc (os.map Ob.en) last) :: .row 88 2 (.slice sg gs.length sc) gs.length (qa gs) :: T) := M.bring 1 rfl rfl
 replace M : Mg w0 w6 (.row 88 2 (.slice sg gs.length sc) gs.length (qa gs) :: .row 88 2 (.slice lg gl.length lc) gl.length (qa gl) :: .obj g2 (.cells #[.int .i64 (((n : Nat) : Int))] 3) :: .obj h (.cells #[.map (some m), .int .i64 (((last : Nat) : Int)), .int .i64 (((ss : Nat) : Int)), .slice sg gs.length sc, .int .i64 (((ls : Nat) : Int)), .slice lg gl.length lc] 63) :: .obj m (qc (os.map Ob.en) last) :: T) := M.bring 4 rfl rfl
 replace M : Mg w0 w6 (.obj m (qc (os.map Ob.en) last) :: .row 88 2 (.slice sg gs.length sc) gs.length (qa gs) :: .row 88 2 (.slice lg gl.length lc) gl.length (qa gl) :: .obj g2 (.cells #[.int .i64 (((n : Nat) : Int))] 3) :: .obj h (.cells #[.map (some m), .int .i64 (((last : Nat) : Int)), .int .i64 (((ss : Nat) : Int)), .slice sg gs.length sc, .int .i64 (((ls : Nat) : Int)), .slice lg gl.length lc] 63) :: T) := M.bring 4 rfl rfl
 replace M : Mg w0 w6 (.obj h (.cells #[.map (some m), .int .i64 (((last : Nat) : Int)), .int .i64 (((ss : Nat) : Int)), .slice sg gs.length sc, .int .i64 (((ls : Nat) : Int)), .slice lg gl.length lc] 63) :: .obj m (qc (os.map Ob.en) last) :: .row 88 2 (.slice sg gs.length sc) gs.length (qa gs) :: .row 88 2 (.slice lg gl.length lc) gl.length (qa gl) :: .obj g2 (.cells #[.int .i64 (((n : Nat) : Int))] 3) :: T) := M.bring 4 rfl rfl
 replace M : Mg w0 w6 (.obj h (.cells #[.map (some m), .int .i64 (((last : Nat) : Int)), .int .i64 (((ss : Nat) : Int)), .slice sg gs.length sc, .int .i64 (((ls : Nat) : Int)), .slice lg gl.length lc] 63) :: .obj m (qc (os.map Ob.en) last) :: .row 88 2 (.slice sg gs.length sc) gs.length (qa gs) :: .row 88 2 (.slice lg gl.length lc) gl.length (qa gl) :: T) := by
  have h9 := M.sub (cc (cc (cc (cc (cn (.refl _))))))
  exact h9
 exact ⟨rfl, M⟩
theorem HbC_is1_3 : Is1 Try.prog 3 := ⟨⟨_, Try.underlying3, rfl⟩, by kernel_rfl⟩
theorem HbC_is1_57 : Is1 Try.prog 57 := ⟨⟨_, Try.underlying57, rfl⟩, by kernel_rfl⟩
theorem HbC_fld_63_0 : FieldAt Try.prog 63 0 0 := ⟨_, _, Try.underlying63, rfl, rfl, by kernel_rfl⟩
theorem HbC_fld_63_1 : FieldAt Try.prog 63 1 1 := ⟨_, _, Try.underlying63, rfl, rfl, by kernel_rfl⟩
theorem qci {w0 w : World} {h m last ss ls sc lc gg n i p s : Nat} {lg : Option Addr} {gs gl : List (Nat × Nat)} {os : List Ob} {T : List Ck} (h1 : 1 ≤ n) (hlg : decide (16 < ((n : Nat) : Int)) = false) (hla : last ≤ 4611686018427387904) (hnew : atK ((last + 1 : Nat) : Int) (os.map Ob.en) = none) (hgl : gs.length ≤ 1000000) (hi : jp n gs = some i) (hat : gs[i]? = some (p, s)) (hns : n ≤ s) (hps : p + s ≤ 65536) (hM0 : Mg w0 w (.obj h (.cells #[.map (some m), .int .i64 (((last : Nat) : Int)), .int .i64 (((ss : Nat) : Int)), .slice (some ⟨gg, 0, none⟩) gs.length sc, .int .i64 (((ls : Nat) : Int)), .slice lg gl.length lc] 63) :: .obj m (qc (os.map Ob.en) last) :: .row 88 2 (.slice (some ⟨gg, 0, none⟩) gs.length sc) gs.length (qa gs) :: .row 88 2 (.slice lg gl.length lc) gl.length (qa gl) :: T)) : Calls Try.prog 6 #[.pointer (some ⟨h, 0, none⟩), .int .i64 ((n : Nat) : Int)] w fun e w' => ∃ gr, e = .returned (.tuple #[.int .i64 ((last + 1 : Nat) : Int), .int .i64 0]) ∧ Mg w0 w' (.obj h (.cells #[.map (some m), .int .i64 (((last + 1 : Nat) : Int)), .int .i64 (((ss : Nat) : Int)), .slice (some ⟨gg, 0, none⟩) gs.length sc, .int .i64 (((ls : Nat) : Int)), .slice lg gl.length lc] 63) :: .obj m (qc (os.map Ob.en ++ [⟨((last + 1 : Nat) : Int), .agg #[.int .i64 ((p : Nat) : Int), .slice (some ⟨gr, 0, none⟩) n n], last⟩]) (last + 1)) :: .row 88 2 (.slice (some ⟨gg, 0, none⟩) gs.length sc) gs.length (qa (gs.set i (p + n, s - n))) :: .row 88 2 (.slice lg gl.length lc) gl.length (qa gl) :: .row 32 2 (.slice (some ⟨gr, 0, none⟩) n n) n (za (List.replicate n (0, false))) :: T) := by
 have hn1 : decide (((n : Nat) : Int) < 1) = false := decide_eq_false (by omega)
 have M : Mg w0 w (.obj h (.cells #[.map (some m), .int .i64 (((last : Nat) : Int)), .int .i64 (((ss : Nat) : Int)), .slice (some ⟨gg, 0, none⟩) gs.length sc, .int .i64 (((ls : Nat) : Int)), .slice lg gl.length lc] 63) :: .obj m (qc (os.map Ob.en) last) :: .row 88 2 (.slice (some ⟨gg, 0, none⟩) gs.length sc) gs.length (qa gs) :: .row 88 2 (.slice lg gl.length lc) gl.length (qa gl) :: T) := hM0
 refine qp (l := [(0, .pointer (some ⟨h, 0, none⟩)), (1, .int .i64 (((n : Nat) : Int)))]) Try.func6 rfl Try.ntmps6 rfl rfl ?_
 intro Q hret hnorm hP a A
 refine wsk fun K1 hK1 => wrl ?_
 iterate 2 refine sda A λa A↦?_
 refine qb (hK1 _ _ (wsk fun K2 hK2 => wsk fun K3 hK3 => wrl (sdm A λa A↦?_)))
 refine sdo (v := .bool false) A (qe rfl rfl (jn Try.underlying24)) λa A↦?_
 iterate 2 refine sdm A λa A↦?_
 refine sdo (v := .bool false) A (qe rfl rfl (fun w => (qm w).trans (by rw [show (decide (((n : Nat) : Int) < 1)) = false from hn1]))) λa A↦?_
 refine sdk (v := .bool false) A λa A↦?_
 refine qb (hK3 _ _ (wp_cond_false (A.ev rfl) ?_))
 refine wp_skip (hK2 _ _ (wsk fun K4 hK4 => wrl ?_))
 iterate 2 refine sdm A λa A↦?_
 refine gcl A M (ef rfl rfl) (qfd hlg) fun w6 hb5 M a A => ?_
 refine sdm A λa A↦?_
 replace M : Mg w0 w6 (.row 88 2 (.slice lg gl.length lc) gl.length (qa gl) :: .obj h (.cells #[.map (some m), .int .i64 (((last : Nat) : Int)), .int .i64 (((ss : Nat) : Int)), .slice (some ⟨gg, 0, none⟩) gs.length sc, .int .i64 (((ls : Nat) : Int)), .slice lg gl.length lc] 63) :: .obj m (qc (os.map Ob.en) last) :: .row 88 2 (.slice (some ⟨gg, 0, none⟩) gs.length sc) gs.length (qa gs) :: T) := M.bring 3 rfl rfl
 replace M : Mg w0 w6 (.row 88 2 (.slice (some ⟨gg, 0, none⟩) gs.length sc) gs.length (qa gs) :: .row 88 2 (.slice lg gl.length lc) gl.length (qa gl) :: .obj h (.cells #[.map (some m), .int .i64 (((last : Nat) : Int)), .int .i64 (((ss : Nat) : Int)), .slice (some ⟨gg, 0, none⟩) gs.length sc, .int .i64 (((ls : Nat) : Int)), .slice lg gl.length lc] 63) :: .obj m (qc (os.map Ob.en) last) :: T) := M.bring 3 rfl rfl
 replace M : Mg w0 w6 (.obj m (qc (os.map Ob.en) last) :: .row 88 2 (.slice (some ⟨gg, 0, none⟩) gs.length sc) gs.length (qa gs) :: .row 88 2 (.slice lg gl.length lc) gl.length (qa gl) :: .obj h (.cells #[.map (some m), .int .i64 (((last : Nat) : Int)), .int .i64 (((ss : Nat) : Int)), .slice (some ⟨gg, 0, none⟩) gs.length sc, .int .i64 (((ls : Nat) : Int)), .slice lg gl.length lc] 63) :: T) := M.bring 3 rfl rfl
 replace M : Mg w0 w6 (.obj h (.cells #[.map (some m), .int .i64 (((last : Nat) : Int)), .int .i64 (((ss : Nat) : Int)), .slice (some ⟨gg, 0, none⟩) gs.length sc, .int .i64 (((ls : Nat) : Int)), .slice lg gl.length lc] 63) :: .obj m (qc (os.map Ob.en) last) :: .row 88 2 (.slice (some ⟨gg, 0, none⟩) gs.length sc) gs.length (qa gs) :: .row 88 2 (.slice lg gl.length lc) gl.length (qa gl) :: T) := M.bring 3 rfl rfl
 refine sct A (ef rfl rfl) (takeS_hit (T := T) hgl hi hat hns hps M) ?_
 rintro _ w8 ⟨rfl, hM7⟩
 replace M : Mg w0 w8 (.obj h (.cells #[.map (some m), .int .i64 (((last : Nat) : Int)), .int .i64 (((ss : Nat) : Int)), .slice (some ⟨gg, 0, none⟩) gs.length sc, .int .i64 (((ls : Nat) : Int)), .slice lg gl.length lc] 63) :: .obj m (qc (os.map Ob.en) last) :: .row 88 2 (.slice (some ⟨gg, 0, none⟩) gs.length sc) gs.length (qa (gs.set i (p + n, s - n))) :: .row 88 2 (.slice lg gl.length lc) gl.length (qa gl) :: T) := hM7
 refine ⟨_, rfl, ?_⟩
 intro a A
 refine sdm A λa A↦?_
 iterate 2 refine sdo A (qk (vs := [.int .i64 (((p : Nat) : Int)), .bool true]) rfl rfl) λa A↦?_
 iterate 2 refine sda A λa A↦?_
 refine qb (hK4 _ _ (wsk fun K9 hK9 => wsk fun K10 hK10 => wrl (sdm A λa A↦?_)))
 refine sdo (v := .bool false) A (zf rfl zm) λa A↦?_
 refine qb (hK10 _ _ (wp_cond_false (A.ev rfl) ?_))
 refine wp_skip (hK9 _ _ (wsk fun K11 hK11 => wrl (sdm A λa A↦?_)))
 refine sdo A (qu rfl) λa A↦?_
 refine sdo (v := .pointer (some ⟨h, 1, none⟩)) A (qd HbC_fld_63_1 rfl rfl) λa A↦?_
 refine sdo A (qh M HbC_is1_3 rfl 0 rfl rfl) λa A↦?_
 refine sdo (v := .int .i64 (((last + 1 : Nat) : Int))) A (qe rfl rfl (ar_add ((in_i64 (by omega) (by omega)).trans (by omega)))) λa A↦?_
 refine sdo A (qu rfl) λa A↦?_
 refine sdo (v := .pointer (some ⟨h, 1, none⟩)) A (qd HbC_fld_63_1 rfl rfl) λa A↦?_
 refine qs (us := [.map (some m), .int .i64 (((last + 1 : Nat) : Int)), .int .i64 (((ss : Nat) : Int)), .slice (some ⟨gg, 0, none⟩) gs.length sc, .int .i64 (((ls : Nat) : Int)), .slice lg gl.length lc]) (L' := (.obj h (.cells #[.map (some m), .int .i64 (((last + 1 : Nat) : Int)), .int .i64 (((ss : Nat) : Int)), .slice (some ⟨gg, 0, none⟩) gs.length sc, .int .i64 (((ls : Nat) : Int)), .slice lg gl.length lc] 63) :: .obj m (qc (os.map Ob.en) last) :: .row 88 2 (.slice (some ⟨gg, 0, none⟩) gs.length sc) gs.length (qa (gs.set i (p + n, s - n))) :: .row 88 2 (.slice lg gl.length lc) gl.length (qa gl) :: T)) A M rfl rfl (qo rfl rfl rfl (by kernel_rfl) M 0 rfl rfl rfl) 0 rfl rfl rfl ?_
 intro w12 M
 refine qb (hK11 _ _ (wsk fun K13 hK13 => zn (S := fun w1 => Mg w0 w1 (.obj h (.cells #[.map (some m), .int .i64 (((last + 1 : Nat) : Int)), .int .i64 (((ss : Nat) : Int)), .slice (some ⟨gg, 0, none⟩) gs.length sc, .int .i64 (((ls : Nat) : Int)), .slice lg gl.length lc] 63) :: [])) (by kernel_rfl) ?_))
 replace M := M.drew
 refine qf A 0 rfl rfl rfl rfl hP (M.sub (cc (cn (cn (cn (List.nil_sublist _)))))) (fun w1 M => qn rfl) λa A↦?_
 refine qf A 1 rfl rfl rfl rfl hP (M.sub (cc (cn (cn (cn (List.nil_sublist _)))))) (fun w1 M => qu rfl) λa A↦?_
 refine qf (v := .pointer (some ⟨h, 0, none⟩)) A 2 rfl rfl rfl rfl hP (M.sub (cc (cn (cn (cn (List.nil_sublist _)))))) (fun w1 M => qd HbC_fld_63_0 rfl rfl) λa A↦?_
 refine qf A 3 rfl rfl rfl rfl hP (M.sub (cc (cn (cn (cn (List.nil_sublist _)))))) (fun w1 M => qh M HbC_is1_57 rfl 0 rfl rfl) λa A↦?_
 refine qf A 4 rfl rfl rfl rfl hP (M.sub (cc (cn (cn (cn (List.nil_sublist _)))))) (fun w1 M => qn rfl) λa A↦?_
 refine qf A 5 rfl rfl rfl rfl hP (M.sub (cc (cn (cn (cn (List.nil_sublist _)))))) (fun w1 M => qu rfl) λa A↦?_
 refine qf (v := .pointer (some ⟨h, 1, none⟩)) A 6 rfl rfl rfl rfl hP (M.sub (cc (cn (cn (cn (List.nil_sublist _)))))) (fun w1 M => qd HbC_fld_63_1 rfl rfl) λa A↦?_
 refine qf A 7 rfl rfl rfl rfl hP (M.sub (cc (cn (cn (cn (List.nil_sublist _)))))) (fun w1 M => qh M HbC_is1_3 rfl 0 rfl rfl) λa A↦?_
 refine qf A 8 rfl rfl rfl rfl hP (M.sub (cc (cn (cn (cn (List.nil_sublist _)))))) (fun w1 M => qn rfl) λa A↦?_
 refine qf A 9 rfl rfl rfl rfl hP (M.sub (cc (cn (cn (cn (List.nil_sublist _)))))) (fun w1 M => qn rfl) λa A↦?_
 refine zd (by kernel_rfl) (uw (z := .agg #[.int .i64 0, .bool false]) (sz := 2) (by_ := 16) (m := n) A M Try.underlying68 (by kernel_rfl) rfl rfl rfl 10 rfl rfl rfl rfl (by omega) (by omega) (.inl (by decide)) ?_)
 intro g14 w15 M
 replace M : Mg w0 w15 (.row 32 2 (.slice (some ⟨g14, 0, none⟩) n n) n (za (List.replicate n (0, false))) :: .obj h (.cells #[.map (some m), .int .i64 (((last + 1 : Nat) : Int)), .int .i64 (((ss : Nat) : Int)), .slice (some ⟨gg, 0, none⟩) gs.length sc, .int .i64 (((ls : Nat) : Int)), .slice lg gl.length lc] 63) :: .obj m (qc (os.map Ob.en) last) :: .row 88 2 (.slice (some ⟨gg, 0, none⟩) gs.length sc) gs.length (qa (gs.set i (p + n, s - n))) :: .row 88 2 (.slice lg gl.length lc) gl.length (qa gl) :: T) := by rw [← vg]; exact M
 refine ⟨(M.sub (cn (cc (cn (cn (cn (List.nil_sublist _))))))), ?_⟩
 intro a A
 refine qf (v := .agg #[.int .i64 (((p : Nat) : Int)), .slice (some ⟨g14, 0, none⟩) n n]) A 11 rfl rfl rfl rfl hP (M.sub (cn (cc (cn (cn (cn (List.nil_sublist _))))))) (fun w1 M => zq rfl (fun w => by kernel_rfl)) λa A↦?_
 refine zd (by kernel_rfl) (qae (L' := (.row 32 2 (.slice (some ⟨g14, 0, none⟩) n n) n (za (List.replicate n (0, false))) :: .obj h (.cells #[.map (some m), .int .i64 (((last + 1 : Nat) : Int)), .int .i64 (((ss : Nat) : Int)), .slice (some ⟨gg, 0, none⟩) gs.length sc, .int .i64 (((ls : Nat) : Int)), .slice lg gl.length lc] 63) :: .obj m (qc (os.map Ob.en ++ [⟨((last + 1 : Nat) : Int), .agg #[.int .i64 (((p : Nat) : Int)), .slice (some ⟨g14, 0, none⟩) n n], last⟩]) (last + 1)) :: .row 88 2 (.slice (some ⟨gg, 0, none⟩) gs.length sc) gs.length (qa (gs.set i (p + n, s - n))) :: .row 88 2 (.slice lg gl.length lc) gl.length (qa gl) :: T)) A M 12 rfl rfl rfl (qad M Try.underlying57 Try.underlying3 rfl rfl rfl 2 rfl hnew) 2 rfl (xo _ _) rfl ?_)
 intro w16 M
 refine ⟨(M.sub (cn (cc (cn (cn (cn (List.nil_sublist _))))))), ?_⟩
 refine zi (by kernel_rfl) ?_
 refine hK13 _ _ (wsk fun K17 hK17 => wrl (sdm A λa A↦?_))
 refine sdo A (qu rfl) λa A↦?_
 refine sdo (v := .pointer (some ⟨h, 1, none⟩)) A (qd HbC_fld_63_1 rfl rfl) λa A↦?_
 refine sdo A (qh M HbC_is1_3 rfl 1 rfl rfl) λa A↦?_
 iterate 2 refine sda A λa A↦?_
 refine qb (hK17 _ _ (wp_ret (hret _ _ (en2 A rfl (qi rfl) (qi rfl) ?_))))
 replace M : Mg w0 w16 (.row 88 2 (.slice lg gl.length lc) gl.length (qa gl) :: .row 32 2 (.slice (some ⟨g14, 0, none⟩) n n) n (za (List.replicate n (0, false))) :: .obj h (.cells #[.map (some m), .int .i64 (((last + 1 : Nat) : Int)), .int .i64 (((ss : Nat) : Int)), .slice (some ⟨gg, 0, none⟩) gs.length sc, .int .i64 (((ls : Nat) : Int)), .slice lg gl.length lc] 63) :: .obj m (qc (os.map Ob.en ++ [⟨((last + 1 : Nat) : Int), .agg #[.int .i64 (((p : Nat) : Int)), .slice (some ⟨g14, 0, none⟩) n n], last⟩]) (last + 1)) :: .row 88 2 (.slice (some ⟨gg, 0, none⟩) gs.length sc) gs.length (qa (gs.set i (p + n, s - n))) :: T) := M.bring 4 rfl rfl
 replace M : Mg w0 w16 (.row 88 2 (.slice (some ⟨gg, 0, none⟩) gs.length sc) gs.length (qa (gs.set i (p + n, s - n))) :: .row 88 2 (.slice lg gl.length lc) gl.length (qa gl) :: .row 32 2 (.slice (some ⟨g14, 0, none⟩) n n) n (za (List.replicate n (0, false))) :: .obj h (.cells #[.map (some m), .int .i64 (((last + 1 : Nat) : Int)), .int .i64 (((ss : Nat) : Int)), .slice (some ⟨gg, 0, none⟩) gs.length sc, .int .i64 (((ls : Nat) : Int)), .slice lg gl.length lc] 63) :: .obj m (qc (os.map Ob.en ++ [⟨((last + 1 : Nat) : Int), .agg #[.int .i64 (((p : Nat) : Int)), .slice (some ⟨g14, 0, none⟩) n n], last⟩]) (last + 1)) :: T) := M.bring 4 rfl rfl
 replace M : Mg w0 w16 (.obj m (qc (os.map Ob.en ++ [⟨((last + 1 : Nat) : Int), .agg #[.int .i64 (((p : Nat) : Int)), .slice (some ⟨g14, 0, none⟩) n n], last⟩]) (last + 1)) :: .row 88 2 (.slice (some ⟨gg, 0, none⟩) gs.length sc) gs.length (qa (gs.set i (p + n, s - n))) :: .row 88 2 (.slice lg gl.length lc) gl.length (qa gl) :: .row 32 2 (.slice (some ⟨g14, 0, none⟩) n n) n (za (List.replicate n (0, false))) :: .obj h (.cells #[.map (some m), .int .i64 (((last + 1 : Nat) : Int)), .int .i64 (((ss : Nat) : Int)), .slice (some ⟨gg, 0, none⟩) gs.length sc, .int .i64 (((ls : Nat) : Int)), .slice lg gl.length lc] 63) :: T) := M.bring 4 rfl rfl
 replace M : Mg w0 w16 (.obj h (.cells #[.map (some m), .int .i64 (((last + 1 : Nat) : Int)), .int .i64 (((ss : Nat) : Int)), .slice (some ⟨gg, 0, none⟩) gs.length sc, .int .i64 (((ls : Nat) : Int)), .slice lg gl.length lc] 63) :: .obj m (qc (os.map Ob.en ++ [⟨((last + 1 : Nat) : Int), .agg #[.int .i64 (((p : Nat) : Int)), .slice (some ⟨g14, 0, none⟩) n n], last⟩]) (last + 1)) :: .row 88 2 (.slice (some ⟨gg, 0, none⟩) gs.length sc) gs.length (qa (gs.set i (p + n, s - n))) :: .row 88 2 (.slice lg gl.length lc) gl.length (qa gl) :: .row 32 2 (.slice (some ⟨g14, 0, none⟩) n n) n (za (List.replicate n (0, false))) :: T) := M.bring 4 rfl rfl
 exact ⟨_, rfl, M⟩
theorem uj {w0 w : World} {n : Nat} {h m last ss ls sc lc : Nat} {sg lg : Option Addr} {gs gl : List (Nat × Nat)} {os : List Ob} {T : List Ck} (h1 : 1 ≤ n) (hlg : decide (16 < ((n : Nat) : Int)) = false) (hgl : gs.length ≤ 1000000) (hi : jp n gs = none) (hM0 : Mg w0 w (.obj h (.cells #[.map (some m), .int .i64 (((last : Nat) : Int)), .int .i64 (((ss : Nat) : Int)), .slice sg gs.length sc, .int .i64 (((ls : Nat) : Int)), .slice lg gl.length lc] 63) :: .obj m (qc (os.map Ob.en) last) :: .row 88 2 (.slice sg gs.length sc) gs.length (qa gs) :: .row 88 2 (.slice lg gl.length lc) gl.length (qa gl) :: T)) : Calls Try.prog 6 #[.pointer (some ⟨h, 0, none⟩), .int .i64 ((n : Nat) : Int)] w fun e w' => e = .returned (.tuple #[.int .i64 0, .int .i64 9]) ∧ Mg w0 w' (.obj h (.cells #[.map (some m), .int .i64 (((last : Nat) : Int)), .int .i64 (((ss : Nat) : Int)), .slice sg gs.length sc, .int .i64 (((ls : Nat) : Int)), .slice lg gl.length lc] 63) :: .obj m (qc (os.map Ob.en) last) :: .row 88 2 (.slice sg gs.length sc) gs.length (qa gs) :: .row 88 2 (.slice lg gl.length lc) gl.length (qa gl) :: T) := by
 have hn1 : decide (((n : Nat) : Int) < 1) = false := decide_eq_false (by omega)
 have M : Mg w0 w (.obj h (.cells #[.map (some m), .int .i64 (((last : Nat) : Int)), .int .i64 (((ss : Nat) : Int)), .slice sg gs.length sc, .int .i64 (((ls : Nat) : Int)), .slice lg gl.length lc] 63) :: .obj m (qc (os.map Ob.en) last) :: .row 88 2 (.slice sg gs.length sc) gs.length (qa gs) :: .row 88 2 (.slice lg gl.length lc) gl.length (qa gl) :: T) := hM0
 refine qp (l := [(0, .pointer (some ⟨h, 0, none⟩)), (1, .int .i64 (((n : Nat) : Int)))]) Try.func6 rfl Try.ntmps6 rfl rfl ?_
 intro Q hret hnorm hP a A
 refine wsk fun K1 hK1 => wrl ?_
 iterate 2 refine sda A λa A↦?_
 refine qb (hK1 _ _ (wsk fun K2 hK2 => wsk fun K3 hK3 => wrl (sdm A λa A↦?_)))
 refine sdo (v := .bool false) A (qe rfl rfl (jn Try.underlying24)) λa A↦?_
 iterate 2 refine sdm A λa A↦?_
 refine sdo (v := .bool false) A (qe rfl rfl (fun w => (qm w).trans (by rw [show (decide (((n : Nat) : Int) < 1)) = false from hn1]))) λa A↦?_
 refine sdk (v := .bool false) A λa A↦?_
 refine qb (hK3 _ _ (wp_cond_false (A.ev rfl) ?_))
 refine wp_skip (hK2 _ _ (wsk fun K4 hK4 => wrl ?_))
 iterate 2 refine sdm A λa A↦?_
 refine gcl A M (ef rfl rfl) (qfd hlg) fun w6 hb5 M a A => ?_
 refine sdm A λa A↦?_
 replace M : Mg w0 w6 (.row 88 2 (.slice lg gl.length lc) gl.length (qa gl) :: .obj h (.cells #[.map (some m), .int .i64 (((last : Nat) : Int)), .int .i64 (((ss : Nat) : Int)), .slice sg gs.length sc, .int .i64 (((ls : Nat) : Int)), .slice lg gl.length lc] 63) :: .obj m (qc (os.map Ob.en) last) :: .row 88 2 (.slice sg gs.length sc) gs.length (qa gs) :: T) := M.bring 3 rfl rfl
 replace M : Mg w0 w6 (.row 88 2 (.slice sg gs.length sc) gs.length (qa gs) :: .row 88 2 (.slice lg gl.length lc) gl.length (qa gl) :: .obj h (.cells #[.map (some m), .int .i64 (((last : Nat) : Int)), .int .i64 (((ss : Nat) : Int)), .slice sg gs.length sc, .int .i64 (((ls : Nat) : Int)), .slice lg gl.length lc] 63) :: .obj m (qc (os.map Ob.en) last) :: T) := M.bring 3 rfl rfl
 replace M : Mg w0 w6 (.obj m (qc (os.map Ob.en) last) :: .row 88 2 (.slice sg gs.length sc) gs.length (qa gs) :: .row 88 2 (.slice lg gl.length lc) gl.length (qa gl) :: .obj h (.cells #[.map (some m), .int .i64 (((last : Nat) : Int)), .int .i64 (((ss : Nat) : Int)), .slice sg gs.length sc, .int .i64 (((ls : Nat) : Int)), .slice lg gl.length lc] 63) :: T) := M.bring 3 rfl rfl
 replace M : Mg w0 w6 (.obj h (.cells #[.map (some m), .int .i64 (((last : Nat) : Int)), .int .i64 (((ss : Nat) : Int)), .slice sg gs.length sc, .int .i64 (((ls : Nat) : Int)), .slice lg gl.length lc] 63) :: .obj m (qc (os.map Ob.en) last) :: .row 88 2 (.slice sg gs.length sc) gs.length (qa gs) :: .row 88 2 (.slice lg gl.length lc) gl.length (qa gl) :: T) := M.bring 3 rfl rfl
 refine sct A (ef rfl rfl) (takeS_miss (T := T) hgl hi M) ?_
 rintro _ w8 ⟨rfl, hM7⟩
 replace M : Mg w0 w8 (.obj h (.cells #[.map (some m), .int .i64 (((last : Nat) : Int)), .int .i64 (((ss : Nat) : Int)), .slice sg gs.length sc, .int .i64 (((ls : Nat) : Int)), .slice lg gl.length lc] 63) :: .obj m (qc (os.map Ob.en) last) :: .row 88 2 (.slice sg gs.length sc) gs.length (qa gs) :: .row 88 2 (.slice lg gl.length lc) gl.length (qa gl) :: T) := hM7
 refine ⟨_, rfl, ?_⟩
 intro a A
 refine sdm A λa A↦?_
 iterate 2 refine sdo A (qk (vs := [.int .i64 0, .bool false]) rfl rfl) λa A↦?_
 iterate 2 refine sda A λa A↦?_
 refine qb (hK4 _ _ (wsk fun K9 hK9 => wsk fun K10 hK10 => wrl (sdm A λa A↦?_)))
 refine sdo (v := .bool true) A (zf rfl zm) λa A↦?_
 refine qb (hK10 _ _ (wp_cond_true (A.ev rfl) ?_))
 refine wsk fun K11 hK11 => wrl ?_
 iterate 2 refine sda A λa A↦?_
 refine qb (hK11 _ _ (wp_ret (hret _ _ (en2 A rfl (qi rfl) (qi rfl) ?_))))
 replace M : Mg w0 w8 (.row 88 2 (.slice lg gl.length lc) gl.length (qa gl) :: .obj h (.cells #[.map (some m), .int .i64 (((last : Nat) : Int)), .int .i64 (((ss : Nat) : Int)), .slice sg gs.length sc, .int .i64 (((ls : Nat) : Int)), .slice lg gl.length lc] 63) :: .obj m (qc (os.map Ob.en) last) :: .row 88 2 (.slice sg gs.length sc) gs.length (qa gs) :: T) := M.bring 3 rfl rfl
 replace M : Mg w0 w8 (.row 88 2 (.slice sg gs.length sc) gs.length (qa gs) :: .row 88 2 (.slice lg gl.length lc) gl.length (qa gl) :: .obj h (.cells #[.map (some m), .int .i64 (((last : Nat) : Int)), .int .i64 (((ss : Nat) : Int)), .slice sg gs.length sc, .int .i64 (((ls : Nat) : Int)), .slice lg gl.length lc] 63) :: .obj m (qc (os.map Ob.en) last) :: T) := M.bring 3 rfl rfl
 replace M : Mg w0 w8 (.obj m (qc (os.map Ob.en) last) :: .row 88 2 (.slice sg gs.length sc) gs.length (qa gs) :: .row 88 2 (.slice lg gl.length lc) gl.length (qa gl) :: .obj h (.cells #[.map (some m), .int .i64 (((last : Nat) : Int)), .int .i64 (((ss : Nat) : Int)), .slice sg gs.length sc, .int .i64 (((ls : Nat) : Int)), .slice lg gl.length lc] 63) :: T) := M.bring 3 rfl rfl
 replace M : Mg w0 w8 (.obj h (.cells #[.map (some m), .int .i64 (((last : Nat) : Int)), .int .i64 (((ss : Nat) : Int)), .slice sg gs.length sc, .int .i64 (((ls : Nat) : Int)), .slice lg gl.length lc] 63) :: .obj m (qc (os.map Ob.en) last) :: .row 88 2 (.slice sg gs.length sc) gs.length (qa gs) :: .row 88 2 (.slice lg gl.length lc) gl.length (qa gl) :: T) := M.bring 3 rfl rfl
 exact ⟨rfl, M⟩
theorem allocL_raw {w0 w : World} {h m last ss ls sc lc gg n i p s : Nat} {sg : Option Addr} {gs gl : List (Nat × Nat)} {os : List Ob} {T : List Ck} (h1 : 1 ≤ n) (hlg : decide (16 < ((n : Nat) : Int)) = true) (hla : last ≤ 4611686018427387904) (hnew : atK ((last + 1 : Nat) : Int) (os.map Ob.en) = none) (hgl : gl.length ≤ 1000000) (hi : jp n gl = some i) (hat : gl[i]? = some (p, s)) (hns : n ≤ s) (hps : p + s ≤ 65536) (hM0 : Mg w0 w (.obj h (.cells #[.map (some m), .int .i64 (((last : Nat) : Int)), .int .i64 (((ss : Nat) : Int)), .slice sg gs.length sc, .int .i64 (((ls : Nat) : Int)), .slice (some ⟨gg, 0, none⟩) gl.length lc] 63) :: .obj m (qc (os.map Ob.en) last) :: .row 88 2 (.slice sg gs.length sc) gs.length (qa gs) :: .row 88 2 (.slice (some ⟨gg, 0, none⟩) gl.length lc) gl.length (qa gl) :: T)) : Calls Try.prog 6 #[.pointer (some ⟨h, 0, none⟩), .int .i64 ((n : Nat) : Int)] w fun e w' => ∃ gr, e = .returned (.tuple #[.int .i64 ((last + 1 : Nat) : Int), .int .i64 0]) ∧ Mg w0 w' (.obj h (.cells #[.map (some m), .int .i64 (((last + 1 : Nat) : Int)), .int .i64 (((ss : Nat) : Int)), .slice sg gs.length sc, .int .i64 (((ls : Nat) : Int)), .slice (some ⟨gg, 0, none⟩) gl.length lc] 63) :: .obj m (qc (os.map Ob.en ++ [⟨((last + 1 : Nat) : Int), .agg #[.int .i64 ((p : Nat) : Int), .slice (some ⟨gr, 0, none⟩) n n], last⟩]) (last + 1)) :: .row 88 2 (.slice sg gs.length sc) gs.length (qa gs) :: .row 88 2 (.slice (some ⟨gg, 0, none⟩) gl.length lc) gl.length (qa (gl.set i (p + n, s - n))) :: .row 32 2 (.slice (some ⟨gr, 0, none⟩) n n) n (za (List.replicate n (0, false))) :: T) := by
 have hn1 : decide (((n : Nat) : Int) < 1) = false := decide_eq_false (by omega)
 have M : Mg w0 w (.obj h (.cells #[.map (some m), .int .i64 (((last : Nat) : Int)), .int .i64 (((ss : Nat) : Int)), .slice sg gs.length sc, .int .i64 (((ls : Nat) : Int)), .slice (some ⟨gg, 0, none⟩) gl.length lc] 63) :: .obj m (qc (os.map Ob.en) last) :: .row 88 2 (.slice sg gs.length sc) gs.length (qa gs) :: .row 88 2 (.slice (some ⟨gg, 0, none⟩) gl.length lc) gl.length (qa gl) :: T) := hM0
 refine qp (l := [(0, .pointer (some ⟨h, 0, none⟩)), (1, .int .i64 (((n : Nat) : Int)))]) Try.func6 rfl Try.ntmps6 rfl rfl ?_
 intro Q hret hnorm hP a A
 refine wsk fun K1 hK1 => wrl ?_
 iterate 2 refine sda A λa A↦?_
 refine qb (hK1 _ _ (wsk fun K2 hK2 => wsk fun K3 hK3 => wrl (sdm A λa A↦?_)))
 refine sdo (v := .bool false) A (qe rfl rfl (jn Try.underlying24)) λa A↦?_
 iterate 2 refine sdm A λa A↦?_
 refine sdo (v := .bool false) A (qe rfl rfl (fun w => (qm w).trans (by rw [show (decide (((n : Nat) : Int) < 1)) = false from hn1]))) λa A↦?_
 refine sdk (v := .bool false) A λa A↦?_
 refine qb (hK3 _ _ (wp_cond_false (A.ev rfl) ?_))
 refine wp_skip (hK2 _ _ (wsk fun K4 hK4 => wrl ?_))
 iterate 2 refine sdm A λa A↦?_
 refine gcl A M (ef rfl rfl) (qfe hlg) fun w6 hb5 M a A => ?_
 refine sdm A λa A↦?_
 replace M : Mg w0 w6 (.row 88 2 (.slice (some ⟨gg, 0, none⟩) gl.length lc) gl.length (qa gl) :: .obj h (.cells #[.map (some m), .int .i64 (((last : Nat) : Int)), .int .i64 (((ss : Nat) : Int)), .slice sg gs.length sc, .int .i64 (((ls : Nat) : Int)), .slice (some ⟨gg, 0, none⟩) gl.length lc] 63) :: .obj m (qc (os.map Ob.en) last) :: .row 88 2 (.slice sg gs.length sc) gs.length (qa gs) :: T) := M.bring 3 rfl rfl
 replace M : Mg w0 w6 (.row 88 2 (.slice sg gs.length sc) gs.length (qa gs) :: .row 88 2 (.slice (some ⟨gg, 0, none⟩) gl.length lc) gl.length (qa gl) :: .obj h (.cells #[.map (some m), .int .i64 (((last : Nat) : Int)), .int .i64 (((ss : Nat) : Int)), .slice sg gs.length sc, .int .i64 (((ls : Nat) : Int)), .slice (some ⟨gg, 0, none⟩) gl.length lc] 63) :: .obj m (qc (os.map Ob.en) last) :: T) := M.bring 3 rfl rfl
 replace M : Mg w0 w6 (.obj m (qc (os.map Ob.en) last) :: .row 88 2 (.slice sg gs.length sc) gs.length (qa gs) :: .row 88 2 (.slice (some ⟨gg, 0, none⟩) gl.length lc) gl.length (qa gl) :: .obj h (.cells #[.map (some m), .int .i64 (((last : Nat) : Int)), .int .i64 (((ss : Nat) : Int)), .slice sg gs.length sc, .int .i64 (((ls : Nat) : Int)), .slice (some ⟨gg, 0, none⟩) gl.length lc] 63) :: T) := M.bring 3 rfl rfl
 replace M : Mg w0 w6 (.obj h (.cells #[.map (some m), .int .i64 (((last : Nat) : Int)), .int .i64 (((ss : Nat) : Int)), .slice sg gs.length sc, .int .i64 (((ls : Nat) : Int)), .slice (some ⟨gg, 0, none⟩) gl.length lc] 63) :: .obj m (qc (os.map Ob.en) last) :: .row 88 2 (.slice sg gs.length sc) gs.length (qa gs) :: .row 88 2 (.slice (some ⟨gg, 0, none⟩) gl.length lc) gl.length (qa gl) :: T) := M.bring 3 rfl rfl
 refine sct A (ef rfl rfl) (takeL_hit (T := T) hgl hi hat hns hps M) ?_
 rintro _ w8 ⟨rfl, hM7⟩
 replace M : Mg w0 w8 (.obj h (.cells #[.map (some m), .int .i64 (((last : Nat) : Int)), .int .i64 (((ss : Nat) : Int)), .slice sg gs.length sc, .int .i64 (((ls : Nat) : Int)), .slice (some ⟨gg, 0, none⟩) gl.length lc] 63) :: .obj m (qc (os.map Ob.en) last) :: .row 88 2 (.slice sg gs.length sc) gs.length (qa gs) :: .row 88 2 (.slice (some ⟨gg, 0, none⟩) gl.length lc) gl.length (qa (gl.set i (p + n, s - n))) :: T) := hM7
 refine ⟨_, rfl, ?_⟩
 intro a A
 refine sdm A λa A↦?_
 iterate 2 refine sdo A (qk (vs := [.int .i64 (((p : Nat) : Int)), .bool true]) rfl rfl) λa A↦?_
 iterate 2 refine sda A λa A↦?_
 refine qb (hK4 _ _ (wsk fun K9 hK9 => wsk fun K10 hK10 => wrl (sdm A λa A↦?_)))
 refine sdo (v := .bool false) A (zf rfl zm) λa A↦?_
 refine qb (hK10 _ _ (wp_cond_false (A.ev rfl) ?_))
 refine wp_skip (hK9 _ _ (wsk fun K11 hK11 => wrl (sdm A λa A↦?_)))
 refine sdo A (qu rfl) λa A↦?_
 refine sdo (v := .pointer (some ⟨h, 1, none⟩)) A (qd HbC_fld_63_1 rfl rfl) λa A↦?_
 refine sdo A (qh M HbC_is1_3 rfl 0 rfl rfl) λa A↦?_
 refine sdo (v := .int .i64 (((last + 1 : Nat) : Int))) A (qe rfl rfl (ar_add ((in_i64 (by omega) (by omega)).trans (by omega)))) λa A↦?_
 refine sdo A (qu rfl) λa A↦?_
 refine sdo (v := .pointer (some ⟨h, 1, none⟩)) A (qd HbC_fld_63_1 rfl rfl) λa A↦?_
 refine qs (us := [.map (some m), .int .i64 (((last + 1 : Nat) : Int)), .int .i64 (((ss : Nat) : Int)), .slice sg gs.length sc, .int .i64 (((ls : Nat) : Int)), .slice (some ⟨gg, 0, none⟩) gl.length lc]) (L' := (.obj h (.cells #[.map (some m), .int .i64 (((last + 1 : Nat) : Int)), .int .i64 (((ss : Nat) : Int)), .slice sg gs.length sc, .int .i64 (((ls : Nat) : Int)), .slice (some ⟨gg, 0, none⟩) gl.length lc] 63) :: .obj m (qc (os.map Ob.en) last) :: .row 88 2 (.slice sg gs.length sc) gs.length (qa gs) :: .row 88 2 (.slice (some ⟨gg, 0, none⟩) gl.length lc) gl.length (qa (gl.set i (p + n, s - n))) :: T)) A M rfl rfl (qo rfl rfl rfl (by kernel_rfl) M 0 rfl rfl rfl) 0 rfl rfl rfl ?_
 intro w12 M
 refine qb (hK11 _ _ (wsk fun K13 hK13 => zn (S := fun w1 => Mg w0 w1 (.obj h (.cells #[.map (some m), .int .i64 (((last + 1 : Nat) : Int)), .int .i64 (((ss : Nat) : Int)), .slice sg gs.length sc, .int .i64 (((ls : Nat) : Int)), .slice (some ⟨gg, 0, none⟩) gl.length lc] 63) :: [])) (by kernel_rfl) ?_))
 replace M := M.drew
 refine qf A 0 rfl rfl rfl rfl hP (M.sub (cc (cn (cn (cn (List.nil_sublist _)))))) (fun w1 M => qn rfl) λa A↦?_
 refine qf A 1 rfl rfl rfl rfl hP (M.sub (cc (cn (cn (cn (List.nil_sublist _)))))) (fun w1 M => qu rfl) λa A↦?_
 refine qf (v := .pointer (some ⟨h, 0, none⟩)) A 2 rfl rfl rfl rfl hP (M.sub (cc (cn (cn (cn (List.nil_sublist _)))))) (fun w1 M => qd HbC_fld_63_0 rfl rfl) λa A↦?_
 refine qf A 3 rfl rfl rfl rfl hP (M.sub (cc (cn (cn (cn (List.nil_sublist _)))))) (fun w1 M => qh M HbC_is1_57 rfl 0 rfl rfl) λa A↦?_
 refine qf A 4 rfl rfl rfl rfl hP (M.sub (cc (cn (cn (cn (List.nil_sublist _)))))) (fun w1 M => qn rfl) λa A↦?_
 refine qf A 5 rfl rfl rfl rfl hP (M.sub (cc (cn (cn (cn (List.nil_sublist _)))))) (fun w1 M => qu rfl) λa A↦?_
 refine qf (v := .pointer (some ⟨h, 1, none⟩)) A 6 rfl rfl rfl rfl hP (M.sub (cc (cn (cn (cn (List.nil_sublist _)))))) (fun w1 M => qd HbC_fld_63_1 rfl rfl) λa A↦?_
 refine qf A 7 rfl rfl rfl rfl hP (M.sub (cc (cn (cn (cn (List.nil_sublist _)))))) (fun w1 M => qh M HbC_is1_3 rfl 0 rfl rfl) λa A↦?_
 refine qf A 8 rfl rfl rfl rfl hP (M.sub (cc (cn (cn (cn (List.nil_sublist _)))))) (fun w1 M => qn rfl) λa A↦?_
 refine qf A 9 rfl rfl rfl rfl hP (M.sub (cc (cn (cn (cn (List.nil_sublist _)))))) (fun w1 M => qn rfl) λa A↦?_
 refine zd (by kernel_rfl) (uw (z := .agg #[.int .i64 0, .bool false]) (sz := 2) (by_ := 16) (m := n) A M Try.underlying68 (by kernel_rfl) rfl rfl rfl 10 rfl rfl rfl rfl (by omega) (by omega) (.inl (by decide)) ?_)
 intro g14 w15 M
 replace M : Mg w0 w15 (.row 32 2 (.slice (some ⟨g14, 0, none⟩) n n) n (za (List.replicate n (0, false))) :: .obj h (.cells #[.map (some m), .int .i64 (((last + 1 : Nat) : Int)), .int .i64 (((ss : Nat) : Int)), .slice sg gs.length sc, .int .i64 (((ls : Nat) : Int)), .slice (some ⟨gg, 0, none⟩) gl.length lc] 63) :: .obj m (qc (os.map Ob.en) last) :: .row 88 2 (.slice sg gs.length sc) gs.length (qa gs) :: .row 88 2 (.slice (some ⟨gg, 0, none⟩) gl.length lc) gl.length (qa (gl.set i (p + n, s - n))) :: T) := by rw [← vg]; exact M
 refine ⟨(M.sub (cn (cc (cn (cn (cn (List.nil_sublist _))))))), ?_⟩
 intro a A
 refine qf (v := .agg #[.int .i64 (((p : Nat) : Int)), .slice (some ⟨g14, 0, none⟩) n n]) A 11 rfl rfl rfl rfl hP (M.sub (cn (cc (cn (cn (cn (List.nil_sublist _))))))) (fun w1 M => zq rfl (fun w => by kernel_rfl)) λa A↦?_
 refine zd (by kernel_rfl) (qae (L' := (.row 32 2 (.slice (some ⟨g14, 0, none⟩) n n) n (za (List.replicate n (0, false))) :: .obj h (.cells #[.map (some m), .int .i64 (((last + 1 : Nat) : Int)), .int .i64 (((ss : Nat) : Int)), .slice sg gs.length sc, .int .i64 (((ls : Nat) : Int)), .slice (some ⟨gg, 0, none⟩) gl.length lc] 63) :: .obj m (qc (os.map Ob.en ++ [⟨((last + 1 : Nat) : Int), .agg #[.int .i64 (((p : Nat) : Int)), .slice (some ⟨g14, 0, none⟩) n n], last⟩]) (last + 1)) :: .row 88 2 (.slice sg gs.length sc) gs.length (qa gs) :: .row 88 2 (.slice (some ⟨gg, 0, none⟩) gl.length lc) gl.length (qa (gl.set i (p + n, s - n))) :: T)) A M 12 rfl rfl rfl (qad M Try.underlying57 Try.underlying3 rfl rfl rfl 2 rfl hnew) 2 rfl (xo _ _) rfl ?_)
 intro w16 M
 refine ⟨(M.sub (cn (cc (cn (cn (cn (List.nil_sublist _))))))), ?_⟩
 refine zi (by kernel_rfl) ?_
 refine hK13 _ _ (wsk fun K17 hK17 => wrl (sdm A λa A↦?_))
 refine sdo A (qu rfl) λa A↦?_
 refine sdo (v := .pointer (some ⟨h, 1, none⟩)) A (qd HbC_fld_63_1 rfl rfl) λa A↦?_
 refine sdo A (qh M HbC_is1_3 rfl 1 rfl rfl) λa A↦?_
 iterate 2 refine sda A λa A↦?_
 refine qb (hK17 _ _ (wp_ret (hret _ _ (en2 A rfl (qi rfl) (qi rfl) ?_))))
 replace M : Mg w0 w16 (.row 88 2 (.slice (some ⟨gg, 0, none⟩) gl.length lc) gl.length (qa (gl.set i (p + n, s - n))) :: .row 32 2 (.slice (some ⟨g14, 0, none⟩) n n) n (za (List.replicate n (0, false))) :: .obj h (.cells #[.map (some m), .int .i64 (((last + 1 : Nat) : Int)), .int .i64 (((ss : Nat) : Int)), .slice sg gs.length sc, .int .i64 (((ls : Nat) : Int)), .slice (some ⟨gg, 0, none⟩) gl.length lc] 63) :: .obj m (qc (os.map Ob.en ++ [⟨((last + 1 : Nat) : Int), .agg #[.int .i64 (((p : Nat) : Int)), .slice (some ⟨g14, 0, none⟩) n n], last⟩]) (last + 1)) :: .row 88 2 (.slice sg gs.length sc) gs.length (qa gs) :: T) := M.bring 4 rfl rfl
 replace M : Mg w0 w16 (.row 88 2 (.slice sg gs.length sc) gs.length (qa gs) :: .row 88 2 (.slice (some ⟨gg, 0, none⟩) gl.length lc) gl.length (qa (gl.set i (p + n, s - n))) :: .row 32 2 (.slice (some ⟨g14, 0, none⟩) n n) n (za (List.replicate n (0, false))) :: .obj h (.cells #[.map (some m), .int .i64 (((last + 1 : Nat) : Int)), .int .i64 (((ss : Nat) : Int)), .slice sg gs.length sc, .int .i64 (((ls : Nat) : Int)), .slice (some ⟨gg, 0, none⟩) gl.length lc] 63) :: .obj m (qc (os.map Ob.en ++ [⟨((last + 1 : Nat) : Int), .agg #[.int .i64 (((p : Nat) : Int)), .slice (some ⟨g14, 0, none⟩) n n], last⟩]) (last + 1)) :: T) := M.bring 4 rfl rfl
 replace M : Mg w0 w16 (.obj m (qc (os.map Ob.en ++ [⟨((last + 1 : Nat) : Int), .agg #[.int .i64 (((p : Nat) : Int)), .slice (some ⟨g14, 0, none⟩) n n], last⟩]) (last + 1)) :: .row 88 2 (.slice sg gs.length sc) gs.length (qa gs) :: .row 88 2 (.slice (some ⟨gg, 0, none⟩) gl.length lc) gl.length (qa (gl.set i (p + n, s - n))) :: .row 32 2 (.slice (some ⟨g14, 0, none⟩) n n) n (za (List.replicate n (0, false))) :: .obj h (.cells #[.map (some m), .int .i64 (((last + 1 : Nat) : Int)), .int .i64 (((ss : Nat) : Int)), .slice sg gs.length sc, .int .i64 (((ls : Nat) : Int)), .slice (some ⟨gg, 0, none⟩) gl.length lc] 63) :: T) := M.bring 4 rfl rfl
 replace M : Mg w0 w16 (.obj h (.cells #[.map (some m), .int .i64 (((last + 1 : Nat) : Int)), .int .i64 (((ss : Nat) : Int)), .slice sg gs.length sc, .int .i64 (((ls : Nat) : Int)), .slice (some ⟨gg, 0, none⟩) gl.length lc] 63) :: .obj m (qc (os.map Ob.en ++ [⟨((last + 1 : Nat) : Int), .agg #[.int .i64 (((p : Nat) : Int)), .slice (some ⟨g14, 0, none⟩) n n], last⟩]) (last + 1)) :: .row 88 2 (.slice sg gs.length sc) gs.length (qa gs) :: .row 88 2 (.slice (some ⟨gg, 0, none⟩) gl.length lc) gl.length (qa (gl.set i (p + n, s - n))) :: .row 32 2 (.slice (some ⟨g14, 0, none⟩) n n) n (za (List.replicate n (0, false))) :: T) := M.bring 4 rfl rfl
 exact ⟨_, rfl, M⟩
theorem qkj {w0 w : World} {n : Nat} {h m last ss ls sc lc : Nat} {sg lg : Option Addr} {gs gl : List (Nat × Nat)} {os : List Ob} {T : List Ck} (h1 : 1 ≤ n) (hlg : decide (16 < ((n : Nat) : Int)) = true) (hgl : gl.length ≤ 1000000) (hi : jp n gl = none) (hM0 : Mg w0 w (.obj h (.cells #[.map (some m), .int .i64 (((last : Nat) : Int)), .int .i64 (((ss : Nat) : Int)), .slice sg gs.length sc, .int .i64 (((ls : Nat) : Int)), .slice lg gl.length lc] 63) :: .obj m (qc (os.map Ob.en) last) :: .row 88 2 (.slice sg gs.length sc) gs.length (qa gs) :: .row 88 2 (.slice lg gl.length lc) gl.length (qa gl) :: T)) : Calls Try.prog 6 #[.pointer (some ⟨h, 0, none⟩), .int .i64 ((n : Nat) : Int)] w fun e w' => e = .returned (.tuple #[.int .i64 0, .int .i64 9]) ∧ Mg w0 w' (.obj h (.cells #[.map (some m), .int .i64 (((last : Nat) : Int)), .int .i64 (((ss : Nat) : Int)), .slice sg gs.length sc, .int .i64 (((ls : Nat) : Int)), .slice lg gl.length lc] 63) :: .obj m (qc (os.map Ob.en) last) :: .row 88 2 (.slice sg gs.length sc) gs.length (qa gs) :: .row 88 2 (.slice lg gl.length lc) gl.length (qa gl) :: T) := by
 have hn1 : decide (((n : Nat) : Int) < 1) = false := decide_eq_false (by omega)
 have M : Mg w0 w (.obj h (.cells #[.map (some m), .int .i64 (((last : Nat) : Int)), .int .i64 (((ss : Nat) : Int)), .slice sg gs.length sc, .int .i64 (((ls : Nat) : Int)), .slice lg gl.length lc] 63) :: .obj m (qc (os.map Ob.en) last) :: .row 88 2 (.slice sg gs.length sc) gs.length (qa gs) :: .row 88 2 (.slice lg gl.length lc) gl.length (qa gl) :: T) := hM0
 refine qp (l := [(0, .pointer (some ⟨h, 0, none⟩)), (1, .int .i64 (((n : Nat) : Int)))]) Try.func6 rfl Try.ntmps6 rfl rfl ?_
 intro Q hret hnorm hP a A
 refine wsk fun K1 hK1 => wrl ?_
 iterate 2 refine sda A λa A↦?_
 refine qb (hK1 _ _ (wsk fun K2 hK2 => wsk fun K3 hK3 => wrl (sdm A λa A↦?_)))
 refine sdo (v := .bool false) A (qe rfl rfl (jn Try.underlying24)) λa A↦?_
 iterate 2 refine sdm A λa A↦?_
 refine sdo (v := .bool false) A (qe rfl rfl (fun w => (qm w).trans (by rw [show (decide (((n : Nat) : Int) < 1)) = false from hn1]))) λa A↦?_
 refine sdk (v := .bool false) A λa A↦?_
 refine qb (hK3 _ _ (wp_cond_false (A.ev rfl) ?_))
 refine wp_skip (hK2 _ _ (wsk fun K4 hK4 => wrl ?_))
 iterate 2 refine sdm A λa A↦?_
 refine gcl A M (ef rfl rfl) (qfe hlg) fun w6 hb5 M a A => ?_
 refine sdm A λa A↦?_
 replace M : Mg w0 w6 (.row 88 2 (.slice lg gl.length lc) gl.length (qa gl) :: .obj h (.cells #[.map (some m), .int .i64 (((last : Nat) : Int)), .int .i64 (((ss : Nat) : Int)), .slice sg gs.length sc, .int .i64 (((ls : Nat) : Int)), .slice lg gl.length lc] 63) :: .obj m (qc (os.map Ob.en) last) :: .row 88 2 (.slice sg gs.length sc) gs.length (qa gs) :: T) := M.bring 3 rfl rfl
 replace M : Mg w0 w6 (.row 88 2 (.slice sg gs.length sc) gs.length (qa gs) :: .row 88 2 (.slice lg gl.length lc) gl.length (qa gl) :: .obj h (.cells #[.map (some m), .int .i64 (((last : Nat) : Int)), .int .i64 (((ss : Nat) : Int)), .slice sg gs.length sc, .int .i64 (((ls : Nat) : Int)), .slice lg gl.length lc] 63) :: .obj m (qc (os.map Ob.en) last) :: T) := M.bring 3 rfl rfl
 replace M : Mg w0 w6 (.obj m (qc (os.map Ob.en) last) :: .row 88 2 (.slice sg gs.length sc) gs.length (qa gs) :: .row 88 2 (.slice lg gl.length lc) gl.length (qa gl) :: .obj h (.cells #[.map (some m), .int .i64 (((last : Nat) : Int)), .int .i64 (((ss : Nat) : Int)), .slice sg gs.length sc, .int .i64 (((ls : Nat) : Int)), .slice lg gl.length lc] 63) :: T) := M.bring 3 rfl rfl
 replace M : Mg w0 w6 (.obj h (.cells #[.map (some m), .int .i64 (((last : Nat) : Int)), .int .i64 (((ss : Nat) : Int)), .slice sg gs.length sc, .int .i64 (((ls : Nat) : Int)), .slice lg gl.length lc] 63) :: .obj m (qc (os.map Ob.en) last) :: .row 88 2 (.slice sg gs.length sc) gs.length (qa gs) :: .row 88 2 (.slice lg gl.length lc) gl.length (qa gl) :: T) := M.bring 3 rfl rfl
 refine sct A (ef rfl rfl) (takeL_miss (T := T) hgl hi M) ?_
 rintro _ w8 ⟨rfl, hM7⟩
 replace M : Mg w0 w8 (.obj h (.cells #[.map (some m), .int .i64 (((last : Nat) : Int)), .int .i64 (((ss : Nat) : Int)), .slice sg gs.length sc, .int .i64 (((ls : Nat) : Int)), .slice lg gl.length lc] 63) :: .obj m (qc (os.map Ob.en) last) :: .row 88 2 (.slice sg gs.length sc) gs.length (qa gs) :: .row 88 2 (.slice lg gl.length lc) gl.length (qa gl) :: T) := hM7
 refine ⟨_, rfl, ?_⟩
 intro a A
 refine sdm A λa A↦?_
 iterate 2 refine sdo A (qk (vs := [.int .i64 0, .bool false]) rfl rfl) λa A↦?_
 iterate 2 refine sda A λa A↦?_
 refine qb (hK4 _ _ (wsk fun K9 hK9 => wsk fun K10 hK10 => wrl (sdm A λa A↦?_)))
 refine sdo (v := .bool true) A (zf rfl zm) λa A↦?_
 refine qb (hK10 _ _ (wp_cond_true (A.ev rfl) ?_))
 refine wsk fun K11 hK11 => wrl ?_
 iterate 2 refine sda A λa A↦?_
 refine qb (hK11 _ _ (wp_ret (hret _ _ (en2 A rfl (qi rfl) (qi rfl) ?_))))
 replace M : Mg w0 w8 (.row 88 2 (.slice lg gl.length lc) gl.length (qa gl) :: .obj h (.cells #[.map (some m), .int .i64 (((last : Nat) : Int)), .int .i64 (((ss : Nat) : Int)), .slice sg gs.length sc, .int .i64 (((ls : Nat) : Int)), .slice lg gl.length lc] 63) :: .obj m (qc (os.map Ob.en) last) :: .row 88 2 (.slice sg gs.length sc) gs.length (qa gs) :: T) := M.bring 3 rfl rfl
 replace M : Mg w0 w8 (.row 88 2 (.slice sg gs.length sc) gs.length (qa gs) :: .row 88 2 (.slice lg gl.length lc) gl.length (qa gl) :: .obj h (.cells #[.map (some m), .int .i64 (((last : Nat) : Int)), .int .i64 (((ss : Nat) : Int)), .slice sg gs.length sc, .int .i64 (((ls : Nat) : Int)), .slice lg gl.length lc] 63) :: .obj m (qc (os.map Ob.en) last) :: T) := M.bring 3 rfl rfl
 replace M : Mg w0 w8 (.obj m (qc (os.map Ob.en) last) :: .row 88 2 (.slice sg gs.length sc) gs.length (qa gs) :: .row 88 2 (.slice lg gl.length lc) gl.length (qa gl) :: .obj h (.cells #[.map (some m), .int .i64 (((last : Nat) : Int)), .int .i64 (((ss : Nat) : Int)), .slice sg gs.length sc, .int .i64 (((ls : Nat) : Int)), .slice lg gl.length lc] 63) :: T) := M.bring 3 rfl rfl
 replace M : Mg w0 w8 (.obj h (.cells #[.map (some m), .int .i64 (((last : Nat) : Int)), .int .i64 (((ss : Nat) : Int)), .slice sg gs.length sc, .int .i64 (((ls : Nat) : Int)), .slice lg gl.length lc] 63) :: .obj m (qc (os.map Ob.en) last) :: .row 88 2 (.slice sg gs.length sc) gs.length (qa gs) :: .row 88 2 (.slice lg gl.length lc) gl.length (qa gl) :: T) := M.bring 3 rfl rfl
 exact ⟨rfl, M⟩
theorem alloc_bad {w : World} {h : Nat} {n : Int} (hn : decide (n < 1) = true) : Calls Try.prog 6 #[.pointer (some ⟨h, 0, none⟩), .int .i64 n] w fun e w' => e = .returned (.tuple #[.int .i64 0, .int .i64 1]) ∧ Below w.heap.size w w' := by
 have M : Mg w w ([]) := Mg.start w
 refine qp (l := [(0, .pointer (some ⟨h, 0, none⟩)), (1, .int .i64 n)]) Try.func6 rfl Try.ntmps6 rfl rfl ?_
 intro Q hret hnorm hP a A
 refine wsk fun K1 hK1 => wrl ?_
 iterate 2 refine sda A λa A↦?_
 refine qb (hK1 _ _ (wsk fun K2 hK2 => wsk fun K3 hK3 => wrl (sdm A λa A↦?_)))
 refine sdo (v := .bool false) A (qe rfl rfl (jn Try.underlying24)) λa A↦?_
 iterate 2 refine sdm A λa A↦?_
 refine sdo (v := .bool true) A (qe rfl rfl (fun w => (qm w).trans (by rw [show (decide (n < 1)) = true from hn]))) λa A↦?_
 refine sdk (v := .bool true) A λa A↦?_
 refine qb (hK3 _ _ (wp_cond_true (A.ev rfl) ?_))
 refine wsk fun K4 hK4 => wrl ?_
 iterate 2 refine sda A λa A↦?_
 refine qb (hK4 _ _ (wp_ret (hret _ _ (en2 A rfl (qi rfl) (qi rfl) ?_))))
 exact ⟨rfl, M.bel⟩
end Go.Proofs.Ytjjkcpmhlcjaoaa
