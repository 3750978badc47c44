/- Walks of Set and Collect that answer an error. Two heaps of the same objects: what is told of one is told of the other; what a heap keeps, step by step. Walks of calls on a nil heap, and of the law on it. The program and the document, call by call. The program and the document: Alloc, Set, Collect. A script over a heap, as it lies in memory. The walk of the law of scripts over a heap. A script over a heap that comes in as an argument. -/
import Derived.Test.YtjjkcpmhlcjaoaaPheappl9f
import Derived.Test.YtjjkcpmhlcjaoaaPheappl9c
import Derived.Test.YtjjkcpmhlcjaoaaPheappl9d
import Derived.Test.YtjjkcpmhlcjaoaaProg
import Derived.WalkKit
import Derived.ProofKit
import Derived.OpenShut
import Derived.ChangeOld
import Derived.ChangeArms
import Derived.Lib.SmallJoins
import Derived.Deep.Strs
import Derived.Deep.SlicePairs
import Derived.SizedLaws
import Derived.DataElems
namespace Go.Proofs.Ytjjkcpmhlcjaoaa
open Go.RowKit
set_option linter.unusedVariables false
set_option linter.unusedSimpArgs false
set_option maxRecDepth 100000
theorem HbN_is1_3 : Is1 Try.prog 3 := ⟨⟨_, Try.underlying3, rfl⟩, by kernel_rfl⟩
theorem HbN_is1_4 : Is1 Try.prog 4 := ⟨⟨_, Try.underlying4, rfl⟩, by kernel_rfl⟩
theorem HbN_fld_32_0 : FieldAt Try.prog 32 0 0 := ⟨_, _, Try.underlying32, rfl, rfl, by kernel_rfl⟩
theorem HbN_fld_32_1 : FieldAt Try.prog 32 1 1 := ⟨_, _, Try.underlying32, rfl, rfl, by kernel_rfl⟩
theorem HbN_isS_70 : IsS Try.prog 70 2 := ⟨⟨_, Try.underlying70⟩, by kernel_rfl⟩
theorem set_miss {w0 w : World} {h m last ss ls sc lc : Nat} {sg lg : Option Addr} {gs gl : List (Nat × Nat)} {os : List Ob} {X : List Ck} {x : Int} {i : Int} {c1 : Int} {c2 : Bool} (hx : fO x os = none) (hM0 : Mg w0 w (.obj h (.cells #[.map (some m), .int .i64 (((last : Nat) : Int)), .int .i64 (((ss : Nat) : Int)), .slice sg gs.length sc, .int .i64 (((ls : Nat) : Int)), .slice lg gl.length lc] 63) :: .obj m (qc (os.map Ob.en) last) :: .row 88 2 (.slice sg gs.length sc) gs.length (qa gs) :: .row 88 2 (.slice lg gl.length lc) gl.length (qa gl) :: (os.map Ob.row ++ X))) : Calls Try.prog 10 #[.pointer (some ⟨h, 0, none⟩), .int .i64 x, .int .i64 i, .agg #[.int .i64 c1, .bool c2]] w fun e w' => e = .returned (.int .i64 7) ∧ Mg w0 w' (.obj h (.cells #[.map (some m), .int .i64 (((last : Nat) : Int)), .int .i64 (((ss : Nat) : Int)), .slice sg gs.length sc, .int .i64 (((ls : Nat) : Int)), .slice lg gl.length lc] 63) :: .obj m (qc (os.map Ob.en) last) :: .row 88 2 (.slice sg gs.length sc) gs.length (qa gs) :: .row 88 2 (.slice lg gl.length lc) gl.length (qa gl) :: (os.map Ob.row ++ X)) := by
 have M : Mg w0 w (.obj h (.cells #[.map (some m), .int .i64 (((last : Nat) : Int)), .int .i64 (((ss : Nat) : Int)), .slice sg gs.length sc, .int .i64 (((ls : Nat) : Int)), .slice lg gl.length lc] 63) :: .obj m (qc (os.map Ob.en) last) :: .row 88 2 (.slice sg gs.length sc) gs.length (qa gs) :: .row 88 2 (.slice lg gl.length lc) gl.length (qa gl) :: (os.map Ob.row ++ X)) := hM0
 refine qp (l := [(0, .pointer (some ⟨h, 0, none⟩)), (1, .int .i64 x), (2, .int .i64 i), (3, .agg #[.int .i64 c1, .bool c2])]) Try.func10 rfl Try.ntmps10 rfl rfl ?_
 intro Q hret hnorm hP a A
 refine wsk fun K1 hK1 => wrl (qt (vs := [.int .i64 c1, .bool c2]) (t := 32) A M rfl rfl rfl pg (qw rfl rfl) (by decide) ?_)
 intro g2 w3 M a A
 refine sda A λa A↦?_
 refine qb (hK1 _ _ (wsk fun K4 hK4 => wrl ?_))
 iterate 2 refine sdm A λa A↦?_
 replace M : Mg w0 w3 (.row 88 2 (.slice lg gl.length lc) gl.length (qa gl) :: .obj g2 (.cells #[.int .i64 c1, .bool c2] 32) :: .obj h (.cells #[.map (some m), .int .i64 (((last : Nat) : Int)), .int .i64 (((ss : Nat) : Int)), .slice sg gs.length sc, .int .i64 (((ls : Nat) : Int)), .slice lg gl.length lc] 63) :: .obj m (qc (os.map Ob.en) last) :: .row 88 2 (.slice sg gs.length sc) gs.length (qa gs) :: (os.map Ob.row ++ X)) := M.bring 4 rfl rfl
 replace M : Mg w0 w3 (.row 88 2 (.slice sg gs.length sc) gs.length (qa gs) :: .row 88 2 (.slice lg gl.length lc) gl.length (qa gl) :: .obj g2 (.cells #[.int .i64 c1, .bool c2] 32) :: .obj h (.cells #[.map (some m), .int .i64 (((last : Nat) : Int)), .int .i64 (((ss : Nat) : Int)), .slice sg gs.length sc, .int .i64 (((ls : Nat) : Int)), .slice lg gl.length lc] 63) :: .obj m (qc (os.map Ob.en) last) :: (os.map Ob.row ++ X)) := M.bring 4 rfl rfl
 replace M : Mg w0 w3 (.obj m (qc (os.map Ob.en) last) :: .row 88 2 (.slice sg gs.length sc) gs.length (qa gs) :: .row 88 2 (.slice lg gl.length lc) gl.length (qa gl) :: .obj g2 (.cells #[.int .i64 c1, .bool c2] 32) :: .obj h (.cells #[.map (some m), .int .i64 (((last : Nat) : Int)), .int .i64 (((ss : Nat) : Int)), .slice sg gs.length sc, .int .i64 (((ls : Nat) : Int)), .slice lg gl.length lc] 63) :: (os.map Ob.row ++ X)) := M.bring 4 rfl rfl
 replace M : Mg w0 w3 (.obj h (.cells #[.map (some m), .int .i64 (((last : Nat) : Int)), .int .i64 (((ss : Nat) : Int)), .slice sg gs.length sc, .int .i64 (((ls : Nat) : Int)), .slice lg gl.length lc] 63) :: .obj m (qc (os.map Ob.en) last) :: .row 88 2 (.slice sg gs.length sc) gs.length (qa gs) :: .row 88 2 (.slice lg gl.length lc) gl.length (qa gl) :: .obj g2 (.cells #[.int .i64 c1, .bool c2] 32) :: (os.map Ob.row ++ X)) := M.bring 4 rfl rfl
 refine sct A (ef rfl rfl) (kr (T := (.obj g2 (.cells #[.int .i64 c1, .bool c2] 32) :: (os.map Ob.row ++ X))) hx M) ?_
 rintro _ w6 ⟨rfl, hM5⟩
 replace M : Mg w0 w6 (.obj h (.cells #[.map (some m), .int .i64 (((last : Nat) : Int)), .int .i64 (((ss : Nat) : Int)), .slice sg gs.length sc, .int .i64 (((ls : Nat) : Int)), .slice lg gl.length lc] 63) :: .obj m (qc (os.map Ob.en) last) :: .row 88 2 (.slice sg gs.length sc) gs.length (qa gs) :: .row 88 2 (.slice lg gl.length lc) gl.length (qa gl) :: .obj g2 (.cells #[.int .i64 c1, .bool c2] 32) :: (os.map Ob.row ++ X)) := hM5
 refine ⟨_, rfl, ?_⟩
 intro a A
 refine sdm A λa A↦?_
 iterate 2 refine sdo A (qk (vs := [.agg #[.int .i64 0, .slice none 0 0], .int .i64 7]) rfl rfl) λa A↦?_
 refine qt (vs := [.int .i64 0, .slice none 0 0]) (t := 70) A M rfl rfl rfl pg (ql (z := .agg #[.int .i64 0, .slice none 0 0]) (by kernel_rfl) rfl) (by decide) ?_
 intro g7 w8 M a A
 refine qs (us := [.int .i64 0, .slice none 0 0]) (L' := (.obj g7 (.cells #[.int .i64 0, .slice none 0 0] 70) :: .obj h (.cells #[.map (some m), .int .i64 (((last : Nat) : Int)), .int .i64 (((ss : Nat) : Int)), .slice sg gs.length sc, .int .i64 (((ls : Nat) : Int)), .slice lg gl.length lc] 63) :: .obj m (qc (os.map Ob.en) last) :: .row 88 2 (.slice sg gs.length sc) gs.length (qa gs) :: .row 88 2 (.slice lg gl.length lc) gl.length (qa gl) :: .obj g2 (.cells #[.int .i64 c1, .bool c2] 32) :: (os.map Ob.row ++ X))) A M rfl rfl (qo rfl rfl rfl (by kernel_rfl) M 0 rfl rfl rfl) 0 rfl rfl rfl ?_
 intro w9 M
 refine sda A λa A↦?_
 refine qb (hK4 _ _ (wsk fun K10 hK10 => wp_block (wsk fun K11 hK11 => wrl (sdm A λa A↦?_))))
 refine sdo (v := .bool true) A (qe rfl rfl (fun w => by kernel_rfl)) λa A↦?_
 refine sda A λa A↦?_
 refine qb (hK11 _ _ (wp_cond_true (A.ev rfl) ?_))
 refine wsk fun K12 hK12 => wrl (sdm A λa A↦?_)
 refine sda A λa A↦?_
 refine qb (hK12 _ _ (wp_ret (hret _ _ (en1 A rfl (qi rfl) ?_))))
 replace M : Mg w0 w9 (.row 88 2 (.slice lg gl.length lc) gl.length (qa gl) :: .obj g7 (.cells #[.int .i64 0, .slice none 0 0] 70) :: .obj h (.cells #[.map (some m), .int .i64 (((last : Nat) : Int)), .int .i64 (((ss : Nat) : Int)), .slice sg gs.length sc, .int .i64 (((ls : Nat) : Int)), .slice lg gl.length lc] 63) :: .obj m (qc (os.map Ob.en) last) :: .row 88 2 (.slice sg gs.length sc) gs.length (qa gs) :: .obj g2 (.cells #[.int .i64 c1, .bool c2] 32) :: (os.map Ob.row ++ X)) := M.bring 4 rfl rfl
 replace M : Mg w0 w9 (.row 88 2 (.slice sg gs.length sc) gs.length (qa gs) :: .row 88 2 (.slice lg gl.length lc) gl.length (qa gl) :: .obj g7 (.cells #[.int .i64 0, .slice none 0 0] 70) :: .obj h (.cells #[.map (some m), .int .i64 (((last : Nat) : Int)), .int .i64 (((ss : Nat) : Int)), .slice sg gs.length sc, .int .i64 (((ls : Nat) : Int)), .slice lg gl.length lc] 63) :: .obj m (qc (os.map Ob.en) last) :: .obj g2 (.cells #[.int .i64 c1, .bool c2] 32) :: (os.map Ob.row ++ X)) := M.bring 4 rfl rfl
 replace M : Mg w0 w9 (.obj m (qc (os.map Ob.en) last) :: .row 88 2 (.slice sg gs.length sc) gs.length (qa gs) :: .row 88 2 (.slice lg gl.length lc) gl.length (qa gl) :: .obj g7 (.cells #[.int .i64 0, .slice none 0 0] 70) :: .obj h (.cells #[.map (some m), .int .i64 (((last : Nat) : Int)), .int .i64 (((ss : Nat) : Int)), .slice sg gs.length sc, .int .i64 (((ls : Nat) : Int)), .slice lg gl.length lc] 63) :: .obj g2 (.cells #[.int .i64 c1, .bool c2] 32) :: (os.map Ob.row ++ X)) := M.bring 4 rfl rfl
 replace M : Mg w0 w9 (.obj h (.cells #[.map (some m), .int .i64 (((last : Nat) : Int)), .int .i64 (((ss : Nat) : Int)), .slice sg gs.length sc, .int .i64 (((ls : Nat) : Int)), .slice lg gl.length lc] 63) :: .obj m (qc (os.map Ob.en) last) :: .row 88 2 (.slice sg gs.length sc) gs.length (qa gs) :: .row 88 2 (.slice lg gl.length lc) gl.length (qa gl) :: .obj g7 (.cells #[.int .i64 0, .slice none 0 0] 70) :: .obj g2 (.cells #[.int .i64 c1, .bool c2] 32) :: (os.map Ob.row ++ X)) := M.bring 4 rfl rfl
 replace M : Mg w0 w9 (.obj h (.cells #[.map (some m), .int .i64 (((last : Nat) : Int)), .int .i64 (((ss : Nat) : Int)), .slice sg gs.length sc, .int .i64 (((ls : Nat) : Int)), .slice lg gl.length lc] 63) :: .obj m (qc (os.map Ob.en) last) :: .row 88 2 (.slice sg gs.length sc) gs.length (qa gs) :: .row 88 2 (.slice lg gl.length lc) gl.length (qa gl) :: (os.map Ob.row ++ X)) := by
  have h9 := M.sub (cc (cc (cc (cc (cn (cn (.refl _)))))))
  exact h9
 exact ⟨rfl, M⟩
theorem set_out {w0 w : World} {h m last ss ls sc lc : Nat} {sg lg : Option Addr} {gs gl : List (Nat × Nat)} {os : List Ob} {X : List Ck} {x : Int} {o : Ob} {i : Int} {c1 : Int} {c2 : Bool} (hx : fO x os = some o) (hh : (decide (0 ≤ i) && decide (i < ((o.ws.length : Nat) : Int))) = false) (hM0 : Mg w0 w (.obj h (.cells #[.map (some m), .int .i64 (((last : Nat) : Int)), .int .i64 (((ss : Nat) : Int)), .slice sg gs.length sc, .int .i64 (((ls : Nat) : Int)), .slice lg gl.length lc] 63) :: .obj m (qc (os.map Ob.en) last) :: .row 88 2 (.slice sg gs.length sc) gs.length (qa gs) :: .row 88 2 (.slice lg gl.length lc) gl.length (qa gl) :: (os.map Ob.row ++ X))) : Calls Try.prog 10 #[.pointer (some ⟨h, 0, none⟩), .int .i64 x, .int .i64 i, .agg #[.int .i64 c1, .bool c2]] w fun e w' => e = .returned (.int .i64 1) ∧ Mg w0 w' (.obj h (.cells #[.map (some m), .int .i64 (((last : Nat) : Int)), .int .i64 (((ss : Nat) : Int)), .slice sg gs.length sc, .int .i64 (((ls : Nat) : Int)), .slice lg gl.length lc] 63) :: .obj m (qc (os.map Ob.en) last) :: .row 88 2 (.slice sg gs.length sc) gs.length (qa gs) :: .row 88 2 (.slice lg gl.length lc) gl.length (qa gl) :: (os.map Ob.row ++ X)) := by
 have M : Mg w0 w (.obj h (.cells #[.map (some m), .int .i64 (((last : Nat) : Int)), .int .i64 (((ss : Nat) : Int)), .slice sg gs.length sc, .int .i64 (((ls : Nat) : Int)), .slice lg gl.length lc] 63) :: .obj m (qc (os.map Ob.en) last) :: .row 88 2 (.slice sg gs.length sc) gs.length (qa gs) :: .row 88 2 (.slice lg gl.length lc) gl.length (qa gl) :: (os.map Ob.row ++ X)) := hM0
 refine qp (l := [(0, .pointer (some ⟨h, 0, none⟩)), (1, .int .i64 x), (2, .int .i64 i), (3, .agg #[.int .i64 c1, .bool c2])]) Try.func10 rfl Try.ntmps10 rfl rfl ?_
 intro Q hret hnorm hP a A
 refine wsk fun K1 hK1 => wrl (qt (vs := [.int .i64 c1, .bool c2]) (t := 32) A M rfl rfl rfl pg (qw rfl rfl) (by decide) ?_)
 intro g2 w3 M a A
 refine sda A λa A↦?_
 refine qb (hK1 _ _ (wsk fun K4 hK4 => wrl ?_))
 iterate 2 refine sdm A λa A↦?_
 replace M : Mg w0 w3 (.row 88 2 (.slice lg gl.length lc) gl.length (qa gl) :: .obj g2 (.cells #[.int .i64 c1, .bool c2] 32) :: .obj h (.cells #[.map (some m), .int .i64 (((last : Nat) : Int)), .int .i64 (((ss : Nat) : Int)), .slice sg gs.length sc, .int .i64 (((ls : Nat) : Int)), .slice lg gl.length lc] 63) :: .obj m (qc (os.map Ob.en) last) :: .row 88 2 (.slice sg gs.length sc) gs.length (qa gs) :: (os.map Ob.row ++ X)) := M.bring 4 rfl rfl
 replace M : Mg w0 w3 (.row 88 2 (.slice sg gs.length sc) gs.length (qa gs) :: .row 88 2 (.slice lg gl.length lc) gl.length (qa gl) :: .obj g2 (.cells #[.int .i64 c1, .bool c2] 32) :: .obj h (.cells #[.map (some m), .int .i64 (((last : Nat) : Int)), .int .i64 (((ss : Nat) : Int)), .slice sg gs.length sc, .int .i64 (((ls : Nat) : Int)), .slice lg gl.length lc] 63) :: .obj m (qc (os.map Ob.en) last) :: (os.map Ob.row ++ X)) := M.bring 4 rfl rfl
 replace M : Mg w0 w3 (.obj m (qc (os.map Ob.en) last) :: .row 88 2 (.slice sg gs.length sc) gs.length (qa gs) :: .row 88 2 (.slice lg gl.length lc) gl.length (qa gl) :: .obj g2 (.cells #[.int .i64 c1, .bool c2] 32) :: .obj h (.cells #[.map (some m), .int .i64 (((last : Nat) : Int)), .int .i64 (((ss : Nat) : Int)), .slice sg gs.length sc, .int .i64 (((ls : Nat) : Int)), .slice lg gl.length lc] 63) :: (os.map Ob.row ++ X)) := M.bring 4 rfl rfl
 replace M : Mg w0 w3 (.obj h (.cells #[.map (some m), .int .i64 (((last : Nat) : Int)), .int .i64 (((ss : Nat) : Int)), .slice sg gs.length sc, .int .i64 (((ls : Nat) : Int)), .slice lg gl.length lc] 63) :: .obj m (qc (os.map Ob.en) last) :: .row 88 2 (.slice sg gs.length sc) gs.length (qa gs) :: .row 88 2 (.slice lg gl.length lc) gl.length (qa gl) :: .obj g2 (.cells #[.int .i64 c1, .bool c2] 32) :: (os.map Ob.row ++ X)) := M.bring 4 rfl rfl
 refine sct A (ef rfl rfl) (xk (T := (.obj g2 (.cells #[.int .i64 c1, .bool c2] 32) :: (os.map Ob.row ++ X))) hx M) ?_
 rintro _ w6 ⟨rfl, hM5⟩
 replace M : Mg w0 w6 (.obj h (.cells #[.map (some m), .int .i64 (((last : Nat) : Int)), .int .i64 (((ss : Nat) : Int)), .slice sg gs.length sc, .int .i64 (((ls : Nat) : Int)), .slice lg gl.length lc] 63) :: .obj m (qc (os.map Ob.en) last) :: .row 88 2 (.slice sg gs.length sc) gs.length (qa gs) :: .row 88 2 (.slice lg gl.length lc) gl.length (qa gl) :: .obj g2 (.cells #[.int .i64 c1, .bool c2] 32) :: (os.map Ob.row ++ X)) := hM5
 refine ⟨_, rfl, ?_⟩
 intro a A
 refine sdm A λa A↦?_
 iterate 2 refine sdo A (qk (vs := [.agg #[.int .i64 (((o.p : Nat) : Int)), .slice (some ⟨o.g, 0, none⟩) o.ws.length o.c], .int .i64 0]) rfl rfl) λa A↦?_
 refine qt (vs := [.int .i64 0, .slice none 0 0]) (t := 70) A M rfl rfl rfl pg (ql (z := .agg #[.int .i64 0, .slice none 0 0]) (by kernel_rfl) rfl) (by decide) ?_
 intro g7 w8 M a A
 refine qs (us := [.int .i64 (((o.p : Nat) : Int)), .slice (some ⟨o.g, 0, none⟩) o.ws.length o.c]) (L' := (.obj g7 (.cells #[.int .i64 (((o.p : Nat) : Int)), .slice (some ⟨o.g, 0, none⟩) o.ws.length o.c] 70) :: .obj h (.cells #[.map (some m), .int .i64 (((last : Nat) : Int)), .int .i64 (((ss : Nat) : Int)), .slice sg gs.length sc, .int .i64 (((ls : Nat) : Int)), .slice lg gl.length lc] 63) :: .obj m (qc (os.map Ob.en) last) :: .row 88 2 (.slice sg gs.length sc) gs.length (qa gs) :: .row 88 2 (.slice lg gl.length lc) gl.length (qa gl) :: .obj g2 (.cells #[.int .i64 c1, .bool c2] 32) :: (os.map Ob.row ++ X))) A M rfl rfl (qo rfl rfl rfl (by kernel_rfl) M 0 rfl rfl rfl) 0 rfl rfl rfl ?_
 intro w9 M
 refine sda A λa A↦?_
 refine qb (hK4 _ _ (wsk fun K10 hK10 => wp_block (wsk fun K11 hK11 => wrl (sdm A λa A↦?_))))
 refine sdo (v := .bool false) A (qe rfl rfl (fun w => by kernel_rfl)) λa A↦?_
 refine sda A λa A↦?_
 refine qb (hK11 _ _ (wp_cond_false (A.ev rfl) ?_))
 refine wsk fun K12 hK12 => wrl (sdo A (qq M HbN_isS_70 rfl 0 rfl (cs := [.int .i64 (((o.p : Nat) : Int)), .slice (some ⟨o.g, 0, none⟩) o.ws.length o.c]) rfl rfl) λa A↦?_)
 refine sdm A λa A↦?_
 refine gcl A M (ef rfl rfl) ((hh ▸ ku)) fun w14 hb13 M a A => ?_
 refine sdo (v := .bool true) A (zf rfl zm) λa A↦?_
 refine sdm A λa A↦?_
 iterate 3 refine zj A rfl rfl rfl λa A↦?_
 iterate 5 refine yy A rfl rfl rfl λa A↦?_
 refine zj A rfl rfl rfl λa A↦?_
 refine sdk (v := .bool true) A λa A↦?_
 refine sda A λa A↦?_
 refine qb (hK12 _ _ (wp_cond_true (A.ev rfl) ?_))
 refine wsk fun K15 hK15 => wrl (sda A λa A↦?_)
 refine qb (hK15 _ _ (wp_ret (hret _ _ (en1 A rfl (qi rfl) ?_))))
 replace M : Mg w0 w14 (.row 88 2 (.slice lg gl.length lc) gl.length (qa gl) :: .obj g7 (.cells #[.int .i64 (((o.p : Nat) : Int)), .slice (some ⟨o.g, 0, none⟩) o.ws.length o.c] 70) :: .obj h (.cells #[.map (some m), .int .i64 (((last : Nat) : Int)), .int .i64 (((ss : Nat) : Int)), .slice sg gs.length sc, .int .i64 (((ls : Nat) : Int)), .slice lg gl.length lc] 63) :: .obj m (qc (os.map Ob.en) last) :: .row 88 2 (.slice sg gs.length sc) gs.length (qa gs) :: .obj g2 (.cells #[.int .i64 c1, .bool c2] 32) :: (os.map Ob.row ++ X)) := M.bring 4 rfl rfl
 replace M : Mg w0 w14 (.row 88 2 (.slice sg gs.length sc) gs.length (qa gs) :: .row 88 2 (.slice lg gl.length lc) gl.length (qa gl) :: .obj g7 (.cells #[.int .i64 (((o.p : Nat) : Int)), .slice (some ⟨o.g, 0, none⟩) o.ws.length o.c] 70) :: .obj h (.cells #[.map (some m), .int .i64 (((last : Nat) : Int)), .int .i64 (((ss : Nat) : Int)), .slice sg gs.length sc, .int .i64 (((ls : Nat) : Int)), .slice lg gl.length lc] 63) :: .obj m (qc (os.map Ob.en) last) :: .obj g2 (.cells #[.int .i64 c1, .bool c2] 32) :: (os.map Ob.row ++ X)) := M.bring 4 rfl rfl
 replace M : Mg w0 w14 (.obj m (qc (os.map Ob.en) last) :: .row 88 2 (.slice sg gs.length sc) gs.length (qa gs) :: .row 88 2 (.slice lg gl.length lc) gl.length (qa gl) :: .obj g7 (.cells #[.int .i64 (((o.p : Nat) : Int)), .slice (some ⟨o.g, 0, none⟩) o.ws.length o.c] 70) :: .obj h (.cells #[.map (some m), .int .i64 (((last : Nat) : Int)), .int .i64 (((ss : Nat) : Int)), .slice sg gs.length sc, .int .i64 (((ls : Nat) : Int)), .slice lg gl.length lc] 63) :: .obj g2 (.cells #[.int .i64 c1, .bool c2] 32) :: (os.map Ob.row ++ X)) := M.bring 4 rfl rfl
 replace M : Mg w0 w14 (.obj h (.cells #[.map (some m), .int .i64 (((last : Nat) : Int)), .int .i64 (((ss : Nat) : Int)), .slice sg gs.length sc, .int .i64 (((ls : Nat) : Int)), .slice lg gl.length lc] 63) :: .obj m (qc (os.map Ob.en) last) :: .row 88 2 (.slice sg gs.length sc) gs.length (qa gs) :: .row 88 2 (.slice lg gl.length lc) gl.length (qa gl) :: .obj g7 (.cells #[.int .i64 (((o.p : Nat) : Int)), .slice (some ⟨o.g, 0, none⟩) o.ws.length o.c] 70) :: .obj g2 (.cells #[.int .i64 c1, .bool c2] 32) :: (os.map Ob.row ++ X)) := M.bring 4 rfl rfl
 replace M : Mg w0 w14 (.obj h (.cells #[.map (some m), .int .i64 (((last : Nat) : Int)), .int .i64 (((ss : Nat) : Int)), .slice sg gs.length sc, .int .i64 (((ls : Nat) : Int)), .slice lg gl.length lc] 63) :: .obj m (qc (os.map Ob.en) last) :: .row 88 2 (.slice sg gs.length sc) gs.length (qa gs) :: .row 88 2 (.slice lg gl.length lc) gl.length (qa gl) :: (os.map Ob.row ++ X)) := by
  have h9 := M.sub (cc (cc (cc (cc (cn (cn (.refl _)))))))
  exact h9
 exact ⟨rfl, M⟩
theorem set_ref {w0 w : World} {h m last ss ls sc lc : Nat} {sg lg : Option Addr} {gs gl : List (Nat × Nat)} {os : List Ob} {X : List Ck} {x : Int} {o : Ob} {i : Int} {c1 : Int} (hx : fO x os = some o) (hh : (decide (0 ≤ i) && decide (i < ((o.ws.length : Nat) : Int))) = true) (hnc : (c1 == 0 || (fO c1 os).isSome) = false) (hM0 : Mg w0 w (.obj h (.cells #[.map (some m), .int .i64 (((last : Nat) : Int)), .int .i64 (((ss : Nat) : Int)), .slice sg gs.length sc, .int .i64 (((ls : Nat) : Int)), .slice lg gl.length lc] 63) :: .obj m (qc (os.map Ob.en) last) :: .row 88 2 (.slice sg gs.length sc) gs.length (qa gs) :: .row 88 2 (.slice lg gl.length lc) gl.length (qa gl) :: (os.map Ob.row ++ X))) : Calls Try.prog 10 #[.pointer (some ⟨h, 0, none⟩), .int .i64 x, .int .i64 i, .agg #[.int .i64 c1, .bool true]] w fun e w' => e = .returned (.int .i64 1) ∧ Mg w0 w' (.obj h (.cells #[.map (some m), .int .i64 (((last : Nat) : Int)), .int .i64 (((ss : Nat) : Int)), .slice sg gs.length sc, .int .i64 (((ls : Nat) : Int)), .slice lg gl.length lc] 63) :: .obj m (qc (os.map Ob.en) last) :: .row 88 2 (.slice sg gs.length sc) gs.length (qa gs) :: .row 88 2 (.slice lg gl.length lc) gl.length (qa gl) :: (os.map Ob.row ++ X)) := by
 have M : Mg w0 w (.obj h (.cells #[.map (some m), .int .i64 (((last : Nat) : Int)), .int .i64 (((ss : Nat) : Int)), .slice sg gs.length sc, .int .i64 (((ls : Nat) : Int)), .slice lg gl.length lc] 63) :: .obj m (qc (os.map Ob.en) last) :: .row 88 2 (.slice sg gs.length sc) gs.length (qa gs) :: .row 88 2 (.slice lg gl.length lc) gl.length (qa gl) :: (os.map Ob.row ++ X)) := hM0
 refine qp (l := [(0, .pointer (some ⟨h, 0, none⟩)), (1, .int .i64 x), (2, .int .i64 i), (3, .agg #[.int .i64 c1, .bool true])]) Try.func10 rfl Try.ntmps10 rfl rfl ?_
 intro Q hret hnorm hP a A
 refine wsk fun K1 hK1 => wrl (qt (vs := [.int .i64 c1, .bool true]) (t := 32) A M rfl rfl rfl pg (qw rfl rfl) (by decide) ?_)
 intro g2 w3 M a A
 refine sda A λa A↦?_
 refine qb (hK1 _ _ (wsk fun K4 hK4 => wrl ?_))
 iterate 2 refine sdm A λa A↦?_
 replace M : Mg w0 w3 (.row 88 2 (.slice lg gl.length lc) gl.length (qa gl) :: .obj g2 (.cells #[.int .i64 c1, .bool true] 32) :: .obj h (.cells #[.map (some m), .int .i64 (((last : Nat) : Int)), .int .i64 (((ss : Nat) : Int)), .slice sg gs.length sc, .int .i64 (((ls : Nat) : Int)), .slice lg gl.length lc] 63) :: .obj m (qc (os.map Ob.en) last) :: .row 88 2 (.slice sg gs.length sc) gs.length (qa gs) :: (os.map Ob.row ++ X)) := M.bring 4 rfl rfl
 replace M : Mg w0 w3 (.row 88 2 (.slice sg gs.length sc) gs.length (qa gs) :: .row 88 2 (.slice lg gl.length lc) gl.length (qa gl) :: .obj g2 (.cells #[.int .i64 c1, .bool true] 32) :: .obj h (.cells #[.map (some m), .int .i64 (((last : Nat) : Int)), .int .i64 (((ss : Nat) : Int)), .slice sg gs.length sc, .int .i64 (((ls : Nat) : Int)), .slice lg gl.length lc] 63) :: .obj m (qc (os.map Ob.en) last) :: (os.map Ob.row ++ X)) := M.bring 4 rfl rfl
 replace M : Mg w0 w3 (.obj m (qc (os.map Ob.en) last) :: .row 88 2 (.slice sg gs.length sc) gs.length (qa gs) :: .row 88 2 (.slice lg gl.length lc) gl.length (qa gl) :: .obj g2 (.cells #[.int .i64 c1, .bool true] 32) :: .obj h (.cells #[.map (some m), .int .i64 (((last : Nat) : Int)), .int .i64 (((ss : Nat) : Int)), .slice sg gs.length sc, .int .i64 (((ls : Nat) : Int)), .slice lg gl.length lc] 63) :: (os.map Ob.row ++ X)) := M.bring 4 rfl rfl
 replace M : Mg w0 w3 (.obj h (.cells #[.map (some m), .int .i64 (((last : Nat) : Int)), .int .i64 (((ss : Nat) : Int)), .slice sg gs.length sc, .int .i64 (((ls : Nat) : Int)), .slice lg gl.length lc] 63) :: .obj m (qc (os.map Ob.en) last) :: .row 88 2 (.slice sg gs.length sc) gs.length (qa gs) :: .row 88 2 (.slice lg gl.length lc) gl.length (qa gl) :: .obj g2 (.cells #[.int .i64 c1, .bool true] 32) :: (os.map Ob.row ++ X)) := M.bring 4 rfl rfl
 refine sct A (ef rfl rfl) (xk (T := (.obj g2 (.cells #[.int .i64 c1, .bool true] 32) :: (os.map Ob.row ++ X))) hx M) ?_
 rintro _ w6 ⟨rfl, hM5⟩
 replace M : Mg w0 w6 (.obj h (.cells #[.map (some m), .int .i64 (((last : Nat) : Int)), .int .i64 (((ss : Nat) : Int)), .slice sg gs.length sc, .int .i64 (((ls : Nat) : Int)), .slice lg gl.length lc] 63) :: .obj m (qc (os.map Ob.en) last) :: .row 88 2 (.slice sg gs.length sc) gs.length (qa gs) :: .row 88 2 (.slice lg gl.length lc) gl.length (qa gl) :: .obj g2 (.cells #[.int .i64 c1, .bool true] 32) :: (os.map Ob.row ++ X)) := hM5
 refine ⟨_, rfl, ?_⟩
 intro a A
 refine sdm A λa A↦?_
 iterate 2 refine sdo A (qk (vs := [.agg #[.int .i64 (((o.p : Nat) : Int)), .slice (some ⟨o.g, 0, none⟩) o.ws.length o.c], .int .i64 0]) rfl rfl) λa A↦?_
 refine qt (vs := [.int .i64 0, .slice none 0 0]) (t := 70) A M rfl rfl rfl pg (ql (z := .agg #[.int .i64 0, .slice none 0 0]) (by kernel_rfl) rfl) (by decide) ?_
 intro g7 w8 M a A
 refine qs (us := [.int .i64 (((o.p : Nat) : Int)), .slice (some ⟨o.g, 0, none⟩) o.ws.length o.c]) (L' := (.obj g7 (.cells #[.int .i64 (((o.p : Nat) : Int)), .slice (some ⟨o.g, 0, none⟩) o.ws.length o.c] 70) :: .obj h (.cells #[.map (some m), .int .i64 (((last : Nat) : Int)), .int .i64 (((ss : Nat) : Int)), .slice sg gs.length sc, .int .i64 (((ls : Nat) : Int)), .slice lg gl.length lc] 63) :: .obj m (qc (os.map Ob.en) last) :: .row 88 2 (.slice sg gs.length sc) gs.length (qa gs) :: .row 88 2 (.slice lg gl.length lc) gl.length (qa gl) :: .obj g2 (.cells #[.int .i64 c1, .bool true] 32) :: (os.map Ob.row ++ X))) A M rfl rfl (qo rfl rfl rfl (by kernel_rfl) M 0 rfl rfl rfl) 0 rfl rfl rfl ?_
 intro w9 M
 refine sda A λa A↦?_
 refine qb (hK4 _ _ (wsk fun K10 hK10 => wp_block (wsk fun K11 hK11 => wrl (sdm A λa A↦?_))))
 refine sdo (v := .bool false) A (qe rfl rfl (fun w => by kernel_rfl)) λa A↦?_
 refine sda A λa A↦?_
 refine qb (hK11 _ _ (wp_cond_false (A.ev rfl) ?_))
 refine wsk fun K12 hK12 => wrl (sdo A (qq M HbN_isS_70 rfl 0 rfl (cs := [.int .i64 (((o.p : Nat) : Int)), .slice (some ⟨o.g, 0, none⟩) o.ws.length o.c]) rfl rfl) λa A↦?_)
 refine sdm A λa A↦?_
 refine gcl A M (ef rfl rfl) ((hh ▸ ku)) fun w14 hb13 M a A => ?_
 refine sdo (v := .bool false) A (zf rfl zm) λa A↦?_
 refine sdm A λa A↦?_
 refine sdo (v := .pointer (some ⟨g2, 1, none⟩)) A (qd HbN_fld_32_1 rfl rfl) λa A↦?_
 refine sdo A (qh M HbN_is1_4 rfl 5 rfl rfl) λa A↦?_
 iterate 2 refine sdm A λa A↦?_
 refine sdo (v := .pointer (some ⟨g2, 0, none⟩)) A (qd HbN_fld_32_0 rfl rfl) λa A↦?_
 refine sdo A (qh M HbN_is1_3 rfl 5 rfl rfl) λa A↦?_
 replace M : Mg w0 w14 (.row 88 2 (.slice lg gl.length lc) gl.length (qa gl) :: .obj g7 (.cells #[.int .i64 (((o.p : Nat) : Int)), .slice (some ⟨o.g, 0, none⟩) o.ws.length o.c] 70) :: .obj h (.cells #[.map (some m), .int .i64 (((last : Nat) : Int)), .int .i64 (((ss : Nat) : Int)), .slice sg gs.length sc, .int .i64 (((ls : Nat) : Int)), .slice lg gl.length lc] 63) :: .obj m (qc (os.map Ob.en) last) :: .row 88 2 (.slice sg gs.length sc) gs.length (qa gs) :: .obj g2 (.cells #[.int .i64 c1, .bool true] 32) :: (os.map Ob.row ++ X)) := M.bring 4 rfl rfl
 replace M : Mg w0 w14 (.row 88 2 (.slice sg gs.length sc) gs.length (qa gs) :: .row 88 2 (.slice lg gl.length lc) gl.length (qa gl) :: .obj g7 (.cells #[.int .i64 (((o.p : Nat) : Int)), .slice (some ⟨o.g, 0, none⟩) o.ws.length o.c] 70) :: .obj h (.cells #[.map (some m), .int .i64 (((last : Nat) : Int)), .int .i64 (((ss : Nat) : Int)), .slice sg gs.length sc, .int .i64 (((ls : Nat) : Int)), .slice lg gl.length lc] 63) :: .obj m (qc (os.map Ob.en) last) :: .obj g2 (.cells #[.int .i64 c1, .bool true] 32) :: (os.map Ob.row ++ X)) := M.bring 4 rfl rfl
 replace M : Mg w0 w14 (.obj m (qc (os.map Ob.en) last) :: .row 88 2 (.slice sg gs.length sc) gs.length (qa gs) :: .row 88 2 (.slice lg gl.length lc) gl.length (qa gl) :: .obj g7 (.cells #[.int .i64 (((o.p : Nat) : Int)), .slice (some ⟨o.g, 0, none⟩) o.ws.length o.c] 70) :: .obj h (.cells #[.map (some m), .int .i64 (((last : Nat) : Int)), .int .i64 (((ss : Nat) : Int)), .slice sg gs.length sc, .int .i64 (((ls : Nat) : Int)), .slice lg gl.length lc] 63) :: .obj g2 (.cells #[.int .i64 c1, .bool true] 32) :: (os.map Ob.row ++ X)) := M.bring 4 rfl rfl
 replace M : Mg w0 w14 (.obj h (.cells #[.map (some m), .int .i64 (((last : Nat) : Int)), .int .i64 (((ss : Nat) : Int)), .slice sg gs.length sc, .int .i64 (((ls : Nat) : Int)), .slice lg gl.length lc] 63) :: .obj m (qc (os.map Ob.en) last) :: .row 88 2 (.slice sg gs.length sc) gs.length (qa gs) :: .row 88 2 (.slice lg gl.length lc) gl.length (qa gl) :: .obj g7 (.cells #[.int .i64 (((o.p : Nat) : Int)), .slice (some ⟨o.g, 0, none⟩) o.ws.length o.c] 70) :: .obj g2 (.cells #[.int .i64 c1, .bool true] 32) :: (os.map Ob.row ++ X)) := M.bring 4 rfl rfl
 refine sct A (ef rfl rfl) ((hnc ▸ kq (T := (.obj g7 (.cells #[.int .i64 (((o.p : Nat) : Int)), .slice (some ⟨o.g, 0, none⟩) o.ws.length o.c] 70) :: .obj g2 (.cells #[.int .i64 c1, .bool true] 32) :: (os.map Ob.row ++ X))) M)) ?_
 rintro _ w16 ⟨rfl, hM15⟩
 replace M : Mg w0 w16 (.obj h (.cells #[.map (some m), .int .i64 (((last : Nat) : Int)), .int .i64 (((ss : Nat) : Int)), .slice sg gs.length sc, .int .i64 (((ls : Nat) : Int)), .slice lg gl.length lc] 63) :: .obj m (qc (os.map Ob.en) last) :: .row 88 2 (.slice sg gs.length sc) gs.length (qa gs) :: .row 88 2 (.slice lg gl.length lc) gl.length (qa gl) :: .obj g7 (.cells #[.int .i64 (((o.p : Nat) : Int)), .slice (some ⟨o.g, 0, none⟩) o.ws.length o.c] 70) :: .obj g2 (.cells #[.int .i64 c1, .bool true] 32) :: (os.map Ob.row ++ X)) := hM15
 refine ⟨_, rfl, ?_⟩
 intro a A
 refine sdo (v := .bool true) A (zf rfl zm) λa A↦?_
 iterate 2 refine sdk (v := .bool true) A λa A↦?_
 refine sda A λa A↦?_
 refine qb (hK12 _ _ (wp_cond_true (A.ev rfl) ?_))
 refine wsk fun K17 hK17 => wrl (sda A λa A↦?_)
 refine qb (hK17 _ _ (wp_ret (hret _ _ (en1 A rfl (qi rfl) ?_))))
 replace M : Mg w0 w16 (.row 88 2 (.slice lg gl.length lc) gl.length (qa gl) :: .obj h (.cells #[.map (some m), .int .i64 (((last : Nat) : Int)), .int .i64 (((ss : Nat) : Int)), .slice sg gs.length sc, .int .i64 (((ls : Nat) : Int)), .slice lg gl.length lc] 63) :: .obj m (qc (os.map Ob.en) last) :: .row 88 2 (.slice sg gs.length sc) gs.length (qa gs) :: .obj g7 (.cells #[.int .i64 (((o.p : Nat) : Int)), .slice (some ⟨o.g, 0, none⟩) o.ws.length o.c] 70) :: .obj g2 (.cells #[.int .i64 c1, .bool true] 32) :: (os.map Ob.row ++ X)) := M.bring 3 rfl rfl
 replace M : Mg w0 w16 (.row 88 2 (.slice sg gs.length sc) gs.length (qa gs) :: .row 88 2 (.slice lg gl.length lc) gl.length (qa gl) :: .obj h (.cells #[.map (some m), .int .i64 (((last : Nat) : Int)), .int .i64 (((ss : Nat) : Int)), .slice sg gs.length sc, .int .i64 (((ls : Nat) : Int)), .slice lg gl.length lc] 63) :: .obj m (qc (os.map Ob.en) last) :: .obj g7 (.cells #[.int .i64 (((o.p : Nat) : Int)), .slice (some ⟨o.g, 0, none⟩) o.ws.length o.c] 70) :: .obj g2 (.cells #[.int .i64 c1, .bool true] 32) :: (os.map Ob.row ++ X)) := M.bring 3 rfl rfl
 replace M : Mg w0 w16 (.obj m (qc (os.map Ob.en) last) :: .row 88 2 (.slice sg gs.length sc) gs.length (qa gs) :: .row 88 2 (.slice lg gl.length lc) gl.length (qa gl) :: .obj h (.cells #[.map (some m), .int .i64 (((last : Nat) : Int)), .int .i64 (((ss : Nat) : Int)), .slice sg gs.length sc, .int .i64 (((ls : Nat) : Int)), .slice lg gl.length lc] 63) :: .obj g7 (.cells #[.int .i64 (((o.p : Nat) : Int)), .slice (some ⟨o.g, 0, none⟩) o.ws.length o.c] 70) :: .obj g2 (.cells #[.int .i64 c1, .bool true] 32) :: (os.map Ob.row ++ X)) := M.bring 3 rfl rfl
 replace M : Mg w0 w16 (.obj h (.cells #[.map (some m), .int .i64 (((last : Nat) : Int)), .int .i64 (((ss : Nat) : Int)), .slice sg gs.length sc, .int .i64 (((ls : Nat) : Int)), .slice lg gl.length lc] 63) :: .obj m (qc (os.map Ob.en) last) :: .row 88 2 (.slice sg gs.length sc) gs.length (qa gs) :: .row 88 2 (.slice lg gl.length lc) gl.length (qa gl) :: .obj g7 (.cells #[.int .i64 (((o.p : Nat) : Int)), .slice (some ⟨o.g, 0, none⟩) o.ws.length o.c] 70) :: .obj g2 (.cells #[.int .i64 c1, .bool true] 32) :: (os.map Ob.row ++ X)) := M.bring 3 rfl rfl
 replace M : Mg w0 w16 (.obj h (.cells #[.map (some m), .int .i64 (((last : Nat) : Int)), .int .i64 (((ss : Nat) : Int)), .slice sg gs.length sc, .int .i64 (((ls : Nat) : Int)), .slice lg gl.length lc] 63) :: .obj m (qc (os.map Ob.en) last) :: .row 88 2 (.slice sg gs.length sc) gs.length (qa gs) :: .row 88 2 (.slice lg gl.length lc) gl.length (qa gl) :: (os.map Ob.row ++ X)) := by
  have h9 := M.sub (cc (cc (cc (cc (cn (cn (.refl _)))))))
  exact h9
 exact ⟨rfl, M⟩
def qib (z : Int) (os : List Ob) : Bool := z == 0 || (fO z os).isSome
theorem names_as {w0 w : World} {x : Int} {h m last ss ls sc lc : Nat} {sg lg : Option Addr} {gs gl : List (Nat × Nat)} {os : List Ob} {T : List Ck} {b : Bool} (hb : qib x os = b) (hM0 : Mg w0 w (.obj h (.cells #[.map (some m), .int .i64 (((last : Nat) : Int)), .int .i64 (((ss : Nat) : Int)), .slice sg gs.length sc, .int .i64 (((ls : Nat) : Int)), .slice lg gl.length lc] 63) :: .obj m (qc (os.map Ob.en) last) :: .row 88 2 (.slice sg gs.length sc) gs.length (qa gs) :: .row 88 2 (.slice lg gl.length lc) gl.length (qa gl) :: T)) : Calls Try.prog 31 #[.pointer (some ⟨h, 0, none⟩), .int .i64 x] w fun e w' => e = .returned (.bool b) ∧ Mg w0 w' (.obj h (.cells #[.map (some m), .int .i64 (((last : Nat) : Int)), .int .i64 (((ss : Nat) : Int)), .slice sg gs.length sc, .int .i64 (((ls : Nat) : Int)), .slice lg gl.length lc] 63) :: .obj m (qc (os.map Ob.en) last) :: .row 88 2 (.slice sg gs.length sc) gs.length (qa gs) :: .row 88 2 (.slice lg gl.length lc) gl.length (qa gl) :: T) := hb ▸ kq hM0
theorem collect_bad {w0 w : World} {h m last ss ls sc lc : Nat} {sg lg : Option Addr} {gs gl : List (Nat × Nat)} {os : List Ob} {X : List Ck} {rs : List Int} {ro : Option Addr} {rc : Nat} (hrl : rs.length ≤ 17592186044416) (hbad : ∃ r ∈ rs, qib r os = false) (hM0 : Mg w0 w (.obj h (.cells #[.map (some m), .int .i64 (((last : Nat) : Int)), .int .i64 (((ss : Nat) : Int)), .slice sg gs.length sc, .int .i64 (((ls : Nat) : Int)), .slice lg gl.length lc] 63) :: .obj m (qc (os.map Ob.en) last) :: .row 88 2 (.slice sg gs.length sc) gs.length (qa gs) :: .row 88 2 (.slice lg gl.length lc) gl.length (qa gl) :: .row 3 1 (.slice ro rs.length rc) rs.length (qg rs) :: (os.map Ob.row ++ X))) : Calls Try.prog 12 #[.pointer (some ⟨h, 0, none⟩), .slice ro rs.length rc] w fun e w' => e = .returned (.tuple #[.int .i64 0, .int .i64 7]) ∧ Mg w0 w' (.obj h (.cells #[.map (some m), .int .i64 (((last : Nat) : Int)), .int .i64 (((ss : Nat) : Int)), .slice sg gs.length sc, .int .i64 (((ls : Nat) : Int)), .slice lg gl.length lc] 63) :: .obj m (qc (os.map Ob.en) last) :: .row 88 2 (.slice sg gs.length sc) gs.length (qa gs) :: .row 88 2 (.slice lg gl.length lc) gl.length (qa gl) :: .row 3 1 (.slice ro rs.length rc) rs.length (qg rs) :: (os.map Ob.row ++ X)) := by
 have M : Mg w0 w (.obj h (.cells #[.map (some m), .int .i64 (((last : Nat) : Int)), .int .i64 (((ss : Nat) : Int)), .slice sg gs.length sc, .int .i64 (((ls : Nat) : Int)), .slice lg gl.length lc] 63) :: .obj m (qc (os.map Ob.en) last) :: .row 88 2 (.slice sg gs.length sc) gs.length (qa gs) :: .row 88 2 (.slice lg gl.length lc) gl.length (qa gl) :: .row 3 1 (.slice ro rs.length rc) rs.length (qg rs) :: (os.map Ob.row ++ X)) := hM0
 refine qp (l := [(0, .pointer (some ⟨h, 0, none⟩)), (1, .slice ro rs.length rc)]) Try.func12 rfl Try.ntmps12 rfl rfl ?_
 intro Q hret hnorm hP a A
 refine wsk fun K1 hK1 => wrl ?_
 iterate 2 refine sda A λa A↦?_
 refine qb (hK1 _ _ (wsk fun K2 hK2 => wsk fun K3 hK3 => wrl (sdm A λa A↦?_)))
 refine sdo (v := .bool false) A (qe rfl rfl (jn Try.underlying24)) λa A↦?_
 refine qb (hK3 _ _ (wp_cond_false (A.ev rfl) ?_))
 refine wp_skip (hK2 _ _ (wsk fun K4 hK4 => wsk fun K5 hK5 => wrl (sdm A λa A↦?_)))
 refine sdo A (qv Try.underlying33 rfl) λa A↦?_
 refine sdm A λa A↦?_
 refine qb (hK5 _ _ (wp_block (zh (fun m_ a w1 => ∃ (i : Nat), m_ = 1 + (rs.length - i) ∧ (i ≤ rs.length ∧ ∃ r ∈ rs.drop i, qib r os = false) ∧ Sl a 42 [(0, .pointer (some ⟨h, 0, none⟩)), (1, .slice ro rs.length rc), (9, .pointer (some ⟨h, 0, none⟩)), (10, .bool false), (11, .slice ro rs.length rc), (12, .int .i64 (((rs.length : Nat) : Int))), (13, .int .i64 (((i : Nat) : Int)))] ∧ Mg w0 w1 (.obj h (.cells #[.map (some m), .int .i64 (((last : Nat) : Int)), .int .i64 (((ss : Nat) : Int)), .slice sg gs.length sc, .int .i64 (((ls : Nat) : Int)), .slice lg gl.length lc] 63) :: .obj m (qc (os.map Ob.en) last) :: .row 88 2 (.slice sg gs.length sc) gs.length (qa gs) :: .row 88 2 (.slice lg gl.length lc) gl.length (qa gl) :: .row 3 1 (.slice ro rs.length rc) rs.length (qg rs) :: (os.map Ob.row ++ X))) _ ⟨0, rfl, ⟨Nat.zero_le _, hbad⟩, A.keep _ (by repeat' constructor), M⟩ ?_)))
 clear M A
 rintro m_ a w6 ⟨i, rfl, hinv8, A, M⟩ K7 hK7
 obtain ⟨hi0, hb9⟩ := hinv8
 refine wsk fun K9 hK9 => wrl ?_
 rcases tf (decide (((i : Nat) : Int) < ((rs.length : Nat) : Int))) with hb10 | hb10
 ·
  have hb10' := of_decide_eq_true hb10
  refine sdc A qm hb10 λa A↦?_
  refine qb (hK9 _ _ (wsk fun K11 hK11 => wp_cond_true (A.ev rfl) ?_))
  refine wp_skip (hK11 _ _ (wsk fun K12 hK12 => wp_block (wsk fun K13 hK13 => ?_)))
  obtain ⟨gr, hgr⟩ := zy (M.has 4 rfl) (show rs.length ≠ 0 by omega)
  obtain ⟨z, hz⟩ : ∃ z, rs[i]? = some z := ⟨_, List.getElem?_eq_getElem (show i < rs.length by omega)⟩
  refine wrl (sdo (v := .pointer (some ⟨gr, i * 1, none⟩)) A (jy (k := i) Try.underlying33 (by kernel_rfl) rfl rfl rfl hgr (by omega)) λa A↦?_)
  refine sdo (v := .int .i64 z) A (ye (j := i * 1) M 4 rfl hgr (by rw [Nat.mul_one]; exact kj hz) HbN_is1_3 rfl) λa A↦?_
  refine sda A λa A↦?_
  refine qb (hK13 _ _ (wsk fun K14 hK14 => wrl ?_))
  iterate 2 refine sdm A λa A↦?_
  rcases tf (qib z os) with hb15 | hb15
  ·
   replace M : Mg w0 w6 (.row 88 2 (.slice lg gl.length lc) gl.length (qa gl) :: .obj h (.cells #[.map (some m), .int .i64 (((last : Nat) : Int)), .int .i64 (((ss : Nat) : Int)), .slice sg gs.length sc, .int .i64 (((ls : Nat) : Int)), .slice lg gl.length lc] 63) :: .obj m (qc (os.map Ob.en) last) :: .row 88 2 (.slice sg gs.length sc) gs.length (qa gs) :: .row 3 1 (.slice ro rs.length rc) rs.length (qg rs) :: (os.map Ob.row ++ X)) := M.bring 3 rfl rfl
   replace M : Mg w0 w6 (.row 88 2 (.slice sg gs.length sc) gs.length (qa gs) :: .row 88 2 (.slice lg gl.length lc) gl.length (qa gl) :: .obj h (.cells #[.map (some m), .int .i64 (((last : Nat) : Int)), .int .i64 (((ss : Nat) : Int)), .slice sg gs.length sc, .int .i64 (((ls : Nat) : Int)), .slice lg gl.length lc] 63) :: .obj m (qc (os.map Ob.en) last) :: .row 3 1 (.slice ro rs.length rc) rs.length (qg rs) :: (os.map Ob.row ++ X)) := M.bring 3 rfl rfl
   replace M : Mg w0 w6 (.obj m (qc (os.map Ob.en) last) :: .row 88 2 (.slice sg gs.length sc) gs.length (qa gs) :: .row 88 2 (.slice lg gl.length lc) gl.length (qa gl) :: .obj h (.cells #[.map (some m), .int .i64 (((last : Nat) : Int)), .int .i64 (((ss : Nat) : Int)), .slice sg gs.length sc, .int .i64 (((ls : Nat) : Int)), .slice lg gl.length lc] 63) :: .row 3 1 (.slice ro rs.length rc) rs.length (qg rs) :: (os.map Ob.row ++ X)) := M.bring 3 rfl rfl
   replace M : Mg w0 w6 (.obj h (.cells #[.map (some m), .int .i64 (((last : Nat) : Int)), .int .i64 (((ss : Nat) : Int)), .slice sg gs.length sc, .int .i64 (((ls : Nat) : Int)), .slice lg gl.length lc] 63) :: .obj m (qc (os.map Ob.en) last) :: .row 88 2 (.slice sg gs.length sc) gs.length (qa gs) :: .row 88 2 (.slice lg gl.length lc) gl.length (qa gl) :: .row 3 1 (.slice ro rs.length rc) rs.length (qg rs) :: (os.map Ob.row ++ X)) := M.bring 3 rfl rfl
   refine sct A (ef rfl rfl) ((names_as (T := (.row 3 1 (.slice ro rs.length rc) rs.length (qg rs) :: (os.map Ob.row ++ X))) hb15 M)) ?_
   rintro _ w17 ⟨rfl, hM16⟩
   replace M : Mg w0 w17 (.obj h (.cells #[.map (some m), .int .i64 (((last : Nat) : Int)), .int .i64 (((ss : Nat) : Int)), .slice sg gs.length sc, .int .i64 (((ls : Nat) : Int)), .slice lg gl.length lc] 63) :: .obj m (qc (os.map Ob.en) last) :: .row 88 2 (.slice sg gs.length sc) gs.length (qa gs) :: .row 88 2 (.slice lg gl.length lc) gl.length (qa gl) :: .row 3 1 (.slice ro rs.length rc) rs.length (qg rs) :: (os.map Ob.row ++ X)) := hM16
   refine ⟨_, rfl, ?_⟩
   intro a A
   refine sdo (v := .bool false) A (zf rfl zm) λa A↦?_
   refine qb (hK14 _ _ (wp_cond_false (A.ev rfl) ?_))
   refine wp_skip (hK12 _ _ (wrl (sdo (v := .int .i64 (((i + 1 : Nat) : Int))) A (qe rfl rfl (ar_add ((in_i64 (by omega) (by omega)).trans (by omega)))) λa A↦?_)))
   refine sdm A λa A↦?_
   refine qb ?_
   replace M : Mg w0 w17 (.row 3 1 (.slice ro rs.length rc) rs.length (qg rs) :: .obj h (.cells #[.map (some m), .int .i64 (((last : Nat) : Int)), .int .i64 (((ss : Nat) : Int)), .slice sg gs.length sc, .int .i64 (((ls : Nat) : Int)), .slice lg gl.length lc] 63) :: .obj m (qc (os.map Ob.en) last) :: .row 88 2 (.slice sg gs.length sc) gs.length (qa gs) :: .row 88 2 (.slice lg gl.length lc) gl.length (qa gl) :: (os.map Ob.row ++ X)) := M.bring 4 rfl rfl
   replace M : Mg w0 w17 (.row 88 2 (.slice lg gl.length lc) gl.length (qa gl) :: .row 3 1 (.slice ro rs.length rc) rs.length (qg rs) :: .obj h (.cells #[.map (some m), .int .i64 (((last : Nat) : Int)), .int .i64 (((ss : Nat) : Int)), .slice sg gs.length sc, .int .i64 (((ls : Nat) : Int)), .slice lg gl.length lc] 63) :: .obj m (qc (os.map Ob.en) last) :: .row 88 2 (.slice sg gs.length sc) gs.length (qa gs) :: (os.map Ob.row ++ X)) := M.bring 4 rfl rfl
   replace M : Mg w0 w17 (.row 88 2 (.slice sg gs.length sc) gs.length (qa gs) :: .row 88 2 (.slice lg gl.length lc) gl.length (qa gl) :: .row 3 1 (.slice ro rs.length rc) rs.length (qg rs) :: .obj h (.cells #[.map (some m), .int .i64 (((last : Nat) : Int)), .int .i64 (((ss : Nat) : Int)), .slice sg gs.length sc, .int .i64 (((ls : Nat) : Int)), .slice lg gl.length lc] 63) :: .obj m (qc (os.map Ob.en) last) :: (os.map Ob.row ++ X)) := M.bring 4 rfl rfl
   replace M : Mg w0 w17 (.obj m (qc (os.map Ob.en) last) :: .row 88 2 (.slice sg gs.length sc) gs.length (qa gs) :: .row 88 2 (.slice lg gl.length lc) gl.length (qa gl) :: .row 3 1 (.slice ro rs.length rc) rs.length (qg rs) :: .obj h (.cells #[.map (some m), .int .i64 (((last : Nat) : Int)), .int .i64 (((ss : Nat) : Int)), .slice sg gs.length sc, .int .i64 (((ls : Nat) : Int)), .slice lg gl.length lc] 63) :: (os.map Ob.row ++ X)) := M.bring 4 rfl rfl
   replace M : Mg w0 w17 (.obj h (.cells #[.map (some m), .int .i64 (((last : Nat) : Int)), .int .i64 (((ss : Nat) : Int)), .slice sg gs.length sc, .int .i64 (((ls : Nat) : Int)), .slice lg gl.length lc] 63) :: .obj m (qc (os.map Ob.en) last) :: .row 88 2 (.slice sg gs.length sc) gs.length (qa gs) :: .row 88 2 (.slice lg gl.length lc) gl.length (qa gl) :: .row 3 1 (.slice ro rs.length rc) rs.length (qg rs) :: (os.map Ob.row ++ X)) := M.bring 4 rfl rfl
   refine hK7 _ _ _ (by omega) ⟨i + 1, rfl, ⟨by omega, by
     obtain ⟨r9, hr9, hr8⟩ := hb9
     rw [List.drop_eq_getElem_cons (show i < rs.length by omega)] at hr9
     rcases List.mem_cons.1 hr9 with e9 | m9
     ·
      rw [(List.getElem?_eq_some_iff.1 hz).2] at e9
      rw [e9, hb15] at hr8; cases hr8
     ·
      exact ⟨r9, m9, hr8⟩⟩, A.keep _ (by repeat' constructor), M⟩
  ·
   replace M : Mg w0 w6 (.row 88 2 (.slice lg gl.length lc) gl.length (qa gl) :: .obj h (.cells #[.map (some m), .int .i64 (((last : Nat) : Int)), .int .i64 (((ss : Nat) : Int)), .slice sg gs.length sc, .int .i64 (((ls : Nat) : Int)), .slice lg gl.length lc] 63) :: .obj m (qc (os.map Ob.en) last) :: .row 88 2 (.slice sg gs.length sc) gs.length (qa gs) :: .row 3 1 (.slice ro rs.length rc) rs.length (qg rs) :: (os.map Ob.row ++ X)) := M.bring 3 rfl rfl
   replace M : Mg w0 w6 (.row 88 2 (.slice sg gs.length sc) gs.length (qa gs) :: .row 88 2 (.slice lg gl.length lc) gl.length (qa gl) :: .obj h (.cells #[.map (some m), .int .i64 (((last : Nat) : Int)), .int .i64 (((ss : Nat) : Int)), .slice sg gs.length sc, .int .i64 (((ls : Nat) : Int)), .slice lg gl.length lc] 63) :: .obj m (qc (os.map Ob.en) last) :: .row 3 1 (.slice ro rs.length rc) rs.length (qg rs) :: (os.map Ob.row ++ X)) := M.bring 3 rfl rfl
   replace M : Mg w0 w6 (.obj m (qc (os.map Ob.en) last) :: .row 88 2 (.slice sg gs.length sc) gs.length (qa gs) :: .row 88 2 (.slice lg gl.length lc) gl.length (qa gl) :: .obj h (.cells #[.map (some m), .int .i64 (((last : Nat) : Int)), .int .i64 (((ss : Nat) : Int)), .slice sg gs.length sc, .int .i64 (((ls : Nat) : Int)), .slice lg gl.length lc] 63) :: .row 3 1 (.slice ro rs.length rc) rs.length (qg rs) :: (os.map Ob.row ++ X)) := M.bring 3 rfl rfl
   replace M : Mg w0 w6 (.obj h (.cells #[.map (some m), .int .i64 (((last : Nat) : Int)), .int .i64 (((ss : Nat) : Int)), .slice sg gs.length sc, .int .i64 (((ls : Nat) : Int)), .slice lg gl.length lc] 63) :: .obj m (qc (os.map Ob.en) last) :: .row 88 2 (.slice sg gs.length sc) gs.length (qa gs) :: .row 88 2 (.slice lg gl.length lc) gl.length (qa gl) :: .row 3 1 (.slice ro rs.length rc) rs.length (qg rs) :: (os.map Ob.row ++ X)) := M.bring 3 rfl rfl
   refine sct A (ef rfl rfl) ((names_as (T := (.row 3 1 (.slice ro rs.length rc) rs.length (qg rs) :: (os.map Ob.row ++ X))) hb15 M)) ?_
   rintro _ w19 ⟨rfl, hM18⟩
   replace M : Mg w0 w19 (.obj h (.cells #[.map (some m), .int .i64 (((last : Nat) : Int)), .int .i64 (((ss : Nat) : Int)), .slice sg gs.length sc, .int .i64 (((ls : Nat) : Int)), .slice lg gl.length lc] 63) :: .obj m (qc (os.map Ob.en) last) :: .row 88 2 (.slice sg gs.length sc) gs.length (qa gs) :: .row 88 2 (.slice lg gl.length lc) gl.length (qa gl) :: .row 3 1 (.slice ro rs.length rc) rs.length (qg rs) :: (os.map Ob.row ++ X)) := hM18
   refine ⟨_, rfl, ?_⟩
   intro a A
   refine sdo (v := .bool true) A (zf rfl zm) λa A↦?_
   refine qb (hK14 _ _ (wp_cond_true (A.ev rfl) ?_))
   refine wsk fun K20 hK20 => wrl ?_
   iterate 2 refine sda A λa A↦?_
   refine qb (hK20 _ _ (wp_ret (hret _ _ (en2 A rfl (qi rfl) (qi rfl) ?_))))
   replace M : Mg w0 w19 (.row 3 1 (.slice ro rs.length rc) rs.length (qg rs) :: .obj h (.cells #[.map (some m), .int .i64 (((last : Nat) : Int)), .int .i64 (((ss : Nat) : Int)), .slice sg gs.length sc, .int .i64 (((ls : Nat) : Int)), .slice lg gl.length lc] 63) :: .obj m (qc (os.map Ob.en) last) :: .row 88 2 (.slice sg gs.length sc) gs.length (qa gs) :: .row 88 2 (.slice lg gl.length lc) gl.length (qa gl) :: (os.map Ob.row ++ X)) := M.bring 4 rfl rfl
   replace M : Mg w0 w19 (.row 88 2 (.slice lg gl.length lc) gl.length (qa gl) :: .row 3 1 (.slice ro rs.length rc) rs.length (qg rs) :: .obj h (.cells #[.map (some m), .int .i64 (((last : Nat) : Int)), .int .i64 (((ss : Nat) : Int)), .slice sg gs.length sc, .int .i64 (((ls : Nat) : Int)), .slice lg gl.length lc] 63) :: .obj m (qc (os.map Ob.en) last) :: .row 88 2 (.slice sg gs.length sc) gs.length (qa gs) :: (os.map Ob.row ++ X)) := M.bring 4 rfl rfl
   replace M : Mg w0 w19 (.row 88 2 (.slice sg gs.length sc) gs.length (qa gs) :: .row 88 2 (.slice lg gl.length lc) gl.length (qa gl) :: .row 3 1 (.slice ro rs.length rc) rs.length (qg rs) :: .obj h (.cells #[.map (some m), .int .i64 (((last : Nat) : Int)), .int .i64 (((ss : Nat) : Int)), .slice sg gs.length sc, .int .i64 (((ls : Nat) : Int)), .slice lg gl.length lc] 63) :: .obj m (qc (os.map Ob.en) last) :: (os.map Ob.row ++ X)) := M.bring 4 rfl rfl
   replace M : Mg w0 w19 (.obj m (qc (os.map Ob.en) last) :: .row 88 2 (.slice sg gs.length sc) gs.length (qa gs) :: .row 88 2 (.slice lg gl.length lc) gl.length (qa gl) :: .row 3 1 (.slice ro rs.length rc) rs.length (qg rs) :: .obj h (.cells #[.map (some m), .int .i64 (((last : Nat) : Int)), .int .i64 (((ss : Nat) : Int)), .slice sg gs.length sc, .int .i64 (((ls : Nat) : Int)), .slice lg gl.length lc] 63) :: (os.map Ob.row ++ X)) := M.bring 4 rfl rfl
   replace M : Mg w0 w19 (.obj h (.cells #[.map (some m), .int .i64 (((last : Nat) : Int)), .int .i64 (((ss : Nat) : Int)), .slice sg gs.length sc, .int .i64 (((ls : Nat) : Int)), .slice lg gl.length lc] 63) :: .obj m (qc (os.map Ob.en) last) :: .row 88 2 (.slice sg gs.length sc) gs.length (qa gs) :: .row 88 2 (.slice lg gl.length lc) gl.length (qa gl) :: .row 3 1 (.slice ro rs.length rc) rs.length (qg rs) :: (os.map Ob.row ++ X)) := M.bring 4 rfl rfl
   exact ⟨rfl, M⟩
 ·
  have hb10' := of_decide_eq_false hb10
  refine sdc A qm hb10 λa A↦?_
  refine qb (hK9 _ _ (wsk fun K21 hK21 => wp_cond_false (A.ev rfl) ?_))
  refine wp_exit (hK4 _ _ (wsk fun K22 hK22 => wrl ?_))
  iterate 3 refine sdm A λa A↦?_
  exfalso
  rw [List.drop_eq_nil_of_le (by omega)] at hb9
  obtain ⟨r9, hr9, _⟩ := hb9
  cases hr9
/-- An object, wherever its words lie. -/
def key (o : Ob) : Nat × Nat × List (Int × Bool) := (o.x, o.p, o.ws)
def Ke (ds os : List Ob) : Prop := ds.map key = os.map key
theorem jj {a b : Ob} (h : key a = key b) : a.x = b.x ∧ a.p = b.p ∧ a.ws = b.ws := by
  simp only [key, Prod.mk.injEq] at h
  exact h
theorem Ke.symm {ds os : List Ob} (h : Ke ds os) : Ke os ds := Eq.symm h
theorem Ke.len {ds os : List Ob} (h : Ke ds os) : ds.length = os.length := by
  have := congrArg List.length h
  simpa using this
theorem Ke.map {α : Type} {ds os : List Ob} (h : Ke ds os) (f : Ob → α) (hf : ∀ a b, key a = key b → f a = f b) : ds.map f = os.map f := by
  unfold Ke at h
  induction ds generalizing os with
  | nil => cases os with
    | nil => rfl
    | cons b u => cases h
  | cons a t ih => cases os with
    | nil => cases h
    | cons b u =>
      simp only [List.map_cons, List.cons.injEq] at h
      rw [List.map_cons, List.map_cons, hf a b h.1, ih h.2]
theorem Ke.get {ds os : List Ob} (h : Ke ds os) {i : Nat} {d : Ob} (hd : ds[i]? = some d) : ∃ o, os[i]? = some o ∧ key o = key d := by
  have h1 : (ds.map key)[i]? = some (key d) := by rw [List.getElem?_map, hd]; rfl
  rw [h, List.getElem?_map] at h1
  obtain ⟨o, h2, h3⟩ := Option.map_eq_some_iff.1 h1
  exact ⟨o, h2, h3⟩
theorem Ke.ind {P : List Ob → List Ob → Prop} (h0 : P [] []) (h1 : ∀ a b t u, key a = key b → Ke t u → P t u → P (a :: t) (b :: u)) : ∀ {ds os : List Ob}, Ke ds os → P ds os := by
  intro ds
  induction ds with
  | nil => intro os h; cases os with
    | nil => exact h0
    | cons b u => cases h
  | cons a t ih => intro os h; cases os with
    | nil => cases h
    | cons b u =>
      simp only [Ke, List.map_cons, List.cons.injEq] at h
      exact h1 a b t u h.1 h.2 (ih h.2)
theorem qic {a b : Ob} (h : key a = key b) : big a = big b := by unfold big; rw [(jj h).2.2]
theorem Ke.shp {ds os : List Ob} (h : Ke ds os) : ds.map Ytjjkcpmhlcjaoaa.shp = os.map Ytjjkcpmhlcjaoaa.shp := h.map Ytjjkcpmhlcjaoaa.shp fun a b e => by
  unfold Ytjjkcpmhlcjaoaa.shp
  rw [qic e, (jj e).2.1, (jj e).2.2]
theorem Ke.hxs {ds os : List Ob} (h : Ke ds os) : hxs ds = hxs os := h.map _ fun a b e => by rw [(jj e).1]
theorem Ke.sums {ds os : List Ob} (h : Ke ds os) : zg ds = zg os ∧ je ds = je os ∧ zr ds = zr os := by
  refine Ke.ind (P := fun a b => zg a = zg b ∧ je a = je b ∧ zr a = zr b) ⟨rfl, rfl, rfl⟩ (fun a b t u e _ ih => ?_) h
  simp only [zg, je, zr]
  rw [ih.1, ih.2.1, ih.2.2, qic e, (jj e).2.2]
  exact ⟨rfl, rfl, rfl⟩
theorem Ke.fO {ds os : List Ob} (h : Ke ds os) (x : Int) : (fO x ds = none ∧ fO x os = none) ∨ ∃ d o, fO x ds = some d ∧ fO x os = some o ∧ key d = key o := by
  refine Ke.ind (P := fun a b => (Ytjjkcpmhlcjaoaa.fO x a = none ∧ Ytjjkcpmhlcjaoaa.fO x b = none) ∨ ∃ d o, Ytjjkcpmhlcjaoaa.fO x a = some d ∧ Ytjjkcpmhlcjaoaa.fO x b = some o ∧ key d = key o) (.inl ⟨rfl, rfl⟩) (fun a b t u e _ ih => ?_) h
  simp only [Ytjjkcpmhlcjaoaa.fO]
  rw [(jj e).1]
  by_cases k : ((b.x : Nat) : Int) = x
  · rw [if_pos k, if_pos k]; exact .inr ⟨a, b, rfl, rfl, e⟩
  · rw [if_neg k, if_neg k]; exact ih
theorem Ke.ix {ds os : List Ob} (h : Ke ds os) (x : Int) : ixO x ds = ixO x os := by
  have h1 : ds.map Ob.x = os.map Ob.x := h.map _ fun a b e => (jj e).1
  have h2 : ∀ l : List Ob, l.findIdx? (fun d => decide (((d.x : Nat) : Int) = x)) = (l.map Ob.x).findIdx? (fun n => decide (((n : Nat) : Int) = x)) := fun l => by rw [List.findIdx?_map]; rfl
  unfold ixO
  rw [h2, h2, h1]
theorem Ke.hx {ds os : List Ob} (h : Ke ds os) {last : Nat} (hx : Hx os last) : Hx ds last := by
  have h1 : ds.map Ob.x = os.map Ob.x := h.map _ fun a b e => (jj e).1
  refine ⟨qhd h1 hx.rise, fun o ho => ?_, fun o ho => ?_⟩ <;>
  · have : o.x ∈ os.map Ob.x := by rw [← h1]; exact List.mem_map.2 ⟨o, ho, rfl⟩
    obtain ⟨q, hq, e⟩ := List.mem_map.1 this
    first
      | (have := hx.lo q hq; omega)
      | (have := hx.hi q hq; omega)
theorem Ke.rc1 {ds os : List Ob} (h : Ke ds os) {rs : List Int} {x : Int} (hr : Rc ds rs x) : Rc os rs x := by
  induction hr with
  | root h1 h2 => exact .root h1 h2
  | @ref x y o h1 h2 h3 h4 ih =>
    rcases h.fO x with ⟨k, _⟩ | ⟨d, q, k1, k2, k3⟩
    · rw [k] at h2; cases h2
    · rw [k1] at h2
      cases h2
      exact .ref ih k2 (by rw [← (jj k3).2.2]; exact h3) h4
theorem Ke.rc {ds os : List Ob} (h : Ke ds os) {rs : List Int} (x : Int) : Rc ds rs x ↔ Rc os rs x := ⟨h.rc1, h.symm.rc1⟩
theorem Ke.stay {ds os : List Ob} (h : Ke ds os) (ws : List Int) : Ke (stay ws ds) (stay ws os) ∧ zr (yf ws ds) = zr (yf ws os) := by
  refine Ke.ind (P := fun a b => Ke (Ytjjkcpmhlcjaoaa.stay ws a) (Ytjjkcpmhlcjaoaa.stay ws b) ∧ zr (yf ws a) = zr (yf ws b)) ⟨rfl, rfl⟩ (fun a b t u e _ ih => ?_) h
  unfold Ytjjkcpmhlcjaoaa.stay yf at ih ⊢
  rw [List.filter_cons, List.filter_cons, List.filter_cons, List.filter_cons, (jj e).1]
  by_cases k : ((b.x : Nat) : Int) ∈ ws
  · rw [decide_eq_true k]
    simp only [if_true, Bool.not_true, Bool.false_eq_true, if_false]
    refine ⟨?_, ih.2⟩
    have := ih.1
    unfold Ke at this ⊢
    rw [List.map_cons, List.map_cons, e, this]
  · rw [decide_eq_false k]
    simp only [Bool.false_eq_true, if_false, Bool.not_false, if_true, zr]
    exact ⟨ih.1, by rw [ih.2, (jj e).2.2]⟩
theorem Ke.mvD {ds os : List Ob} (h : Ke ds os) : ∀ q, Ke (mvD q ds) (mvD q os) := by
  refine Ke.ind (P := fun a b => ∀ q, Ke (Ytjjkcpmhlcjaoaa.mvD q a) (Ytjjkcpmhlcjaoaa.mvD q b)) (fun _ => rfl) (fun a b t u e _ ih q => ?_) h
  simp only [Ytjjkcpmhlcjaoaa.mvD]
  rw [qic e, (jj e).2.2]
  unfold Ke at ih ⊢
  split
  · rw [List.map_cons, List.map_cons, e, ih]
  · rw [List.map_cons, List.map_cons, ih]
    congr 1
    simp only [key]
    rw [(jj e).1]
theorem Ke.app {a b c d : List Ob} (h : Ke a b) (k : Ke c d) : Ke (a ++ c) (b ++ d) := by
  unfold Ke at *
  rw [List.map_append, List.map_append, h, k]
theorem Ke.set {ds os : List Ob} (h : Ke ds os) (i : Nat) {d o : Ob} (e : key d = key o) : Ke (ds.set i d) (os.set i o) := by
  unfold Ke at *
  rw [List.map_set, List.map_set, h, e]
/-! ### What a heap keeps -/
variable {ss ls last : Nat} {os : List Ob} {gs gl : List (Nat × Nat)}
theorem HP.topS (h : HP ss ls last os gs gl) {n i p s : Nat} (hi : jp n gs = some i) (hat : gs[i]? = some (p, s)) : i = 0 ∧ p = zg os ∧ s = ss - zg os ∧ gs = [(zg os, ss - zg os)] := by
  rcases h.gsm with ⟨rfl, _⟩ | e
  · cases hi
  · rw [e] at hat hi
    have hi0 : i = 0 := by have := (List.getElem?_eq_some_iff.1 hat).1; simp at this; exact this
    subst hi0
    simp at hat
    exact ⟨rfl, hat.1.symm, hat.2.symm, e⟩
theorem HP.noS (h : HP ss ls last os gs gl) {n : Nat} (h1 : 1 ≤ n) (hi : jp n gs = none) : ¬ zg os + n ≤ ss := by
  rcases h.gsm with ⟨_, e⟩ | e
  · omega
  · rw [e] at hi
    have := qhf hi (q := (zg os, ss - zg os)) (by simp)
    simp only at this
    omega
theorem big_new (last p g n : Nat) : big (nOb last p g n) = decide (16 < ((n : Nat) : Int)) := by simp [big, nOb]
theorem vz (last p g n : Nat) : (nOb last p g n).ws.length = n := by simp [nOb]
theorem fO_app {x : Int} (l : List Ob) : ∀ {os : List Ob}, (fO x os).isSome = true → (fO x (os ++ l)).isSome = true
  | [], h => by cases h
  | a :: t, h => by
    simp only [fO, List.cons_append] at h ⊢
    split
    · rfl
    · rename_i k
      rw [if_neg k] at h
      exact fO_app l h
theorem refs_new (hr : Refs os) (q : Ob) (hq : ∀ c ∈ q.ws, c.2 = false) : Refs (os ++ [q]) := by
  intro o ho c hc hk
  rcases List.mem_append.1 ho with ho | ho
  · exact (hr o ho c hc hk).imp id (fO_app _)
  · rw [List.mem_singleton] at ho
    subst ho
    rw [hq c hc] at hk
    cases hk
theorem qfj (last p g n : Nat) : ∀ c ∈ (nOb last p g n).ws, c.2 = false := by
  intro c hc
  have := List.eq_of_mem_replicate hc
  rw [this]
theorem vj {P : Ob → Prop} {q : Ob} (h : ∀ o ∈ os, P o) (hq : P q) : ∀ o ∈ os ++ [q], P o := by
  intro o ho
  rcases List.mem_append.1 ho with ho | ho
  · exact h o ho
  · rw [List.mem_singleton] at ho; subst ho; exact hq
theorem HP.allocS (h : HP ss ls last os gs gl) {n i p s : Nat} (h1 : 1 ≤ n) (hb : decide (16 < ((n : Nat) : Int)) = false) (hi : jp n gs = some i) (hat : gs[i]? = some (p, s)) (hns : n ≤ s) (g : Nat) : HP ss ls (last + 1) (os ++ [nOb last p g n]) (gs.set i (p + n, s - n)) gl := by
  obtain ⟨rfl, rfl, rfl, he⟩ := h.topS hi hat
  have hbn : big (nOb last (zg os) g n) = false := by rw [big_new]; exact hb
  have hS : zg (os ++ [nOb last (zg os) g n]) = zg os + n := by
    rw [vw]
    simp only [zg, hbn, Bool.false_eq_true, if_false, vz]
    omega
  have hL : je (os ++ [nOb last (zg os) g n]) = je os := by
    rw [va]
    simp only [je, hbn, Bool.false_eq_true, if_false]
    omega
  have hsS := h.sS
  refine ⟨h.hx.add _ rfl, vj h.one (by rw [vz]; exact h1), by rw [hS]; omega, vj (fun o ho hb => by rw [hS]; have := h.low o ho hb; omega) (fun _ => by rw [hS, vz]; exact Nat.le_refl _), .inr ?_, ?_, ?_, vj h.en (fun k => by rw [hbn] at k; cases k), by rw [hL]; exact h.sL, by rw [List.length_append]; have := h.gll; simp; omega, refs_new h.refs _ (qfj _ _ _ _)⟩
  · rw [he, hS]
    simp
    omega
  · refine ⟨h.gp.inn, h.gp.srt, fun q hq => vj (h.gp.dis q hq) (fun k => by rw [hbn] at k; cases k), fun at_ m hm hf => h.gp.cov at_ m hm ?_, fun q hq => (h.gp.beh q hq).imp id (fun ⟨o, ho, k⟩ => ⟨o, by simp [ho], k⟩)⟩
    obtain ⟨f1, f2⟩ := xh.1 hf
    exact xh.2 ⟨f1, fun o ho hb => f2 o (by simp [ho]) hb⟩
  · unfold Dj
    rw [List.pairwise_append]
    refine ⟨h.dj, by simp, fun a ha c hc _ k => ?_⟩
    rw [List.mem_singleton] at hc
    subst hc
    rw [hbn] at k
    cases k
theorem sumG_set : ∀ {g : List (Nat × Nat)} {i p s : Nat} (p' s' : Nat), g[i]? = some (p, s) → jc (g.set i (p', s')) + s = jc g + s'
  | [], _, _, _, _, _, h => by simp at h
  | a :: t, 0, p, s, p', s', h => by simp at h; subst h; simp only [List.set_cons_zero, jc]; omega
  | a :: t, i + 1, p, s, p', s', h => by
    have := sumG_set (g := t) p' s' (by simpa using h)
    simp only [List.set_cons_succ, jc]
    omega
theorem HP.allocL (h : HP ss ls last os gs gl) {n i p s : Nat} (h1 : 1 ≤ n) (hb : decide (16 < ((n : Nat) : Int)) = true) (hi : jp n gl = some i) (hat : gl[i]? = some (p, s)) (hns : n ≤ s) (g : Nat) : HP ss ls (last + 1) (os ++ [nOb last p g n]) gs (gl.set i (p + n, s - n)) := by
  have hbn : big (nOb last p g n) = true := by rw [big_new]; exact hb
  have hS : zg (os ++ [nOb last p g n]) = zg os := by
    rw [vw]
    simp only [zg, hbn, if_true]
    omega
  have hL : je (os ++ [nOb last p g n]) = je os + n := by
    rw [va]
    simp only [je, hbn, if_true, vz]
    omega
  have hm := List.mem_of_getElem? hat
  have hin := h.gp.inn _ hm
  simp only at hin
  refine ⟨h.hx.add _ rfl, vj h.one (by rw [vz]; exact h1), by rw [hS]; exact h.sS, vj (fun o ho hb => by rw [hS]; exact h.low o ho hb) (fun k => by rw [hbn] at k; cases k), by rw [hS]; exact h.gsm, h.gp.alloc h1 hat hns hbn rfl (vz _ _ _ _), ?_, vj h.en (fun _ => by rw [vz]; show p + n ≤ ls; omega), ?_, by rw [List.length_append, List.length_set]; have := h.gll; simp; omega, refs_new h.refs _ (qfj _ _ _ _)⟩
  · unfold Dj
    rw [List.pairwise_append]
    refine ⟨h.dj, by simp, fun a ha c hc k _ => ?_⟩
    rw [List.mem_singleton] at hc
    subst hc
    unfold Ap2
    rw [vz]
    rcases h.gp.dis _ hm a ha k with q | q
    · exact .inl q
    · simp only at q
      exact .inr (by show p + n ≤ a.p; omega)
  · have := sumG_set (p + n) (s - n) hat
    have := h.sL
    rw [hL]
    omega
theorem shp_put {os : List Ob} {j : Nat} {o : Ob} (hj : os[j]? = some o) (i : Nat) (c : Int × Bool) : (os.set j (o.put i c)).map shp = os.map shp := by
  rw [List.map_set]
  have e : shp (o.put i c) = shp o := by simp [shp, Ob.put, big]
  rw [e]
  apply List.ext_getElem?
  intro k
  by_cases q : j = k
  · subst q
    have hl := (List.getElem?_eq_some_iff.1 hj).1
    rw [List.getElem?_set_self (by simpa using hl), List.getElem?_map, hj]
    rfl
  · rw [List.getElem?_set_ne q]
theorem put_x {os : List Ob} {j : Nat} {o : Ob} (hj : os[j]? = some o) (i : Nat) (c : Int × Bool) : (os.set j (o.put i c)).map Ob.x = os.map Ob.x := by
  rw [List.map_set]
  apply List.ext_getElem?
  intro k
  by_cases q : j = k
  · subst q
    have hl := (List.getElem?_eq_some_iff.1 hj).1
    rw [List.getElem?_set_self (by simpa using hl), List.getElem?_map, hj]
    rfl
  · rw [List.getElem?_set_ne q]
theorem sum_shp {os os' : List Ob} (h : os'.map shp = os.map shp) : zg os' = zg os ∧ je os' = je os := by
  induction os' generalizing os with
  | nil => cases os with
    | nil => exact ⟨rfl, rfl⟩
    | cons b u => cases h
  | cons a t ih => cases os with
    | nil => cases h
    | cons b u =>
      simp only [List.map_cons, List.cons.injEq] at h
      obtain ⟨e1, e2, e3⟩ := yg h.1
      obtain ⟨i1, i2⟩ := ih h.2
      simp only [zg, je, e1, e3, i1, i2, and_self]
theorem qga {os os' : List Ob} (h : os'.map Ob.x = os.map Ob.x) (x : Int) : (fO x os').isSome = (fO x os).isSome := by
  induction os' generalizing os with
  | nil => cases os with
    | nil => rfl
    | cons b u => cases h
  | cons a t ih => cases os with
    | nil => cases h
    | cons b u =>
      simp only [List.map_cons, List.cons.injEq] at h
      simp only [fO, h.1]
      split
      · rfl
      · exact ih h.2
theorem dj_shp {os os' : List Ob} (h : os'.map shp = os.map shp) (hd : Dj os) : Dj os' := by
  have h1 : (os.map shp).Pairwise fun a c => a.1 = true → c.1 = true → a.2.1 + a.2.2 ≤ c.2.1 ∨ c.2.1 + c.2.2 ≤ a.2.1 := by
    rw [List.pairwise_map]
    exact hd
  rw [← h, List.pairwise_map] at h1
  exact h1
theorem HP.put (h : HP ss ls last os gs gl) {j : Nat} {o : Ob} (hj : os[j]? = some o) (i : Nat) (c : Int × Bool) (hc : c.2 = true → c.1 = 0 ∨ (fO c.1 os).isSome = true) : HP ss ls last (os.set j (o.put i c)) gs gl := by
  have hs := shp_put hj i c
  have hxx := put_x hj i c
  obtain ⟨e1, e2⟩ := sum_shp hs
  have hom := List.mem_of_getElem? hj
  have each : ∀ q ∈ os.set j (o.put i c), q ∈ os ∨ q = o.put i c := fun q hq => by
    rcases List.mem_or_eq_of_mem_set hq with k | k
    · exact .inl k
    · exact .inr k
  refine ⟨⟨qhd hxx h.hx.rise, fun q hq => ?_, fun q hq => ?_⟩, fun q hq => ?_, by rw [e1]; exact h.sS, fun q hq hb => ?_, by rw [e1]; exact h.gsm, h.gp.same hs, dj_shp hs h.dj, fun q hq hb => ?_, by rw [e2]; exact h.sL, by rw [List.length_set]; exact h.gll, fun q hq z hz hk => ?_⟩
  · rcases each q hq with k | rfl
    · exact h.hx.lo q k
    · exact h.hx.lo o hom
  · rcases each q hq with k | rfl
    · exact h.hx.hi q k
    · exact h.hx.hi o hom
  · rcases each q hq with k | rfl
    · exact h.one q k
    · rw [qaa]; exact h.one o hom
  · rw [e1]
    obtain ⟨r, hr, e⟩ := km hs hq
    obtain ⟨a1, a2, a3⟩ := yg e
    have := h.low r hr (a1.trans hb)
    omega
  · obtain ⟨r, hr, e⟩ := km hs hq
    obtain ⟨a1, a2, a3⟩ := yg e
    have := h.en r hr (a1.trans hb)
    omega
  · rw [qga hxx]
    rcases each q hq with k | rfl
    · exact h.refs q k z hz hk
    · rcases List.mem_or_eq_of_mem_set hz with k | k
      · exact h.refs o hom z k hk
      · subst k; exact hc hk
theorem HP.coll (h : HP ss ls last os gs gl) {rs ws : List Int} {zs zl : List Ob} (hW : ∀ x, x ∈ ws ↔ Rc os rs x) (hz : zs.Perm ((mvD 0 (stay ws os)).filter (stP false))) (hbz : ByP zs) (hl : zl.Perm ((mvD 0 (stay ws os)).filter (stP true))) (hbl : ByP zl) : HP ss ls last (mvD 0 (stay ws os)) (qr ss zs) (qr ls zl) := by
  have hsub : (stay ws os).Sublist os := List.filter_sublist
  have hx1 := h.hx.sub hsub
  have h1 : ∀ o ∈ stay ws os, 1 ≤ o.ws.length := fun o ho => h.one o (hsub.subset ho)
  have h2 : ∀ o ∈ mvD 0 (stay ws os), 1 ≤ o.ws.length := fun o ho => by
    obtain ⟨q, hq, _, e⟩ := qbg 0 ho
    rw [e]
    exact h1 q hq
  have hss : zg (stay ws os) ≤ zg os := qbd hsub
  have hS : zg (mvD 0 (stay ws os)) = zg (stay ws os) := by
    have key : ∀ (L : List Ob) (q : Nat), zg (mvD q L) = zg L := by
      intro L
      induction L with
      | nil => intro q; rfl
      | cons a t ih =>
        intro q
        simp only [mvD]
        split
        · rename_i k; simp only [zg, k, if_true, ih]
        · rename_i k
          have e : big { a with p := q } = big a := rfl
          simp only [zg, e, if_neg k, ih]
    exact key _ 0
  have hlow : ∀ o ∈ mvD 0 (stay ws os), big o = false → o.p + o.ws.length ≤ zg (mvD 0 (stay ws os)) := fun o ho hb => by
    rcases yt _ 0 o ho with ⟨k, _⟩ | ⟨_, _, k⟩
    · rw [hb] at k; cases k
    · rw [hS]; omega
  have hdj : Dj (mvD 0 (stay ws os)) := by
    have key : ∀ (L : List Ob) (q : Nat), Dj L → Dj (mvD q L) := by
      intro L
      induction L with
      | nil => intro q _; exact .nil
      | cons a t ih =>
        intro q hd
        obtain ⟨d1, d2⟩ := List.pairwise_cons.1 hd
        simp only [mvD]
        split
        · refine List.pairwise_cons.2 ⟨fun c hc k1 k2 => ?_, ih q d2⟩
          rcases yt t q c hc with ⟨_, k⟩ | ⟨k, _⟩
          · exact d1 c k k1 k2
          · rw [k2] at k; cases k
        · rename_i k
          refine List.pairwise_cons.2 ⟨fun c hc k1 _ => absurd (show big a = true from k1) k, ih _ d2⟩
    exact key _ 0 (List.Pairwise.sublist hsub h.dj)
  have hen : ∀ o ∈ mvD 0 (stay ws os), big o = true → o.p + o.ws.length ≤ ls := fun o ho hb => by
    rcases yt _ 0 o ho with ⟨_, k⟩ | ⟨k, _⟩
    · exact h.en o (hsub.subset k) hb
    · rw [hb] at k; cases k
  obtain ⟨g1, g2⟩ := Gp.laid hl hbl hdj h2 hen
  have hsS := h.sS
  refine ⟨hx1.mvD 0, h2, by rw [hS]; omega, hlow, ?_, g1, hdj, hen, g2, ?_, fun o ho c hc hk => ?_⟩
  · rw [small_laid hz hbz h1, hS]
    unfold qy
    split
    · exact .inr rfl
    · exact .inl ⟨rfl, by omega⟩
  · have a1 := uy zl 0
    have a2 : zl.length ≤ (mvD 0 (stay ws os)).length := by rw [hl.length_eq]; exact List.length_filter_le _ _
    have a3 : (qy (vk 0 zl) ls).length ≤ 1 := by unfold qy; split <;> simp
    unfold qr
    rw [List.length_append]
    omega
  · obtain ⟨q, hq, e1, e2⟩ := qbg 0 ho
    obtain ⟨q1, q2⟩ := qkc.1 hq
    by_cases c0 : c.1 = 0
    · exact .inl c0
    · right
      have hcq : (c.1, true) ∈ q.ws := by rw [← e2, ← hk]; exact hc
      have hrc : Rc os rs c.1 := .ref ((hW _).1 q2) (h.hx.at q1) hcq c0
      have hin := (hW _).2 hrc
      rw [qga (mvD_x _ 0)]
      have hsome := (h.refs q q1 (c.1, true) hcq rfl).resolve_left c0
      obtain ⟨r, hr⟩ := Option.isSome_iff_exists.1 hsome
      obtain ⟨r1, r2⟩ := yd hr
      have hr3 : r ∈ stay ws os := qkc.2 ⟨r1, by rw [r2]; exact hin⟩
      have := hx1.at hr3
      rw [r2] at this
      rw [this]
      rfl
theorem qgb {w : World} : Calls Try.prog 4 #[] w fun e w' => e = .returned (.bool true) ∧ Below w.heap.size w w' := by
 have M : Mg w w ([]) := Mg.start w
 refine qp (l := []) Try.func4 rfl Try.ntmps4 rfl rfl ?_
 intro Q hret hnorm hP a A
 refine wsk fun K1 hK1 => wrl (sda A λa A↦?_)
 refine qb (hK1 _ _ (wsk fun K2 hK2 => wrl (sct A (ef rfl rfl) (new_any (s := 10) (l := 40) (by decide) (by decide)) ?_)))
 rintro _ w4 ⟨h, m, gs, gl, rfl, hM3⟩
 replace M : Mg w w4 (.obj h (.cells #[.map (some m), .int .i64 0, .int .i64 10, .slice (some ⟨gs, 0, none⟩) 1 1, .int .i64 40, .slice (some ⟨gl, 0, none⟩) 1 1] 63) :: .obj m (qc ([]) 0) :: .row 88 2 (.slice (some ⟨gs, 0, none⟩) 1 1) 1 (qa [(0, 10)]) :: .row 88 2 (.slice (some ⟨gl, 0, none⟩) 1 1) 1 (qa [(0, 40)]) :: []) := hM3
 refine ⟨_, rfl, ?_⟩
 intro a A
 refine sdm A λa A↦?_
 iterate 2 refine sdo A (qk (vs := [.pointer (some ⟨h, 0, none⟩), .int .i64 0]) rfl rfl) λa A↦?_
 iterate 2 refine sda A λa A↦?_
 refine qb (hK2 _ _ (wsk fun K5 hK5 => wsk fun K6 hK6 => wrl (sdm A λa A↦?_)))
 refine sdo (v := .bool false) A (qe rfl rfl (fun w => by kernel_rfl)) λa A↦?_
 iterate 2 refine sdm A λa A↦?_
 refine sdo (v := .bool false) A (qe rfl rfl (jn Try.underlying24)) λa A↦?_
 refine sdk (v := .bool false) A λa A↦?_
 refine qb (hK6 _ _ (wp_cond_false (A.ev rfl) ?_))
 refine wp_skip (hK5 _ _ (wsk fun K7 hK7 => wrl (sdm A λa A↦?_)))
 refine sct A (ef rfl rfl) (qci (n := 4) (i := 0) (p := 0) (s := 10) (last := 0) (ss := 10) (ls := 40) (gs := [(0, 10)]) (gl := [(0, 40)]) (os := []) (T := []) (by decide) rfl (by decide) rfl (by decide) rfl rfl (by decide) (by decide) M) ?_
 rintro _ w9 ⟨gr, rfl, hM8⟩
 replace M : Mg w w9 (.obj h (.cells #[.map (some m), .int .i64 1, .int .i64 10, .slice (some ⟨gs, 0, none⟩) 1 1, .int .i64 40, .slice (some ⟨gl, 0, none⟩) 1 1] 63) :: .obj m (qc ([⟨1, .agg #[.int .i64 0, .slice (some ⟨gr, 0, none⟩) 4 4], 0⟩]) 1) :: .row 88 2 (.slice (some ⟨gs, 0, none⟩) 1 1) 1 (qa [(4, 6)]) :: .row 88 2 (.slice (some ⟨gl, 0, none⟩) 1 1) 1 (qa [(0, 40)]) :: .row 32 2 (.slice (some ⟨gr, 0, none⟩) 4 4) 4 (za (List.replicate 4 (0, false))) :: []) := hM8
 refine ⟨_, rfl, ?_⟩
 intro a A
 refine sdm A λa A↦?_
 iterate 2 refine sdo A (qk (vs := [.int .i64 1, .int .i64 0]) rfl rfl) λa A↦?_
 iterate 2 refine sda A λa A↦?_
 refine qb (hK7 _ _ (wsk fun K10 hK10 => wrl (sdm A λa A↦?_)))
 refine sct A (ef rfl rfl) (uj (n := 7) (last := 1) (ss := 10) (ls := 40) (gs := [(4, 6)]) (gl := [(0, 40)]) (os := [⟨1, 0, gr, 4, List.replicate 4 (0, false)⟩]) (T := [.row 32 2 (.slice (some ⟨gr, 0, none⟩) 4 4) 4 (za (List.replicate 4 (0, false)))]) (by decide) rfl (by decide) rfl M) ?_
 rintro _ w12 ⟨rfl, hM11⟩
 replace M : Mg w w12 (.obj h (.cells #[.map (some m), .int .i64 1, .int .i64 10, .slice (some ⟨gs, 0, none⟩) 1 1, .int .i64 40, .slice (some ⟨gl, 0, none⟩) 1 1] 63) :: .obj m (qc ([⟨1, .agg #[.int .i64 0, .slice (some ⟨gr, 0, none⟩) 4 4], 0⟩]) 1) :: .row 88 2 (.slice (some ⟨gs, 0, none⟩) 1 1) 1 (qa [(4, 6)]) :: .row 88 2 (.slice (some ⟨gl, 0, none⟩) 1 1) 1 (qa [(0, 40)]) :: .row 32 2 (.slice (some ⟨gr, 0, none⟩) 4 4) 4 (za (List.replicate 4 (0, false))) :: []) := hM11
 refine ⟨_, rfl, ?_⟩
 intro a A
 refine sdm A λa A↦?_
 iterate 2 refine sdo A (qk (vs := [.int .i64 0, .int .i64 9]) rfl rfl) λa A↦?_
 iterate 2 refine sda A λa A↦?_
 refine qb (hK10 _ _ (wsk fun K13 hK13 => wrl (sdm A λa A↦?_)))
 refine sdo (v := .bool true) A (qe rfl rfl (fun w => by kernel_rfl)) λa A↦?_
 iterate 2 refine sdm A λa A↦?_
 refine sdo (v := .bool true) A (qe rfl rfl (fun w => by kernel_rfl)) λa A↦?_
 refine sdk (v := .bool true) A λa A↦?_
 iterate 2 refine sdm A λa A↦?_
 refine sdo (v := .bool true) A (qe rfl rfl (fun w => by kernel_rfl)) λa A↦?_
 refine sdk (v := .bool true) A λa A↦?_
 iterate 2 refine sdm A λa A↦?_
 refine sdo (v := .bool true) A (qe rfl rfl (fun w => by kernel_rfl)) λa A↦?_
 refine sdk (v := .bool true) A λa A↦?_
 refine sda A λa A↦?_
 refine qb (hK13 _ _ (wp_ret (hret _ _ (en1 A rfl (qi rfl) ?_))))
 exact ⟨rfl, M.bel⟩
structure Pst where
 m : Nat
 last : Nat
 sc : Nat
 lc : Nat
 sg : Option Addr
 lg : Option Addr
 gs : List (Nat × Nat)
 gl : List (Nat × Nat)
 os : List Ob
structure Dst where
 last : Nat
 so : Option Addr
 ca : Nat
 ds : List Ob
def Pst.head (P : Pst) (h ss ls : Nat) : List Ck := (.obj h (.cells #[.map (some P.m), .int .i64 (((P.last : Nat) : Int)), .int .i64 (((ss : Nat) : Int)), .slice P.sg P.gs.length P.sc, .int .i64 (((ls : Nat) : Int)), .slice P.lg P.gl.length P.lc] 63) :: .obj P.m (qc (P.os.map Ob.en) P.last) :: .row 88 2 (.slice P.sg P.gs.length P.sc) P.gs.length (qa P.gs) :: .row 88 2 (.slice P.lg P.gl.length P.lc) P.gl.length (qa P.gl) :: [])
def Pst.pcs (P : Pst) (h ss ls : Nat) : List Ck := P.head h ss ls ++ P.os.map Ob.row
def Dst.pcs (D : Dst) : List Ck := .row 73 3 (.slice D.so D.ds.length D.ca) D.ds.length (obD D.ds) :: D.ds.map Ob.row
structure OK (ss ls i : Nat) (P : Pst) (D : Dst) : Prop where
 hp : HP ss ls P.last P.os P.gs P.gl
 dl : D.last = P.last
 ke : Ke D.ds P.os
 hs : ss ≤ 65536
 hl : ls ≤ 65536
 la : P.last ≤ i
 il : i ≤ 4611686018427387904
section
variable {w0 w : World} {h ss ls i : Nat} {P : Pst} {D : Dst} {E X : List Ck}
theorem OK.up (k : OK ss ls i P D) (h : i + 1 ≤ 4611686018427387904) : OK ss ls (i + 1) P D := ⟨k.hp, k.dl, k.ke, k.hs, k.hl, Nat.le_succ_of_le k.la, h⟩
theorem ka (P : Pst) (h ss ls : Nat) (E Y : List Ck) : (E ++ (P.pcs h ss ls ++ Y)).Perm (P.head h ss ls ++ (P.os.map Ob.row ++ (Y ++ E))) := by
 refine List.perm_append_comm.trans ?_
 rw [Pst.pcs, List.append_assoc, List.append_assoc]
theorem toP (M : Mg w0 w (E ++ (P.pcs h ss ls ++ (D.pcs ++ X)))) : Mg w0 w (P.head h ss ls ++ (P.os.map Ob.row ++ ((D.pcs ++ X) ++ E))) := M.perm (ka P h ss ls E (D.pcs ++ X))
theorem ofP (M : Mg w0 w (P.head h ss ls ++ (P.os.map Ob.row ++ ((D.pcs ++ X) ++ E)))) : Mg w0 w (E ++ (P.pcs h ss ls ++ (D.pcs ++ X))) := M.perm (ka P h ss ls E (D.pcs ++ X)).symm
theorem jz (M : Mg w0 w (E ++ (P.pcs h ss ls ++ (D.pcs ++ X)))) : RO w D.so D.ds := by
 refine ⟨vi (B := w0.heap.size) (e := 73) (sz := 3) (n := D.ds.length) (cap := D.ca) ?_, fun d hd => vi (B := w0.heap.size) (e := 32) (sz := 2) (n := d.ws.length) (cap := d.c) ?_⟩
 ·
  exact M.all (.row 73 3 (.slice D.so D.ds.length D.ca) D.ds.length (obD D.ds)) (by simp [Dst.pcs])
 ·
  exact M.all d.row (by simp only [Dst.pcs, List.mem_append, List.mem_cons, List.mem_map]; exact .inr (.inr (.inl (.inr ⟨d, hd, rfl⟩))))
theorem nob_P (P : Pst) (h ss ls : Nat) : zu (P.pcs h ss ls) := by
 intro d hd
 simp only [Pst.pcs, Pst.head, List.mem_append, List.mem_cons, List.mem_map, List.not_mem_nil, or_false] at hd
 rcases hd with (rfl | rfl | rfl | rfl) | ⟨o, _, rfl⟩ <;> (intro b bs e; cases e)
theorem nob_D (D : Dst) : zu D.pcs := by
 intro d hd
 simp only [Dst.pcs, List.mem_cons, List.mem_map] at hd
 rcases hd with rfl | ⟨o, _, rfl⟩ <;> (intro b bs e; cases e)
theorem yw {A B : List Ck} (a : zu A) (b : zu B) : zu (A ++ B) := fun d hd => (List.mem_append.1 hd).elim (a d) (b d)
theorem yx (hE : zu E) (hX : zu X) : zu (E ++ (P.pcs h ss ls ++ (D.pcs ++ X))) := yw hE (yw (nob_P P h ss ls) (yw (nob_D D) hX))
theorem nob_tail (hE : zu E) (hX : zu X) : zu (P.os.map Ob.row ++ ((D.pcs ++ X) ++ E)) := nob_rows (yw (yw (nob_D D) hX) hE) P.os
theorem keepD {N A S : List Ck} {ro : Ck} {ds : List Ob} {D' : Dst} (M : Mg w0 w (N ++ (E ++ (A ++ ((ro :: ds.map Ob.row) ++ X))))) (V : S.Sublist (ds.map Ob.row)) (hp : (N ++ S).Perm D'.pcs) : Mg w0 w (E ++ (A ++ (D'.pcs ++ X))) := by
 have h1 : Mg w0 w (N ++ (E ++ (A ++ (S ++ X)))) := M.sub ((List.Sublist.refl N).append ((List.Sublist.refl E).append ((List.Sublist.refl A).append ((V.cons ro).append (List.Sublist.refl X)))))
 refine h1.perm ?_
 have h2 : (N ++ (E ++ (A ++ (S ++ X)))).Perm (E ++ (A ++ ((N ++ S) ++ X))) := by
  refine (List.perm_append_comm_assoc N E _).trans (List.Perm.append_left E ?_)
  refine (List.perm_append_comm_assoc N A _).trans (List.Perm.append_left A ?_)
  rw [List.append_assoc]
 exact h2.trans (List.Perm.append_left E (List.Perm.append_left A (hp.append_right X)))
theorem OK.len (k : OK ss ls i P D) : P.os.length ≤ 131072 ∧ D.ds.length ≤ 131072 := by
 have := k.hp.len
 have := k.hs
 have := k.hl
 have := k.ke.len
 omega
theorem OK.hol (k : OK ss ls i P D) : D.ds.length ≤ 1000000 := by have := k.len; omega
theorem OK.hq (k : OK ss ls i P D) : ∀ d ∈ D.ds, d.p + d.ws.length ≤ 1000000 := fun d hd => by
 obtain ⟨q, hq, e⟩ := km k.ke.shp hd
 obtain ⟨_, a2, a3⟩ := yg e
 have := k.hp.pp q hq
 have := k.hp.cl q hq
 have := k.hs
 have := k.hl
 omega
theorem OK.sums (k : OK ss ls i P D) : zg D.ds = zg P.os ∧ je D.ds = je P.os ∧ zg P.os ≤ ss ∧ je P.os ≤ ls ∧ jc P.gs = ss - zg P.os ∧ jc P.gl + je P.os = ls ∧ P.gs.length ≤ 1 ∧ P.gl.length ≤ 131073 := by
 obtain ⟨a1, a2, _⟩ := k.ke.sums
 obtain ⟨b1, b2⟩ := k.hp.sumgs
 have := k.hp.sS
 have := k.hp.sL
 have := k.hp.gll
 have := k.len
 exact ⟨a1, a2, by omega, by omega, b1, by omega, b2, by omega⟩
/-! Free and Live -/
theorem p_free (k : OK ss ls i P D) (M : Mg w0 w (E ++ (P.pcs h ss ls ++ (D.pcs ++ X)))) : Calls Try.prog 18 #[.pointer (some ⟨h, 0, none⟩)] w fun e w' => e = .returned (.tuple #[.int .i64 ((jc P.gs : Nat) : Int), .int .i64 ((jc P.gl : Nat) : Int)]) ∧ Mg w0 w' (E ++ (P.pcs h ss ls ++ (D.pcs ++ X))) := by
 obtain ⟨_, _, _, _, s1, s2, s3, s4⟩ := k.sums
 have := k.hs
 have := k.hl
 refine (free_any (ss := ss) (ls := ls) (by omega) (by omega) (by omega) (by omega) (toP M)).mono ?_
 rintro e w' ⟨rfl, h1⟩
 exact ⟨rfl, ofP h1⟩
theorem d_free (k : OK ss ls i P D) (M : Mg w0 w (E ++ (P.pcs h ss ls ++ (D.pcs ++ X)))) : Calls Try.prog 19 #[.agg #[.int .i64 ((ss : Nat) : Int), .int .i64 ((ls : Nat) : Int), .int .i64 ((D.last : Nat) : Int), .slice D.so D.ds.length D.ca]] w fun e w' => e = .returned (.tuple #[.int .i64 ((jc P.gs : Nat) : Int), .int .i64 ((jc P.gl : Nat) : Int)]) ∧ Mg w0 w' (E ++ (P.pcs h ss ls ++ (D.pcs ++ X))) := by
 obtain ⟨e1, e2, s1, s2, s3, s4, _, _⟩ := k.sums
 have := k.hs
 have := k.hl
 refine (rfreeA (jz M) k.hol k.hq (by omega) (by omega) (by omega) (by omega)).mono ?_
 rintro e w' ⟨rfl, h1⟩
 refine ⟨?_, M.call h1⟩
 rw [show ((ss : Nat) : Int) - ((zg D.ds : Nat) : Int) = ((jc P.gs : Nat) : Int) by omega, show ((ls : Nat) : Int) - ((je D.ds : Nat) : Int) = ((jc P.gl : Nat) : Int) by omega]
theorem p_live (k : OK ss ls i P D) (hE : zu E) (hX : zu X) (M : Mg w0 w (E ++ (P.pcs h ss ls ++ (D.pcs ++ X)))) : Calls Try.prog 21 #[.pointer (some ⟨h, 0, none⟩)] w fun e w' => ∃ so' ca', e = .returned (.slice so' (hxs P.os).length ca') ∧ Mg w0 w' (.row 3 1 (.slice so' (hxs P.os).length ca') (hxs P.os).length (qg (hxs P.os)) :: (E ++ (P.pcs h ss ls ++ (D.pcs ++ X)))) := by
 refine (live_any k.hp.hx (by have := k.len; omega) (nob_tail hE hX) (toP M)).mono ?_
 rintro e w' ⟨so', ca', rfl, h1⟩
 refine ⟨so', ca', rfl, h1.perm ?_⟩
 refine List.Perm.trans ?_ (List.Perm.cons _ (ka P h ss ls E (D.pcs ++ X)).symm)
 exact List.perm_middle (l₁ := P.head h ss ls)
theorem d_live (k : OK ss ls i P D) (hE : zu E) (hX : zu X) (M : Mg w0 w (E ++ (P.pcs h ss ls ++ (D.pcs ++ X)))) : Calls Try.prog 22 #[.agg #[.int .i64 ((ss : Nat) : Int), .int .i64 ((ls : Nat) : Int), .int .i64 ((D.last : Nat) : Int), .slice D.so D.ds.length D.ca]] w fun e w' => ∃ so' ca', e = .returned (.slice so' (hxs P.os).length ca') ∧ Mg w0 w' (.row 3 1 (.slice so' (hxs P.os).length ca') (hxs P.os).length (qg (hxs P.os)) :: (E ++ (P.pcs h ss ls ++ (D.pcs ++ X)))) := by
 refine (rlive_any (jz M) k.hol k.hq).mono ?_
 rw [k.ke.hxs]
 rintro e w' ⟨so', ca', rfl, h1⟩
 exact ⟨so', ca', rfl, M.both h1 (yx hE hX) (qj (by simp) js)⟩
/-! Size, Place, Get -/
def szS (x : Int) (os : List Ob) : Int × Int := match fO x os with | some o => (((o.ws.length : Nat) : Int), 0) | none => (0, 7)
def poS (x : Int) (os : List Ob) : Int × Int := match fO x os with | some o => (((o.p : Nat) : Int), 0) | none => (0, 7)
def inB (o : Ob) (i : Int) : Bool := decide (0 ≤ i) && decide (i < ((o.ws.length : Nat) : Int))
def gtS (x i : Int) (os : List Ob) : (Int × Bool) × Int := match fO x os with | none => ((0, false), 7) | some o => if inB o i = true then (o.ws.getD i.toNat (0, false), 0) else ((0, false), 1)
theorem kb {x : Int} {o : Ob} (k : Ke D.ds P.os) (hx : fO x P.os = some o) : ∃ (j : Nat) (d : Ob), ixO x D.ds = ((j : Nat) : Int) ∧ ixO x P.os = ((j : Nat) : Int) ∧ D.ds[j]? = some d ∧ P.os[j]? = some o ∧ key d = key o := by
 rcases qcb x P.os with ⟨j, q, e1, e2, _, e4⟩ | ⟨_, e⟩
 ·
  rw [hx] at e4
  obtain rfl := Option.some.inj e4
  obtain ⟨d, hd, e⟩ := k.symm.get e2
  exact ⟨j, d, by rw [k.ix, e1], e1, hd, e2, e⟩
 ·
  rw [hx] at e; cases e
theorem kv {x : Int} (k : Ke D.ds P.os) (hx : fO x P.os = none) : ixO x D.ds = -1 := by
 rw [k.ix]
 rcases qcb x P.os with ⟨j, q, e1, e2, _, e4⟩ | ⟨e, _⟩
 ·
  rw [hx] at e4; cases e4
 ·
  exact e
theorem p_size (M : Mg w0 w (E ++ (P.pcs h ss ls ++ (D.pcs ++ X)))) (x : Int) : Calls Try.prog 14 #[.pointer (some ⟨h, 0, none⟩), .int .i64 x] w fun e w' => e = .returned (.tuple #[.int .i64 (szS x P.os).1, .int .i64 (szS x P.os).2]) ∧ Mg w0 w' (E ++ (P.pcs h ss ls ++ (D.pcs ++ X))) := by
 unfold szS
 cases hx : fO x P.os with
 | some o => exact (size_hit hx (toP M)).mono fun e w' h1 => ⟨h1.1, ofP h1.2⟩
 | none => exact (size_miss hx (toP M)).mono fun e w' h1 => ⟨h1.1, ofP h1.2⟩
theorem d_size (k : OK ss ls i P D) (M : Mg w0 w (E ++ (P.pcs h ss ls ++ (D.pcs ++ X)))) (x : Int) : Calls Try.prog 15 #[.agg #[.int .i64 ((ss : Nat) : Int), .int .i64 ((ls : Nat) : Int), .int .i64 ((D.last : Nat) : Int), .slice D.so D.ds.length D.ca], .int .i64 x] w fun e w' => e = .returned (.tuple #[.int .i64 (szS x P.os).1, .int .i64 (szS x P.os).2]) ∧ Mg w0 w' (E ++ (P.pcs h ss ls ++ (D.pcs ++ X))) := by
 unfold szS
 cases hx : fO x P.os with
 | some o =>
  obtain ⟨j, d, e1, _, hd, _, ek⟩ := kb k.ke hx
  refine (rsize_hit (jz M) k.hol k.hq e1 hd).mono fun e w' h1 => ⟨?_, M.call h1.2⟩
  rw [h1.1, (jj ek).2.2]
 | none => exact (rsize_miss (jz M) k.hol k.hq (kv k.ke hx)).mono fun e w' h1 => ⟨h1.1, M.call h1.2⟩
theorem p_place (M : Mg w0 w (E ++ (P.pcs h ss ls ++ (D.pcs ++ X)))) (x : Int) : Calls Try.prog 16 #[.pointer (some ⟨h, 0, none⟩), .int .i64 x] w fun e w' => e = .returned (.tuple #[.int .i64 (poS x P.os).1, .int .i64 (poS x P.os).2]) ∧ Mg w0 w' (E ++ (P.pcs h ss ls ++ (D.pcs ++ X))) := by
 unfold poS
 cases hx : fO x P.os with
 | some o => exact (place_hit hx (toP M)).mono fun e w' h1 => ⟨h1.1, ofP h1.2⟩
 | none => exact (place_miss hx (toP M)).mono fun e w' h1 => ⟨h1.1, ofP h1.2⟩
theorem d_place (k : OK ss ls i P D) (M : Mg w0 w (E ++ (P.pcs h ss ls ++ (D.pcs ++ X)))) (x : Int) : Calls Try.prog 17 #[.agg #[.int .i64 ((ss : Nat) : Int), .int .i64 ((ls : Nat) : Int), .int .i64 ((D.last : Nat) : Int), .slice D.so D.ds.length D.ca], .int .i64 x] w fun e w' => e = .returned (.tuple #[.int .i64 (poS x P.os).1, .int .i64 (poS x P.os).2]) ∧ Mg w0 w' (E ++ (P.pcs h ss ls ++ (D.pcs ++ X))) := by
 unfold poS
 cases hx : fO x P.os with
 | some o =>
  obtain ⟨j, d, e1, _, hd, _, ek⟩ := kb k.ke hx
  refine (rplc_hit (jz M) k.hol k.hq e1 hd).mono fun e w' h1 => ⟨?_, M.call h1.2⟩
  rw [h1.1, (jj ek).2.1]
 | none => exact (rplc_miss (jz M) k.hol k.hq (kv k.ke hx)).mono fun e w' h1 => ⟨h1.1, M.call h1.2⟩
theorem in_at {o : Ob} {z : Int} (h : inB o z = true) : ∃ j : Nat, z = ((j : Nat) : Int) ∧ j < o.ws.length ∧ o.ws[j]? = some (o.ws.getD z.toNat (0, false)) := by
 simp only [inB, Bool.and_eq_true, decide_eq_true_eq] at h
 refine ⟨z.toNat, by omega, by omega, ?_⟩
 rw [List.getD_eq_getElem?_getD, List.getElem?_eq_getElem (show z.toNat < o.ws.length by omega)]
 rfl
theorem in_out {o : Ob} {z : Int} (h : inB o z = false) : z < 0 ∨ ((o.ws.length : Nat) : Int) ≤ z := by
 simp only [inB, Bool.and_eq_false_iff, decide_eq_false_iff_not] at h
 omega
theorem in_key {o d : Ob} (e : key d = key o) (z : Int) : inB d z = inB o z := by unfold inB; rw [(jj e).2.2]
theorem p_get (M : Mg w0 w (E ++ (P.pcs h ss ls ++ (D.pcs ++ X)))) (x z : Int) : Calls Try.prog 8 #[.pointer (some ⟨h, 0, none⟩), .int .i64 x, .int .i64 z] w fun e w' => e = .returned (.tuple #[.agg #[.int .i64 (gtS x z P.os).1.1, .bool (gtS x z P.os).1.2], .int .i64 (gtS x z P.os).2]) ∧ Mg w0 w' (E ++ (P.pcs h ss ls ++ (D.pcs ++ X))) := by
 unfold gtS
 cases hx : fO x P.os with
 | none => exact (get_miss hx (toP M)).mono fun e w' h1 => ⟨h1.1, ofP h1.2⟩
 | some o =>
  dsimp only
  split
  ·
   rename_i hi
   obtain ⟨j, e1, hj, hc⟩ := in_at hi
   exact (get_hit hx e1 hc (toP M)).mono fun e w' h1 => ⟨h1.1, ofP h1.2⟩
  ·
   rename_i hi
   exact (get_out hx (Bool.eq_false_iff.2 hi) (toP M)).mono fun e w' h1 => ⟨h1.1, ofP h1.2⟩
theorem d_get (k : OK ss ls i P D) (M : Mg w0 w (E ++ (P.pcs h ss ls ++ (D.pcs ++ X)))) (x z : Int) : Calls Try.prog 9 #[.agg #[.int .i64 ((ss : Nat) : Int), .int .i64 ((ls : Nat) : Int), .int .i64 ((D.last : Nat) : Int), .slice D.so D.ds.length D.ca], .int .i64 x, .int .i64 z] w fun e w' => e = .returned (.tuple #[.agg #[.int .i64 (gtS x z P.os).1.1, .bool (gtS x z P.os).1.2], .int .i64 (gtS x z P.os).2]) ∧ Mg w0 w' (E ++ (P.pcs h ss ls ++ (D.pcs ++ X))) := by
 unfold gtS
 cases hx : fO x P.os with
 | none => exact (ud (jz M) k.hol k.hq (kv k.ke hx)).mono fun e w' h1 => ⟨h1.1, M.call h1.2⟩
 | some o =>
  obtain ⟨j', d, e1, _, hd, _, ek⟩ := kb k.ke hx
  dsimp only
  split
  ·
   rename_i hi
   obtain ⟨j, e2, hj, hc⟩ := in_at hi
   exact (yv (jz M) k.hol k.hq e1 hd e2 (by rw [(jj ek).2.2]; exact hc)).mono fun e w' h1 => ⟨h1.1, M.call h1.2⟩
  ·
   rename_i hi
   exact (qce (jz M) k.hol k.hq e1 hd (by rw [(jj ek).2.2]; exact in_out (Bool.eq_false_iff.2 hi))).mono fun e w' h1 => ⟨h1.1, M.call h1.2⟩
end
section
variable {w0 w : World} {h ss ls i : Nat} {P : Pst} {D : Dst} {E X : List Ck}
/-! Alloc -/
def AlR (ss ls : Nat) (P : Pst) (D : Dst) (n a er : Int) (P' : Pst) : Prop :=
 (n < 1 ∧ a = 0 ∧ er = 1 ∧ P' = P) ∨
 (∃ m : Nat, n = ((m : Nat) : Int) ∧ 1 ≤ m ∧ PlS ss ls D.ds m (-1) ∧ a = 0 ∧ er = 9 ∧ P' = P) ∨
 (∃ m p g : Nat, n = ((m : Nat) : Int) ∧ 1 ≤ m ∧ m ≤ 65536 ∧ PlS ss ls D.ds m ((p : Nat) : Int) ∧ a = ((P.last + 1 : Nat) : Int) ∧ er = 0 ∧ P'.last = P.last + 1 ∧ P'.os = P.os ++ [nOb P.last p g m] ∧ HP ss ls (P.last + 1) P'.os P'.gs P'.gl)
theorem OK.gpD (k : OK ss ls i P D) : Gp true ls D.ds P.gl := k.hp.gp.same k.ke.shp
theorem OK.top (k : OK ss ls i P D) (n : Nat) : frS false (zg D.ds) n ss D.ds = decide (zg P.os + n ≤ ss) := by
 rw [fr_shp k.ke.shp, k.sums.1]
 exact fr_top k.hp
theorem p_alloc (k : OK ss ls i P D) (M : Mg w0 w (E ++ (P.pcs h ss ls ++ (D.pcs ++ X)))) (n : Int) : Calls Try.prog 6 #[.pointer (some ⟨h, 0, none⟩), .int .i64 n] w fun e w' => ∃ a er P', e = .returned (.tuple #[.int .i64 a, .int .i64 er]) ∧ AlR ss ls P D n a er P' ∧ Mg w0 w' (E ++ (P'.pcs h ss ls ++ (D.pcs ++ X))) := by
 obtain ⟨_, _, sS, sL, s3, s4, s5, s6⟩ := k.sums
 have hs := k.hs
 have hl := k.hl
 have hla : P.last ≤ 4611686018427387904 := Nat.le_trans k.la k.il
 by_cases hn : n < 1
 ·
  refine (alloc_bad (decide_eq_true hn)).mono ?_
  rintro e w' ⟨rfl, h1⟩
  exact ⟨_, _, P, rfl, .inl ⟨hn, rfl, rfl, rfl⟩, M.call h1⟩
 ·
  obtain ⟨m, rfl⟩ : ∃ m : Nat, n = ((m : Nat) : Int) := ⟨n.toNat, by omega⟩
  have h1 : 1 ≤ m := by omega
  cases hb : decide (16 < ((m : Nat) : Int)) with
  | false =>
   cases hi : jp m P.gs with
   | none =>
    refine (uj h1 hb (by omega) hi (toP M)).mono ?_
    rintro e w' ⟨rfl, h2⟩
    refine ⟨_, _, P, rfl, .inr (.inl ⟨m, rfl, h1, .inr (.inl ⟨hb, ?_, rfl⟩), rfl, rfl, rfl⟩), ofP h2⟩
    rw [k.top]
    exact decide_eq_false (k.hp.noS h1 hi)
   | some j =>
    obtain ⟨p, s, hat, hns⟩ := qgg hi
    obtain ⟨_, ep, es, _⟩ := k.hp.topS hi hat
    refine (allocS_ok h1 hb hla k.hp.hx (by omega) hi hat hns (by omega) (toP M)).mono ?_
    rintro e w' ⟨g, rfl, h2⟩
    refine ⟨_, _, ⟨P.m, P.last + 1, P.sc, P.lc, P.sg, P.lg, P.gs.set j (p + m, s - m), P.gl, P.os ++ [nOb P.last p g m]⟩, rfl, .inr (.inr ⟨m, p, g, rfl, h1, by omega, .inl ⟨hb, ?_, ?_⟩, rfl, rfl, rfl, rfl, k.hp.allocS h1 hb hi hat hns g⟩), ofP h2⟩
    ·
     rw [k.top]
     exact decide_eq_true (by omega)
    ·
     rw [ep, k.sums.1]
  | true =>
   cases hi : jp m P.gl with
   | none =>
    obtain ⟨q1, q2⟩ := spot_miss k.gpD h1 hi
    refine (qkj h1 hb (by omega) hi (toP M)).mono ?_
    rintro e w' ⟨rfl, h2⟩
    exact ⟨_, _, P, rfl, .inr (.inl ⟨m, rfl, h1, .inr (.inr (.inr ⟨hb, q1, q2⟩)), rfl, rfl, rfl⟩), ofP h2⟩
   | some j =>
    obtain ⟨p, s, hat, hns⟩ := qgg hi
    have hin := k.hp.gp.inn _ (List.mem_of_getElem? hat)
    dsimp only at hin
    obtain ⟨q1, q2⟩ := spot_hit k.gpD h1 hi hat hns
    refine (allocL_ok h1 hb hla k.hp.hx (by omega) hi hat hns (by omega) (toP M)).mono ?_
    rintro e w' ⟨g, rfl, h2⟩
    refine ⟨_, _, ⟨P.m, P.last + 1, P.sc, P.lc, P.sg, P.lg, P.gs, P.gl.set j (p + m, s - m), P.os ++ [nOb P.last p g m]⟩, rfl, .inr (.inr ⟨m, p, g, rfl, h1, by omega, ?_, rfl, rfl, rfl, rfl, k.hp.allocL h1 hb hi hat hns g⟩), ofP h2⟩
    cases hf : frS true 0 m ls D.ds with
    | true => exact .inr (.inr (.inl ⟨hb, hf, by rw [q1 hf]; rfl⟩))
    | false => exact .inr (.inr (.inr ⟨hb, hf, q2 hf⟩))
theorem d_alloc {P' : Pst} {n a er : Int} (k : OK ss ls i P D) (hi : i + 1 ≤ 4611686018427387904) (hR : AlR ss ls P D n a er P') (hE : zu E) (hX : zu X) (M : Mg w0 w (E ++ (P'.pcs h ss ls ++ (D.pcs ++ X)))) : Calls Try.prog 7 #[.agg #[.int .i64 ((ss : Nat) : Int), .int .i64 ((ls : Nat) : Int), .int .i64 ((D.last : Nat) : Int), .slice D.so D.ds.length D.ca], .int .i64 n] w fun e w' => ∃ D' : Dst, e = .returned (.tuple #[.int .i64 a, .int .i64 er, .agg #[.int .i64 ((ss : Nat) : Int), .int .i64 ((ls : Nat) : Int), .int .i64 ((D'.last : Nat) : Int), .slice D'.so D'.ds.length D'.ca]]) ∧ OK ss ls (i + 1) P' D' ∧ Mg w0 w' (E ++ (P'.pcs h ss ls ++ (D'.pcs ++ X))) := by
 obtain ⟨e1, _, sS, _, _, _, _, _⟩ := k.sums
 have hs := k.hs
 have hl := k.hl
 have hla : P.last ≤ 4611686018427387904 := Nat.le_trans k.la k.il
 rcases hR with ⟨hn, rfl, rfl, rfl⟩ | ⟨m, rfl, h1, hP, rfl, rfl, rfl⟩ | ⟨m, p, g, rfl, h1, hm, hP, rfl, rfl, l1, o1, hp⟩
 ·
  refine (ralloc_bad (jz M) k.hol k.hq hn).mono ?_
  rintro e w' ⟨rfl, h2⟩
  exact ⟨D, rfl, k.up hi, M.call h2⟩
 ·
  by_cases hm : m ≤ 65536
  ·
   refine (qkg (jz M) k.hol k.hq (by omega) h1 hm (by omega) (by omega) hP).mono ?_
   rintro e w' ⟨rfl, h2⟩
   exact ⟨D, rfl, k.up hi, M.call h2⟩
  ·
   refine (qkf (jz M) k.hol k.hq (by omega)).mono ?_
   rintro e w' ⟨rfl, h2⟩
   exact ⟨D, rfl, k.up hi, M.call h2⟩
 ·
  refine (ralloc_ok (last := D.last) (jz M) k.hol k.hq (by omega) h1 hm (by omega) (by omega) (by rw [k.dl]; exact hla) hP).mono ?_
  rintro e w' ⟨so', ca', g', rfl, h2⟩
  have hlen : (D.ds ++ [nOb D.last p g' m]).length = D.ds.length + 1 := by simp
  refine ⟨⟨D.last + 1, so', ca', D.ds ++ [nOb D.last p g' m]⟩, ?_, ⟨by rw [l1]; exact hp, by rw [l1]; show D.last + 1 = _; rw [k.dl], ?_, hs, hl, by rw [l1]; have := k.la; omega, hi⟩, ?_⟩
  ·
   dsimp only
   rw [hlen, k.dl]
  ·
   rw [o1]
   exact k.ke.app (by rw [k.dl]; rfl)
  ·
   refine keepD (M.both h2 (yx hE hX) (qj (by simp) (qj (by simp) js))) (List.Sublist.refl _) ?_
   show List.Perm _ (.row 73 3 (.slice so' (D.ds ++ [nOb D.last p g' m]).length ca') (D.ds ++ [nOb D.last p g' m]).length (obD (D.ds ++ [nOb D.last p g' m])) :: (D.ds ++ [nOb D.last p g' m]).map Ob.row)
   rw [hlen, List.map_append, List.map_cons, List.map_nil, show (nOb D.last p g' m).row = .row 32 2 (.slice (some ⟨g', 0, none⟩) m m) m (za (List.replicate m (0, false))) from by simp [Ob.row, Ob.sl, nOb]]
   exact List.Perm.cons _ (List.perm_append_comm (l₁ := [_]))
/-! Set -/
def StR (P : Pst) (x z c1 : Int) (c2 : Bool) (er : Int) (P' : Pst) : Prop :=
 (fO x P.os = none ∧ er = 7 ∧ P' = P) ∨
 (∃ o, fO x P.os = some o ∧ inB o z = false ∧ er = 1 ∧ P' = P) ∨
 (∃ o, fO x P.os = some o ∧ inB o z = true ∧ c2 = true ∧ c1 ≠ 0 ∧ fO c1 P.os = none ∧ er = 1 ∧ P' = P) ∨
 (∃ (o : Ob) (jo : Nat), fO x P.os = some o ∧ inB o z = true ∧ ixO x P.os = ((jo : Nat) : Int) ∧ P.os[jo]? = some o ∧ (c2 = true → c1 = 0 ∨ (fO c1 P.os).isSome = true) ∧ er = 0 ∧ P' = { P with os := P.os.set jo (o.put z.toNat (c1, c2)) })
theorem p_set (k : OK ss ls i P D) (M : Mg w0 w (E ++ (P.pcs h ss ls ++ (D.pcs ++ X)))) (x z c1 : Int) (c2 : Bool) : Calls Try.prog 10 #[.pointer (some ⟨h, 0, none⟩), .int .i64 x, .int .i64 z, .agg #[.int .i64 c1, .bool c2]] w fun e w' => ∃ er P', e = .returned (.int .i64 er) ∧ StR P x z c1 c2 er P' ∧ Mg w0 w' (E ++ (P'.pcs h ss ls ++ (D.pcs ++ X))) := by
 cases hx : fO x P.os with
 | none =>
  refine (set_miss hx (toP M)).mono ?_
  rintro e w' ⟨rfl, h2⟩
  exact ⟨_, P, rfl, .inl ⟨hx, rfl, rfl⟩, ofP h2⟩
 | some o =>
  cases hb : inB o z with
  | false =>
   refine (set_out hx hb (toP M)).mono ?_
   rintro e w' ⟨rfl, h2⟩
   exact ⟨_, P, rfl, .inr (.inl ⟨o, hx, hb, rfl, rfl⟩), ofP h2⟩
  | true =>
   obtain ⟨j, e1, hj, hc⟩ := in_at hb
   obtain ⟨jo, d, _, e2, _, ho, _⟩ := kb k.ke hx
   by_cases hbad : c2 = true ∧ (c1 == 0 || (fO c1 P.os).isSome) = false
   ·
    obtain ⟨rfl, hb2⟩ := hbad
    refine (set_ref hx hb hb2 (toP M)).mono ?_
    rintro e w' ⟨rfl, h2⟩
    rw [Bool.or_eq_false_iff] at hb2
    exact ⟨_, P, rfl, .inr (.inr (.inl ⟨o, hx, hb, rfl, ne_of_beq_false hb2.1, Option.not_isSome_iff_eq_none.1 (by rw [hb2.2]; decide), rfl, rfl⟩)), ofP h2⟩
   ·
    have hok : c2 = true → (c1 == 0 || (fO c1 P.os).isSome) = true := fun hc2 => by
     cases hq : (c1 == 0 || (fO c1 P.os).isSome) with
     | true => rfl
     | false => exact (hbad ⟨hc2, hq⟩).elim
    refine (set_any hx ho e1 hj hok (toP M)).mono ?_
    rintro e w' ⟨rfl, h2⟩
    refine ⟨_, { P with os := P.os.set jo (o.put z.toNat (c1, c2)) }, rfl, .inr (.inr (.inr ⟨o, jo, hx, hb, e2, ho, fun hc2 => ?_, rfl, rfl⟩)), ?_⟩
    ·
     have := hok hc2
     rw [Bool.or_eq_true] at this
     exact this.imp (fun q => eq_of_beq q) id
    ·
     rw [show z.toNat = j by omega]
     exact ofP (P := { P with os := P.os.set jo (o.put j (c1, c2)) }) h2
theorem set_perm : ∀ {ds : List Ob} {j : Nat} {d : Ob} (d' : Ob), ds[j]? = some d → ((ds.set j d').map Ob.row).Perm (d'.row :: (ds.eraseIdx j).map Ob.row)
 | [], _, _, _, h => by simp at h
 | a :: t, 0, d, d', h => by simp
 | a :: t, j + 1, d, d', h => by
  simp only [List.set_cons_succ, List.map_cons, List.eraseIdx_cons_succ]
  exact (List.Perm.cons _ (set_perm d' (by simpa using h))).trans (List.Perm.swap _ _ _)
theorem d_set {P' : Pst} {x z c1 er : Int} {c2 : Bool} (k : OK ss ls i P D) (hi : i + 1 ≤ 4611686018427387904) (hR : StR P x z c1 c2 er P') (hE : zu E) (hX : zu X) (M : Mg w0 w (E ++ (P'.pcs h ss ls ++ (D.pcs ++ X)))) : Calls Try.prog 11 #[.agg #[.int .i64 ((ss : Nat) : Int), .int .i64 ((ls : Nat) : Int), .int .i64 ((D.last : Nat) : Int), .slice D.so D.ds.length D.ca], .int .i64 x, .int .i64 z, .agg #[.int .i64 c1, .bool c2]] w fun e w' => ∃ D' : Dst, e = .returned (.tuple #[.int .i64 er, .agg #[.int .i64 ((ss : Nat) : Int), .int .i64 ((ls : Nat) : Int), .int .i64 ((D'.last : Nat) : Int), .slice D'.so D'.ds.length D'.ca]]) ∧ OK ss ls (i + 1) P' D' ∧ Mg w0 w' (E ++ (P'.pcs h ss ls ++ (D'.pcs ++ X))) := by
 rcases hR with ⟨hx, rfl, rfl⟩ | ⟨o, hx, hb, rfl, rfl⟩ | ⟨o, hx, hb, rfl, h0, hr, rfl, rfl⟩ | ⟨o, jo, hx, hb, hix, ho, hc, rfl, rfl⟩
 ·
  have hm := kv k.ke hx
  cases c2 with
  | true => exact (qcg (jz M) k.hol k.hq hm).mono fun e w' h2 => ⟨D, h2.1, k.up hi, M.call h2.2⟩
  | false => exact (ur (jz M) k.hol k.hq hm).mono fun e w' h2 => ⟨D, h2.1, k.up hi, M.call h2.2⟩
 ·
  obtain ⟨j, d, e1, _, hd, _, ek⟩ := kb k.ke hx
  have hz := in_out (in_key ek z ▸ hb)
  cases c2 with
  | true => exact (qda (jz M) k.hol k.hq e1 hd hz).mono fun e w' h2 => ⟨D, h2.1, k.up hi, M.call h2.2⟩
  | false => exact (qch (jz M) k.hol k.hq e1 hd hz).mono fun e w' h2 => ⟨D, h2.1, k.up hi, M.call h2.2⟩
 ·
  obtain ⟨jo, d, e1, _, hd, _, ek⟩ := kb k.ke hx
  obtain ⟨j, e2, hj, _⟩ := in_at hb
  exact (rset_ref (jz M) k.hol k.hq e1 hd e2 (by rw [(jj ek).2.2]; exact hj) h0 (kv k.ke hr)).mono fun e w' h2 => ⟨D, h2.1, k.up hi, M.call h2.2⟩
 ·
  obtain ⟨j, e2, hj, _⟩ := in_at hb
  obtain ⟨d, hd, ek⟩ := k.ke.symm.get ho
  have e1 : ixO x D.ds = ((jo : Nat) : Int) := by rw [k.ke.ix, hix]
  have ew := (jj ek).2.2
  have hjd : j < d.ws.length := by rw [ew]; exact hj
  have hMr : RO w D.so D.ds := jz M
  have main : Calls Try.prog 11 #[.agg #[.int .i64 ((ss : Nat) : Int), .int .i64 ((ls : Nat) : Int), .int .i64 ((D.last : Nat) : Int), .slice D.so D.ds.length D.ca], .int .i64 x, .int .i64 z, .agg #[.int .i64 c1, .bool c2]] w fun e w' => ∃ so' ca' g c, e = .returned (.tuple #[.int .i64 0, .agg #[.int .i64 ((ss : Nat) : Int), .int .i64 ((ls : Nat) : Int), .int .i64 ((D.last : Nat) : Int), .slice so' D.ds.length ca']]) ∧ Mg w w' [.row 73 3 (.slice so' D.ds.length ca') D.ds.length (obD (D.ds.set jo (d.anew g c j (c1, c2)))), .row 32 2 (.slice (some ⟨g, 0, none⟩) d.ws.length c) d.ws.length (za (d.ws.set j (c1, c2)))] := by
   cases c2 with
   | true =>
    refine qhg hMr k.hol k.hq e1 hd e2 hjd ?_
    rcases hc rfl with q | q
    ·
     exact .inl q
    ·
     obtain ⟨u, hu⟩ := Option.isSome_iff_exists.1 q
     obtain ⟨j9, _, e9, _⟩ := kb k.ke hu
     exact .inr (by rw [e9]; omega)
   | false => exact qdb hMr k.hol k.hq e1 hd e2 hjd
  refine main.mono ?_
  rintro e w' ⟨so', ca', g, c, rfl, h2⟩
  have hlen : (D.ds.set jo (d.anew g c j (c1, c2))).length = D.ds.length := by simp
  refine ⟨⟨D.last, so', ca', D.ds.set jo (d.anew g c j (c1, c2))⟩, ?_, ⟨k.hp.put ho _ _ hc, k.dl, ?_, k.hs, k.hl, Nat.le_succ_of_le k.la, hi⟩, ?_⟩
  ·
   dsimp only
   rw [hlen]
  ·
   refine k.ke.set jo ?_
   obtain ⟨q1, q2, q3⟩ := jj ek
   show (d.x, d.p, d.ws.set j (c1, c2)) = (o.x, o.p, o.ws.set z.toNat (c1, c2))
   rw [q1, q2, q3, show z.toNat = j by omega]
  ·
   refine keepD (S := (D.ds.eraseIdx jo).map Ob.row) (M.both h2 (yx hE hX) (qj (by simp) (qj (by simp) js))) ((List.eraseIdx_sublist _ _).map _) ?_
   show List.Perm _ (.row 73 3 (.slice so' (D.ds.set jo (d.anew g c j (c1, c2))).length ca') (D.ds.set jo (d.anew g c j (c1, c2))).length (obD (D.ds.set jo (d.anew g c j (c1, c2)))) :: (D.ds.set jo (d.anew g c j (c1, c2))).map Ob.row)
   rw [hlen]
   refine List.Perm.cons _ ?_
   rw [show Ck.row 32 2 (.slice (some ⟨g, 0, none⟩) d.ws.length c) d.ws.length (za (d.ws.set j (c1, c2))) = (d.anew g c j (c1, c2)).row from by simp [Ob.row, Ob.sl, Ob.anew]]
   exact (set_perm _ hd).symm
/-! Collect -/
def CoR (ss ls : Nat) (P : Pst) (rs : List Int) (a er : Int) (P' : Pst) : Prop :=
 ((∃ r ∈ rs, qib r P.os = false) ∧ a = 0 ∧ er = 7 ∧ P' = P) ∨
 (∃ ws : List Int, (∀ r ∈ rs, r = 0 ∨ (fO r P.os).isSome = true) ∧ (∀ x, x ∈ ws ↔ Rc P.os rs x) ∧ a = ((zr (yf ws P.os) : Nat) : Int) ∧ er = 0 ∧ P'.last = P.last ∧ P'.os = mvD 0 (stay ws P.os) ∧ HP ss ls P.last P'.os P'.gs P'.gl)
theorem co_perm {r : Ck} (P : Pst) (h ss ls : Nat) (E Y : List Ck) : (r :: (E ++ (P.pcs h ss ls ++ Y))).Perm (P.head h ss ls ++ (r :: (P.os.map Ob.row ++ (Y ++ E)))) :=
 (List.Perm.cons r (ka P h ss ls E Y)).trans (List.perm_middle (l₁ := P.head h ss ls)).symm
theorem p_coll {rs : List Int} {ro : Option Addr} {rc : Nat} (k : OK ss ls i P D) (hrl : rs.length ≤ 17592186044416) (hE : zu E) (hX : zu X) (M : Mg w0 w (.row 3 1 (.slice ro rs.length rc) rs.length (qg rs) :: (E ++ (P.pcs h ss ls ++ (D.pcs ++ X))))) : Calls Try.prog 12 #[.pointer (some ⟨h, 0, none⟩), .slice ro rs.length rc] w fun e w' => ∃ a er P', e = .returned (.tuple #[.int .i64 a, .int .i64 er]) ∧ CoR ss ls P rs a er P' ∧ Mg w0 w' (E ++ (P'.pcs h ss ls ++ (D.pcs ++ X))) := by
 have hs := k.hs
 have hl := k.hl
 obtain ⟨_, _, sS, sL, s3, s4, s5, s6⟩ := k.sums
 have hM1 := M.perm (co_perm P h ss ls E (D.pcs ++ X))
 by_cases hb : ∃ r ∈ rs, qib r P.os = false
 ·
  refine (collect_bad hrl hb hM1).mono ?_
  rintro e w' ⟨rfl, h2⟩
  exact ⟨_, _, P, rfl, .inl ⟨hb, rfl, rfl, rfl⟩, (h2.perm (co_perm P h ss ls E (D.pcs ++ X)).symm).sub (List.sublist_cons_self _ _)⟩
 ·
  have hg : ∀ r ∈ rs, r = 0 ∨ (fO r P.os).isSome = true := fun r hr => by
   cases hq : qib r P.os with
   | false => exact (hb ⟨r, hr, hq⟩).elim
   | true =>
    rw [qib, Bool.or_eq_true] at hq
    exact hq.imp (fun q => eq_of_beq q) id
  refine (collect_any (nob_tail hE hX) k.hp.hx (by have := k.len; omega) (fun o ho => by have := k.hp.cl o ho; omega) (by have := k.hp.sw; omega) (by omega) hs hl (fun o ho => ?_) k.hp.refs hrl hg hM1).mono ?_
  ·
   rcases tf (big o) with q | q
   ·
    have := k.hp.en o ho q; omega
   ·
    have := k.hp.low o ho q; omega
  ·
   rintro e w' ⟨ws, zs, zl, sg', sc', lg', lc', rfl, ⟨hV, hW, hz, hbz, hzl, hbl⟩, h2⟩
   refine ⟨_, _, ⟨P.m, P.last, sc', lc', sg', lg', qr ss zs, qr ls zl, mvD 0 (stay ws P.os)⟩, rfl, .inr ⟨ws, hg, hW, rfl, rfl, rfl, rfl, k.hp.coll hW hz hbz hzl hbl⟩, ?_⟩
   refine Mg.perm (Mg.sub h2 ?_) (ka (⟨P.m, P.last, sc', lc', sg', lg', qr ss zs, qr ls zl, mvD 0 (stay ws P.os)⟩ : Pst) h ss ls E (D.pcs ++ X)).symm
   refine (List.Sublist.refl (Pst.head _ h ss ls)).append (List.Sublist.cons _ ?_)
   rw [yr]
   exact (List.filter_sublist.map Ob.row).append (List.Sublist.refl _)
theorem d_coll {P' : Pst} {a er : Int} {rs : List Int} {sr : Option Addr} {cr : Nat} (k : OK ss ls i P D) (hi : i + 1 ≤ 4611686018427387904) (hrl : rs.length ≤ 17592186044416) (hr : Ri w sr rs) (hR : CoR ss ls P rs a er P') (hE : zu E) (hX : zu X) (M : Mg w0 w (E ++ (P'.pcs h ss ls ++ (D.pcs ++ X)))) : Calls Try.prog 13 #[.agg #[.int .i64 ((ss : Nat) : Int), .int .i64 ((ls : Nat) : Int), .int .i64 ((D.last : Nat) : Int), .slice D.so D.ds.length D.ca], .slice sr rs.length cr] w fun e w' => ∃ D' : Dst, e = .returned (.tuple #[.int .i64 a, .int .i64 er, .agg #[.int .i64 ((ss : Nat) : Int), .int .i64 ((ls : Nat) : Int), .int .i64 ((D'.last : Nat) : Int), .slice D'.so D'.ds.length D'.ca]]) ∧ OK ss ls (i + 1) P' D' ∧ Mg w0 w' (E ++ (P'.pcs h ss ls ++ (D'.pcs ++ X))) := by
 have hs := k.hs
 have hl := k.hl
 rcases hR with ⟨⟨r, hr1, hr2⟩, rfl, rfl, rfl⟩ | ⟨ws, hg, hW, rfl, rfl, l1, o1, hp⟩
 ·
  rw [qib, Bool.or_eq_false_iff] at hr2
  have hn := Option.not_isSome_iff_eq_none.1 (show ¬ (fO r P'.os).isSome = true by rw [hr2.2]; decide)
  exact (rcoll_bad (jz M) k.hol k.hq hr hrl ⟨r, hr1, ne_of_beq_false hr2.1, kv k.ke hn⟩).mono fun e w' h2 => ⟨D, h2.1, k.up hi, M.call h2.2⟩
 ·
  have hsw := k.hp.sw
  obtain ⟨ks, kw⟩ := k.ke.stay ws
  refine (rcoll_ok (l0 := P.last) (ws := ws) (jz M) k.hol k.hq hr hrl (k.ke.hx k.hp.hx) (by rw [k.ke.sums.2.2]; omega) (fun x => (hW x).trans (k.ke.rc x).symm) (fun r hr1 => ?_)).mono ?_
  ·
   rcases hg r hr1 with q | q
   ·
    exact .inl q
   ·
    obtain ⟨u, hu⟩ := Option.isSome_iff_exists.1 q
    obtain ⟨j9, _, e9, _⟩ := kb k.ke hu
    exact .inr (by rw [e9]; omega)
  ·
   rintro e w' ⟨so', ca', rfl, h2⟩
   refine ⟨⟨D.last, so', ca', mvD 0 (stay ws D.ds)⟩, ?_, ⟨by rw [l1]; exact hp, by rw [l1]; exact k.dl, by rw [o1]; exact ks.mvD 0, hs, hl, by rw [l1]; exact Nat.le_succ_of_le k.la, hi⟩, ?_⟩
   ·
    rw [kw]
   ·
    refine keepD (N := [_]) (S := (mvD 0 (stay ws D.ds)).map Ob.row) (M.both h2 (yx hE hX) (qj (by simp) js)) ?_ (List.Perm.refl _)
    rw [yr]
    exact List.filter_sublist.map Ob.row
end
structure Hop where
  kd : Int
  x : Int
  z : Int
  c1 : Int
  c2 : Bool
  ro : Option Addr
  rc : Nat
  rs : List Int
def opC : List Hop → List Value
  | [] => []
  | o :: t => .int .i64 o.kd :: .int .i64 o.x :: .int .i64 o.z :: .int .i64 o.c1 :: .bool o.c2 :: .slice o.ro o.rs.length o.rc :: opC t
theorem qid : ∀ ops : List Hop, (opC ops).length = ops.length * 6
  | [] => rfl
  | o :: t => by simp only [opC, List.length_cons, qid t]; omega
theorem opC_at : ∀ {ops : List Hop} {i : Nat} {o : Hop}, ops[i]? = some o → (opC ops)[i * 6]? = some (.int .i64 o.kd) ∧ (opC ops)[i * 6 + 1]? = some (.int .i64 o.x) ∧ (opC ops)[i * 6 + 2]? = some (.int .i64 o.z) ∧ (opC ops)[i * 6 + 3]? = some (.int .i64 o.c1) ∧ (opC ops)[i * 6 + 4]? = some (.bool o.c2) ∧ (opC ops)[i * 6 + 5]? = some (.slice o.ro o.rs.length o.rc)
  | [], _, _, h => by simp at h
  | a :: t, 0, d, h => by simp at h; subst h; exact ⟨rfl, rfl, rfl, rfl, rfl, rfl⟩
  | a :: t, i + 1, d, h => by
    have := opC_at (ops := t) (i := i) (o := d) (by simpa using h)
    rw [show (i + 1) * 6 = i * 6 + 1 + 1 + 1 + 1 + 1 + 1 from by omega]
    exact this
/-- A slice reads as a script. -/
structure Rp (w : World) (so : Option Addr) (ops : List Hop) : Prop where
  row : Rv w so (opC ops)
  rt : ∀ o ∈ ops, Rv w o.ro (qg o.rs)
  rl : ∀ o ∈ ops, o.rs.length ≤ 17592186044416
theorem Rp.at_ {w : World} {so : Option Addr} {ops : List Hop} (h : Rp w so ops) {i : Nat} (hi : i < ops.length) : ∃ b off kd x z c1 c2 ro rc rs, so = some ⟨b, off, none⟩ ∧ w.cell? ⟨b, off + i * 6, none⟩ = some (.int .i64 kd) ∧ w.cell? ⟨b, off + i * 6 + 1, none⟩ = some (.int .i64 x) ∧ w.cell? ⟨b, off + i * 6 + 2, none⟩ = some (.int .i64 z) ∧ w.cell? ⟨b, off + i * 6 + 3, none⟩ = some (.int .i64 c1) ∧ w.cell? ⟨b, off + i * 6 + 4, none⟩ = some (.bool c2) ∧ w.cell? ⟨b, off + i * 6 + 5, none⟩ = some (.slice ro (rs : List Int).length rc) ∧ Rv w ro (qg rs) ∧ rs.length ≤ 17592186044416 := by
  have hd : ops[i]? = some ops[i] := List.getElem?_eq_getElem hi
  have hm := List.mem_of_getElem? hd
  obtain ⟨b, off, e, h2⟩ := h.row (fun k => by have := congrArg List.length k; rw [qid] at this; simp only [List.length_nil] at this; omega)
  obtain ⟨k0, k1, k2, k3, k4, k5⟩ := opC_at hd
  refine ⟨b, off, ops[i].kd, ops[i].x, ops[i].z, ops[i].c1, ops[i].c2, ops[i].ro, ops[i].rc, ops[i].rs, e, h2 _ _ k0, ?_, ?_, ?_, ?_, ?_, h.rt _ hm, h.rl _ hm⟩
  · rw [Nat.add_assoc]; exact h2 _ _ k1
  · rw [Nat.add_assoc]; exact h2 _ _ k2
  · rw [Nat.add_assoc]; exact h2 _ _ k3
  · rw [Nat.add_assoc]; exact h2 _ _ k4
  · rw [Nat.add_assoc]; exact h2 _ _ k5
section
variable {P : Program} {w0 w : World} {L : List Ck} {l : List (Nat × Value)} {dst : Option Tmp} {ty : TypeId} {pos : String} {after : Array Edge} {guard : Option (Nat × Bool)} {v : Value}
theorem m_loadV6 (hM : Mg w0 w L) {b o : Nat} {v0 v1 v2 v3 v4 v5 : Value} (h0 : w0.cell? ⟨b, o, none⟩ = some v0) (h1 : w0.cell? ⟨b, o + 1, none⟩ = some v1) (h2 : w0.cell? ⟨b, o + 2, none⟩ = some v2) (h3 : w0.cell? ⟨b, o + 3, none⟩ = some v3) (h4 : w0.cell? ⟨b, o + 4, none⟩ = some v4) (h5 : w0.cell? ⟨b, o + 5, none⟩ = some v5) {t : TypeId} (ht : IsS P t 6) {x : Operand} (hx : ev l x = some (.pointer (some ⟨b, o, none⟩))) : Does P l ⟨dst, .load t x, ty, pos, after, guard⟩ w (.agg #[v0, v1, v2, v3, v4, v5]) w :=
  ju hx (xm ht [v0, v1, v2, v3, v4, v5] rfl (fun j y hj => by
    have hlt := vx h0
    match j, hj with
    | 0, hj => cases hj; exact (hM.bel.cell hlt).trans h0
    | 1, hj => cases hj; exact (hM.bel.cell hlt).trans h1
    | 2, hj => cases hj; exact (hM.bel.cell hlt).trans h2
    | 3, hj => cases hj; exact (hM.bel.cell hlt).trans h3
    | 4, hj => cases hj; exact (hM.bel.cell hlt).trans h4
    | 5, hj => cases hj; exact (hM.bel.cell hlt).trans h5
    | j + 6, hj => simp at hj))
end
theorem neqW {x y : Operand} {z : Int} {b : Bool} : ∀ w, (do eqGuard .neq 32 x y (.agg #[.int .i64 z, .bool b]) (.agg #[.int .i64 z, .bool b]); binOp .neq 32 (.agg #[.int .i64 z, .bool b]) (.agg #[.int .i64 z, .bool b]) : Sem Value).run Try.prog w = .ok (.bool false) w := fun w => by
  have u3 := Try.underlying3
  have a3 := Try.isAgg3
  have u4 := Try.underlying4
  have a4 := Try.isAgg4
  have hS : Try.prog.underlying 32 = some (.struct (Try.prog.fieldsOf 32)) := by kernel_rfl
  have hp : Try.prog.stoodInHeld 32 = false := by kernel_rfl
  have hm : Try.prog.eqGuardType Try.prog.depth 32 = false := by kernel_rfl
  rw [Sem.run_bind, run_eqGuard_agg w _ _ _ _ _ _ hm, Result.andThen_ok, run_neq_struct, show (10000 : Nat) = 9999 + 1 from rfl, run_equalIn_agg w 9999 32 _ _ hS hp]
  simp only [Program.fieldsOf, Try.underlying32]
  go_simp
theorem HdI_is1_3 : Is1 Try.prog 3 := ⟨⟨_, Try.underlying3, rfl⟩, by kernel_rfl⟩
theorem HdI_is1_33 : Is1 Try.prog 33 := ⟨⟨_, Try.underlying33, rfl⟩, by kernel_rfl⟩
theorem HdI_fld_35_0 : FieldAt Try.prog 35 0 0 := ⟨_, _, Try.underlying35, rfl, rfl, by kernel_rfl⟩
theorem HdI_fld_35_1 : FieldAt Try.prog 35 1 1 := ⟨_, _, Try.underlying35, rfl, rfl, by kernel_rfl⟩
theorem HdI_fld_35_2 : FieldAt Try.prog 35 2 2 := ⟨_, _, Try.underlying35, rfl, rfl, by kernel_rfl⟩
theorem HdI_fld_35_3 : FieldAt Try.prog 35 3 3 := ⟨_, _, Try.underlying35, rfl, rfl, by kernel_rfl⟩
theorem HdI_fld_35_4 : FieldAt Try.prog 35 4 5 := ⟨_, _, Try.underlying35, rfl, rfl, by kernel_rfl⟩
theorem HdI_isS_30 : IsS Try.prog 30 4 := ⟨⟨_, Try.underlying30⟩, by kernel_rfl⟩
theorem HdI_isS_32 : IsS Try.prog 32 2 := ⟨⟨_, Try.underlying32⟩, by kernel_rfl⟩
theorem HdI_isS_35 : IsS Try.prog 35 6 := ⟨⟨_, Try.underlying35⟩, by kernel_rfl⟩
def alB (n : Int) : Bool := decide (0 ≤ n) && decide (n ≤ 65536)
theorem al_as {w : World} {n : Int} {b : Bool} (h : alB n = b) : Calls Try.prog 23 #[.int .i64 n] w fun e w' => e = .returned (.bool b) ∧ Below w.heap.size w w' := h ▸ vy
theorem new_bad {w : World} {s l : Int} (hbad : ¬ (alB s = true ∧ alB l = true)) : Calls Try.prog 5 #[.int .i64 s, .int .i64 l] w fun e w' => e = .returned (.tuple #[.pointer none, .int .i64 1]) ∧ Below w.heap.size w w' := by
 have M : Mg w w ([]) := Mg.start w
 refine qp (l := [(0, .int .i64 s), (1, .int .i64 l)]) Try.func5 rfl Try.ntmps5 rfl rfl ?_
 intro Q hret hnorm hP a A
 refine wsk fun K1 hK1 => wrl ?_
 iterate 2 refine sda A λa A↦?_
 refine qb (hK1 _ _ (wsk fun K2 hK2 => wsk fun K3 hK3 => wrl (sdm A λa A↦?_)))
 rcases tf (alB s) with hb4 | hb4
 ·
  refine gcl A M (ef rfl rfl) ((al_as hb4)) fun w6 hb5 M a A => ?_
  refine sdo (v := .bool false) A (zf rfl zm) λa A↦?_
  iterate 2 refine sdm A λa A↦?_
  rcases tf (alB l) with hb7 | hb7
  ·
   refine gcl A M (ef rfl rfl) ((al_as hb7)) fun w9 hb8 M a A => ?_
   refine sdo (v := .bool false) A (zf rfl zm) λa A↦?_
   refine sdk (v := .bool false) A λa A↦?_
   refine qb (hK3 _ _ (wp_cond_false (A.ev rfl) ?_))
   refine wp_skip (hK2 _ _ (wsk fun K10 hK10 => wrl (ub A M rfl rfl rfl rfl ?_)))
   intro g11 w12 M a A
   refine sdm A λa A↦?_
   exact (hbad ⟨‹alB s = true›, ‹alB l = true›⟩).elim
  ·
   refine gcl A M (ef rfl rfl) ((al_as hb7)) fun w14 hb13 M a A => ?_
   refine sdo (v := .bool true) A (zf rfl zm) λa A↦?_
   refine sdk (v := .bool true) A λa A↦?_
   refine qb (hK3 _ _ (wp_cond_true (A.ev rfl) ?_))
   refine wsk fun K15 hK15 => wrl ?_
   iterate 2 refine sda A λa A↦?_
   refine qb (hK15 _ _ (wp_ret (hret _ _ (en2 A rfl (qi rfl) (qi rfl) ?_))))
   exact ⟨rfl, M.bel⟩
 ·
  refine gcl A M (ef rfl rfl) ((al_as hb4)) fun w17 hb16 M a A => ?_
  refine sdo (v := .bool true) A (zf rfl zm) λa A↦?_
  refine sdm A λa A↦?_
  iterate 3 refine zj A rfl rfl rfl λa A↦?_
  refine sdk (v := .bool true) A λa A↦?_
  refine qb (hK3 _ _ (wp_cond_true (A.ev rfl) ?_))
  refine wsk fun K18 hK18 => wrl ?_
  iterate 2 refine sda A λa A↦?_
  refine qb (hK18 _ _ (wp_ret (hret _ _ (en2 A rfl (qi rfl) (qi rfl) ?_))))
  exact ⟨rfl, M.bel⟩
theorem plays_bad {w : World} {s l : Int} (hbad : ¬ (alB s = true ∧ alB l = true)) {so : Option Addr} {ca : Nat} {ops : List Hop} : Calls Try.prog 3 #[.int .i64 s, .int .i64 l, .slice so ops.length ca] w fun e w' => e = .returned (.bool true) ∧ Below w.heap.size w w' := by
 have M : Mg w w ([]) := Mg.start w
 refine qp (l := [(0, .int .i64 s), (1, .int .i64 l), (2, .slice so ops.length ca)]) Try.func3 rfl Try.ntmps3 rfl rfl ?_
 intro Q hret hnorm hP a A
 refine wsk fun K1 hK1 => wrl (sda A λa A↦?_)
 refine qb (hK1 _ _ (wsk fun K2 hK2 => wsk fun K3 hK3 => wrl (sct A (ef rfl rfl) (qgb) ?_)))
 rintro _ w5 ⟨rfl, hb4⟩
 replace M := M.call hb4
 refine ⟨_, rfl, ?_⟩
 intro a A
 refine sdo (v := .bool false) A (zf rfl zm) λa A↦?_
 refine qb (hK3 _ _ (wp_cond_false (A.ev rfl) ?_))
 refine wp_skip (hK2 _ _ (wsk fun K6 hK6 => wrl ?_))
 iterate 2 refine sdm A λa A↦?_
 refine gcl A M (ef rfl rfl) ((new_bad hbad)) fun w8 hb7 M a A => ?_
 refine sdm A λa A↦?_
 iterate 2 refine sdo A (qk (vs := [.pointer none, .int .i64 1]) rfl rfl) λa A↦?_
 iterate 2 refine sda A λa A↦?_
 refine qb (hK6 _ _ (wsk fun K9 hK9 => wsk fun K10 hK10 => wrl (sdm A λa A↦?_)))
 rcases tf (decide (s < 0)) with hb11 | hb11
 ·
  have hb11' := of_decide_eq_true hb11
  refine sdc A qm hb11 λa A↦?_
  refine sdm A λa A↦?_
  iterate 2 refine zj A rfl rfl rfl λa A↦?_
  refine sdk (v := .bool true) A λa A↦?_
  refine sdm A λa A↦?_
  iterate 2 refine zj A rfl rfl rfl λa A↦?_
  refine sdk (v := .bool true) A λa A↦?_
  refine sdm A λa A↦?_
  iterate 2 refine zj A rfl rfl rfl λa A↦?_
  refine sdk (v := .bool true) A λa A↦?_
  refine qb (hK10 _ _ (wp_cond_true (A.ev rfl) ?_))
  refine wsk fun K12 hK12 => wrl (sdm A λa A↦?_)
  refine sdo (v := .bool true) A (qe rfl rfl (fun w => by kernel_rfl)) λa A↦?_
  iterate 2 refine sdm A λa A↦?_
  refine sdo (v := .bool true) A (qe rfl rfl (yl Try.underlying24)) λa A↦?_
  refine sdk (v := .bool true) A λa A↦?_
  refine sda A λa A↦?_
  refine qb (hK12 _ _ (wp_ret (hret _ _ (en1 A rfl (qi rfl) ?_))))
  exact ⟨rfl, M.bel⟩
 ·
  have hb11' := of_decide_eq_false hb11
  refine sdc A qm hb11 λa A↦?_
  iterate 2 refine sdm A λa A↦?_
  rcases tf (decide (65536 < s)) with hb13 | hb13
  ·
   have hb13' := of_decide_eq_true hb13
   refine sdc A jv hb13 λa A↦?_
   refine sdk (v := .bool true) A λa A↦?_
   refine sdm A λa A↦?_
   iterate 2 refine zj A rfl rfl rfl λa A↦?_
   refine sdk (v := .bool true) A λa A↦?_
   refine sdm A λa A↦?_
   iterate 2 refine zj A rfl rfl rfl λa A↦?_
   refine sdk (v := .bool true) A λa A↦?_
   refine qb (hK10 _ _ (wp_cond_true (A.ev rfl) ?_))
   refine wsk fun K14 hK14 => wrl (sdm A λa A↦?_)
   refine sdo (v := .bool true) A (qe rfl rfl (fun w => by kernel_rfl)) λa A↦?_
   iterate 2 refine sdm A λa A↦?_
   refine sdo (v := .bool true) A (qe rfl rfl (yl Try.underlying24)) λa A↦?_
   refine sdk (v := .bool true) A λa A↦?_
   refine sda A λa A↦?_
   refine qb (hK14 _ _ (wp_ret (hret _ _ (en1 A rfl (qi rfl) ?_))))
   exact ⟨rfl, M.bel⟩
  ·
   have hb13' := of_decide_eq_false hb13
   refine sdc A jv hb13 λa A↦?_
   refine sdk (v := .bool false) A λa A↦?_
   iterate 2 refine sdm A λa A↦?_
   rcases tf (decide (l < 0)) with hb15 | hb15
   ·
    have hb15' := of_decide_eq_true hb15
    refine sdc A qm hb15 λa A↦?_
    refine sdk (v := .bool true) A λa A↦?_
    refine sdm A λa A↦?_
    iterate 2 refine zj A rfl rfl rfl λa A↦?_
    refine sdk (v := .bool true) A λa A↦?_
    refine qb (hK10 _ _ (wp_cond_true (A.ev rfl) ?_))
    refine wsk fun K16 hK16 => wrl (sdm A λa A↦?_)
    refine sdo (v := .bool true) A (qe rfl rfl (fun w => by kernel_rfl)) λa A↦?_
    iterate 2 refine sdm A λa A↦?_
    refine sdo (v := .bool true) A (qe rfl rfl (yl Try.underlying24)) λa A↦?_
    refine sdk (v := .bool true) A λa A↦?_
    refine sda A λa A↦?_
    refine qb (hK16 _ _ (wp_ret (hret _ _ (en1 A rfl (qi rfl) ?_))))
    exact ⟨rfl, M.bel⟩
   ·
    have hb15' := of_decide_eq_false hb15
    refine sdc A qm hb15 λa A↦?_
    refine sdk (v := .bool false) A λa A↦?_
    iterate 2 refine sdm A λa A↦?_
    rcases tf (decide (65536 < l)) with hb17 | hb17
    ·
     have hb17' := of_decide_eq_true hb17
     refine sdc A jv hb17 λa A↦?_
     refine sdk (v := .bool true) A λa A↦?_
     refine qb (hK10 _ _ (wp_cond_true (A.ev rfl) ?_))
     refine wsk fun K18 hK18 => wrl (sdm A λa A↦?_)
     refine sdo (v := .bool true) A (qe rfl rfl (fun w => by kernel_rfl)) λa A↦?_
     iterate 2 refine sdm A λa A↦?_
     refine sdo (v := .bool true) A (qe rfl rfl (yl Try.underlying24)) λa A↦?_
     refine sdk (v := .bool true) A λa A↦?_
     refine sda A λa A↦?_
     refine qb (hK18 _ _ (wp_ret (hret _ _ (en1 A rfl (qi rfl) ?_))))
     exact ⟨rfl, M.bel⟩
    ·
     have hb17' := of_decide_eq_false hb17
     refine sdc A jv hb17 λa A↦?_
     refine sdk (v := .bool false) A λa A↦?_
     refine qb (hK10 _ _ (wp_cond_false (A.ev rfl) ?_))
     refine wp_skip (hK9 _ _ (wsk fun K19 hK19 => wsk fun K20 hK20 => ?_))
     exfalso
     refine hbad ⟨?_, ?_⟩ <;> (unfold alB; rw [Bool.and_eq_true, decide_eq_true_eq, decide_eq_true_eq]; omega)
theorem sameI_refl {w : World} {s1 s2 : Option Addr} {c1 c2 : Nat} {l : List Int} (h1 : Rv w s1 (qg l)) (h2 : Rv w s2 (qg l)) (hl : l.length ≤ 1000000) : Calls Try.prog 20 #[.slice s1 l.length c1, .slice s2 l.length c2] w fun e w' => e = .returned (.bool true) ∧ Below w.heap.size w w' :=
 (sameI_any ⟨h1⟩ ⟨h2⟩ hl hl).mono fun e w' h => ⟨by rw [h.1, decide_eq_true rfl], h.2⟩
set_option maxHeartbeats 2000000 in
theorem plays_ok {w : World} {ss ls : Nat} (hs : ss ≤ 65536) (hl : ls ≤ 65536) {so : Option Addr} {ca : Nat} {ops : List Hop} (hops : Rp w so ops) (hol : ops.length ≤ 17592186044416) : Calls Try.prog 3 #[.int .i64 ((ss : Nat) : Int), .int .i64 ((ls : Nat) : Int), .slice so ops.length ca] w fun e w' => e = .returned (.bool true) ∧ Below w.heap.size w w' := by
 have M : Mg w w ([]) := Mg.start w
 refine qp (l := [(0, .int .i64 (((ss : Nat) : Int))), (1, .int .i64 (((ls : Nat) : Int))), (2, .slice so ops.length ca)]) Try.func3 rfl Try.ntmps3 rfl rfl ?_
 intro Q hret hnorm hP a A
 refine wsk fun K1 hK1 => wrl (sda A λa A↦?_)
 refine qb (hK1 _ _ (wsk fun K2 hK2 => wsk fun K3 hK3 => wrl (sct A (ef rfl rfl) (qgb) ?_)))
 rintro _ w5 ⟨rfl, hb4⟩
 replace M := M.call hb4
 refine ⟨_, rfl, ?_⟩
 intro a A
 refine sdo (v := .bool false) A (zf rfl zm) λa A↦?_
 refine qb (hK3 _ _ (wp_cond_false (A.ev rfl) ?_))
 refine wp_skip (hK2 _ _ (wsk fun K6 hK6 => wrl ?_))
 iterate 2 refine sdm A λa A↦?_
 refine sct A (ef rfl rfl) (new_any (s := ss) (l := ls) hs hl) ?_
 rintro _ w8 ⟨h, m, gs, gl, rfl, hM7⟩
 replace M : Mg w w8 (.obj h (.cells #[.map (some m), .int .i64 0, .int .i64 (((ss : Nat) : Int)), .slice (some ⟨gs, 0, none⟩) 1 1, .int .i64 (((ls : Nat) : Int)), .slice (some ⟨gl, 0, none⟩) 1 1] 63) :: .obj m (qc ([]) 0) :: .row 88 2 (.slice (some ⟨gs, 0, none⟩) 1 1) 1 (qa [(0, ss)]) :: .row 88 2 (.slice (some ⟨gl, 0, none⟩) 1 1) 1 (qa [(0, ls)]) :: []) := (M.both hM7 js (qj (by simp) (qj (by simp) (qj (by simp) (qj (by simp) js)))))
 refine ⟨_, rfl, ?_⟩
 intro a A
 refine sdm A λa A↦?_
 iterate 2 refine sdo A (qk (vs := [.pointer (some ⟨h, 0, none⟩), .int .i64 0]) rfl rfl) λa A↦?_
 iterate 2 refine sda A λa A↦?_
 refine qb (hK6 _ _ (wsk fun K9 hK9 => wsk fun K10 hK10 => wrl (sdm A λa A↦?_)))
 refine sdo (v := .bool false) A (qe rfl rfl (fun w => (qm w).trans (by rw [show (decide (((ss : Nat) : Int) < 0)) = false from (decide_eq_false (by omega))]))) λa A↦?_
 iterate 2 refine sdm A λa A↦?_
 refine sdo (v := .bool false) A (qe rfl rfl (fun w => (jv w).trans (by rw [show (decide (65536 < ((ss : Nat) : Int))) = false from (decide_eq_false (by omega))]))) λa A↦?_
 refine sdk (v := .bool false) A λa A↦?_
 iterate 2 refine sdm A λa A↦?_
 refine sdo (v := .bool false) A (qe rfl rfl (fun w => (qm w).trans (by rw [show (decide (((ls : Nat) : Int) < 0)) = false from (decide_eq_false (by omega))]))) λa A↦?_
 refine sdk (v := .bool false) A λa A↦?_
 iterate 2 refine sdm A λa A↦?_
 refine sdo (v := .bool false) A (qe rfl rfl (fun w => (jv w).trans (by rw [show (decide (65536 < ((ls : Nat) : Int))) = false from (decide_eq_false (by omega))]))) λa A↦?_
 refine sdk (v := .bool false) A λa A↦?_
 refine qb (hK10 _ _ (wp_cond_false (A.ev rfl) ?_))
 refine wp_skip (hK9 _ _ (wsk fun K11 hK11 => wsk fun K12 hK12 => wrl (sdm A λa A↦?_)))
 refine sdo (v := .bool false) A (qe rfl rfl (fun w => by kernel_rfl)) λa A↦?_
 iterate 2 refine sdm A λa A↦?_
 refine sdo (v := .bool false) A (qe rfl rfl (jn Try.underlying24)) λa A↦?_
 refine sdk (v := .bool false) A λa A↦?_
 refine qb (hK12 _ _ (wp_cond_false (A.ev rfl) ?_))
 refine wp_skip (hK11 _ _ (wsk fun K13 hK13 => wrl ?_))
 iterate 2 refine sdm A λa A↦?_
 refine sdo (v := .agg #[.int .i64 (((ss : Nat) : Int)), .int .i64 (((ls : Nat) : Int)), .int .i64 0, .slice none 0 0]) A (zq rfl (fun w => by kernel_rfl)) λa A↦?_
 refine qt (vs := [.int .i64 0, .int .i64 0, .int .i64 0, .slice none 0 0]) (t := 30) A M rfl rfl rfl pg (ql (z := .agg #[.int .i64 0, .int .i64 0, .int .i64 0, .slice none 0 0]) (by kernel_rfl) rfl) (by decide) ?_
 intro g14 w15 M a A
 refine qs (us := [.int .i64 (((ss : Nat) : Int)), .int .i64 (((ls : Nat) : Int)), .int .i64 0, .slice none 0 0]) (L' := (.obj g14 (.cells #[.int .i64 (((ss : Nat) : Int)), .int .i64 (((ls : Nat) : Int)), .int .i64 0, .slice none 0 0] 30) :: .obj h (.cells #[.map (some m), .int .i64 0, .int .i64 (((ss : Nat) : Int)), .slice (some ⟨gs, 0, none⟩) 1 1, .int .i64 (((ls : Nat) : Int)), .slice (some ⟨gl, 0, none⟩) 1 1] 63) :: .obj m (qc ([]) 0) :: .row 88 2 (.slice (some ⟨gs, 0, none⟩) 1 1) 1 (qa [(0, ss)]) :: .row 88 2 (.slice (some ⟨gl, 0, none⟩) 1 1) 1 (qa [(0, ls)]) :: [])) A M rfl rfl (qo rfl rfl rfl (by kernel_rfl) M 0 rfl rfl rfl) 0 rfl rfl rfl ?_
 intro w16 M
 refine qb (hK13 _ _ (wsk fun K17 hK17 => wsk fun K18 hK18 => wrl (sda A λa A↦?_)))
 refine qb (hK18 _ _ (wp_block ?_))
 replace M := M.nilRowH (qj (by simp) (qj (by simp) (qj (by simp) (qj (by simp) (qj (by simp) js))))) 73 3
 replace M : Mg w w16 (.row 88 2 (.slice (some ⟨gl, 0, none⟩) 1 1) 1 (qa [(0, ls)]) :: .row 73 3 (.slice none 0 0) 0 ([]) :: .obj g14 (.cells #[.int .i64 (((ss : Nat) : Int)), .int .i64 (((ls : Nat) : Int)), .int .i64 0, .slice none 0 0] 30) :: .obj h (.cells #[.map (some m), .int .i64 0, .int .i64 (((ss : Nat) : Int)), .slice (some ⟨gs, 0, none⟩) 1 1, .int .i64 (((ls : Nat) : Int)), .slice (some ⟨gl, 0, none⟩) 1 1] 63) :: .obj m (qc ([]) 0) :: .row 88 2 (.slice (some ⟨gs, 0, none⟩) 1 1) 1 (qa [(0, ss)]) :: []) := M.bring 5 rfl rfl
 replace M : Mg w w16 (.row 88 2 (.slice (some ⟨gs, 0, none⟩) 1 1) 1 (qa [(0, ss)]) :: .row 88 2 (.slice (some ⟨gl, 0, none⟩) 1 1) 1 (qa [(0, ls)]) :: .row 73 3 (.slice none 0 0) 0 ([]) :: .obj g14 (.cells #[.int .i64 (((ss : Nat) : Int)), .int .i64 (((ls : Nat) : Int)), .int .i64 0, .slice none 0 0] 30) :: .obj h (.cells #[.map (some m), .int .i64 0, .int .i64 (((ss : Nat) : Int)), .slice (some ⟨gs, 0, none⟩) 1 1, .int .i64 (((ls : Nat) : Int)), .slice (some ⟨gl, 0, none⟩) 1 1] 63) :: .obj m (qc ([]) 0) :: []) := M.bring 5 rfl rfl
 replace M : Mg w w16 (.obj m (qc ([]) 0) :: .row 88 2 (.slice (some ⟨gs, 0, none⟩) 1 1) 1 (qa [(0, ss)]) :: .row 88 2 (.slice (some ⟨gl, 0, none⟩) 1 1) 1 (qa [(0, ls)]) :: .row 73 3 (.slice none 0 0) 0 ([]) :: .obj g14 (.cells #[.int .i64 (((ss : Nat) : Int)), .int .i64 (((ls : Nat) : Int)), .int .i64 0, .slice none 0 0] 30) :: .obj h (.cells #[.map (some m), .int .i64 0, .int .i64 (((ss : Nat) : Int)), .slice (some ⟨gs, 0, none⟩) 1 1, .int .i64 (((ls : Nat) : Int)), .slice (some ⟨gl, 0, none⟩) 1 1] 63) :: []) := M.bring 5 rfl rfl
 replace M : Mg w w16 (.obj h (.cells #[.map (some m), .int .i64 0, .int .i64 (((ss : Nat) : Int)), .slice (some ⟨gs, 0, none⟩) 1 1, .int .i64 (((ls : Nat) : Int)), .slice (some ⟨gl, 0, none⟩) 1 1] 63) :: .obj m (qc ([]) 0) :: .row 88 2 (.slice (some ⟨gs, 0, none⟩) 1 1) 1 (qa [(0, ss)]) :: .row 88 2 (.slice (some ⟨gl, 0, none⟩) 1 1) 1 (qa [(0, ls)]) :: .row 73 3 (.slice none 0 0) 0 ([]) :: .obj g14 (.cells #[.int .i64 (((ss : Nat) : Int)), .int .i64 (((ls : Nat) : Int)), .int .i64 0, .slice none 0 0] 30) :: []) := M.bring 5 rfl rfl
 replace M : Mg w w16 (.obj g14 (.cells #[.int .i64 (((ss : Nat) : Int)), .int .i64 (((ls : Nat) : Int)), .int .i64 0, .slice none 0 0] 30) :: .obj h (.cells #[.map (some m), .int .i64 0, .int .i64 (((ss : Nat) : Int)), .slice (some ⟨gs, 0, none⟩) 1 1, .int .i64 (((ls : Nat) : Int)), .slice (some ⟨gl, 0, none⟩) 1 1] 63) :: .obj m (qc ([]) 0) :: .row 88 2 (.slice (some ⟨gs, 0, none⟩) 1 1) 1 (qa [(0, ss)]) :: .row 88 2 (.slice (some ⟨gl, 0, none⟩) 1 1) 1 (qa [(0, ls)]) :: .row 73 3 (.slice none 0 0) 0 ([]) :: []) := M.bring 5 rfl rfl
 replace M : Mg w w16 (.obj g14 (.cells #[.int .i64 (((ss : Nat) : Int)), .int .i64 (((ls : Nat) : Int)), .int .i64 ((((⟨0, none, 0, []⟩ : Dst).last : Nat) : Int)), .slice ((⟨0, none, 0, []⟩ : Dst).so) ((⟨0, none, 0, []⟩ : Dst).ds.length) ((⟨0, none, 0, []⟩ : Dst).ca)] 30) :: ((⟨m, 0, 1, 1, some ⟨gs, 0, none⟩, some ⟨gl, 0, none⟩, [(0, ss)], [(0, ls)], []⟩ : Pst).pcs h ss ls ++ ((⟨0, none, 0, []⟩ : Dst).pcs ++ []))) := M
 refine zh (fun m_ a w1 => ∃ (i : Nat) (P : Pst) (D : Dst) (X : List Ck), m_ = 1 + (ops.length - i) ∧ (i ≤ ops.length ∧ OK ss ls i P D ∧ zu X) ∧ Sl a 233 [(0, .int .i64 (((ss : Nat) : Int))), (1, .int .i64 (((ls : Nat) : Int))), (2, .slice so ops.length ca), (7, .pointer (some ⟨h, 0, none⟩)), (8, .int .i64 0), (9, .pointer (some ⟨g14, 0, none⟩)), (10, .int .i64 (((i : Nat) : Int))), (28, .bool true), (29, .bool false), (30, .tuple #[.pointer (some ⟨h, 0, none⟩), .int .i64 0]), (31, .int .i64 (((ss : Nat) : Int))), (32, .int .i64 (((ls : Nat) : Int))), (33, .tuple #[.pointer (some ⟨h, 0, none⟩), .int .i64 0]), (34, .pointer (some ⟨h, 0, none⟩)), (35, .int .i64 0), (36, .int .i64 (((ss : Nat) : Int))), (37, .bool false), (38, .bool false), (39, .int .i64 (((ss : Nat) : Int))), (40, .bool false), (41, .bool false), (42, .bool false), (43, .int .i64 (((ls : Nat) : Int))), (44, .bool false), (45, .bool false), (46, .bool false), (47, .int .i64 (((ls : Nat) : Int))), (48, .bool false), (49, .bool false), (56, .int .i64 0), (57, .bool false), (58, .bool false), (59, .pointer (some ⟨h, 0, none⟩)), (60, .bool false), (61, .bool false), (62, .int .i64 (((ss : Nat) : Int))), (63, .int .i64 (((ls : Nat) : Int))), (64, .agg #[.int .i64 (((ss : Nat) : Int)), .int .i64 (((ls : Nat) : Int)), .int .i64 0, .slice none 0 0])] ∧ Mg w w1 (.obj g14 (.cells #[.int .i64 (((ss : Nat) : Int)), .int .i64 (((ls : Nat) : Int)), .int .i64 (((D.last : Nat) : Int)), .slice D.so D.ds.length D.ca] 30) :: (P.pcs h ss ls ++ (D.pcs ++ X)))) _ ⟨0, (⟨m, 0, 1, 1, some ⟨gs, 0, none⟩, some ⟨gl, 0, none⟩, [(0, ss)], [(0, ls)], []⟩ : Pst), (⟨0, none, 0, []⟩ : Dst), [], rfl, ⟨Nat.zero_le _, ⟨HP.start ss ls, rfl, rfl, hs, hl, Nat.zero_le _, by omega⟩, js⟩, A.keep _ (by repeat' constructor), M⟩ ?_
 clear M A
 rintro m_ a w19 ⟨i, P, D, X, rfl, hinv21, A, M⟩ K20 hK20
 obtain ⟨hi0, hk, hnX⟩ := hinv21
 have hi1 : i + 1 ≤ 4611686018427387904 := by omega
 refine wsk fun K22 hK22 => wsk fun K23 hK23 => wrl ?_
 iterate 2 refine sdm A λa A↦?_
 refine sdo A (qv Try.underlying22 rfl) λa A↦?_
 rcases tf (decide (((i : Nat) : Int) < ((ops.length : Nat) : Int))) with hb24 | hb24
 ·
  have hb24' := of_decide_eq_true hb24
  refine sdc A qm hb24 λa A↦?_
  refine qb (hK23 _ _ (wp_cond_true (A.ev rfl) ?_))
  refine wp_skip (hK22 _ _ (wsk fun K25 hK25 => wp_block (wsk fun K26 hK26 => wrl ?_)))
  iterate 2 refine sdm A λa A↦?_
  obtain ⟨b0, o0, kd, x, z, c1, c2, ro, rc, rs, hso, hc0, hc1, hc2, hc3, hc4, hc5, hro, hrl⟩ := hops.at_ (i := i) (by omega)
  refine sdo (v := .pointer (some ⟨b0, o0 + i * 6, none⟩)) A (zt (k := i) Try.underlying22 (by kernel_rfl) rfl rfl (by first | rfl | omega) hso (by omega)) λa A↦?_
  refine sdo A (m_loadV6 M hc0 hc1 hc2 hc3 hc4 hc5 HdI_isS_35 rfl) λa A↦?_
  refine qt (vs := [.int .i64 0, .int .i64 0, .int .i64 0, .int .i64 0, .bool false, .slice none 0 0]) (t := 35) A M rfl rfl rfl pg (ql (z := .agg #[.int .i64 0, .int .i64 0, .int .i64 0, .int .i64 0, .bool false, .slice none 0 0]) (by kernel_rfl) rfl) (by decide) ?_
  intro g27 w28 M a A
  refine qs (us := [.int .i64 kd, .int .i64 x, .int .i64 z, .int .i64 c1, .bool c2, .slice ro rs.length rc]) (L' := (.obj g27 (.cells #[.int .i64 kd, .int .i64 x, .int .i64 z, .int .i64 c1, .bool c2, .slice ro rs.length rc] 35) :: .obj g14 (.cells #[.int .i64 (((ss : Nat) : Int)), .int .i64 (((ls : Nat) : Int)), .int .i64 (((D.last : Nat) : Int)), .slice D.so D.ds.length D.ca] 30) :: (P.pcs h ss ls ++ (D.pcs ++ X)))) A M rfl rfl (qo rfl rfl rfl (by kernel_rfl) M 0 rfl rfl rfl) 0 rfl rfl rfl ?_
  intro w29 M
  refine qb (hK26 _ _ (wsk fun K30 hK30 => wrl ?_))
  iterate 2 refine sda A λa A↦?_
  refine qb (hK30 _ _ (wsk fun K31 hK31 => wrl ?_))
  iterate 2 refine sda A λa A↦?_
  refine qb (hK31 _ _ (wsk fun K32 hK32 => ?_))
  have hJ33 : ∀ a w1, (∃ (av2 : Int) (ev2 : Int) (P2 : Pst) (D2 : Dst), (OK ss ls (i + 1) P2 D2) ∧ Sl a 233 [(0, .int .i64 (((ss : Nat) : Int))), (1, .int .i64 (((ls : Nat) : Int))), (2, .slice so ops.length ca), (7, .pointer (some ⟨h, 0, none⟩)), (8, .int .i64 0), (9, .pointer (some ⟨g14, 0, none⟩)), (10, .int .i64 (((i : Nat) : Int))), (11, .pointer (some ⟨g27, 0, none⟩)), (12, .int .i64 ev2), (13, .int .i64 ev2), (14, .int .i64 av2), (15, .int .i64 av2), (28, .bool true), (29, .bool false), (30, .tuple #[.pointer (some ⟨h, 0, none⟩), .int .i64 0]), (31, .int .i64 (((ss : Nat) : Int))), (32, .int .i64 (((ls : Nat) : Int))), (33, .tuple #[.pointer (some ⟨h, 0, none⟩), .int .i64 0]), (34, .pointer (some ⟨h, 0, none⟩)), (35, .int .i64 0), (36, .int .i64 (((ss : Nat) : Int))), (37, .bool false), (38, .bool false), (39, .int .i64 (((ss : Nat) : Int))), (40, .bool false), (41, .bool false), (42, .bool false), (43, .int .i64 (((ls : Nat) : Int))), (44, .bool false), (45, .bool false), (46, .bool false), (47, .int .i64 (((ls : Nat) : Int))), (48, .bool false), (49, .bool false), (56, .int .i64 0), (57, .bool false), (58, .bool false), (59, .pointer (some ⟨h, 0, none⟩)), (60, .bool false), (61, .bool false), (62, .int .i64 (((ss : Nat) : Int))), (63, .int .i64 (((ls : Nat) : Int))), (64, .agg #[.int .i64 (((ss : Nat) : Int)), .int .i64 (((ls : Nat) : Int)), .int .i64 0, .slice none 0 0]), (65, .int .i64 (((i : Nat) : Int))), (66, .slice so ops.length ca), (67, .int .i64 (((ops.length : Nat) : Int))), (68, .bool true), (71, .slice so ops.length ca), (72, .int .i64 (((i : Nat) : Int))), (73, .pointer (some ⟨b0, o0 + i * 6, none⟩)), (74, .agg #[.int .i64 kd, .int .i64 x, .int .i64 z, .int .i64 c1, .bool c2, .slice ro rs.length rc])] ∧ Mg w w1 (.obj g14 (.cells #[.int .i64 (((ss : Nat) : Int)), .int .i64 (((ls : Nat) : Int)), .int .i64 (((D2.last : Nat) : Int)), .slice D2.so D2.ds.length D2.ca] 30) :: (P2.pcs h ss ls ++ (D2.pcs ++ X)))) → K32 a w1 := by
   clear A M
   rintro a w34 ⟨av2, ev2, P2, D2, hf35, A, M⟩
   have hk2 := hf35
   refine hK32 _ _ (wsk fun K36 hK36 => wrl (sdm A λa A↦?_))
   refine sct A (ef rfl rfl) (p_free (E := [.obj g14 (.cells #[.int .i64 (((ss : Nat) : Int)), .int .i64 (((ls : Nat) : Int)), .int .i64 (((D2.last : Nat) : Int)), .slice D2.so D2.ds.length D2.ca] 30)]) hk2 M) ?_
   rintro _ w38 ⟨rfl, hM37⟩
   replace M : Mg w w38 (.obj g14 (.cells #[.int .i64 (((ss : Nat) : Int)), .int .i64 (((ls : Nat) : Int)), .int .i64 (((D2.last : Nat) : Int)), .slice D2.so D2.ds.length D2.ca] 30) :: (P2.pcs h ss ls ++ (D2.pcs ++ X))) := hM37
   refine ⟨_, rfl, ?_⟩
   intro a A
   refine sdm A λa A↦?_
   iterate 2 refine sdo A (qk (vs := [.int .i64 (((jc P2.gs : Nat) : Int)), .int .i64 (((jc P2.gl : Nat) : Int))]) rfl rfl) λa A↦?_
   iterate 2 refine sda A λa A↦?_
   refine qb (hK36 _ _ (wsk fun K39 hK39 => wrl (sdo A (qq M HdI_isS_30 rfl 0 rfl (cs := [.int .i64 (((ss : Nat) : Int)), .int .i64 (((ls : Nat) : Int)), .int .i64 (((D2.last : Nat) : Int)), .slice D2.so D2.ds.length D2.ca]) rfl rfl) λa A↦?_)))
   refine sct A (ef rfl rfl) (d_free (E := [.obj g14 (.cells #[.int .i64 (((ss : Nat) : Int)), .int .i64 (((ls : Nat) : Int)), .int .i64 (((D2.last : Nat) : Int)), .slice D2.so D2.ds.length D2.ca] 30)]) hk2 M) ?_
   rintro _ w41 ⟨rfl, hM40⟩
   replace M : Mg w w41 (.obj g14 (.cells #[.int .i64 (((ss : Nat) : Int)), .int .i64 (((ls : Nat) : Int)), .int .i64 (((D2.last : Nat) : Int)), .slice D2.so D2.ds.length D2.ca] 30) :: (P2.pcs h ss ls ++ (D2.pcs ++ X))) := hM40
   refine ⟨_, rfl, ?_⟩
   intro a A
   refine sdm A λa A↦?_
   iterate 2 refine sdo A (qk (vs := [.int .i64 (((jc P2.gs : Nat) : Int)), .int .i64 (((jc P2.gl : Nat) : Int))]) rfl rfl) λa A↦?_
   iterate 2 refine sda A λa A↦?_
   refine qb (hK39 _ _ (wsk fun K42 hK42 => zn (S := fun w1 => Mg w w1 (.obj g14 (.cells #[.int .i64 (((ss : Nat) : Int)), .int .i64 (((ls : Nat) : Int)), .int .i64 (((D2.last : Nat) : Int)), .slice D2.so D2.ds.length D2.ca] 30) :: [])) (by kernel_rfl) ?_))
   replace M := M.drew
   refine qf A 0 rfl rfl rfl rfl hP (M.sub (cc (List.nil_sublist _))) (fun w1 M => qn rfl) λa A↦?_
   refine qf A 1 rfl rfl rfl rfl hP (M.sub (cc (List.nil_sublist _))) (fun w1 M => qn rfl) λa A↦?_
   refine qf (v := .bool false) A 2 rfl rfl rfl rfl hP (M.sub (cc (List.nil_sublist _))) (fun w1 M => qe rfl rfl (fun w => (jd w).trans (by rw [show ((av2 != av2)) = false from (by simp)]))) λa A↦?_
   refine qf A 3 rfl rfl rfl rfl hP (M.sub (cc (List.nil_sublist _))) (fun w1 M => qn rfl) λa A↦?_
   refine qf A 4 rfl rfl rfl rfl hP (M.sub (cc (List.nil_sublist _))) (fun w1 M => qn rfl) λa A↦?_
   refine qf A 5 rfl rfl rfl rfl hP (M.sub (cc (List.nil_sublist _))) (fun w1 M => qn rfl) λa A↦?_
   refine qf (v := .bool false) A 6 rfl rfl rfl rfl hP (M.sub (cc (List.nil_sublist _))) (fun w1 M => qe rfl rfl (fun w => (jd w).trans (by rw [show ((ev2 != ev2)) = false from (by simp)]))) λa A↦?_
   refine qf (v := .bool false) A 7 rfl rfl rfl rfl hP (M.sub (cc (List.nil_sublist _))) (fun w1 M => jr rfl rfl rfl rfl) λa A↦?_
   refine qf A 8 rfl rfl rfl rfl hP (M.sub (cc (List.nil_sublist _))) (fun w1 M => qn rfl) λa A↦?_
   refine qf A 9 rfl rfl rfl rfl hP (M.sub (cc (List.nil_sublist _))) (fun w1 M => qn rfl) λa A↦?_
   refine qf A 10 rfl rfl rfl rfl hP (M.sub (cc (List.nil_sublist _))) (fun w1 M => qn rfl) λa A↦?_
   refine qf (v := .bool false) A 11 rfl rfl rfl rfl hP (M.sub (cc (List.nil_sublist _))) (fun w1 M => qe rfl rfl (fun w => (jd w).trans (by rw [show ((((jc P2.gs : Nat) : Int) != ((jc P2.gs : Nat) : Int))) = false from (by simp)]))) λa A↦?_
   refine qf (v := .bool false) A 12 rfl rfl rfl rfl hP (M.sub (cc (List.nil_sublist _))) (fun w1 M => jr rfl rfl rfl rfl) λa A↦?_
   refine qf A 13 rfl rfl rfl rfl hP (M.sub (cc (List.nil_sublist _))) (fun w1 M => qn rfl) λa A↦?_
   refine qf A 14 rfl rfl rfl rfl hP (M.sub (cc (List.nil_sublist _))) (fun w1 M => qn rfl) λa A↦?_
   refine qf A 15 rfl rfl rfl rfl hP (M.sub (cc (List.nil_sublist _))) (fun w1 M => qn rfl) λa A↦?_
   refine qf (v := .bool false) A 16 rfl rfl rfl rfl hP (M.sub (cc (List.nil_sublist _))) (fun w1 M => qe rfl rfl (fun w => (jd w).trans (by rw [show ((((jc P2.gl : Nat) : Int) != ((jc P2.gl : Nat) : Int))) = false from (by simp)]))) λa A↦?_
   refine qf (v := .bool false) A 17 rfl rfl rfl rfl hP (M.sub (cc (List.nil_sublist _))) (fun w1 M => jr rfl rfl rfl rfl) λa A↦?_
   refine qf A 18 rfl rfl rfl rfl hP (M.sub (cc (List.nil_sublist _))) (fun w1 M => qn rfl) λa A↦?_
   refine qf A 19 rfl rfl rfl rfl hP (M.sub (cc (List.nil_sublist _))) (fun w1 M => qn rfl) λa A↦?_
   refine qf A 21 rfl rfl rfl rfl hP (M.sub (cc (List.nil_sublist _))) (fun w1 M => qq M HdI_isS_30 rfl 0 rfl (cs := [.int .i64 (((ss : Nat) : Int)), .int .i64 (((ls : Nat) : Int)), .int .i64 (((D2.last : Nat) : Int)), .slice D2.so D2.ds.length D2.ca]) rfl rfl) λa A↦?_
   refine zd (by kernel_rfl) (jk A 20 rfl rfl rfl rfl (zp rfl rfl (fun w => by kernel_rfl)) (p_live (E := [.obj g14 (.cells #[.int .i64 (((ss : Nat) : Int)), .int .i64 (((ls : Nat) : Int)), .int .i64 (((D2.last : Nat) : Int)), .slice D2.so D2.ds.length D2.ca] 30)]) hk2 (qj (by simp) js) hnX M) ?_)
   rintro _ w46 ⟨so44, ca45, rfl, hM43⟩
   replace M : Mg w w46 (.row 3 1 (.slice so44 ((hxs P2.os).length) ca45) ((hxs P2.os).length) (qg (hxs P2.os)) :: .obj g14 (.cells #[.int .i64 (((ss : Nat) : Int)), .int .i64 (((ls : Nat) : Int)), .int .i64 (((D2.last : Nat) : Int)), .slice D2.so D2.ds.length D2.ca] 30) :: (P2.pcs h ss ls ++ (D2.pcs ++ X))) := hM43
   refine ⟨_, rfl, (M.sub (cn (cc (List.nil_sublist _)))), ?_⟩
   intro a A
   refine zd (by kernel_rfl) (jk A 22 rfl rfl rfl rfl (zp rfl rfl (fun w => by kernel_rfl)) (d_live (E := [.row 3 1 (.slice so44 ((hxs P2.os).length) ca45) ((hxs P2.os).length) (qg (hxs P2.os)), .obj g14 (.cells #[.int .i64 (((ss : Nat) : Int)), .int .i64 (((ls : Nat) : Int)), .int .i64 (((D2.last : Nat) : Int)), .slice D2.so D2.ds.length D2.ca] 30)]) hk2 (qj (by simp) (qj (by simp) js)) hnX M) ?_)
   rintro _ w50 ⟨so48, ca49, rfl, hM47⟩
   replace M : Mg w w50 (.row 3 1 (.slice so48 ((hxs P2.os).length) ca49) ((hxs P2.os).length) (qg (hxs P2.os)) :: .row 3 1 (.slice so44 ((hxs P2.os).length) ca45) ((hxs P2.os).length) (qg (hxs P2.os)) :: .obj g14 (.cells #[.int .i64 (((ss : Nat) : Int)), .int .i64 (((ls : Nat) : Int)), .int .i64 (((D2.last : Nat) : Int)), .slice D2.so D2.ds.length D2.ca] 30) :: (P2.pcs h ss ls ++ (D2.pcs ++ X))) := hM47
   refine ⟨_, rfl, (M.sub (cn (cn (cc (List.nil_sublist _))))), ?_⟩
   intro a A
   refine zd (by kernel_rfl) (jk A 23 rfl rfl rfl rfl (zp rfl rfl (fun w => by kernel_rfl)) (sameI_refl (vi (M.has 1 rfl)) (vi (M.has 0 rfl)) (by have := hk2.len; unfold hxs; rw [List.length_map]; omega)) ?_)
   rintro _ w52 ⟨rfl, hb51⟩
   replace M := M.call hb51
   refine ⟨_, rfl, (M.sub (cn (cn (cc (List.nil_sublist _))))), ?_⟩
   intro a A
   refine qf (v := .bool false) A 24 rfl rfl rfl rfl hP (M.sub (cn (cn (cc (List.nil_sublist _))))) (fun w1 M => zf rfl zm) λa A↦?_
   refine qf (v := .bool false) A 25 rfl rfl rfl rfl hP (M.sub (cn (cn (cc (List.nil_sublist _))))) (fun w1 M => jr rfl rfl rfl rfl) λa A↦?_
   refine zi (by kernel_rfl) ?_
   refine hK42 _ _ (wp_cond_false (A.ev rfl) ?_)
   refine wp_skip (hK25 _ _ (wrl (sdm A λa A↦?_)))
   refine sdo (v := .int .i64 (((i + 1 : Nat) : Int))) A (qe rfl rfl (ar_add ((in_i64 (by omega) (by omega)).trans (by omega)))) λa A↦?_
   refine sda A λa A↦?_
   refine qb ?_
   replace M : Mg w w52 (.obj g14 (.cells #[.int .i64 (((ss : Nat) : Int)), .int .i64 (((ls : Nat) : Int)), .int .i64 (((D2.last : Nat) : Int)), .slice D2.so D2.ds.length D2.ca] 30) :: .row 3 1 (.slice so48 ((hxs P2.os).length) ca49) ((hxs P2.os).length) (qg (hxs P2.os)) :: .row 3 1 (.slice so44 ((hxs P2.os).length) ca45) ((hxs P2.os).length) (qg (hxs P2.os)) :: (P2.pcs h ss ls ++ (D2.pcs ++ X))) := M.bring 2 rfl rfl
   replace M : Mg w w52 (.obj g14 (.cells #[.int .i64 (((ss : Nat) : Int)), .int .i64 (((ls : Nat) : Int)), .int .i64 (((D2.last : Nat) : Int)), .slice D2.so D2.ds.length D2.ca] 30) :: (P2.pcs h ss ls ++ (D2.pcs ++ X))) := by
    have h9 := M.sub (cc (cn (cn (.refl _))))
    exact h9
   refine hK20 _ _ _ (by omega) ⟨i + 1, P2, D2, X, rfl, ⟨by omega, hk2, hnX⟩, A.keep _ (by repeat' constructor), M⟩
  refine wsk fun K53 hK53 => wrl (sdo (v := .pointer (some ⟨g27, 0, none⟩)) A (qd HdI_fld_35_0 rfl rfl) λa A↦?_)
  refine sdo A (qh M HdI_is1_3 rfl 0 rfl rfl) λa A↦?_
  refine qb (hK53 _ _ (wp_block (wsk fun K54 hK54 => wrl ?_)))
  rcases tf ((kd == 1)) with hb55 | hb55
  ·
   have hb55' := eq_of_beq hb55
   refine sdc A jl hb55 λa A↦?_
   refine sda A λa A↦?_
   refine qb (hK54 _ _ (wp_cond_true (A.ev rfl) ?_))
   refine wsk fun K56 hK56 => wrl (sdm A λa A↦?_)
   refine sdo (v := .pointer (some ⟨g27, 1, none⟩)) A (qd HdI_fld_35_1 rfl rfl) λa A↦?_
   refine sdo A (qh M HdI_is1_3 rfl 0 rfl rfl) λa A↦?_
   refine sct A (ef rfl rfl) (p_alloc (E := [.obj g27 (.cells #[.int .i64 kd, .int .i64 x, .int .i64 z, .int .i64 c1, .bool c2, .slice ro rs.length rc] 35), .obj g14 (.cells #[.int .i64 (((ss : Nat) : Int)), .int .i64 (((ls : Nat) : Int)), .int .i64 (((D.last : Nat) : Int)), .slice D.so D.ds.length D.ca] 30)]) hk M x) ?_
   rintro _ w58 ⟨av, ev, P1, rfl, hR, hM57⟩
   replace M : Mg w w58 (.obj g27 (.cells #[.int .i64 kd, .int .i64 x, .int .i64 z, .int .i64 c1, .bool c2, .slice ro rs.length rc] 35) :: .obj g14 (.cells #[.int .i64 (((ss : Nat) : Int)), .int .i64 (((ls : Nat) : Int)), .int .i64 (((D.last : Nat) : Int)), .slice D.so D.ds.length D.ca] 30) :: (P1.pcs h ss ls ++ (D.pcs ++ X))) := hM57
   refine ⟨_, rfl, ?_⟩
   intro a A
   refine sdm A λa A↦?_
   iterate 2 refine sdo A (qk (vs := [.int .i64 av, .int .i64 ev]) rfl rfl) λa A↦?_
   iterate 2 refine sda A λa A↦?_
   refine qb (hK56 _ _ (wrl (sdo A (qq M HdI_isS_30 rfl 1 rfl (cs := [.int .i64 (((ss : Nat) : Int)), .int .i64 (((ls : Nat) : Int)), .int .i64 (((D.last : Nat) : Int)), .slice D.so D.ds.length D.ca]) rfl rfl) λa A↦?_)))
   refine sdo (v := .pointer (some ⟨g27, 1, none⟩)) A (qd HdI_fld_35_1 rfl rfl) λa A↦?_
   refine sdo A (qh M HdI_is1_3 rfl 0 rfl rfl) λa A↦?_
   refine sct A (ef rfl rfl) (d_alloc (E := [.obj g27 (.cells #[.int .i64 kd, .int .i64 x, .int .i64 z, .int .i64 c1, .bool c2, .slice ro rs.length rc] 35), .obj g14 (.cells #[.int .i64 (((ss : Nat) : Int)), .int .i64 (((ls : Nat) : Int)), .int .i64 (((D.last : Nat) : Int)), .slice D.so D.ds.length D.ca] 30)]) hk hi1 hR (qj (by simp) (qj (by simp) js)) hnX M) ?_
   rintro _ w60 ⟨D1, rfl, hk1, hM59⟩
   replace M : Mg w w60 (.obj g27 (.cells #[.int .i64 kd, .int .i64 x, .int .i64 z, .int .i64 c1, .bool c2, .slice ro rs.length rc] 35) :: .obj g14 (.cells #[.int .i64 (((ss : Nat) : Int)), .int .i64 (((ls : Nat) : Int)), .int .i64 (((D.last : Nat) : Int)), .slice D.so D.ds.length D.ca] 30) :: (P1.pcs h ss ls ++ (D1.pcs ++ X))) := hM59
   refine ⟨_, rfl, ?_⟩
   intro a A
   refine sdm A λa A↦?_
   iterate 3 refine sdo A (qk (vs := [.int .i64 av, .int .i64 ev, .agg #[.int .i64 (((ss : Nat) : Int)), .int .i64 (((ls : Nat) : Int)), .int .i64 (((D1.last : Nat) : Int)), .slice D1.so D1.ds.length D1.ca]]) rfl rfl) λa A↦?_
   iterate 2 refine sda A λa A↦?_
   refine qs (us := [.int .i64 (((ss : Nat) : Int)), .int .i64 (((ls : Nat) : Int)), .int .i64 (((D1.last : Nat) : Int)), .slice D1.so D1.ds.length D1.ca]) (L' := (.obj g27 (.cells #[.int .i64 kd, .int .i64 x, .int .i64 z, .int .i64 c1, .bool c2, .slice ro rs.length rc] 35) :: .obj g14 (.cells #[.int .i64 (((ss : Nat) : Int)), .int .i64 (((ls : Nat) : Int)), .int .i64 (((D1.last : Nat) : Int)), .slice D1.so D1.ds.length D1.ca] 30) :: (P1.pcs h ss ls ++ (D1.pcs ++ X)))) A M rfl rfl (qo rfl rfl rfl (by kernel_rfl) M 1 rfl rfl rfl) 1 rfl rfl rfl ?_
   intro w61 M
   refine qb ?_
   replace M : Mg w w61 (.obj g14 (.cells #[.int .i64 (((ss : Nat) : Int)), .int .i64 (((ls : Nat) : Int)), .int .i64 (((D1.last : Nat) : Int)), .slice D1.so D1.ds.length D1.ca] 30) :: .obj g27 (.cells #[.int .i64 kd, .int .i64 x, .int .i64 z, .int .i64 c1, .bool c2, .slice ro rs.length rc] 35) :: (P1.pcs h ss ls ++ (D1.pcs ++ X))) := M.bring 1 rfl rfl
   replace M : Mg w w61 (.obj g14 (.cells #[.int .i64 (((ss : Nat) : Int)), .int .i64 (((ls : Nat) : Int)), .int .i64 (((D1.last : Nat) : Int)), .slice D1.so D1.ds.length D1.ca] 30) :: (P1.pcs h ss ls ++ (D1.pcs ++ X))) := by
    have h9 := M.sub (cc (cn (.refl _)))
    exact h9
   exact hJ33 _ _ ⟨av, ev, P1, D1, hk1, A.keep _ (by repeat' constructor), M⟩
  ·
   have hb55' := ne_of_beq_false hb55
   refine sdc A jl hb55 λa A↦?_
   refine sda A λa A↦?_
   refine qb (hK54 _ _ (wp_cond_false (A.ev rfl) ?_))
   refine wsk fun K62 hK62 => wrl ?_
   rcases tf ((kd == 2)) with hb63 | hb63
   ·
    have hb63' := eq_of_beq hb63
    refine sdc A jl hb63 λa A↦?_
    refine sda A λa A↦?_
    refine qb (hK62 _ _ (wp_cond_true (A.ev rfl) ?_))
    refine wsk fun K64 hK64 => wrl (sdm A λa A↦?_)
    refine sdo (v := .pointer (some ⟨g27, 1, none⟩)) A (qd HdI_fld_35_1 rfl rfl) λa A↦?_
    refine sdo A (qh M HdI_is1_3 rfl 0 rfl rfl) λa A↦?_
    refine sdo (v := .pointer (some ⟨g27, 2, none⟩)) A (qd HdI_fld_35_2 rfl rfl) λa A↦?_
    refine sdo A (qh M HdI_is1_3 rfl 0 rfl rfl) λa A↦?_
    refine sct A (ef rfl rfl) (p_get (E := [.obj g27 (.cells #[.int .i64 kd, .int .i64 x, .int .i64 z, .int .i64 c1, .bool c2, .slice ro rs.length rc] 35), .obj g14 (.cells #[.int .i64 (((ss : Nat) : Int)), .int .i64 (((ls : Nat) : Int)), .int .i64 (((D.last : Nat) : Int)), .slice D.so D.ds.length D.ca] 30)]) M x z) ?_
    rintro _ w66 ⟨rfl, hM65⟩
    replace M : Mg w w66 (.obj g27 (.cells #[.int .i64 kd, .int .i64 x, .int .i64 z, .int .i64 c1, .bool c2, .slice ro rs.length rc] 35) :: .obj g14 (.cells #[.int .i64 (((ss : Nat) : Int)), .int .i64 (((ls : Nat) : Int)), .int .i64 (((D.last : Nat) : Int)), .slice D.so D.ds.length D.ca] 30) :: (P.pcs h ss ls ++ (D.pcs ++ X))) := hM65
    refine ⟨_, rfl, ?_⟩
    intro a A
    refine sdm A λa A↦?_
    iterate 2 refine sdo A (qk (vs := [.agg #[.int .i64 ((gtS x z P.os).1.1), .bool ((gtS x z P.os).1.2)], .int .i64 ((gtS x z P.os).2)]) rfl rfl) λa A↦?_
    refine qt (vs := [.int .i64 0, .bool false]) (t := 32) A M rfl rfl rfl pg (ql (z := .agg #[.int .i64 0, .bool false]) (by kernel_rfl) rfl) (by decide) ?_
    intro g67 w68 M a A
    refine qs (us := [.int .i64 ((gtS x z P.os).1.1), .bool ((gtS x z P.os).1.2)]) (L' := (.obj g67 (.cells #[.int .i64 ((gtS x z P.os).1.1), .bool ((gtS x z P.os).1.2)] 32) :: .obj g27 (.cells #[.int .i64 kd, .int .i64 x, .int .i64 z, .int .i64 c1, .bool c2, .slice ro rs.length rc] 35) :: .obj g14 (.cells #[.int .i64 (((ss : Nat) : Int)), .int .i64 (((ls : Nat) : Int)), .int .i64 (((D.last : Nat) : Int)), .slice D.so D.ds.length D.ca] 30) :: (P.pcs h ss ls ++ (D.pcs ++ X)))) A M rfl rfl (qo rfl rfl rfl (by kernel_rfl) M 0 rfl rfl rfl) 0 rfl rfl rfl ?_
    intro w69 M
    refine sda A λa A↦?_
    refine qb (hK64 _ _ (wsk fun K70 hK70 => wrl (sdo A (qq M HdI_isS_30 rfl 2 rfl (cs := [.int .i64 (((ss : Nat) : Int)), .int .i64 (((ls : Nat) : Int)), .int .i64 (((D.last : Nat) : Int)), .slice D.so D.ds.length D.ca]) rfl rfl) λa A↦?_)))
    refine sdo (v := .pointer (some ⟨g27, 1, none⟩)) A (qd HdI_fld_35_1 rfl rfl) λa A↦?_
    refine sdo A (qh M HdI_is1_3 rfl 1 rfl rfl) λa A↦?_
    refine sdo (v := .pointer (some ⟨g27, 2, none⟩)) A (qd HdI_fld_35_2 rfl rfl) λa A↦?_
    refine sdo A (qh M HdI_is1_3 rfl 1 rfl rfl) λa A↦?_
    refine sct A (ef rfl rfl) (d_get (E := [.obj g67 (.cells #[.int .i64 ((gtS x z P.os).1.1), .bool ((gtS x z P.os).1.2)] 32), .obj g27 (.cells #[.int .i64 kd, .int .i64 x, .int .i64 z, .int .i64 c1, .bool c2, .slice ro rs.length rc] 35), .obj g14 (.cells #[.int .i64 (((ss : Nat) : Int)), .int .i64 (((ls : Nat) : Int)), .int .i64 (((D.last : Nat) : Int)), .slice D.so D.ds.length D.ca] 30)]) hk M x z) ?_
    rintro _ w72 ⟨rfl, hM71⟩
    replace M : Mg w w72 (.obj g67 (.cells #[.int .i64 ((gtS x z P.os).1.1), .bool ((gtS x z P.os).1.2)] 32) :: .obj g27 (.cells #[.int .i64 kd, .int .i64 x, .int .i64 z, .int .i64 c1, .bool c2, .slice ro rs.length rc] 35) :: .obj g14 (.cells #[.int .i64 (((ss : Nat) : Int)), .int .i64 (((ls : Nat) : Int)), .int .i64 (((D.last : Nat) : Int)), .slice D.so D.ds.length D.ca] 30) :: (P.pcs h ss ls ++ (D.pcs ++ X))) := hM71
    refine ⟨_, rfl, ?_⟩
    intro a A
    refine sdm A λa A↦?_
    iterate 2 refine sdo A (qk (vs := [.agg #[.int .i64 ((gtS x z P.os).1.1), .bool ((gtS x z P.os).1.2)], .int .i64 ((gtS x z P.os).2)]) rfl rfl) λa A↦?_
    refine qt (vs := [.int .i64 0, .bool false]) (t := 32) A M rfl rfl rfl pg (ql (z := .agg #[.int .i64 0, .bool false]) (by kernel_rfl) rfl) (by decide) ?_
    intro g73 w74 M a A
    refine qs (us := [.int .i64 ((gtS x z P.os).1.1), .bool ((gtS x z P.os).1.2)]) (L' := (.obj g73 (.cells #[.int .i64 ((gtS x z P.os).1.1), .bool ((gtS x z P.os).1.2)] 32) :: .obj g67 (.cells #[.int .i64 ((gtS x z P.os).1.1), .bool ((gtS x z P.os).1.2)] 32) :: .obj g27 (.cells #[.int .i64 kd, .int .i64 x, .int .i64 z, .int .i64 c1, .bool c2, .slice ro rs.length rc] 35) :: .obj g14 (.cells #[.int .i64 (((ss : Nat) : Int)), .int .i64 (((ls : Nat) : Int)), .int .i64 (((D.last : Nat) : Int)), .slice D.so D.ds.length D.ca] 30) :: (P.pcs h ss ls ++ (D.pcs ++ X)))) A M rfl rfl (qo rfl rfl rfl (by kernel_rfl) M 0 rfl rfl rfl) 0 rfl rfl rfl ?_
    intro w75 M
    refine sda A λa A↦?_
    refine qb (hK70 _ _ (wsk fun K76 hK76 => wsk fun K77 hK77 => wrl (sdo A (qq M HdI_isS_32 rfl 1 rfl (cs := [.int .i64 ((gtS x z P.os).1.1), .bool ((gtS x z P.os).1.2)]) rfl rfl) λa A↦?_)))
    refine sdo A (qq M HdI_isS_32 rfl 0 rfl (cs := [.int .i64 ((gtS x z P.os).1.1), .bool ((gtS x z P.os).1.2)]) rfl rfl) λa A↦?_
    refine sdo (v := .bool false) A (qe rfl rfl neqW) λa A↦?_
    refine qb (hK77 _ _ (wp_cond_false (A.ev rfl) ?_))
    refine wp_skip (hK76 _ _ (wrl ?_))
    iterate 2 refine sdm A λa A↦?_
    iterate 2 refine sda A λa A↦?_
    refine qb ?_
    replace M : Mg w w75 (.obj g14 (.cells #[.int .i64 (((ss : Nat) : Int)), .int .i64 (((ls : Nat) : Int)), .int .i64 (((D.last : Nat) : Int)), .slice D.so D.ds.length D.ca] 30) :: .obj g73 (.cells #[.int .i64 ((gtS x z P.os).1.1), .bool ((gtS x z P.os).1.2)] 32) :: .obj g67 (.cells #[.int .i64 ((gtS x z P.os).1.1), .bool ((gtS x z P.os).1.2)] 32) :: .obj g27 (.cells #[.int .i64 kd, .int .i64 x, .int .i64 z, .int .i64 c1, .bool c2, .slice ro rs.length rc] 35) :: (P.pcs h ss ls ++ (D.pcs ++ X))) := M.bring 3 rfl rfl
    replace M : Mg w w75 (.obj g14 (.cells #[.int .i64 (((ss : Nat) : Int)), .int .i64 (((ls : Nat) : Int)), .int .i64 (((D.last : Nat) : Int)), .slice D.so D.ds.length D.ca] 30) :: (P.pcs h ss ls ++ (D.pcs ++ X))) := by
     have h9 := M.sub (cc (cn (cn (cn (.refl _)))))
     exact h9
    exact hJ33 _ _ ⟨0, (gtS x z P.os).2, P, D, (hk.up hi1), A.keep _ (by repeat' constructor), M⟩
   ·
    have hb63' := ne_of_beq_false hb63
    refine sdc A jl hb63 λa A↦?_
    refine sda A λa A↦?_
    refine qb (hK62 _ _ (wp_cond_false (A.ev rfl) ?_))
    refine wsk fun K78 hK78 => wrl ?_
    rcases tf ((kd == 3)) with hb79 | hb79
    ·
     have hb79' := eq_of_beq hb79
     refine sdc A jl hb79 λa A↦?_
     refine sda A λa A↦?_
     refine qb (hK78 _ _ (wp_cond_true (A.ev rfl) ?_))
     refine wsk fun K80 hK80 => wrl (sdm A λa A↦?_)
     refine sdo (v := .pointer (some ⟨g27, 1, none⟩)) A (qd HdI_fld_35_1 rfl rfl) λa A↦?_
     refine sdo A (qh M HdI_is1_3 rfl 0 rfl rfl) λa A↦?_
     refine sdo (v := .pointer (some ⟨g27, 2, none⟩)) A (qd HdI_fld_35_2 rfl rfl) λa A↦?_
     refine sdo A (qh M HdI_is1_3 rfl 0 rfl rfl) λa A↦?_
     refine sdo (v := .pointer (some ⟨g27, 3, none⟩)) A (qd HdI_fld_35_3 rfl rfl) λa A↦?_
     refine sdo A (qq M HdI_isS_32 rfl 0 rfl (cs := [.int .i64 c1, .bool c2]) rfl rfl) λa A↦?_
     refine sct A (ef rfl rfl) (p_set (E := [.obj g27 (.cells #[.int .i64 kd, .int .i64 x, .int .i64 z, .int .i64 c1, .bool c2, .slice ro rs.length rc] 35), .obj g14 (.cells #[.int .i64 (((ss : Nat) : Int)), .int .i64 (((ls : Nat) : Int)), .int .i64 (((D.last : Nat) : Int)), .slice D.so D.ds.length D.ca] 30)]) hk M x z c1 c2) ?_
     rintro _ w82 ⟨ev, P1, rfl, hR, hM81⟩
     replace M : Mg w w82 (.obj g27 (.cells #[.int .i64 kd, .int .i64 x, .int .i64 z, .int .i64 c1, .bool c2, .slice ro rs.length rc] 35) :: .obj g14 (.cells #[.int .i64 (((ss : Nat) : Int)), .int .i64 (((ls : Nat) : Int)), .int .i64 (((D.last : Nat) : Int)), .slice D.so D.ds.length D.ca] 30) :: (P1.pcs h ss ls ++ (D.pcs ++ X))) := hM81
     refine ⟨_, rfl, ?_⟩
     intro a A
     refine sda A λa A↦?_
     refine qb (hK80 _ _ (wrl (sdo A (qq M HdI_isS_30 rfl 1 rfl (cs := [.int .i64 (((ss : Nat) : Int)), .int .i64 (((ls : Nat) : Int)), .int .i64 (((D.last : Nat) : Int)), .slice D.so D.ds.length D.ca]) rfl rfl) λa A↦?_)))
     refine sdo (v := .pointer (some ⟨g27, 1, none⟩)) A (qd HdI_fld_35_1 rfl rfl) λa A↦?_
     refine sdo A (qh M HdI_is1_3 rfl 0 rfl rfl) λa A↦?_
     refine sdo (v := .pointer (some ⟨g27, 2, none⟩)) A (qd HdI_fld_35_2 rfl rfl) λa A↦?_
     refine sdo A (qh M HdI_is1_3 rfl 0 rfl rfl) λa A↦?_
     refine sdo (v := .pointer (some ⟨g27, 3, none⟩)) A (qd HdI_fld_35_3 rfl rfl) λa A↦?_
     refine sdo A (qq M HdI_isS_32 rfl 0 rfl (cs := [.int .i64 c1, .bool c2]) rfl rfl) λa A↦?_
     refine sct A (ef rfl rfl) (d_set (E := [.obj g27 (.cells #[.int .i64 kd, .int .i64 x, .int .i64 z, .int .i64 c1, .bool c2, .slice ro rs.length rc] 35), .obj g14 (.cells #[.int .i64 (((ss : Nat) : Int)), .int .i64 (((ls : Nat) : Int)), .int .i64 (((D.last : Nat) : Int)), .slice D.so D.ds.length D.ca] 30)]) hk hi1 hR (qj (by simp) (qj (by simp) js)) hnX M) ?_
     rintro _ w84 ⟨D1, rfl, hk1, hM83⟩
     replace M : Mg w w84 (.obj g27 (.cells #[.int .i64 kd, .int .i64 x, .int .i64 z, .int .i64 c1, .bool c2, .slice ro rs.length rc] 35) :: .obj g14 (.cells #[.int .i64 (((ss : Nat) : Int)), .int .i64 (((ls : Nat) : Int)), .int .i64 (((D.last : Nat) : Int)), .slice D.so D.ds.length D.ca] 30) :: (P1.pcs h ss ls ++ (D1.pcs ++ X))) := hM83
     refine ⟨_, rfl, ?_⟩
     intro a A
     refine sdm A λa A↦?_
     iterate 2 refine sdo A (qk (vs := [.int .i64 ev, .agg #[.int .i64 (((ss : Nat) : Int)), .int .i64 (((ls : Nat) : Int)), .int .i64 (((D1.last : Nat) : Int)), .slice D1.so D1.ds.length D1.ca]]) rfl rfl) λa A↦?_
     refine sda A λa A↦?_
     refine qs (us := [.int .i64 (((ss : Nat) : Int)), .int .i64 (((ls : Nat) : Int)), .int .i64 (((D1.last : Nat) : Int)), .slice D1.so D1.ds.length D1.ca]) (L' := (.obj g27 (.cells #[.int .i64 kd, .int .i64 x, .int .i64 z, .int .i64 c1, .bool c2, .slice ro rs.length rc] 35) :: .obj g14 (.cells #[.int .i64 (((ss : Nat) : Int)), .int .i64 (((ls : Nat) : Int)), .int .i64 (((D1.last : Nat) : Int)), .slice D1.so D1.ds.length D1.ca] 30) :: (P1.pcs h ss ls ++ (D1.pcs ++ X)))) A M rfl rfl (qo rfl rfl rfl (by kernel_rfl) M 1 rfl rfl rfl) 1 rfl rfl rfl ?_
     intro w85 M
     refine qb ?_
     replace M : Mg w w85 (.obj g14 (.cells #[.int .i64 (((ss : Nat) : Int)), .int .i64 (((ls : Nat) : Int)), .int .i64 (((D1.last : Nat) : Int)), .slice D1.so D1.ds.length D1.ca] 30) :: .obj g27 (.cells #[.int .i64 kd, .int .i64 x, .int .i64 z, .int .i64 c1, .bool c2, .slice ro rs.length rc] 35) :: (P1.pcs h ss ls ++ (D1.pcs ++ X))) := M.bring 1 rfl rfl
     replace M : Mg w w85 (.obj g14 (.cells #[.int .i64 (((ss : Nat) : Int)), .int .i64 (((ls : Nat) : Int)), .int .i64 (((D1.last : Nat) : Int)), .slice D1.so D1.ds.length D1.ca] 30) :: (P1.pcs h ss ls ++ (D1.pcs ++ X))) := by
      have h9 := M.sub (cc (cn (.refl _)))
      exact h9
     exact hJ33 _ _ ⟨0, ev, P1, D1, hk1, A.keep _ (by repeat' constructor), M⟩
    ·
     have hb79' := ne_of_beq_false hb79
     refine sdc A jl hb79 λa A↦?_
     refine sda A λa A↦?_
     refine qb (hK78 _ _ (wp_cond_false (A.ev rfl) ?_))
     refine wsk fun K86 hK86 => wrl ?_
     rcases tf ((kd == 4)) with hb87 | hb87
     ·
      have hb87' := eq_of_beq hb87
      refine sdc A jl hb87 λa A↦?_
      refine sda A λa A↦?_
      refine qb (hK86 _ _ (wp_cond_true (A.ev rfl) ?_))
      refine wsk fun K88 hK88 => wrl (sdm A λa A↦?_)
      refine jm (e := 3) (sz := 1) (m := 0) (vs := []) A M rfl rfl rfl (qx rfl (by kernel_rfl)) rfl rfl (.inl (by decide)) ?_
      intro g89 w90 M a A
      refine sdo (v := .pointer (some ⟨g27, 5, none⟩)) A (qd HdI_fld_35_4 rfl rfl) λa A↦?_
      refine sdo A (qh M HdI_is1_33 rfl 1 rfl rfl) λa A↦?_
      refine zz (e := 3) (sz := 1) (k := 0) (q := 0) (m := rs.length) (xs := []) (news := qg rs) (L' := fun v91 => (.row 3 1 (v91) (0 + rs.length) ([] ++ qg rs) :: .obj g27 (.cells #[.int .i64 kd, .int .i64 x, .int .i64 z, .int .i64 c1, .bool c2, .slice ro rs.length rc] 35) :: .obj g14 (.cells #[.int .i64 (((ss : Nat) : Int)), .int .i64 (((ls : Nat) : Int)), .int .i64 (((D.last : Nat) : Int)), .slice D.so D.ds.length D.ca] 30) :: (P.pcs h ss ls ++ (D.pcs ++ X)))) A rfl rfl rfl (xi (z := .int .i64 0) (sz := 1) (by_ := 8) Try.underlying33 (by kernel_rfl) rfl rfl rfl M 0 rfl rfl rfl (qjc rs) (hro.below M.bel) (qke rs) (by omega)) (fun _ => rfl) ?_
      intro v91 w92 M a A
      rw [Nat.zero_add, List.nil_append] at M
      obtain ⟨so93, ca94, rfl⟩ := zx (M.has 0 rfl)
      refine sct A (ef rfl rfl) (p_coll (E := [.obj g27 (.cells #[.int .i64 kd, .int .i64 x, .int .i64 z, .int .i64 c1, .bool c2, .slice ro rs.length rc] 35), .obj g14 (.cells #[.int .i64 (((ss : Nat) : Int)), .int .i64 (((ls : Nat) : Int)), .int .i64 (((D.last : Nat) : Int)), .slice D.so D.ds.length D.ca] 30)]) hk hrl (qj (by simp) (qj (by simp) js)) hnX M) ?_
      rintro _ w96 ⟨av, ev, P1, rfl, hR, hM95⟩
      replace M : Mg w w96 (.obj g27 (.cells #[.int .i64 kd, .int .i64 x, .int .i64 z, .int .i64 c1, .bool c2, .slice ro rs.length rc] 35) :: .obj g14 (.cells #[.int .i64 (((ss : Nat) : Int)), .int .i64 (((ls : Nat) : Int)), .int .i64 (((D.last : Nat) : Int)), .slice D.so D.ds.length D.ca] 30) :: (P1.pcs h ss ls ++ (D.pcs ++ X))) := hM95
      refine ⟨_, rfl, ?_⟩
      intro a A
      refine sdm A λa A↦?_
      iterate 2 refine sdo A (qk (vs := [.int .i64 av, .int .i64 ev]) rfl rfl) λa A↦?_
      iterate 2 refine sda A λa A↦?_
      refine qb (hK88 _ _ (wrl (sdo A (qq M HdI_isS_30 rfl 1 rfl (cs := [.int .i64 (((ss : Nat) : Int)), .int .i64 (((ls : Nat) : Int)), .int .i64 (((D.last : Nat) : Int)), .slice D.so D.ds.length D.ca]) rfl rfl) λa A↦?_)))
      refine sdo (v := .pointer (some ⟨g27, 5, none⟩)) A (qd HdI_fld_35_4 rfl rfl) λa A↦?_
      refine sdo A (qh M HdI_is1_33 rfl 0 rfl rfl) λa A↦?_
      refine sct A (ef rfl rfl) (d_coll (E := [.obj g27 (.cells #[.int .i64 kd, .int .i64 x, .int .i64 z, .int .i64 c1, .bool c2, .slice ro rs.length rc] 35), .obj g14 (.cells #[.int .i64 (((ss : Nat) : Int)), .int .i64 (((ls : Nat) : Int)), .int .i64 (((D.last : Nat) : Int)), .slice D.so D.ds.length D.ca] 30)]) hk hi1 hrl ⟨hro.below M.bel⟩ hR (qj (by simp) (qj (by simp) js)) hnX M) ?_
      rintro _ w98 ⟨D1, rfl, hk1, hM97⟩
      replace M : Mg w w98 (.obj g27 (.cells #[.int .i64 kd, .int .i64 x, .int .i64 z, .int .i64 c1, .bool c2, .slice ro rs.length rc] 35) :: .obj g14 (.cells #[.int .i64 (((ss : Nat) : Int)), .int .i64 (((ls : Nat) : Int)), .int .i64 (((D.last : Nat) : Int)), .slice D.so D.ds.length D.ca] 30) :: (P1.pcs h ss ls ++ (D1.pcs ++ X))) := hM97
      refine ⟨_, rfl, ?_⟩
      intro a A
      refine sdm A λa A↦?_
      iterate 3 refine sdo A (qk (vs := [.int .i64 av, .int .i64 ev, .agg #[.int .i64 (((ss : Nat) : Int)), .int .i64 (((ls : Nat) : Int)), .int .i64 (((D1.last : Nat) : Int)), .slice D1.so D1.ds.length D1.ca]]) rfl rfl) λa A↦?_
      iterate 2 refine sda A λa A↦?_
      refine qs (us := [.int .i64 (((ss : Nat) : Int)), .int .i64 (((ls : Nat) : Int)), .int .i64 (((D1.last : Nat) : Int)), .slice D1.so D1.ds.length D1.ca]) (L' := (.obj g27 (.cells #[.int .i64 kd, .int .i64 x, .int .i64 z, .int .i64 c1, .bool c2, .slice ro rs.length rc] 35) :: .obj g14 (.cells #[.int .i64 (((ss : Nat) : Int)), .int .i64 (((ls : Nat) : Int)), .int .i64 (((D1.last : Nat) : Int)), .slice D1.so D1.ds.length D1.ca] 30) :: (P1.pcs h ss ls ++ (D1.pcs ++ X)))) A M rfl rfl (qo rfl rfl rfl (by kernel_rfl) M 1 rfl rfl rfl) 1 rfl rfl rfl ?_
      intro w99 M
      refine qb ?_
      replace M : Mg w w99 (.obj g14 (.cells #[.int .i64 (((ss : Nat) : Int)), .int .i64 (((ls : Nat) : Int)), .int .i64 (((D1.last : Nat) : Int)), .slice D1.so D1.ds.length D1.ca] 30) :: .obj g27 (.cells #[.int .i64 kd, .int .i64 x, .int .i64 z, .int .i64 c1, .bool c2, .slice ro rs.length rc] 35) :: (P1.pcs h ss ls ++ (D1.pcs ++ X))) := M.bring 1 rfl rfl
      replace M : Mg w w99 (.obj g14 (.cells #[.int .i64 (((ss : Nat) : Int)), .int .i64 (((ls : Nat) : Int)), .int .i64 (((D1.last : Nat) : Int)), .slice D1.so D1.ds.length D1.ca] 30) :: (P1.pcs h ss ls ++ (D1.pcs ++ X))) := by
       have h9 := M.sub (cc (cn (.refl _)))
       exact h9
      exact hJ33 _ _ ⟨av, ev, P1, D1, hk1, A.keep _ (by repeat' constructor), M⟩
     ·
      have hb87' := ne_of_beq_false hb87
      refine sdc A jl hb87 λa A↦?_
      refine sda A λa A↦?_
      refine qb (hK86 _ _ (wp_cond_false (A.ev rfl) ?_))
      refine wsk fun K100 hK100 => wrl ?_
      rcases tf ((kd == 5)) with hb101 | hb101
      ·
       have hb101' := eq_of_beq hb101
       refine sdc A jl hb101 λa A↦?_
       refine sda A λa A↦?_
       refine qb (hK100 _ _ (wp_cond_true (A.ev rfl) ?_))
       refine wsk fun K102 hK102 => wrl (sdm A λa A↦?_)
       refine sdo (v := .pointer (some ⟨g27, 1, none⟩)) A (qd HdI_fld_35_1 rfl rfl) λa A↦?_
       refine sdo A (qh M HdI_is1_3 rfl 0 rfl rfl) λa A↦?_
       refine sct A (ef rfl rfl) (p_size (E := [.obj g27 (.cells #[.int .i64 kd, .int .i64 x, .int .i64 z, .int .i64 c1, .bool c2, .slice ro rs.length rc] 35), .obj g14 (.cells #[.int .i64 (((ss : Nat) : Int)), .int .i64 (((ls : Nat) : Int)), .int .i64 (((D.last : Nat) : Int)), .slice D.so D.ds.length D.ca] 30)]) M x) ?_
       rintro _ w104 ⟨rfl, hM103⟩
       replace M : Mg w w104 (.obj g27 (.cells #[.int .i64 kd, .int .i64 x, .int .i64 z, .int .i64 c1, .bool c2, .slice ro rs.length rc] 35) :: .obj g14 (.cells #[.int .i64 (((ss : Nat) : Int)), .int .i64 (((ls : Nat) : Int)), .int .i64 (((D.last : Nat) : Int)), .slice D.so D.ds.length D.ca] 30) :: (P.pcs h ss ls ++ (D.pcs ++ X))) := hM103
       refine ⟨_, rfl, ?_⟩
       intro a A
       refine sdm A λa A↦?_
       iterate 2 refine sdo A (qk (vs := [.int .i64 ((szS x P.os).1), .int .i64 ((szS x P.os).2)]) rfl rfl) λa A↦?_
       iterate 2 refine sda A λa A↦?_
       refine qb (hK102 _ _ (wsk fun K105 hK105 => wrl (sdo A (qq M HdI_isS_30 rfl 1 rfl (cs := [.int .i64 (((ss : Nat) : Int)), .int .i64 (((ls : Nat) : Int)), .int .i64 (((D.last : Nat) : Int)), .slice D.so D.ds.length D.ca]) rfl rfl) λa A↦?_)))
       refine sdo (v := .pointer (some ⟨g27, 1, none⟩)) A (qd HdI_fld_35_1 rfl rfl) λa A↦?_
       refine sdo A (qh M HdI_is1_3 rfl 0 rfl rfl) λa A↦?_
       refine sct A (ef rfl rfl) (d_size (E := [.obj g27 (.cells #[.int .i64 kd, .int .i64 x, .int .i64 z, .int .i64 c1, .bool c2, .slice ro rs.length rc] 35), .obj g14 (.cells #[.int .i64 (((ss : Nat) : Int)), .int .i64 (((ls : Nat) : Int)), .int .i64 (((D.last : Nat) : Int)), .slice D.so D.ds.length D.ca] 30)]) hk M x) ?_
       rintro _ w107 ⟨rfl, hM106⟩
       replace M : Mg w w107 (.obj g27 (.cells #[.int .i64 kd, .int .i64 x, .int .i64 z, .int .i64 c1, .bool c2, .slice ro rs.length rc] 35) :: .obj g14 (.cells #[.int .i64 (((ss : Nat) : Int)), .int .i64 (((ls : Nat) : Int)), .int .i64 (((D.last : Nat) : Int)), .slice D.so D.ds.length D.ca] 30) :: (P.pcs h ss ls ++ (D.pcs ++ X))) := hM106
       refine ⟨_, rfl, ?_⟩
       intro a A
       refine sdm A λa A↦?_
       iterate 2 refine sdo A (qk (vs := [.int .i64 ((szS x P.os).1), .int .i64 ((szS x P.os).2)]) rfl rfl) λa A↦?_
       iterate 2 refine sda A λa A↦?_
       refine qb (hK105 _ _ (wsk fun K108 hK108 => wrl (sdm A λa A↦?_)))
       refine sdo (v := .pointer (some ⟨g27, 1, none⟩)) A (qd HdI_fld_35_1 rfl rfl) λa A↦?_
       refine sdo A (qh M HdI_is1_3 rfl 0 rfl rfl) λa A↦?_
       refine sct A (ef rfl rfl) (p_place (E := [.obj g27 (.cells #[.int .i64 kd, .int .i64 x, .int .i64 z, .int .i64 c1, .bool c2, .slice ro rs.length rc] 35), .obj g14 (.cells #[.int .i64 (((ss : Nat) : Int)), .int .i64 (((ls : Nat) : Int)), .int .i64 (((D.last : Nat) : Int)), .slice D.so D.ds.length D.ca] 30)]) M x) ?_
       rintro _ w110 ⟨rfl, hM109⟩
       replace M : Mg w w110 (.obj g27 (.cells #[.int .i64 kd, .int .i64 x, .int .i64 z, .int .i64 c1, .bool c2, .slice ro rs.length rc] 35) :: .obj g14 (.cells #[.int .i64 (((ss : Nat) : Int)), .int .i64 (((ls : Nat) : Int)), .int .i64 (((D.last : Nat) : Int)), .slice D.so D.ds.length D.ca] 30) :: (P.pcs h ss ls ++ (D.pcs ++ X))) := hM109
       refine ⟨_, rfl, ?_⟩
       intro a A
       refine sdm A λa A↦?_
       iterate 2 refine sdo A (qk (vs := [.int .i64 ((poS x P.os).1), .int .i64 ((poS x P.os).2)]) rfl rfl) λa A↦?_
       iterate 2 refine sda A λa A↦?_
       refine qb (hK108 _ _ (wsk fun K111 hK111 => wrl (sdo A (qq M HdI_isS_30 rfl 1 rfl (cs := [.int .i64 (((ss : Nat) : Int)), .int .i64 (((ls : Nat) : Int)), .int .i64 (((D.last : Nat) : Int)), .slice D.so D.ds.length D.ca]) rfl rfl) λa A↦?_)))
       refine sdo (v := .pointer (some ⟨g27, 1, none⟩)) A (qd HdI_fld_35_1 rfl rfl) λa A↦?_
       refine sdo A (qh M HdI_is1_3 rfl 0 rfl rfl) λa A↦?_
       refine sct A (ef rfl rfl) (d_place (E := [.obj g27 (.cells #[.int .i64 kd, .int .i64 x, .int .i64 z, .int .i64 c1, .bool c2, .slice ro rs.length rc] 35), .obj g14 (.cells #[.int .i64 (((ss : Nat) : Int)), .int .i64 (((ls : Nat) : Int)), .int .i64 (((D.last : Nat) : Int)), .slice D.so D.ds.length D.ca] 30)]) hk M x) ?_
       rintro _ w113 ⟨rfl, hM112⟩
       replace M : Mg w w113 (.obj g27 (.cells #[.int .i64 kd, .int .i64 x, .int .i64 z, .int .i64 c1, .bool c2, .slice ro rs.length rc] 35) :: .obj g14 (.cells #[.int .i64 (((ss : Nat) : Int)), .int .i64 (((ls : Nat) : Int)), .int .i64 (((D.last : Nat) : Int)), .slice D.so D.ds.length D.ca] 30) :: (P.pcs h ss ls ++ (D.pcs ++ X))) := hM112
       refine ⟨_, rfl, ?_⟩
       intro a A
       refine sdm A λa A↦?_
       iterate 2 refine sdo A (qk (vs := [.int .i64 ((poS x P.os).1), .int .i64 ((poS x P.os).2)]) rfl rfl) λa A↦?_
       iterate 2 refine sda A λa A↦?_
       refine qb (hK111 _ _ (wsk fun K114 hK114 => wrl ?_))
       iterate 2 refine sdm A λa A↦?_
       refine sdo (v := .bool false) A (qe rfl rfl (fun w => (jd w).trans (by rw [show (((poS x P.os).1 != (poS x P.os).1)) = false from (by simp)]))) λa A↦?_
       iterate 3 refine sdm A λa A↦?_
       refine sdo (v := .bool false) A (qe rfl rfl (fun w => (jd w).trans (by rw [show (((poS x P.os).2 != (poS x P.os).2)) = false from (by simp)]))) λa A↦?_
       refine sdk (v := .bool false) A λa A↦?_
       refine qb (hK114 _ _ (wp_cond_false (A.ev rfl) ?_))
       refine wp_skip ?_
       replace M : Mg w w113 (.obj g14 (.cells #[.int .i64 (((ss : Nat) : Int)), .int .i64 (((ls : Nat) : Int)), .int .i64 (((D.last : Nat) : Int)), .slice D.so D.ds.length D.ca] 30) :: .obj g27 (.cells #[.int .i64 kd, .int .i64 x, .int .i64 z, .int .i64 c1, .bool c2, .slice ro rs.length rc] 35) :: (P.pcs h ss ls ++ (D.pcs ++ X))) := M.bring 1 rfl rfl
       replace M : Mg w w113 (.obj g14 (.cells #[.int .i64 (((ss : Nat) : Int)), .int .i64 (((ls : Nat) : Int)), .int .i64 (((D.last : Nat) : Int)), .slice D.so D.ds.length D.ca] 30) :: (P.pcs h ss ls ++ (D.pcs ++ X))) := by
        have h9 := M.sub (cc (cn (.refl _)))
        exact h9
       exact hJ33 _ _ ⟨(szS x P.os).1, (szS x P.os).2, P, D, (hk.up hi1), A.keep _ (by repeat' constructor), M⟩
      ·
       have hb101' := ne_of_beq_false hb101
       refine sdc A jl hb101 λa A↦?_
       refine sda A λa A↦?_
       refine qb (hK100 _ _ (wp_cond_false (A.ev rfl) ?_))
       refine wp_skip ?_
       replace M : Mg w w29 (.obj g14 (.cells #[.int .i64 (((ss : Nat) : Int)), .int .i64 (((ls : Nat) : Int)), .int .i64 (((D.last : Nat) : Int)), .slice D.so D.ds.length D.ca] 30) :: .obj g27 (.cells #[.int .i64 kd, .int .i64 x, .int .i64 z, .int .i64 c1, .bool c2, .slice ro rs.length rc] 35) :: (P.pcs h ss ls ++ (D.pcs ++ X))) := M.bring 1 rfl rfl
       replace M : Mg w w29 (.obj g14 (.cells #[.int .i64 (((ss : Nat) : Int)), .int .i64 (((ls : Nat) : Int)), .int .i64 (((D.last : Nat) : Int)), .slice D.so D.ds.length D.ca] 30) :: (P.pcs h ss ls ++ (D.pcs ++ X))) := by
        have h9 := M.sub (cc (cn (.refl _)))
        exact h9
       exact hJ33 _ _ ⟨0, 0, P, D, (hk.up hi1), A.keep _ (by repeat' constructor), M⟩
 ·
  have hb24' := of_decide_eq_false hb24
  refine sdc A qm hb24 λa A↦?_
  refine qb (hK23 _ _ (wp_cond_false (A.ev rfl) ?_))
  refine wp_exit (hK17 _ _ (wsk fun K115 hK115 => wrl (sda A λa A↦?_)))
  refine qb (hK115 _ _ (wp_ret (hret _ _ (en1 A rfl (qi rfl) ?_))))
  exact ⟨rfl, M.bel⟩
theorem qdd {w : World} {a0 a1 : Int} {so : Option Addr} {ca : Nat} {ops : List Hop} (hops : Rp w so ops) (hol : ops.length ≤ 17592186044416) : Calls Try.prog 3 #[.int .i64 a0, .int .i64 a1, .slice so ops.length ca] w fun e w' => e = .returned (.bool true) ∧ Below w.heap.size w w' := by
 by_cases h : alB a0 = true ∧ alB a1 = true
 ·
  obtain ⟨h0, h1⟩ := h
  unfold alB at h0 h1
  rw [Bool.and_eq_true, decide_eq_true_eq, decide_eq_true_eq] at h0 h1
  obtain ⟨ss, rfl⟩ : ∃ ss : Nat, a0 = ((ss : Nat) : Int) := ⟨a0.toNat, by omega⟩
  obtain ⟨ls, rfl⟩ : ∃ ls : Nat, a1 = ((ls : Nat) : Int) := ⟨a1.toNat, by omega⟩
  exact plays_ok (by omega) (by omega) hops hol
 ·
  exact plays_bad h
open Go.ChangeShapes Go.WideShapes Go.ChangeAt Go.RowKit Go.Joins Go.Deep
section
variable {H : Type} {P : Program}
/-- No weight of it goes beyond what can be reached. -/
def Sm (P : Program) (t : TypeId) (d : DataW H) : Prop := ∀ n ∈ d.weights P t, n ≤ 140737488351232
theorem sm_arg {ts : List TypeId} {ds : List (DataW H)} (h : (DataW.weightsEach P ts ds).all (· ≤ reachBytes) = true) {j : Nat} {t : TypeId} {d : DataW H} (ht : ts[j]? = some t) (hd : ds[j]? = some d) : Sm P t d := fun n hn => by
  have h2 : n ≤ reachBytes := of_decide_eq_true (List.all_eq_true.1 h _ (DataW.weights_mem_each ht hd n hn))
  unfold reachBytes at h2
  omega
theorem sm_agg {t : TypeId} {fs : Array Field} {ds : List (DataW H)} (hu : P.underlying t = some (.struct fs)) (h : Sm P t (.agg ds)) {j : Nat} {u : TypeId} {d : DataW H} (ht : (fs.toList.map (·.type))[j]? = some u) (hd : ds[j]? = some d) : Sm P u d := fun n hn => h n (by
  unfold DataW.weights
  rw [hu]
  exact DataW.weights_mem_each ht hd n hn)
theorem uo {e : TypeId} {d : DataW H} : ∀ {ds : List (DataW H)}, d ∈ ds → ∀ n ∈ d.weights P e, n ∈ DataW.weightsAll P e ds
  | c :: ds, h, n, hn => by
    unfold DataW.weightsAll
    rcases List.mem_cons.1 h with rfl | h
    · exact List.mem_append_left _ hn
    · exact List.mem_append_right _ (uo h n hn)
theorem sm_slice {t e : TypeId} {xs ys : List (DataW H)} (hu : P.underlying t = some (.slice e)) (h : Sm P t (.slice xs ys)) : (xs.length + ys.length) * P.bytesOf e ≤ 140737488351232 ∧ ∀ d ∈ xs, Sm P e d := by
  have hw : (DataW.slice xs ys).weights P t = (xs.length + ys.length) * P.bytesOf e :: (DataW.weightsAll P e xs ++ DataW.weightsAll P e ys) := by simp only [DataW.weights, hu]
  refine ⟨h _ (by rw [hw]; exact List.mem_cons_self), fun d hd n hn => h n ?_⟩
  rw [hw]
  exact List.mem_cons_of_mem _ (List.mem_append_left _ (uo hd n hn))
theorem qie {enc : TypeId × Value → H} {w : World} {base : Nat} {spare : Nat → Bool} {held : Bool} {t : TypeId} {f0 f1 f2 f3 f4 : Field} {fuel : Nat} {cs : List Value} {x : DataW H × List MemPlace} (ht : P.underlying t = some (.struct #[f0, f1, f2, f3, f4])) (h : DataW.trod enc P w base spare held fuel t cs = some x) :
    ∃ y0 y1 y2 y3 y4 n, x.1 = .agg [y0.1, y1.1, y2.1, y3.1, y4.1] ∧ cs.length = P.cellsOf t ∧ DataW.trod enc P w base spare held n f0.type ((cs.drop f0.offset).take (P.cellsOf f0.type)) = some y0 ∧ DataW.trod enc P w base spare held n f1.type ((cs.drop f1.offset).take (P.cellsOf f1.type)) = some y1 ∧ DataW.trod enc P w base spare held n f2.type ((cs.drop f2.offset).take (P.cellsOf f2.type)) = some y2 ∧ DataW.trod enc P w base spare held n f3.type ((cs.drop f3.offset).take (P.cellsOf f3.type)) = some y3 ∧ DataW.trod enc P w base spare held n f4.type ((cs.drop f4.offset).take (P.cellsOf f4.type)) = some y4 := by
  obtain ⟨xs, n, _, rfl, hl, hlen, hf⟩ := DataW.trod_struct ht h
  match xs, hlen with
  | [y0, y1, y2, y3, y4], _ => exact ⟨y0, y1, y2, y3, y4, n, by simp, hl, by simpa using hf 0 f0 rfl, by simpa using hf 1 f1 rfl, by simpa using hf 2 f2 rfl, by simpa using hf 3 f3 rfl, by simpa using hf 4 f4 rfl⟩
end
theorem row_ofV {w : World} {x : Addr} {vs : List Value} (hc : ∀ i v, vs[i]? = some v → w.cell? (x.add i) = some v) : Rv w (some x) vs := by
  intro hne
  obtain ⟨v, h0⟩ : ∃ v, vs[0]? = some v := by
    cases vs with
    | nil => exact absurd rfl hne
    | cons v t => exact ⟨v, rfl⟩
  obtain ⟨b, off, spot⟩ := x
  have hspot : spot = none := by
    have h2 := hc 0 v h0
    simp only [World.cell?, Addr.add] at h2
    split at h2
    · cases spot with
      | none => rfl
      | some s => simp at h2
    · cases h2
  subst hspot
  refine ⟨b, off, rfl, fun p u hp => ?_⟩
  have h2 := hc p u hp
  rw [Addr.add_lit] at h2
  exact h2
theorem rv_nil {w : World} {so : Option Addr} : Rv w so [] := fun h => absurd rfl h
section
variable {H : Type} {enc : TypeId × Value → H} {W : World}
theorem open_intsV {fuel : Nat} {v : Value} {y : DataW H × List MemPlace} (hf : DataW.trod enc Try.prog W 0 (fun _ => true) true fuel 33 [v] = some y) (hs : Sm Try.prog 33 y.1) :
    ∃ so cap l, v = .slice so (l : List Int).length cap ∧ Rv W so (qg l) ∧ l.length ≤ 17592186044416 := by
  rcases DataW.trod_slice Try.underlying33 hf with ⟨hcs, _⟩ | ⟨x, len, cap, elems, rest, m, _, hcs, hx, _, hl, hm, hlen, hel, _, _⟩
  · simp at hcs
    subst hcs
    exact ⟨none, 0, [], rfl, rv_nil, Nat.zero_le _⟩
  · simp at hcs
    subst hcs
    subst hx
    obtain ⟨s1, _⟩ := sm_slice Try.underlying33 hs
    rw [show Try.prog.bytesOf 3 = 8 by kernel_rfl] at s1
    simp only [List.length_map] at s1
    have each : ∀ i, ∃ z : Int, i < len → W.cell? (x.add i) = some (.int .i64 z) := by
      intro i
      by_cases hi : i < len
      · have hE := hel i hi
        rw [show Try.prog.cellsOf 3 = 1 by kernel_rfl, Nat.mul_one] at hE
        rw [List.getElem?_eq_getElem (by omega), Option.bind_eq_some_iff] at hE
        obtain ⟨c1, hc1, hy1⟩ := hE
        obtain ⟨z, rfl, _⟩ := DataW.trod_int Try.underlying3 hy1
        exact ⟨z, fun _ => cell_of_cells?_one hc1⟩
      · exact ⟨0, fun k => absurd k hi⟩
    obtain ⟨F, hF⟩ := Classical.skolem.1 each
    refine ⟨some x, cap, (List.range len).map F, by simp, row_ofV fun i v hi => ?_, by simp; omega⟩
    have hlt := (List.getElem?_eq_some_iff.1 hi).1
    simp only [qg, List.length_map, List.length_range] at hlt
    simp only [qg, List.map_map, List.getElem?_map, List.getElem?_range hlt, Option.map_some, Function.comp, Option.some.injEq] at hi
    rw [← hi]
    exact hF i hlt
theorem open_hop {fuel : Nat} {cs : List Value} {y : DataW H × List MemPlace} (hf : DataW.trod enc Try.prog W 0 (fun _ => true) true fuel 35 cs = some y) (hs : Sm Try.prog 35 y.1) :
    ∃ o : Hop, cs = opC [o] ∧ Rv W o.ro (qg o.rs) ∧ o.rs.length ≤ 17592186044416 := by
  obtain ⟨y0, y1, y2, y3, y4, n, hx, hl, h0, h1, h2, h3, h4⟩ := qie Try.underlying35 hf
  rw [show Try.prog.cellsOf 35 = 6 by kernel_rfl] at hl
  have e : Try.prog.cellsOf 3 = 1 := by kernel_rfl
  have e1 : Try.prog.cellsOf 4 = 1 := by kernel_rfl
  have e2 : Try.prog.cellsOf 32 = 2 := by kernel_rfl
  have e3 : Try.prog.cellsOf 33 = 1 := by kernel_rfl
  rw [hx] at hs
  have s4 : Sm Try.prog 33 y4.1 := sm_agg Try.underlying35 hs (j := 4) rfl rfl
  match cs, hl with
  | [v0, v1, v2, v3, v4, v5], _ =>
    simp only [e, e2, e3, List.drop_zero, List.take_succ_cons, List.take_zero, List.drop_succ_cons] at h0 h1 h2 h3 h4
    obtain ⟨z0, k0, _⟩ := DataW.trod_int Try.underlying3 h0
    obtain ⟨z1, k1, _⟩ := DataW.trod_int Try.underlying3 h1
    obtain ⟨z2, k2, _⟩ := DataW.trod_int Try.underlying3 h2
    obtain ⟨u0, u1, m, _, _, g0, g1⟩ := trod_struct2 Try.underlying32 h3
    simp only [e, e1, List.drop_zero, List.take_succ_cons, List.take_zero, List.drop_succ_cons] at g0 g1
    obtain ⟨z3, k3, _⟩ := DataW.trod_int Try.underlying3 g0
    obtain ⟨b4, k4, _⟩ := DataW.trod_bool Try.underlying4 g1
    obtain ⟨so, cap, l, rfl, hr, hl⟩ := open_intsV h4 s4
    simp only [List.cons.injEq, and_true] at k0 k1 k2 k3 k4
    subst k0 k1 k2 k3 k4
    exact ⟨⟨z0, z1, z2, z3, b4, so, cap, l⟩, rfl, hr, hl⟩
theorem opC_get : ∀ {ops : List Hop} {j k : Nat} {o : Hop}, ops[j]? = some o → k < 6 → (opC ops)[j * 6 + k]? = (opC [o])[k]?
  | [], _, _, _, h, _ => by simp at h
  | a :: t, 0, k, o, h, hk => by
    simp at h
    subst h
    rw [Nat.zero_mul, Nat.zero_add]
    match k, hk with
    | 0, _ => rfl
    | 1, _ => rfl
    | 2, _ => rfl
    | 3, _ => rfl
    | 4, _ => rfl
    | 5, _ => rfl
  | a :: t, j + 1, k, o, h, hk => by
    have := opC_get (ops := t) (j := j) (k := k) (o := o) (by simpa using h) hk
    rw [show (j + 1) * 6 + k = j * 6 + k + 1 + 1 + 1 + 1 + 1 + 1 from by omega]
    exact this
theorem open_hops {base : Nat} {v : Value} {d : DataW H} {p : List MemPlace} (hv : Value.okWide Try.prog W .any base 22 v) (h : DataW.Trod enc Try.prog W 0 (fun _ => true) true 22 v d p) (hs : Sm Try.prog 22 d) :
    ∃ so cap l, v = .slice so (l : List Hop).length cap ∧ Rp W so l ∧ l.length ≤ 17592186044416 := by
  obtain ⟨a, n, c, rfl⟩ := okWide_slice Try.underlying22 hv
  obtain ⟨fuel, hf⟩ := h
  rcases DataW.trod_slice Try.underlying22 hf with ⟨hcs, _⟩ | ⟨x, len, cap, elems, rest, m, _, hcs, hx, _, hl, hm, hlen, hel, _, _⟩
  · simp [Value.cells] at hcs
    obtain ⟨rfl, rfl, rfl⟩ := hcs
    exact ⟨none, 0, [], rfl, ⟨rv_nil, (fun o k => by cases k), (fun o k => by cases k)⟩, Nat.zero_le _⟩
  · simp [Value.cells] at hcs
    obtain ⟨rfl, rfl, rfl⟩ := hcs
    simp only [Prod.mk.injEq] at hx
    obtain ⟨rfl, _⟩ := hx
    obtain ⟨s1, s2⟩ := sm_slice Try.underlying22 hs
    rw [show Try.prog.bytesOf 35 = 64 by kernel_rfl] at s1
    simp only [List.length_map] at s1
    have each : ∀ i, ∃ o : Hop, i < n → (∀ k, k < 6 → W.cell? (x.add (i * 6 + k)) = (opC [o])[k]?) ∧ Rv W o.ro (qg o.rs) ∧ o.rs.length ≤ 17592186044416 := by
      intro i
      by_cases hi : i < n
      · have hE := hel i hi
        rw [show Try.prog.cellsOf 35 = 6 by kernel_rfl] at hE
        rw [List.getElem?_eq_getElem (by omega), Option.bind_eq_some_iff] at hE
        obtain ⟨c1, hc1, hy1⟩ := hE
        obtain ⟨o, e, hr, hrl⟩ := open_hop hy1 (s2 (elems[i]'(by omega)).1 (List.mem_map.2 ⟨_, List.getElem_mem _, rfl⟩))
        obtain ⟨_, _, h3⟩ := World.cells?_some hc1
        refine ⟨o, fun _ => ⟨fun k hk => ?_, hr, hrl⟩⟩
        have := h3 k hk
        rw [e] at this
        rw [← this, Addr.add_add]
      · exact ⟨⟨0, 0, 0, 0, false, none, 0, []⟩, fun k => absurd k hi⟩
    obtain ⟨F, hF⟩ := Classical.skolem.1 each
    refine ⟨some x, c, (List.range n).map F, by simp, ⟨row_ofV fun i v hi => ?_, fun o ho => ?_, fun o ho => ?_⟩, by simp; omega⟩
    · have hlt := (List.getElem?_eq_some_iff.1 hi).1
      rw [qid, List.length_map, List.length_range] at hlt
      have hj : i / 6 < n := by omega
      have hg := opC_get (ops := (List.range n).map F) (j := i / 6) (k := i % 6) (o := F (i / 6)) (by simp [hj]) (Nat.mod_lt _ (by decide))
      have h1 := (hF (i / 6) hj).1 (i % 6) (Nat.mod_lt _ (by decide))
      rw [show i / 6 * 6 + i % 6 = i from by omega] at hg h1
      rw [h1, ← hg, hi]
    · obtain ⟨i, hi, rfl⟩ := List.mem_map.1 ho
      exact (hF i (List.mem_range.1 hi)).2.1
    · obtain ⟨i, hi, rfl⟩ := List.mem_map.1 ho
      exact (hF i (List.mem_range.1 hi)).2.2
end
end Go.Proofs.Ytjjkcpmhlcjaoaa
