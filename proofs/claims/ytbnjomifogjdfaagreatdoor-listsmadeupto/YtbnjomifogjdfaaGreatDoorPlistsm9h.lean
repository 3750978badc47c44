/- Walks of the document's Of, Reverse, Tail and Append. The walk of the law of joined lists. The walk of the law of lists that are made. What a bound on the bulk of what is read gives. Transcoders that come in as arguments. Rows of bytes that come in as arguments; the first part of a row, and of a text. Data that come in as arguments. -/
import Derived.Test.YtbnjomifogjdfaaGreatDoorPlistsm9g
import Derived.Test.YtbnjomifogjdfaaGreatDoorRows
import Derived.Test.YtbnjomifogjdfaaGreatDoorPlistsm9d
import Derived.Test.YtbnjomifogjdfaaGreatDoorProg
import Derived.WalkKit
import Derived.ProofKit
import Derived.OpenShut
import Derived.ChangeOld
import Derived.Lib.SmallJoins
import Derived.Deep.Strs
import Derived.Test.YtbnjomifogjdfaaGreatDoorPlistsm9c
import Derived.Test.YtbnjomifogjdfaaGreatDoorPlistsm9f
import Derived.Deep.Slices
namespace Go.Proofs.YtbnjomifogjdfaaGreatDoor.G
open Go.RowKit
set_option linter.unusedVariables false
set_option linter.unusedSimpArgs false
set_option maxRecDepth 100000
theorem LiN_isS_30 : IsS Tryz.prog 30 11 := ⟨⟨_, Tryz.underlying30⟩, by kernel_rfl⟩
theorem zhb {w : World} {so : Option Addr} {ca : Nat} {ts : List Dt} (hR : Rt w so ts) (hD : ∀ t ∈ ts, t.rd w) (hb : Tr.bulks (ts.map Dt.tr) ≤ 1100000) : Calls Tryz.prog 19 #[.slice so ts.length ca] w fun e w' => ∃ t2 : Dt, e = .returned (.agg (t2.d.cells t2.ts.length).toArray) ∧ (t2.rd w' ∧ t2.tr = ofS (ts.map Dt.tr)) ∧ Below w.heap.size w w' := by
 have hbl := jn ts
 have hnb : qz.tr.bulk = 1 := by rw [xw]; rfl
 have M : Mg w w ([]) := Mg.start w
 refine qn (l := [(0, .slice so ts.length ca)]) Tryz.func19 rfl Tryz.ntmps19 rfl rfl ?_
 intro Q hret hnorm hP a A
 refine wsk fun K1 hK1 => wrl (zr (vs := [.int .i64 0, .int .i64 0, .bool false, .slice none 0 0, .slice none 0 0, .bool false, .slice none 0 0, .slice none 0 0, .string (⟨#[]⟩), .slice none 0 0, .slice none 0 0]) (t := 30) A M rfl rfl rfl pg (qs (z := .agg #[.int .i64 0, .int .i64 0, .bool false, .slice none 0 0, .slice none 0 0, .bool false, .slice none 0 0, .slice none 0 0, .string (⟨#[]⟩), .slice none 0 0, .slice none 0 0]) (by kernel_rfl) rfl) (by decide) ?_)
 intro g2 w3 M a A
 refine qa (hK1 _ _ (wsk fun K4 hK4 => wrl (sdm A λa A↦?_)))
 refine gcl A M (ef rfl rfl) (qcj) fun w6 hb5 M a A => ?_
 obtain ⟨hge7, hlt8⟩ := Ck.lt (M.has 0 rfl) g2 rfl
 refine sct A (ef rfl rfl) (yi (hR.below M.bel) (fun t ht => Dt.keep M.bel _ (hD t ht)) (yp _) (by omega) (fun b => b < w.heap.size ∨ w6.heap.size ≤ b) (fun b hb => .inr hb) (fun t ht => Dt.at_mono (fun b hb => .inl hb) _ (Dt.at_lt _ (hD t ht))) (qfg _)) ?_
 rintro _ w10 ⟨t3, rfl, ⟨hrt3, hat3, htt3⟩, hb9⟩
 replace M := M.call hb9
 refine ⟨_, rfl, ?_⟩
 intro a A
 refine qoe (vs := [.int .i64 0, .int .i64 0, .bool false, .slice none 0 0, .slice none 0 0, .bool false, .slice none 0 0, .slice none 0 0, .string (⟨#[]⟩), .slice none 0 0, .slice none 0 0]) (t := 30) A M rfl rfl rfl pg (qs (z := .agg #[.int .i64 0, .int .i64 0, .bool false, .slice none 0 0, .slice none 0 0, .bool false, .slice none 0 0, .slice none 0 0, .string (⟨#[]⟩), .slice none 0 0, .slice none 0 0]) (by kernel_rfl) rfl) (by decide) ?_
 intro g11 w12 M hg13 hb14 a A
 have hnt3g11 := Dt.at_mono (q := (· ≠ g11)) (fun b hb => by intro e; omega) _ (Dt.at_lt _ hrt3)
 replace hrt3 := Dt.keep hb14 _ hrt3
 refine ji (us := [.int .i64 t3.d.k, .int .i64 t3.d.n, .bool t3.d.y.q.b1, .slice t3.d.y.o1 t3.d.y.q.t1.length t3.d.y.c1, .slice t3.d.y.o2 t3.d.y.q.q1.length t3.d.y.c2, .bool t3.d.y.q.b2, .slice t3.d.y.o3 t3.d.y.q.t2.length t3.d.y.c3, .slice t3.d.y.o4 t3.d.y.q.q2.length t3.d.y.c4, .string t3.d.s, .slice t3.d.ro t3.d.rl.length t3.d.rc, .slice t3.d.lo t3.ts.length t3.d.lc]) (L' := (.obj g11 (.cells (t3.d.cells t3.ts.length).toArray 30) :: .obj g2 (.cells #[.int .i64 0, .int .i64 0, .bool false, .slice none 0 0, .slice none 0 0, .bool false, .slice none 0 0, .slice none 0 0, .string (⟨#[]⟩), .slice none 0 0, .slice none 0 0] 30) :: [])) A M rfl rfl (qj rfl rfl rfl (by kernel_rfl) M 0 rfl rfl rfl) 0 rfl rfl rfl ?_
 intro w15 M hK16
 replace hrt3 := Dt.kept hK16 _ hrt3 hnt3g11
 refine qa (hK4 _ _ (wsk fun K17 hK17 => wsk fun K18 hK18 => wrl (sdo A (zi M LiN_isS_30 rfl 0 rfl (cs := [.int .i64 t3.d.k, .int .i64 t3.d.n, .bool t3.d.y.q.b1, .slice t3.d.y.o1 t3.d.y.q.t1.length t3.d.y.c1, .slice t3.d.y.o2 t3.d.y.q.q1.length t3.d.y.c2, .bool t3.d.y.q.b2, .slice t3.d.y.o3 t3.d.y.q.t2.length t3.d.y.c3, .slice t3.d.y.o4 t3.d.y.q.q2.length t3.d.y.c4, .string t3.d.s, .slice t3.d.ro t3.d.rl.length t3.d.rc, .slice t3.d.lo t3.ts.length t3.d.lc]) rfl rfl) λa A↦?_)))
 rcases tf (qp qh t3.tr) with hb19 | hb19
 ·
  refine sct A (ef rfl rfl) ((hb19 ▸ rsound_any (t := t3) hrt3 (by rw [htt3, vf, List.length_map]; omega))) ?_
  rintro _ w21 ⟨rfl, hb20⟩
  replace hrt3 := Dt.keep hb20 _ hrt3
  replace M := M.call hb20
  refine ⟨_, rfl, ?_⟩
  intro a A
  refine sdo (v := .bool false) A (qy rfl zk) λa A↦?_
  refine qa (hK18 _ _ (wp_cond_false (A.ev rfl) ?_))
  refine wp_skip (hK17 _ _ (wsk fun K22 hK22 => wrl (sdo A (zi M LiN_isS_30 rfl 0 rfl (cs := [.int .i64 t3.d.k, .int .i64 t3.d.n, .bool t3.d.y.q.b1, .slice t3.d.y.o1 t3.d.y.q.t1.length t3.d.y.c1, .slice t3.d.y.o2 t3.d.y.q.q1.length t3.d.y.c2, .bool t3.d.y.q.b2, .slice t3.d.y.o3 t3.d.y.q.t2.length t3.d.y.c3, .slice t3.d.y.o4 t3.d.y.q.q2.length t3.d.y.c4, .string t3.d.s, .slice t3.d.ro t3.d.rl.length t3.d.rc, .slice t3.d.lo t3.ts.length t3.d.lc]) rfl rfl) λa A↦?_)))
  refine ji (us := [.int .i64 t3.d.k, .int .i64 t3.d.n, .bool t3.d.y.q.b1, .slice t3.d.y.o1 t3.d.y.q.t1.length t3.d.y.c1, .slice t3.d.y.o2 t3.d.y.q.q1.length t3.d.y.c2, .bool t3.d.y.q.b2, .slice t3.d.y.o3 t3.d.y.q.t2.length t3.d.y.c3, .slice t3.d.y.o4 t3.d.y.q.q2.length t3.d.y.c4, .string t3.d.s, .slice t3.d.ro t3.d.rl.length t3.d.rc, .slice t3.d.lo t3.ts.length t3.d.lc]) (L' := (.obj g11 (.cells (t3.d.cells t3.ts.length).toArray 30) :: .obj g2 (.cells (t3.d.cells t3.ts.length).toArray 30) :: [])) A M rfl rfl (qj rfl rfl rfl (by kernel_rfl) M 1 rfl rfl rfl) 1 rfl rfl rfl ?_
  intro w23 M hK24
  replace hrt3 := Dt.kept hK24 _ hrt3 (Dt.at_mono (fun b hb => by rintro rfl; omega) _ hat3)
  refine qa (hK22 _ _ (wp_ret (hret _ _ (en1 A rfl (qt M LiN_isS_30 rfl 1 rfl (cs := [.int .i64 t3.d.k, .int .i64 t3.d.n, .bool t3.d.y.q.b1, .slice t3.d.y.o1 t3.d.y.q.t1.length t3.d.y.c1, .slice t3.d.y.o2 t3.d.y.q.q1.length t3.d.y.c2, .bool t3.d.y.q.b2, .slice t3.d.y.o3 t3.d.y.q.t2.length t3.d.y.c3, .slice t3.d.y.o4 t3.d.y.q.q2.length t3.d.y.c4, .string t3.d.s, .slice t3.d.ro t3.d.rl.length t3.d.rc, .slice t3.d.lo t3.ts.length t3.d.lc]) rfl rfl) ?_))))
  exact ⟨t3, rfl, ⟨hrt3, by unfold ofS; rw [htt3, xw] at hb19; rw [qif hb19, htt3, xw]⟩, M.bel⟩
 ·
  refine sct A (ef rfl rfl) ((hb19 ▸ rsound_any (t := t3) hrt3 (by rw [htt3, vf, List.length_map]; omega))) ?_
  rintro _ w26 ⟨rfl, hb25⟩
  replace hrt3 := Dt.keep hb25 _ hrt3
  replace M := M.call hb25
  refine ⟨_, rfl, ?_⟩
  intro a A
  refine sdo (v := .bool true) A (qy rfl zk) λa A↦?_
  refine qa (hK18 _ _ (wp_cond_true (A.ev rfl) ?_))
  refine wsk fun K27 hK27 => wrl (sdo (v := .agg #[.int .i64 0, .int .i64 0, .bool false, .slice none 0 0, .slice none 0 0, .bool false, .slice none 0 0, .slice none 0 0, .string (⟨#[]⟩), .slice none 0 0, .slice none 0 0]) A (za rfl (fun w => by kernel_rfl)) λa A↦?_)
  refine ji (us := [.int .i64 0, .int .i64 0, .bool false, .slice none 0 0, .slice none 0 0, .bool false, .slice none 0 0, .slice none 0 0, .string (⟨#[]⟩), .slice none 0 0, .slice none 0 0]) (L' := (.obj g11 (.cells (t3.d.cells t3.ts.length).toArray 30) :: .obj g2 (.cells #[.int .i64 0, .int .i64 0, .bool false, .slice none 0 0, .slice none 0 0, .bool false, .slice none 0 0, .slice none 0 0, .string (⟨#[]⟩), .slice none 0 0, .slice none 0 0] 30) :: [])) A M rfl rfl (qj rfl rfl rfl (by kernel_rfl) M 1 rfl rfl rfl) 1 rfl rfl rfl ?_
  intro w28 M hK29
  replace hrt3 := Dt.kept hK29 _ hrt3 (Dt.at_mono (fun b hb => by rintro rfl; omega) _ hat3)
  refine qa (hK27 _ _ (wp_ret (hret _ _ (en1 A rfl (qt M LiN_isS_30 rfl 1 rfl (cs := [.int .i64 0, .int .i64 0, .bool false, .slice none 0 0, .slice none 0 0, .bool false, .slice none 0 0, .slice none 0 0, .string (⟨#[]⟩), .slice none 0 0, .slice none 0 0]) rfl rfl) ?_))))
  exact ⟨xf, rfl, ⟨jc _, by unfold ofS; rw [htt3, xw] at hb19; rw [qxd hb19, jb]⟩, M.bel⟩
theorem zed {w : World} {t : Dt} (ht : t.rd w) (hb : t.tr.bulk ≤ 4000000) {P : Nat → Prop} (hPt : t.at_ P) : Calls Tryz.prog 42 #[.agg (t.d.cells t.ts.length).toArray] w fun e w' => ∃ (t2 : Dt) (k : Int), e = .returned (.tuple #[.agg (t2.d.cells t2.ts.length).toArray, .int .i64 k]) ∧ (t2.rd w' ∧ t2.at_ P ∧ (t2.tr, k) = if qp qh t.tr = true then (t.tr, 0) else (vx, 4)) ∧ Below w.heap.size w w' := by
 have M : Mg w w ([]) := Mg.start w
 refine qn (l := [(0, .agg (t.d.cells t.ts.length).toArray)]) Tryz.func42 rfl Tryz.ntmps42 rfl rfl ?_
 intro Q hret hnorm hP a A
 refine wsk fun K1 hK1 => wrl (zr (vs := [.int .i64 t.d.k, .int .i64 t.d.n, .bool t.d.y.q.b1, .slice t.d.y.o1 t.d.y.q.t1.length t.d.y.c1, .slice t.d.y.o2 t.d.y.q.q1.length t.d.y.c2, .bool t.d.y.q.b2, .slice t.d.y.o3 t.d.y.q.t2.length t.d.y.c3, .slice t.d.y.o4 t.d.y.q.q2.length t.d.y.c4, .string t.d.s, .slice t.d.ro t.d.rl.length t.d.rc, .slice t.d.lo t.ts.length t.d.lc]) (t := 30) A M rfl rfl rfl pg (zg rfl rfl) (by decide) ?_)
 intro g2 w3 M a A
 refine zr (vs := [.int .i64 0, .int .i64 0, .bool false, .slice none 0 0, .slice none 0 0, .bool false, .slice none 0 0, .slice none 0 0, .string (⟨#[]⟩), .slice none 0 0, .slice none 0 0]) (t := 30) A M rfl rfl rfl pg (qs (z := .agg #[.int .i64 0, .int .i64 0, .bool false, .slice none 0 0, .slice none 0 0, .bool false, .slice none 0 0, .slice none 0 0, .string (⟨#[]⟩), .slice none 0 0, .slice none 0 0]) (by kernel_rfl) rfl) (by decide) ?_
 intro g4 w5 M a A
 refine sda A λa A↦?_
 refine qa (hK1 _ _ (wsk fun K6 hK6 => wsk fun K7 hK7 => wrl (sdo A (zi M LiN_isS_30 rfl 1 rfl (cs := [.int .i64 t.d.k, .int .i64 t.d.n, .bool t.d.y.q.b1, .slice t.d.y.o1 t.d.y.q.t1.length t.d.y.c1, .slice t.d.y.o2 t.d.y.q.q1.length t.d.y.c2, .bool t.d.y.q.b2, .slice t.d.y.o3 t.d.y.q.t2.length t.d.y.c3, .slice t.d.y.o4 t.d.y.q.q2.length t.d.y.c4, .string t.d.s, .slice t.d.ro t.d.rl.length t.d.rc, .slice t.d.lo t.ts.length t.d.lc]) rfl rfl) λa A↦?_)))
 rcases tf (qp qh t.tr) with hb8 | hb8
 ·
  refine gcl A M (ef rfl rfl) ((hb8 ▸ rsound_any (t := t) (Dt.keep M.bel _ ht) hb)) fun w10 hb9 M a A => ?_
  refine sdo (v := .bool false) A (qy rfl zk) λa A↦?_
  refine qa (hK7 _ _ (wp_cond_false (A.ev rfl) ?_))
  refine wp_skip (hK6 _ _ (wsk fun K11 hK11 => wrl (sdo A (zi M LiN_isS_30 rfl 1 rfl (cs := [.int .i64 t.d.k, .int .i64 t.d.n, .bool t.d.y.q.b1, .slice t.d.y.o1 t.d.y.q.t1.length t.d.y.c1, .slice t.d.y.o2 t.d.y.q.q1.length t.d.y.c2, .bool t.d.y.q.b2, .slice t.d.y.o3 t.d.y.q.t2.length t.d.y.c3, .slice t.d.y.o4 t.d.y.q.q2.length t.d.y.c4, .string t.d.s, .slice t.d.ro t.d.rl.length t.d.rc, .slice t.d.lo t.ts.length t.d.lc]) rfl rfl) λa A↦?_)))
  refine qw (us := [.int .i64 t.d.k, .int .i64 t.d.n, .bool t.d.y.q.b1, .slice t.d.y.o1 t.d.y.q.t1.length t.d.y.c1, .slice t.d.y.o2 t.d.y.q.q1.length t.d.y.c2, .bool t.d.y.q.b2, .slice t.d.y.o3 t.d.y.q.t2.length t.d.y.c3, .slice t.d.y.o4 t.d.y.q.q2.length t.d.y.c4, .string t.d.s, .slice t.d.ro t.d.rl.length t.d.rc, .slice t.d.lo t.ts.length t.d.lc]) (L' := (.obj g4 (.cells (t.d.cells t.ts.length).toArray 30) :: .obj g2 (.cells (t.d.cells t.ts.length).toArray 30) :: [])) A M rfl rfl (qj rfl rfl rfl (by kernel_rfl) M 0 rfl rfl rfl) 0 rfl rfl rfl ?_
  intro w12 M
  refine sda A λa A↦?_
  refine qa (hK11 _ _ (wp_ret (hret _ _ (en2 A rfl (qt M LiN_isS_30 rfl 0 rfl (cs := [.int .i64 t.d.k, .int .i64 t.d.n, .bool t.d.y.q.b1, .slice t.d.y.o1 t.d.y.q.t1.length t.d.y.c1, .slice t.d.y.o2 t.d.y.q.q1.length t.d.y.c2, .bool t.d.y.q.b2, .slice t.d.y.o3 t.d.y.q.t2.length t.d.y.c3, .slice t.d.y.o4 t.d.y.q.q2.length t.d.y.c4, .string t.d.s, .slice t.d.ro t.d.rl.length t.d.rc, .slice t.d.lo t.ts.length t.d.lc]) rfl rfl) (qe rfl) ?_))))
  exact ⟨t, 0, rfl, ⟨Dt.keep M.bel _ ht, hPt, by rw [if_pos hb8]⟩, M.bel⟩
 ·
  refine gcl A M (ef rfl rfl) ((hb8 ▸ rsound_any (t := t) (Dt.keep M.bel _ ht) hb)) fun w14 hb13 M a A => ?_
  refine sdo (v := .bool true) A (qy rfl zk) λa A↦?_
  refine qa (hK7 _ _ (wp_cond_true (A.ev rfl) ?_))
  refine wsk fun K15 hK15 => wrl (sdo (v := .agg #[.int .i64 0, .int .i64 0, .bool false, .slice none 0 0, .slice none 0 0, .bool false, .slice none 0 0, .slice none 0 0, .string (⟨#[]⟩), .slice none 0 0, .slice none 0 0]) A (za rfl (fun w => by kernel_rfl)) λa A↦?_)
  refine qw (us := [.int .i64 0, .int .i64 0, .bool false, .slice none 0 0, .slice none 0 0, .bool false, .slice none 0 0, .slice none 0 0, .string (⟨#[]⟩), .slice none 0 0, .slice none 0 0]) (L' := (.obj g4 (.cells #[.int .i64 0, .int .i64 0, .bool false, .slice none 0 0, .slice none 0 0, .bool false, .slice none 0 0, .slice none 0 0, .string (⟨#[]⟩), .slice none 0 0, .slice none 0 0] 30) :: .obj g2 (.cells (t.d.cells t.ts.length).toArray 30) :: [])) A M rfl rfl (qj rfl rfl rfl (by kernel_rfl) M 0 rfl rfl rfl) 0 rfl rfl rfl ?_
  intro w16 M
  refine sda A λa A↦?_
  refine qa (hK15 _ _ (wp_ret (hret _ _ (en2 A rfl (qt M LiN_isS_30 rfl 0 rfl (cs := [.int .i64 0, .int .i64 0, .bool false, .slice none 0 0, .slice none 0 0, .bool false, .slice none 0 0, .slice none 0 0, .string (⟨#[]⟩), .slice none 0 0, .slice none 0 0]) rfl rfl) (qe rfl) ?_))))
  exact ⟨xf, 4, rfl, ⟨jc _, xi _, by rw [if_neg (by rw [hb8]; decide), jb]⟩, M.bel⟩
theorem zaf {w : World} {t : Dt} (ht : t.rd w) (hb : t.tr.bulk ≤ 1100000) {n : Int} : Calls Tryz.prog 15 #[.agg (t.d.cells t.ts.length).toArray, .int .i64 n] w fun e w' => ∃ (t2 : Dt) (k : Int), e = .returned (.tuple #[.agg (t2.d.cells t2.ts.length).toArray, .int .i64 k]) ∧ (t2.rd w' ∧ (t2.tr, k) = yy t.tr n) ∧ Below w.heap.size w w' := by
 have M : Mg w w ([]) := Mg.start w
 refine qn (l := [(0, .agg (t.d.cells t.ts.length).toArray), (1, .int .i64 n)]) Tryz.func15 rfl Tryz.ntmps15 rfl rfl ?_
 intro Q hret hnorm hP a A
 refine wsk fun K1 hK1 => wrl (zr (vs := [.int .i64 t.d.k, .int .i64 t.d.n, .bool t.d.y.q.b1, .slice t.d.y.o1 t.d.y.q.t1.length t.d.y.c1, .slice t.d.y.o2 t.d.y.q.q1.length t.d.y.c2, .bool t.d.y.q.b2, .slice t.d.y.o3 t.d.y.q.t2.length t.d.y.c3, .slice t.d.y.o4 t.d.y.q.q2.length t.d.y.c4, .string t.d.s, .slice t.d.ro t.d.rl.length t.d.rc, .slice t.d.lo t.ts.length t.d.lc]) (t := 30) A M rfl rfl rfl pg (zg rfl rfl) (by decide) ?_)
 intro g2 w3 M a A
 refine zr (vs := [.int .i64 0, .int .i64 0, .bool false, .slice none 0 0, .slice none 0 0, .bool false, .slice none 0 0, .slice none 0 0, .string (⟨#[]⟩), .slice none 0 0, .slice none 0 0]) (t := 30) A M rfl rfl rfl pg (qs (z := .agg #[.int .i64 0, .int .i64 0, .bool false, .slice none 0 0, .slice none 0 0, .bool false, .slice none 0 0, .slice none 0 0, .string (⟨#[]⟩), .slice none 0 0, .slice none 0 0]) (by kernel_rfl) rfl) (by decide) ?_
 intro g4 w5 M a A
 refine sda A λa A↦?_
 refine qa (hK1 _ _ (wsk fun K6 hK6 => wrl (sdo A (zi M LiN_isS_30 rfl 1 rfl (cs := [.int .i64 t.d.k, .int .i64 t.d.n, .bool t.d.y.q.b1, .slice t.d.y.o1 t.d.y.q.t1.length t.d.y.c1, .slice t.d.y.o2 t.d.y.q.q1.length t.d.y.c2, .bool t.d.y.q.b2, .slice t.d.y.o3 t.d.y.q.t2.length t.d.y.c3, .slice t.d.y.o4 t.d.y.q.q2.length t.d.y.c4, .string t.d.s, .slice t.d.ro t.d.rl.length t.d.rc, .slice t.d.lo t.ts.length t.d.lc]) rfl rfl) λa A↦?_)))
 rcases tf (qp qh t.tr) with hb7 | hb7
 ·
  rcases tf ((zq t.tr).isSome) with hb9 | hb9
  ·
   refine sct A (ef rfl rfl) (uj M.bel ht (by omega) hb7 hb9) ?_
   rintro _ w11 ⟨so7, ca7, ys, rfl, ⟨hy1, hy2, hy3⟩, hM7⟩
   have hyb := jl hy1
   replace M : Mg w w11 (.row 30 11 (.slice so7 ys.length ca7) ys.length (cellsOf ys) :: .obj g4 (.cells #[.int .i64 0, .int .i64 0, .bool false, .slice none 0 0, .slice none 0 0, .bool false, .slice none 0 0, .slice none 0 0, .string (⟨#[]⟩), .slice none 0 0, .slice none 0 0] 30) :: .obj g2 (.cells (t.d.cells t.ts.length).toArray 30) :: []) := (M.both hM7 (zb (by simp) (zb (by simp) (qx ze))) (zb (by simp) (qx ze)))
   refine ⟨_, rfl, ?_⟩
   intro a A
   refine sdm A λa A↦?_
   iterate 2 refine sdo A (qm (vs := [.slice so7 ys.length ca7, .int .i64 0]) rfl rfl) λa A↦?_
   iterate 2 refine sda A λa A↦?_
   refine qa (hK6 _ _ (wsk fun K12 hK12 => wsk fun K13 hK13 => wrl (sdm A λa A↦?_)))
   refine sdo (v := .bool false) A (qf rfl rfl (fun w => by kernel_rfl)) λa A↦?_
   refine qa (hK13 _ _ (wp_cond_false (A.ev rfl) ?_))
   refine wp_skip (hK12 _ _ (wsk fun K14 hK14 => wsk fun K15 hK15 => wrl (sdm A λa A↦?_)))
   rcases tf (decide (n < 0)) with hb16 | hb16
   ·
    have hb16' := of_decide_eq_true hb16
    refine sdc A zf hb16 λa A↦?_
    refine sdm A λa A↦?_
    iterate 4 refine qg A rfl rfl rfl λa A↦?_
    refine sdk (v := .bool true) A λa A↦?_
    refine qa (hK15 _ _ (wp_cond_true (A.ev rfl) ?_))
    refine wsk fun K17 hK17 => wrl (sdo (v := .agg #[.int .i64 0, .int .i64 0, .bool false, .slice none 0 0, .slice none 0 0, .bool false, .slice none 0 0, .slice none 0 0, .string (⟨#[]⟩), .slice none 0 0, .slice none 0 0]) A (za rfl (fun w => by kernel_rfl)) λa A↦?_)
    refine qw (us := [.int .i64 0, .int .i64 0, .bool false, .slice none 0 0, .slice none 0 0, .bool false, .slice none 0 0, .slice none 0 0, .string (⟨#[]⟩), .slice none 0 0, .slice none 0 0]) (L' := (.row 30 11 (.slice so7 ys.length ca7) ys.length (cellsOf ys) :: .obj g4 (.cells #[.int .i64 0, .int .i64 0, .bool false, .slice none 0 0, .slice none 0 0, .bool false, .slice none 0 0, .slice none 0 0, .string (⟨#[]⟩), .slice none 0 0, .slice none 0 0] 30) :: .obj g2 (.cells (t.d.cells t.ts.length).toArray 30) :: [])) A M rfl rfl (qj rfl rfl rfl (by kernel_rfl) M 1 rfl rfl rfl) 1 rfl rfl rfl ?_
    intro w18 M
    refine sda A λa A↦?_
    refine qa (hK17 _ _ (wp_ret (hret _ _ (en2 A rfl (qt M LiN_isS_30 rfl 1 rfl (cs := [.int .i64 0, .int .i64 0, .bool false, .slice none 0 0, .slice none 0 0, .bool false, .slice none 0 0, .slice none 0 0, .string (⟨#[]⟩), .slice none 0 0, .slice none 0 0]) rfl rfl) (qe rfl) ?_))))
    exact ⟨xf, 1, rfl, ⟨jc _, by unfold yy; rw [if_neg (by rw [hb7]; decide), hy1]; show _ = if _ then _ else _; rw [List.length_map, if_pos (by omega), jb]⟩, M.bel⟩
   ·
    have hb16' := of_decide_eq_false hb16
    refine sdc A zf hb16 λa A↦?_
    iterate 3 refine sdm A λa A↦?_
    refine sdo A (qr Tryz.underlying22 rfl) λa A↦?_
    rcases tf (decide (((ys.length : Nat) : Int) < n)) with hb19 | hb19
    ·
     have hb19' := of_decide_eq_true hb19
     refine sdc A je hb19 λa A↦?_
     refine sdk (v := .bool true) A λa A↦?_
     refine qa (hK15 _ _ (wp_cond_true (A.ev rfl) ?_))
     refine wsk fun K20 hK20 => wrl (sdo (v := .agg #[.int .i64 0, .int .i64 0, .bool false, .slice none 0 0, .slice none 0 0, .bool false, .slice none 0 0, .slice none 0 0, .string (⟨#[]⟩), .slice none 0 0, .slice none 0 0]) A (za rfl (fun w => by kernel_rfl)) λa A↦?_)
     refine qw (us := [.int .i64 0, .int .i64 0, .bool false, .slice none 0 0, .slice none 0 0, .bool false, .slice none 0 0, .slice none 0 0, .string (⟨#[]⟩), .slice none 0 0, .slice none 0 0]) (L' := (.row 30 11 (.slice so7 ys.length ca7) ys.length (cellsOf ys) :: .obj g4 (.cells #[.int .i64 0, .int .i64 0, .bool false, .slice none 0 0, .slice none 0 0, .bool false, .slice none 0 0, .slice none 0 0, .string (⟨#[]⟩), .slice none 0 0, .slice none 0 0] 30) :: .obj g2 (.cells (t.d.cells t.ts.length).toArray 30) :: [])) A M rfl rfl (qj rfl rfl rfl (by kernel_rfl) M 1 rfl rfl rfl) 1 rfl rfl rfl ?_
     intro w21 M
     refine sda A λa A↦?_
     refine qa (hK20 _ _ (wp_ret (hret _ _ (en2 A rfl (qt M LiN_isS_30 rfl 1 rfl (cs := [.int .i64 0, .int .i64 0, .bool false, .slice none 0 0, .slice none 0 0, .bool false, .slice none 0 0, .slice none 0 0, .string (⟨#[]⟩), .slice none 0 0, .slice none 0 0]) rfl rfl) (qe rfl) ?_))))
     exact ⟨xf, 1, rfl, ⟨jc _, by unfold yy; rw [if_neg (by rw [hb7]; decide), hy1]; show _ = if _ then _ else _; rw [List.length_map, if_pos (by omega), jb]⟩, M.bel⟩
    ·
     have hb19' := of_decide_eq_false hb19
     refine sdc A je hb19 λa A↦?_
     refine sdk (v := .bool false) A λa A↦?_
     refine qa (hK15 _ _ (wp_cond_false (A.ev rfl) ?_))
     refine wp_skip (hK14 _ _ (wsk fun K22 hK22 => xv (S := fun w1 => Mg w w1 ([])) (by kernel_rfl) ?_))
     replace M := M.drew
     refine ql A 0 rfl rfl rfl rfl hP (M.sub (.cons _ (.cons _ (.cons _ (List.nil_sublist _))))) (fun w1 M => zd rfl) λa A↦?_
     refine ql A 1 rfl rfl rfl rfl hP (M.sub (.cons _ (.cons _ (.cons _ (List.nil_sublist _))))) (fun w1 M => zd rfl) λa A↦?_
     have hcp7 := qfe (M.has 0 rfl)
     refine ql (v := .slice ((if ca7 = n.toNat then so7 else so7.map (·.add (n.toNat * 11)))) ((ys.drop n.toNat).length) ((ca7 - n.toNat))) A 2 rfl rfl rfl rfl hP (M.sub (.cons _ (.cons _ (.cons _ (List.nil_sublist _))))) (fun w1 M => (by rw [List.length_drop]; exact qcc (sz := 11) (lo := n.toNat) Tryz.underlying22 (by kernel_rfl) rfl rfl (by omega) (by omega))) λa A↦?_
     refine zv (by kernel_rfl) (jy A 3 rfl rfl rfl rfl (zu rfl rfl (fun w => by kernel_rfl)) (qcj) ?_)
     rintro _ w24 ⟨rfl, hb23⟩
     replace M := M.call hb23
     refine ⟨_, rfl, (M.sub (.cons _ (.cons _ (.cons _ (List.nil_sublist _))))), ?_⟩
     intro a A
     obtain ⟨hge25, hlt26⟩ := Ck.lt (M.has 1 rfl) g4 rfl
     obtain ⟨hge27, hlt28⟩ := Ck.lt (M.has 2 rfl) g2 rfl
     refine zv (by kernel_rfl) (jy A 4 rfl rfl rfl rfl (zu rfl rfl (fun w => by kernel_rfl)) (yi ((vj (M.has 0 rfl)).1.drop ca7 n.toNat hcp7) (fun t ht => Dt.keep M.bel _ (hy2 t (List.mem_of_mem_drop ht))) (yp _) (by rw [List.length_drop]; omega) (fun b => b < w.heap.size ∨ w24.heap.size ≤ b) (fun b hb => .inr hb) (fun t ht => Dt.at_mono (fun b hb => .inl hb) _ (Dt.at_lt _ (hy2 t (List.mem_of_mem_drop ht)))) (qfg _)) ?_)
     rintro _ w30 ⟨t3, rfl, ⟨hrt3, hat3, htt3⟩, hb29⟩
     replace M := M.call hb29
     refine ⟨_, rfl, (M.sub (.cons _ (.cons _ (.cons _ (List.nil_sublist _))))), ?_⟩
     intro a A
     refine zv (by kernel_rfl) (yf (us := [.int .i64 t3.d.k, .int .i64 t3.d.n, .bool t3.d.y.q.b1, .slice t3.d.y.o1 t3.d.y.q.t1.length t3.d.y.c1, .slice t3.d.y.o2 t3.d.y.q.q1.length t3.d.y.c2, .bool t3.d.y.q.b2, .slice t3.d.y.o3 t3.d.y.q.t2.length t3.d.y.c3, .slice t3.d.y.o4 t3.d.y.q.q2.length t3.d.y.c4, .string t3.d.s, .slice t3.d.ro t3.d.rl.length t3.d.rc, .slice t3.d.lo t3.ts.length t3.d.lc]) (L' := (.row 30 11 (.slice so7 ys.length ca7) ys.length (cellsOf ys) :: .obj g4 (.cells (t3.d.cells t3.ts.length).toArray 30) :: .obj g2 (.cells (t.d.cells t.ts.length).toArray 30) :: [])) A M 5 rfl rfl rfl (qj rfl rfl rfl (by kernel_rfl) M 1 rfl rfl rfl) 1 rfl rfl rfl ?_)
     intro w31 M hK32
     replace hrt3 := Dt.kept hK32 _ hrt3 (Dt.at_mono (fun b hb => by rintro rfl; omega) _ hat3)
     refine ⟨(M.sub (.cons _ (.cons _ (.cons _ (List.nil_sublist _))))), ?_⟩
     refine ql A 6 rfl rfl rfl rfl hP (M.sub (.cons _ (.cons _ (.cons _ (List.nil_sublist _))))) (fun w1 M => jp rfl) λa A↦?_
     refine jo (by kernel_rfl) ?_
     refine hK22 _ _ (wp_ret (hret _ _ (en2 A rfl (qt M LiN_isS_30 rfl 1 rfl (cs := [.int .i64 t3.d.k, .int .i64 t3.d.n, .bool t3.d.y.q.b1, .slice t3.d.y.o1 t3.d.y.q.t1.length t3.d.y.c1, .slice t3.d.y.o2 t3.d.y.q.q1.length t3.d.y.c2, .bool t3.d.y.q.b2, .slice t3.d.y.o3 t3.d.y.q.t2.length t3.d.y.c3, .slice t3.d.y.o4 t3.d.y.q.q2.length t3.d.y.c4, .string t3.d.s, .slice t3.d.ro t3.d.rl.length t3.d.rc, .slice t3.d.lo t3.ts.length t3.d.lc]) rfl rfl) (qe rfl) ?_)))
     exact ⟨t3, 0, rfl, ⟨hrt3, by unfold yy; rw [if_neg (by rw [hb7]; decide), hy1]; show _ = if _ then _ else _; rw [List.length_map, if_neg (by omega), htt3, xw, List.map_drop]⟩, M.bel⟩
  ·
   refine gcl A M (ef rfl rfl) (uk M.bel ht (by omega) hb7 hb9) fun w34 hb33 M a A => ?_
   refine sdm A λa A↦?_
   iterate 2 refine sdo A (qm (vs := [.slice none 0 0, .int .i64 10]) rfl rfl) λa A↦?_
   iterate 2 refine sda A λa A↦?_
   refine qa (hK6 _ _ (wsk fun K35 hK35 => wsk fun K36 hK36 => wrl (sdm A λa A↦?_)))
   refine sdo (v := .bool true) A (qf rfl rfl (fun w => by kernel_rfl)) λa A↦?_
   refine qa (hK36 _ _ (wp_cond_true (A.ev rfl) ?_))
   refine wsk fun K37 hK37 => wrl (sdo (v := .agg #[.int .i64 0, .int .i64 0, .bool false, .slice none 0 0, .slice none 0 0, .bool false, .slice none 0 0, .slice none 0 0, .string (⟨#[]⟩), .slice none 0 0, .slice none 0 0]) A (za rfl (fun w => by kernel_rfl)) λa A↦?_)
   refine sdm A λa A↦?_
   refine qw (us := [.int .i64 0, .int .i64 0, .bool false, .slice none 0 0, .slice none 0 0, .bool false, .slice none 0 0, .slice none 0 0, .string (⟨#[]⟩), .slice none 0 0, .slice none 0 0]) (L' := (.obj g4 (.cells #[.int .i64 0, .int .i64 0, .bool false, .slice none 0 0, .slice none 0 0, .bool false, .slice none 0 0, .slice none 0 0, .string (⟨#[]⟩), .slice none 0 0, .slice none 0 0] 30) :: .obj g2 (.cells (t.d.cells t.ts.length).toArray 30) :: [])) A M rfl rfl (qj rfl rfl rfl (by kernel_rfl) M 0 rfl rfl rfl) 0 rfl rfl rfl ?_
   intro w38 M
   refine sda A λa A↦?_
   refine qa (hK37 _ _ (wp_ret (hret _ _ (en2 A rfl (qt M LiN_isS_30 rfl 0 rfl (cs := [.int .i64 0, .int .i64 0, .bool false, .slice none 0 0, .slice none 0 0, .bool false, .slice none 0 0, .slice none 0 0, .string (⟨#[]⟩), .slice none 0 0, .slice none 0 0]) rfl rfl) (qe rfl) ?_))))
   exact ⟨xf, 10, rfl, ⟨jc _, by unfold yy; rw [if_neg (by rw [hb7]; decide), yu hb9, jb]⟩, M.bel⟩
 ·
  refine gcl A M (ef rfl rfl) (qjg M.bel ht (by omega) hb7) fun w40 hb39 M a A => ?_
  refine sdm A λa A↦?_
  iterate 2 refine sdo A (qm (vs := [.slice none 0 0, .int .i64 2]) rfl rfl) λa A↦?_
  iterate 2 refine sda A λa A↦?_
  refine qa (hK6 _ _ (wsk fun K41 hK41 => wsk fun K42 hK42 => wrl (sdm A λa A↦?_)))
  refine sdo (v := .bool true) A (qf rfl rfl (fun w => by kernel_rfl)) λa A↦?_
  refine qa (hK42 _ _ (wp_cond_true (A.ev rfl) ?_))
  refine wsk fun K43 hK43 => wrl (sdo (v := .agg #[.int .i64 0, .int .i64 0, .bool false, .slice none 0 0, .slice none 0 0, .bool false, .slice none 0 0, .slice none 0 0, .string (⟨#[]⟩), .slice none 0 0, .slice none 0 0]) A (za rfl (fun w => by kernel_rfl)) λa A↦?_)
  refine sdm A λa A↦?_
  refine qw (us := [.int .i64 0, .int .i64 0, .bool false, .slice none 0 0, .slice none 0 0, .bool false, .slice none 0 0, .slice none 0 0, .string (⟨#[]⟩), .slice none 0 0, .slice none 0 0]) (L' := (.obj g4 (.cells #[.int .i64 0, .int .i64 0, .bool false, .slice none 0 0, .slice none 0 0, .bool false, .slice none 0 0, .slice none 0 0, .string (⟨#[]⟩), .slice none 0 0, .slice none 0 0] 30) :: .obj g2 (.cells (t.d.cells t.ts.length).toArray 30) :: [])) A M rfl rfl (qj rfl rfl rfl (by kernel_rfl) M 0 rfl rfl rfl) 0 rfl rfl rfl ?_
  intro w44 M
  refine sda A λa A↦?_
  refine qa (hK43 _ _ (wp_ret (hret _ _ (en2 A rfl (qt M LiN_isS_30 rfl 0 rfl (cs := [.int .i64 0, .int .i64 0, .bool false, .slice none 0 0, .slice none 0 0, .bool false, .slice none 0 0, .slice none 0 0, .string (⟨#[]⟩), .slice none 0 0, .slice none 0 0]) rfl rfl) (qe rfl) ?_))))
  exact ⟨xf, 2, rfl, ⟨jc _, by unfold yy; rw [if_pos hb7, jb]⟩, M.bel⟩
theorem qpi {w : World} {t : Dt} (ht : t.rd w) (hb : t.tr.bulk ≤ 1100000) : Calls Tryz.prog 13 #[.agg (t.d.cells t.ts.length).toArray] w fun e w' => ∃ (t2 : Dt) (k : Int), e = .returned (.tuple #[.agg (t2.d.cells t2.ts.length).toArray, .int .i64 k]) ∧ (t2.rd w' ∧ (t2.tr, k) = qie t.tr) ∧ Below w.heap.size w w' := by
 have M : Mg w w ([]) := Mg.start w
 refine qn (l := [(0, .agg (t.d.cells t.ts.length).toArray)]) Tryz.func13 rfl Tryz.ntmps13 rfl rfl ?_
 intro Q hret hnorm hP a A
 refine wsk fun K1 hK1 => wrl (zr (vs := [.int .i64 t.d.k, .int .i64 t.d.n, .bool t.d.y.q.b1, .slice t.d.y.o1 t.d.y.q.t1.length t.d.y.c1, .slice t.d.y.o2 t.d.y.q.q1.length t.d.y.c2, .bool t.d.y.q.b2, .slice t.d.y.o3 t.d.y.q.t2.length t.d.y.c3, .slice t.d.y.o4 t.d.y.q.q2.length t.d.y.c4, .string t.d.s, .slice t.d.ro t.d.rl.length t.d.rc, .slice t.d.lo t.ts.length t.d.lc]) (t := 30) A M rfl rfl rfl pg (zg rfl rfl) (by decide) ?_)
 intro g2 w3 M a A
 refine zr (vs := [.int .i64 0, .int .i64 0, .bool false, .slice none 0 0, .slice none 0 0, .bool false, .slice none 0 0, .slice none 0 0, .string (⟨#[]⟩), .slice none 0 0, .slice none 0 0]) (t := 30) A M rfl rfl rfl pg (qs (z := .agg #[.int .i64 0, .int .i64 0, .bool false, .slice none 0 0, .slice none 0 0, .bool false, .slice none 0 0, .slice none 0 0, .string (⟨#[]⟩), .slice none 0 0, .slice none 0 0]) (by kernel_rfl) rfl) (by decide) ?_
 intro g4 w5 M a A
 refine sda A λa A↦?_
 refine qa (hK1 _ _ (wsk fun K6 hK6 => wrl (sdo A (zi M LiN_isS_30 rfl 1 rfl (cs := [.int .i64 t.d.k, .int .i64 t.d.n, .bool t.d.y.q.b1, .slice t.d.y.o1 t.d.y.q.t1.length t.d.y.c1, .slice t.d.y.o2 t.d.y.q.q1.length t.d.y.c2, .bool t.d.y.q.b2, .slice t.d.y.o3 t.d.y.q.t2.length t.d.y.c3, .slice t.d.y.o4 t.d.y.q.q2.length t.d.y.c4, .string t.d.s, .slice t.d.ro t.d.rl.length t.d.rc, .slice t.d.lo t.ts.length t.d.lc]) rfl rfl) λa A↦?_)))
 rcases tf (qp qh t.tr) with hb7 | hb7
 ·
  rcases tf ((zq t.tr).isSome) with hb9 | hb9
  ·
   refine sct A (ef rfl rfl) (uj M.bel ht (by omega) hb7 hb9) ?_
   rintro _ w11 ⟨so7, ca7, ys, rfl, ⟨hy1, hy2, hy3⟩, hM7⟩
   have hyb := jl hy1
   replace M : Mg w w11 (.row 30 11 (.slice so7 ys.length ca7) ys.length (cellsOf ys) :: .obj g4 (.cells #[.int .i64 0, .int .i64 0, .bool false, .slice none 0 0, .slice none 0 0, .bool false, .slice none 0 0, .slice none 0 0, .string (⟨#[]⟩), .slice none 0 0, .slice none 0 0] 30) :: .obj g2 (.cells (t.d.cells t.ts.length).toArray 30) :: []) := (M.both hM7 (zb (by simp) (zb (by simp) (qx ze))) (zb (by simp) (qx ze)))
   refine ⟨_, rfl, ?_⟩
   intro a A
   refine sdm A λa A↦?_
   iterate 2 refine sdo A (qm (vs := [.slice so7 ys.length ca7, .int .i64 0]) rfl rfl) λa A↦?_
   iterate 2 refine sda A λa A↦?_
   refine qa (hK6 _ _ (wsk fun K12 hK12 => wsk fun K13 hK13 => wrl (sdm A λa A↦?_)))
   refine sdo (v := .bool false) A (qf rfl rfl (fun w => by kernel_rfl)) λa A↦?_
   refine qa (hK13 _ _ (wp_cond_false (A.ev rfl) ?_))
   refine wp_skip (hK12 _ _ (wsk fun K14 hK14 => wrl (sct A (ef rfl rfl) (qcj) ?_)))
   rintro _ w16 ⟨rfl, hb15⟩
   replace M := M.call hb15
   refine ⟨_, rfl, ?_⟩
   intro a A
   refine zr (vs := [.int .i64 0, .int .i64 0, .bool false, .slice none 0 0, .slice none 0 0, .bool false, .slice none 0 0, .slice none 0 0, .string (⟨#[]⟩), .slice none 0 0, .slice none 0 0]) (t := 30) A M rfl rfl rfl pg (qs (z := .agg #[.int .i64 0, .int .i64 0, .bool false, .slice none 0 0, .slice none 0 0, .bool false, .slice none 0 0, .slice none 0 0, .string (⟨#[]⟩), .slice none 0 0, .slice none 0 0]) (by kernel_rfl) rfl) (by decide) ?_
   intro g17 w18 M a A
   refine qw (us := [.int .i64 qz.d.k, .int .i64 qz.d.n, .bool qz.d.y.q.b1, .slice qz.d.y.o1 qz.d.y.q.t1.length qz.d.y.c1, .slice qz.d.y.o2 qz.d.y.q.q1.length qz.d.y.c2, .bool qz.d.y.q.b2, .slice qz.d.y.o3 qz.d.y.q.t2.length qz.d.y.c3, .slice qz.d.y.o4 qz.d.y.q.q2.length qz.d.y.c4, .string qz.d.s, .slice qz.d.ro qz.d.rl.length qz.d.rc, .slice qz.d.lo qz.ts.length qz.d.lc]) (L' := (.obj g17 (.cells (qz.d.cells qz.ts.length).toArray 30) :: .row 30 11 (.slice so7 ys.length ca7) ys.length (cellsOf ys) :: .obj g4 (.cells #[.int .i64 0, .int .i64 0, .bool false, .slice none 0 0, .slice none 0 0, .bool false, .slice none 0 0, .slice none 0 0, .string (⟨#[]⟩), .slice none 0 0, .slice none 0 0] 30) :: .obj g2 (.cells (t.d.cells t.ts.length).toArray 30) :: [])) A M rfl rfl (qj rfl rfl rfl (by kernel_rfl) M 0 rfl rfl rfl) 0 rfl rfl rfl ?_
   intro w19 M
   refine qa (hK14 _ _ (wsk fun K20 hK20 => wsk fun K21 hK21 => wrl (sda A λa A↦?_)))
   refine qa (hK21 _ _ (wp_block (zw (fun m_ a w1 => ∃ (i : Nat) (z : Dt), m_ = 1 + (ys.length - i) ∧ (i ≤ ys.length ∧ z.rd w1 ∧ z.at_ (fun b => b ≠ g17 ∧ b ≠ g4) ∧ z.tr = zn (((ys.take i).map Dt.tr).reverse) nilT) ∧ Sl a 32 [(0, .agg (t.d.cells t.ts.length).toArray), (1, .pointer (some ⟨g2, 0, none⟩)), (2, .pointer (some ⟨g4, 0, none⟩)), (3, .int .i64 0), (4, .slice so7 ys.length ca7), (5, .int .i64 0), (6, .pointer (some ⟨g17, 0, none⟩)), (7, .int .i64 (((i : Nat) : Int))), (8, .tuple #[.slice so7 ys.length ca7, .int .i64 0]), (9, .agg (t.d.cells t.ts.length).toArray), (10, .tuple #[.slice so7 ys.length ca7, .int .i64 0]), (11, .slice so7 ys.length ca7), (12, .int .i64 0), (13, .int .i64 0), (14, .bool false), (17, .agg (qz.d.cells qz.ts.length).toArray)] ∧ Mg w w1 (.obj g17 (.cells (z.d.cells z.ts.length).toArray 30) :: .row 30 11 (.slice so7 ys.length ca7) ys.length (cellsOf ys) :: .obj g4 (.cells #[.int .i64 0, .int .i64 0, .bool false, .slice none 0 0, .slice none 0 0, .bool false, .slice none 0 0, .slice none 0 0, .string (⟨#[]⟩), .slice none 0 0, .slice none 0 0] 30) :: .obj g2 (.cells (t.d.cells t.ts.length).toArray 30) :: [])) _ ⟨0, qz, rfl, ⟨Nat.zero_le _, yp _, qfg _, xw⟩, A.keep _ ⟨rfl, rfl, rfl, rfl, rfl, rfl, rfl, rfl, rfl, rfl, rfl, rfl, rfl, rfl, rfl, rfl, trivial⟩, M⟩ ?_)))
   clear M A
   rintro m_ a w22 ⟨i, z, rfl, hinv24, A, M⟩ K23 hK23
   obtain ⟨hi0, hzr, hza, hzt⟩ := hinv24
   refine wsk fun K25 hK25 => wsk fun K26 hK26 => wrl ?_
   iterate 2 refine sdm A λa A↦?_
   refine sdo A (qr Tryz.underlying22 rfl) λa A↦?_
   rcases tf (decide (((i : Nat) : Int) < ((ys.length : Nat) : Int))) with hb27 | hb27
   ·
    have hb27' := of_decide_eq_true hb27
    refine sdc A zf hb27 λa A↦?_
    refine qa (hK26 _ _ (wp_cond_true (A.ev rfl) ?_))
    refine wp_skip (hK25 _ _ (wsk fun K28 hK28 => wp_block ?_))
    obtain ⟨g9, c9, e9⟩ := qhd (M.has 1 rfl) (show ys.length ≠ 0 by omega)
    have hso9 : so7 = some ⟨g9, 0, none⟩ := by injection e9
    obtain ⟨t1, it1⟩ : ∃ t1, ys[i]? = some t1 := ⟨_, List.getElem?_eq_getElem (show i < ys.length by omega)⟩
    have rt1_ := hy2 t1 (List.mem_of_getElem? it1)
    obtain ⟨hge6, hlt6⟩ := Ck.lt (M.has 0 rfl) g17 rfl
    obtain ⟨hge2, hlt2⟩ := Ck.lt (M.has 2 rfl) g4 rfl
    refine xv (S := fun w1 => Mg w w1 (.row 30 11 (.slice so7 ys.length ca7) ys.length (cellsOf ys) :: [])) (by kernel_rfl) ?_
    replace M := M.drew
    refine ql A 0 rfl rfl rfl rfl hP (M.sub (.cons _ (.cons_cons _ (.cons _ (.cons _ (List.nil_sublist _)))))) (fun w1 M => zd rfl) λa A↦?_
    refine ql A 1 rfl rfl rfl rfl hP (M.sub (.cons _ (.cons_cons _ (.cons _ (.cons _ (List.nil_sublist _)))))) (fun w1 M => zd rfl) λa A↦?_
    refine ql (v := .pointer (some ⟨g9, 0 + i * 11, none⟩)) A 2 rfl rfl rfl rfl hP (M.sub (.cons _ (.cons_cons _ (.cons _ (.cons _ (List.nil_sublist _)))))) (fun w1 M => zj (k := i) Tryz.underlying22 (by kernel_rfl) rfl rfl rfl hso9 (by omega)) λa A↦?_
    refine ql A 3 rfl rfl rfl rfl hP (M.sub (.cons _ (.cons_cons _ (.cons _ (.cons _ (List.nil_sublist _)))))) (fun w1 M => zbe (o := i * 11) (cs := t1.d.cells t1.ts.length) M 0 rfl hso9 LiN_isS_30 (xh it1) rfl rfl) λa A↦?_
    refine qga (rs := [4, 5]) (by kernel_rfl) (by simp) ⟨?_, ?_, trivial⟩
    ·
     replace hzr : z.rd w22.drew := Dt.keep (Below.refl _ w22).drew _ hzr
     have hdw : w22.drew.heap.size = w22.heap.size := rfl
     refine qub (e := 30) (sz := 11) (m := 1) (vs := cellsOf [t1]) A M 4 rfl rfl rfl rfl (zh rfl (by kernel_rfl)) rfl rfl (by decide) ?_
     intro g5 w29 M hg5 hb30
     replace hzr := Dt.keep hb30 _ hzr
     refine ⟨(M.sub (.cons _ (.cons _ (.cons_cons _ (.cons _ (.cons _ (List.nil_sublist _))))))), ?_⟩
     intro a A
     refine zv (by kernel_rfl) (qbh A 5 rfl rfl rfl rfl (zi M LiN_isS_30 rfl 1 rfl (cs := [.int .i64 z.d.k, .int .i64 z.d.n, .bool z.d.y.q.b1, .slice z.d.y.o1 z.d.y.q.t1.length z.d.y.c1, .slice z.d.y.o2 z.d.y.q.q1.length z.d.y.c2, .bool z.d.y.q.b2, .slice z.d.y.o3 z.d.y.q.t2.length z.d.y.c3, .slice z.d.y.o4 z.d.y.q.q2.length z.d.y.c4, .string z.d.s, .slice z.d.ro z.d.rl.length z.d.rc, .slice z.d.lo z.ts.length z.d.lc]) rfl rfl) (M.sub (.cons _ (.cons _ (.cons_cons _ (.cons _ (.cons _ (List.nil_sublist _))))))) ?_)
     intro a A
     have hs31 := hb30.size
     refine zv (by kernel_rfl) (jy A 6 rfl rfl rfl rfl (zu rfl rfl (fun w => by kernel_rfl)) (yi (ts := [t1]) (vj (M.has 0 rfl)).1 (fun t ht => by rw [List.mem_singleton.1 ht]; exact Dt.keep M.bel _ rt1_) hzr (by simp) (fun b => b ≠ g17 ∧ b ≠ g4) (fun b hb => ⟨by omega, by omega⟩) (fun t ht => by rw [List.mem_singleton.1 ht]; exact Dt.at_mono (fun b hb => by constructor <;> omega) _ (Dt.at_lt _ rt1_)) hza) ?_)
     rintro _ w32 ⟨t3, rfl, ⟨hrt3, hat3, htt3⟩, hbl3⟩
     replace M := M.call hbl3
     refine ⟨_, rfl, (M.sub (.cons _ (.cons _ (.cons_cons _ (.cons _ (.cons _ (List.nil_sublist _))))))), ?_⟩
     intro a A
     refine zv (by kernel_rfl) (yf (us := [.int .i64 t3.d.k, .int .i64 t3.d.n, .bool t3.d.y.q.b1, .slice t3.d.y.o1 t3.d.y.q.t1.length t3.d.y.c1, .slice t3.d.y.o2 t3.d.y.q.q1.length t3.d.y.c2, .bool t3.d.y.q.b2, .slice t3.d.y.o3 t3.d.y.q.t2.length t3.d.y.c3, .slice t3.d.y.o4 t3.d.y.q.q2.length t3.d.y.c4, .string t3.d.s, .slice t3.d.ro t3.d.rl.length t3.d.rc, .slice t3.d.lo t3.ts.length t3.d.lc]) (L' := (.row 30 11 (.slice (some ⟨g5, 0, none⟩) 1 1) 1 (cellsOf [t1]) :: .obj g17 (.cells (t3.d.cells t3.ts.length).toArray 30) :: .row 30 11 (.slice so7 ys.length ca7) ys.length (cellsOf ys) :: .obj g4 (.cells #[.int .i64 0, .int .i64 0, .bool false, .slice none 0 0, .slice none 0 0, .bool false, .slice none 0 0, .slice none 0 0, .string (⟨#[]⟩), .slice none 0 0, .slice none 0 0] 30) :: .obj g2 (.cells (t.d.cells t.ts.length).toArray 30) :: [])) A M 7 rfl rfl rfl (qj rfl rfl rfl (by kernel_rfl) M 1 rfl rfl rfl) 1 rfl rfl rfl ?_)
     intro w33 M hK34
     replace hrt3 := Dt.kept hK34 _ hrt3 (Dt.at_mono (fun b hb => hb.1) _ hat3)
     refine ⟨(M.sub (.cons _ (.cons _ (.cons_cons _ (.cons _ (.cons _ (List.nil_sublist _))))))), ?_⟩
     refine jo (by kernel_rfl) ?_
     refine hK28 _ _ (wrl (sdm A λa A↦?_))
     refine sdo (v := .int .i64 (((i + 1 : Nat) : Int))) A (qf rfl rfl (ar_add ((in_i64 (by omega) (by omega)).trans (by omega)))) λa A↦?_
     refine sda A λa A↦?_
     refine qa ?_
     replace M : Mg w w33 (.obj g17 (.cells (t3.d.cells t3.ts.length).toArray 30) :: .row 30 11 (.slice so7 ys.length ca7) ys.length (cellsOf ys) :: .obj g4 (.cells #[.int .i64 0, .int .i64 0, .bool false, .slice none 0 0, .slice none 0 0, .bool false, .slice none 0 0, .slice none 0 0, .string (⟨#[]⟩), .slice none 0 0, .slice none 0 0] 30) :: .obj g2 (.cells (t.d.cells t.ts.length).toArray 30) :: []) := by
      have h9 := M.sub (.cons _ (.cons_cons _ (.cons_cons _ (.cons_cons _ (.cons_cons _ (.refl _))))))
      exact h9
     refine hK23 _ _ _ (by omega) ⟨i + 1, t3, rfl, ⟨by omega, hrt3, hat3, by rw [htt3, hzt, uw it1, List.reverse_append]; rfl⟩, A.keep _ ⟨rfl, rfl, rfl, rfl, rfl, rfl, rfl, rfl, rfl, rfl, rfl, rfl, rfl, rfl, rfl, rfl, trivial⟩, M⟩
    ·
     refine qbh A 5 rfl rfl rfl rfl (zi M LiN_isS_30 rfl 0 rfl (cs := [.int .i64 z.d.k, .int .i64 z.d.n, .bool z.d.y.q.b1, .slice z.d.y.o1 z.d.y.q.t1.length z.d.y.c1, .slice z.d.y.o2 z.d.y.q.q1.length z.d.y.c2, .bool z.d.y.q.b2, .slice z.d.y.o3 z.d.y.q.t2.length z.d.y.c3, .slice z.d.y.o4 z.d.y.q.q2.length z.d.y.c4, .string z.d.s, .slice z.d.ro z.d.rl.length z.d.rc, .slice z.d.lo z.ts.length z.d.lc]) rfl rfl) (M.sub (.cons _ (.cons_cons _ (.cons _ (.cons _ (List.nil_sublist _)))))) λa A↦?_
     replace hzr : z.rd w22.drew := Dt.keep (Below.refl _ w22).drew _ hzr
     have hdw : w22.drew.heap.size = w22.heap.size := rfl
     refine zv (by kernel_rfl) (qub (e := 30) (sz := 11) (m := 1) (vs := cellsOf [t1]) A M 4 rfl rfl rfl rfl (zh rfl (by kernel_rfl)) rfl rfl (by decide) ?_)
     intro g5 w35 M hg5 hb36
     replace hzr := Dt.keep hb36 _ hzr
     refine ⟨(M.sub (.cons _ (.cons _ (.cons_cons _ (.cons _ (.cons _ (List.nil_sublist _))))))), ?_⟩
     intro a A
     have hs37 := hb36.size
     refine zv (by kernel_rfl) (jy A 6 rfl rfl rfl rfl (zu rfl rfl (fun w => by kernel_rfl)) (yi (ts := [t1]) (vj (M.has 0 rfl)).1 (fun t ht => by rw [List.mem_singleton.1 ht]; exact Dt.keep M.bel _ rt1_) hzr (by simp) (fun b => b ≠ g17 ∧ b ≠ g4) (fun b hb => ⟨by omega, by omega⟩) (fun t ht => by rw [List.mem_singleton.1 ht]; exact Dt.at_mono (fun b hb => by constructor <;> omega) _ (Dt.at_lt _ rt1_)) hza) ?_)
     rintro _ w38 ⟨t3, rfl, ⟨hrt3, hat3, htt3⟩, hbl3⟩
     replace M := M.call hbl3
     refine ⟨_, rfl, (M.sub (.cons _ (.cons _ (.cons_cons _ (.cons _ (.cons _ (List.nil_sublist _))))))), ?_⟩
     intro a A
     refine zv (by kernel_rfl) (yf (us := [.int .i64 t3.d.k, .int .i64 t3.d.n, .bool t3.d.y.q.b1, .slice t3.d.y.o1 t3.d.y.q.t1.length t3.d.y.c1, .slice t3.d.y.o2 t3.d.y.q.q1.length t3.d.y.c2, .bool t3.d.y.q.b2, .slice t3.d.y.o3 t3.d.y.q.t2.length t3.d.y.c3, .slice t3.d.y.o4 t3.d.y.q.q2.length t3.d.y.c4, .string t3.d.s, .slice t3.d.ro t3.d.rl.length t3.d.rc, .slice t3.d.lo t3.ts.length t3.d.lc]) (L' := (.row 30 11 (.slice (some ⟨g5, 0, none⟩) 1 1) 1 (cellsOf [t1]) :: .obj g17 (.cells (t3.d.cells t3.ts.length).toArray 30) :: .row 30 11 (.slice so7 ys.length ca7) ys.length (cellsOf ys) :: .obj g4 (.cells #[.int .i64 0, .int .i64 0, .bool false, .slice none 0 0, .slice none 0 0, .bool false, .slice none 0 0, .slice none 0 0, .string (⟨#[]⟩), .slice none 0 0, .slice none 0 0] 30) :: .obj g2 (.cells (t.d.cells t.ts.length).toArray 30) :: [])) A M 7 rfl rfl rfl (qj rfl rfl rfl (by kernel_rfl) M 1 rfl rfl rfl) 1 rfl rfl rfl ?_)
     intro w39 M hK40
     replace hrt3 := Dt.kept hK40 _ hrt3 (Dt.at_mono (fun b hb => hb.1) _ hat3)
     refine ⟨(M.sub (.cons _ (.cons _ (.cons_cons _ (.cons _ (.cons _ (List.nil_sublist _))))))), ?_⟩
     refine jo (by kernel_rfl) ?_
     refine hK28 _ _ (wrl (sdm A λa A↦?_))
     refine sdo (v := .int .i64 (((i + 1 : Nat) : Int))) A (qf rfl rfl (ar_add ((in_i64 (by omega) (by omega)).trans (by omega)))) λa A↦?_
     refine sda A λa A↦?_
     refine qa ?_
     replace M : Mg w w39 (.obj g17 (.cells (t3.d.cells t3.ts.length).toArray 30) :: .row 30 11 (.slice so7 ys.length ca7) ys.length (cellsOf ys) :: .obj g4 (.cells #[.int .i64 0, .int .i64 0, .bool false, .slice none 0 0, .slice none 0 0, .bool false, .slice none 0 0, .slice none 0 0, .string (⟨#[]⟩), .slice none 0 0, .slice none 0 0] 30) :: .obj g2 (.cells (t.d.cells t.ts.length).toArray 30) :: []) := by
      have h9 := M.sub (.cons _ (.cons_cons _ (.cons_cons _ (.cons_cons _ (.cons_cons _ (.refl _))))))
      exact h9
     refine hK23 _ _ _ (by omega) ⟨i + 1, t3, rfl, ⟨by omega, hrt3, hat3, by rw [htt3, hzt, uw it1, List.reverse_append]; rfl⟩, A.keep _ ⟨rfl, rfl, rfl, rfl, rfl, rfl, rfl, rfl, rfl, rfl, rfl, rfl, rfl, rfl, rfl, rfl, trivial⟩, M⟩
   ·
    have hb27' := of_decide_eq_false hb27
    refine sdc A zf hb27 λa A↦?_
    refine qa (hK26 _ _ (wp_cond_false (A.ev rfl) ?_))
    refine wp_exit (hK20 _ _ (wsk fun K41 hK41 => wrl (sdo A (zi M LiN_isS_30 rfl 0 rfl (cs := [.int .i64 z.d.k, .int .i64 z.d.n, .bool z.d.y.q.b1, .slice z.d.y.o1 z.d.y.q.t1.length z.d.y.c1, .slice z.d.y.o2 z.d.y.q.q1.length z.d.y.c2, .bool z.d.y.q.b2, .slice z.d.y.o3 z.d.y.q.t2.length z.d.y.c3, .slice z.d.y.o4 z.d.y.q.q2.length z.d.y.c4, .string z.d.s, .slice z.d.ro z.d.rl.length z.d.rc, .slice z.d.lo z.ts.length z.d.lc]) rfl rfl) λa A↦?_)))
    refine ji (us := [.int .i64 z.d.k, .int .i64 z.d.n, .bool z.d.y.q.b1, .slice z.d.y.o1 z.d.y.q.t1.length z.d.y.c1, .slice z.d.y.o2 z.d.y.q.q1.length z.d.y.c2, .bool z.d.y.q.b2, .slice z.d.y.o3 z.d.y.q.t2.length z.d.y.c3, .slice z.d.y.o4 z.d.y.q.q2.length z.d.y.c4, .string z.d.s, .slice z.d.ro z.d.rl.length z.d.rc, .slice z.d.lo z.ts.length z.d.lc]) (L' := (.obj g17 (.cells (z.d.cells z.ts.length).toArray 30) :: .row 30 11 (.slice so7 ys.length ca7) ys.length (cellsOf ys) :: .obj g4 (.cells (z.d.cells z.ts.length).toArray 30) :: .obj g2 (.cells (t.d.cells t.ts.length).toArray 30) :: [])) A M rfl rfl (qj rfl rfl rfl (by kernel_rfl) M 2 rfl rfl rfl) 2 rfl rfl rfl ?_
    intro w42 M hK43
    replace hzr := Dt.kept hK43 _ hzr (Dt.at_mono (fun b hb => hb.2) _ hza)
    refine sda A λa A↦?_
    refine qa (hK41 _ _ (wp_ret (hret _ _ (en2 A rfl (qt M LiN_isS_30 rfl 2 rfl (cs := [.int .i64 z.d.k, .int .i64 z.d.n, .bool z.d.y.q.b1, .slice z.d.y.o1 z.d.y.q.t1.length z.d.y.c1, .slice z.d.y.o2 z.d.y.q.q1.length z.d.y.c2, .bool z.d.y.q.b2, .slice z.d.y.o3 z.d.y.q.t2.length z.d.y.c3, .slice z.d.y.o4 z.d.y.q.q2.length z.d.y.c4, .string z.d.s, .slice z.d.ro z.d.rl.length z.d.rc, .slice z.d.lo z.ts.length z.d.lc]) rfl rfl) (qe rfl) ?_))))
    exact ⟨z, 0, rfl, ⟨hzr, by unfold qie; rw [if_neg (by rw [hb7]; decide), hy1, hzt, List.take_of_length_le (show ys.length ≤ i by omega)]⟩, M.bel⟩
  ·
   refine gcl A M (ef rfl rfl) (uk M.bel ht (by omega) hb7 hb9) fun w45 hb44 M a A => ?_
   refine sdm A λa A↦?_
   iterate 2 refine sdo A (qm (vs := [.slice none 0 0, .int .i64 10]) rfl rfl) λa A↦?_
   iterate 2 refine sda A λa A↦?_
   refine qa (hK6 _ _ (wsk fun K46 hK46 => wsk fun K47 hK47 => wrl (sdm A λa A↦?_)))
   refine sdo (v := .bool true) A (qf rfl rfl (fun w => by kernel_rfl)) λa A↦?_
   refine qa (hK47 _ _ (wp_cond_true (A.ev rfl) ?_))
   refine wsk fun K48 hK48 => wrl (sdo (v := .agg #[.int .i64 0, .int .i64 0, .bool false, .slice none 0 0, .slice none 0 0, .bool false, .slice none 0 0, .slice none 0 0, .string (⟨#[]⟩), .slice none 0 0, .slice none 0 0]) A (za rfl (fun w => by kernel_rfl)) λa A↦?_)
   refine sdm A λa A↦?_
   refine qw (us := [.int .i64 0, .int .i64 0, .bool false, .slice none 0 0, .slice none 0 0, .bool false, .slice none 0 0, .slice none 0 0, .string (⟨#[]⟩), .slice none 0 0, .slice none 0 0]) (L' := (.obj g4 (.cells #[.int .i64 0, .int .i64 0, .bool false, .slice none 0 0, .slice none 0 0, .bool false, .slice none 0 0, .slice none 0 0, .string (⟨#[]⟩), .slice none 0 0, .slice none 0 0] 30) :: .obj g2 (.cells (t.d.cells t.ts.length).toArray 30) :: [])) A M rfl rfl (qj rfl rfl rfl (by kernel_rfl) M 0 rfl rfl rfl) 0 rfl rfl rfl ?_
   intro w49 M
   refine sda A λa A↦?_
   refine qa (hK48 _ _ (wp_ret (hret _ _ (en2 A rfl (qt M LiN_isS_30 rfl 0 rfl (cs := [.int .i64 0, .int .i64 0, .bool false, .slice none 0 0, .slice none 0 0, .bool false, .slice none 0 0, .slice none 0 0, .string (⟨#[]⟩), .slice none 0 0, .slice none 0 0]) rfl rfl) (qe rfl) ?_))))
   exact ⟨xf, 10, rfl, ⟨jc _, by unfold qie; rw [if_neg (by rw [hb7]; decide), yu hb9, jb]⟩, M.bel⟩
 ·
  refine gcl A M (ef rfl rfl) (qjg M.bel ht (by omega) hb7) fun w51 hb50 M a A => ?_
  refine sdm A λa A↦?_
  iterate 2 refine sdo A (qm (vs := [.slice none 0 0, .int .i64 2]) rfl rfl) λa A↦?_
  iterate 2 refine sda A λa A↦?_
  refine qa (hK6 _ _ (wsk fun K52 hK52 => wsk fun K53 hK53 => wrl (sdm A λa A↦?_)))
  refine sdo (v := .bool true) A (qf rfl rfl (fun w => by kernel_rfl)) λa A↦?_
  refine qa (hK53 _ _ (wp_cond_true (A.ev rfl) ?_))
  refine wsk fun K54 hK54 => wrl (sdo (v := .agg #[.int .i64 0, .int .i64 0, .bool false, .slice none 0 0, .slice none 0 0, .bool false, .slice none 0 0, .slice none 0 0, .string (⟨#[]⟩), .slice none 0 0, .slice none 0 0]) A (za rfl (fun w => by kernel_rfl)) λa A↦?_)
  refine sdm A λa A↦?_
  refine qw (us := [.int .i64 0, .int .i64 0, .bool false, .slice none 0 0, .slice none 0 0, .bool false, .slice none 0 0, .slice none 0 0, .string (⟨#[]⟩), .slice none 0 0, .slice none 0 0]) (L' := (.obj g4 (.cells #[.int .i64 0, .int .i64 0, .bool false, .slice none 0 0, .slice none 0 0, .bool false, .slice none 0 0, .slice none 0 0, .string (⟨#[]⟩), .slice none 0 0, .slice none 0 0] 30) :: .obj g2 (.cells (t.d.cells t.ts.length).toArray 30) :: [])) A M rfl rfl (qj rfl rfl rfl (by kernel_rfl) M 0 rfl rfl rfl) 0 rfl rfl rfl ?_
  intro w55 M
  refine sda A λa A↦?_
  refine qa (hK54 _ _ (wp_ret (hret _ _ (en2 A rfl (qt M LiN_isS_30 rfl 0 rfl (cs := [.int .i64 0, .int .i64 0, .bool false, .slice none 0 0, .slice none 0 0, .bool false, .slice none 0 0, .slice none 0 0, .string (⟨#[]⟩), .slice none 0 0, .slice none 0 0]) rfl rfl) (qe rfl) ?_))))
  exact ⟨xf, 2, rfl, ⟨jc _, by unfold qie; rw [if_pos hb7, jb]⟩, M.bel⟩
theorem zih {ts : List Dt} {t : Dt} (h : t ∈ ts) (hs : qp qh t.tr = false) : (ts.all fun t => qp qh t.tr) = false := by
 apply Bool.eq_false_iff.2
 intro k
 rw [List.all_eq_true.1 k t h] at hs
 cases hs
theorem zee {ts : List Dt} {i : Nat} {t : Dt} (h : ((ts.take i).all fun t => qp qh t.tr) = true) (hi : ts[i]? = some t) (hs : qp qh t.tr = true) : ((ts.take (i + 1)).all fun t => qp qh t.tr) = true := by
 obtain ⟨hl, rfl⟩ := List.getElem?_eq_some_iff.1 hi
 rw [List.take_succ_eq_append_getElem hl, List.all_append, h, List.all_cons, hs]
 rfl
theorem zef {ts : List Dt} {i : Nat} {t : Dt} {xs : List Tr} (h : jh ((ts.take i).map Dt.tr) = some xs) (hi : ts[i]? = some t) (ht : zq t.tr = none) (hlt : i < ts.length - 1) : jh ((ts.take (ts.length - 1)).map Dt.tr) = none := by
 refine qli (ts := ts.take (ts.length - 1)) (i := i) (xs := xs) ?_ ?_ ht
 ·
  rw [List.take_take, Nat.min_eq_left (by omega)]; exact h
 ·
  rw [List.getElem?_take, if_pos hlt]; exact hi
theorem qtb {w : World} {so : Option Addr} {ca : Nat} {ts : List Dt} (hR : Rt w so ts) (hD : ∀ t ∈ ts, t.rd w) (hb : Tr.bulks (ts.map Dt.tr) ≤ 1100000) : Calls Tryz.prog 11 #[.slice so ts.length ca] w fun e w' => ∃ (t2 : Dt) (k : Int), e = .returned (.tuple #[.agg (t2.d.cells t2.ts.length).toArray, .int .i64 k]) ∧ (t2.rd w' ∧ (t2.tr, k) = qid (ts.map Dt.tr)) ∧ Below w.heap.size w w' := by
 have hbl := jn ts
 have M : Mg w w ([]) := Mg.start w
 refine qn (l := [(0, .slice so ts.length ca)]) Tryz.func11 rfl Tryz.ntmps11 rfl rfl ?_
 intro Q hret hnorm hP a A
 refine wsk fun K1 hK1 => wrl (zr (vs := [.int .i64 0, .int .i64 0, .bool false, .slice none 0 0, .slice none 0 0, .bool false, .slice none 0 0, .slice none 0 0, .string (⟨#[]⟩), .slice none 0 0, .slice none 0 0]) (t := 30) A M rfl rfl rfl pg (qs (z := .agg #[.int .i64 0, .int .i64 0, .bool false, .slice none 0 0, .slice none 0 0, .bool false, .slice none 0 0, .slice none 0 0, .string (⟨#[]⟩), .slice none 0 0, .slice none 0 0]) (by kernel_rfl) rfl) (by decide) ?_)
 intro g2 w3 M a A
 refine sda A λa A↦?_
 refine qa (hK1 _ _ (wsk fun K4 hK4 => wsk fun K5 hK5 => wrl (sda A λa A↦?_)))
 refine qa (hK5 _ _ (wp_block (zw (fun m_ a w1 => ∃ (i : Nat), m_ = 1 + (ts.length - i) ∧ (i ≤ ts.length ∧ ((ts.take i).all fun t => qp qh t.tr) = true) ∧ Sl a 60 [(0, .slice so ts.length ca), (2, .pointer (some ⟨g2, 0, none⟩)), (4, .int .i64 (((i : Nat) : Int)))] ∧ Mg w w1 (.obj g2 (.cells #[.int .i64 0, .int .i64 0, .bool false, .slice none 0 0, .slice none 0 0, .bool false, .slice none 0 0, .slice none 0 0, .string (⟨#[]⟩), .slice none 0 0, .slice none 0 0] 30) :: [])) _ ⟨0, rfl, ⟨Nat.zero_le _, rfl⟩, A.keep _ ⟨rfl, rfl, rfl, trivial⟩, M⟩ ?_)))
 clear M A
 rintro m_ a w6 ⟨i, rfl, hinv8, A, M⟩ K7 hK7
 obtain ⟨hi0, hin8⟩ := hinv8
 refine wsk fun K9 hK9 => wsk fun K10 hK10 => wrl ?_
 iterate 2 refine sdm A λa A↦?_
 refine sdo A (qr Tryz.underlying22 rfl) λa A↦?_
 rcases tf (decide (((i : Nat) : Int) < ((ts.length : Nat) : Int))) with hb11 | hb11
 ·
  have hb11' := of_decide_eq_true hb11
  refine sdc A zf hb11 λa A↦?_
  refine qa (hK10 _ _ (wp_cond_true (A.ev rfl) ?_))
  refine wp_skip (hK9 _ _ (wsk fun K12 hK12 => wp_block (wsk fun K13 hK13 => ?_)))
  obtain ⟨t1, bt1, ot1, it1, mt1, rt1_, lt1, Ht1⟩ := qka hR hD (i := i) (by omega)
  refine wrl ?_
  iterate 2 refine sdm A λa A↦?_
  refine sdo (v := .pointer (some ⟨bt1, ot1 + i * 11, none⟩)) A (zj (k := i) Tryz.underlying22 (by kernel_rfl) rfl rfl rfl lt1 (by omega)) λa A↦?_
  refine sdo A (zp M Ht1 LiN_isS_30 rfl rfl) λa A↦?_
  rcases tf (qp qh t1.tr) with hb14 | hb14
  ·
   refine gcl A M (ef rfl rfl) ((hb14 ▸ rsound_any (t := t1) (Dt.keep M.bel _ rt1_) (by have := ke mt1; omega))) fun w16 hb15 M a A => ?_
   refine sdo (v := .bool false) A (qy rfl zk) λa A↦?_
   refine qa (hK13 _ _ (wp_cond_false (A.ev rfl) ?_))
   refine wp_skip (hK12 _ _ (wrl (sdm A λa A↦?_)))
   refine sdo (v := .int .i64 (((i + 1 : Nat) : Int))) A (qf rfl rfl (ar_add ((in_i64 (by omega) (by omega)).trans (by omega)))) λa A↦?_
   refine sda A λa A↦?_
   refine qa ?_
   refine hK7 _ _ _ (by omega) ⟨i + 1, rfl, ⟨by omega, zee hin8 it1 hb14⟩, A.keep _ ⟨rfl, rfl, rfl, trivial⟩, M⟩
  ·
   refine gcl A M (ef rfl rfl) ((hb14 ▸ rsound_any (t := t1) (Dt.keep M.bel _ rt1_) (by have := ke mt1; omega))) fun w18 hb17 M a A => ?_
   refine sdo (v := .bool true) A (qy rfl zk) λa A↦?_
   refine qa (hK13 _ _ (wp_cond_true (A.ev rfl) ?_))
   refine wsk fun K19 hK19 => wrl (sdo (v := .agg #[.int .i64 0, .int .i64 0, .bool false, .slice none 0 0, .slice none 0 0, .bool false, .slice none 0 0, .slice none 0 0, .string (⟨#[]⟩), .slice none 0 0, .slice none 0 0]) A (za rfl (fun w => by kernel_rfl)) λa A↦?_)
   refine qw (us := [.int .i64 0, .int .i64 0, .bool false, .slice none 0 0, .slice none 0 0, .bool false, .slice none 0 0, .slice none 0 0, .string (⟨#[]⟩), .slice none 0 0, .slice none 0 0]) (L' := (.obj g2 (.cells #[.int .i64 0, .int .i64 0, .bool false, .slice none 0 0, .slice none 0 0, .bool false, .slice none 0 0, .slice none 0 0, .string (⟨#[]⟩), .slice none 0 0, .slice none 0 0] 30) :: [])) A M rfl rfl (qj rfl rfl rfl (by kernel_rfl) M 0 rfl rfl rfl) 0 rfl rfl rfl ?_
   intro w20 M
   refine sda A λa A↦?_
   refine qa (hK19 _ _ (wp_ret (hret _ _ (en2 A rfl (qt M LiN_isS_30 rfl 0 rfl (cs := [.int .i64 0, .int .i64 0, .bool false, .slice none 0 0, .slice none 0 0, .bool false, .slice none 0 0, .slice none 0 0, .string (⟨#[]⟩), .slice none 0 0, .slice none 0 0]) rfl rfl) (qe rfl) ?_))))
   exact ⟨xf, 2, rfl, ⟨jc _, by rw [qsa (zih mt1 hb14), jb]⟩, M.bel⟩
 ·
  have hb11' := of_decide_eq_false hb11
  refine sdc A zf hb11 λa A↦?_
  refine qa (hK10 _ _ (wp_cond_false (A.ev rfl) ?_))
  refine wp_exit (hK4 _ _ (wsk fun K21 hK21 => wsk fun K22 hK22 => wrl (sdm A λa A↦?_)))
  refine sdo A (qr Tryz.underlying22 rfl) λa A↦?_
  rcases tf ((((ts.length : Nat) : Int) == 0)) with hb23 | hb23
  ·
   have hb23' := eq_of_beq hb23
   refine sdc A qi hb23 λa A↦?_
   refine qa (hK22 _ _ (wp_cond_true (A.ev rfl) ?_))
   refine wsk fun K24 hK24 => wrl (sct A (ef rfl rfl) (qcj) ?_)
   rintro _ w26 ⟨rfl, hb25⟩
   replace M := M.call hb25
   refine ⟨_, rfl, ?_⟩
   intro a A
   refine qw (us := [.int .i64 qz.d.k, .int .i64 qz.d.n, .bool qz.d.y.q.b1, .slice qz.d.y.o1 qz.d.y.q.t1.length qz.d.y.c1, .slice qz.d.y.o2 qz.d.y.q.q1.length qz.d.y.c2, .bool qz.d.y.q.b2, .slice qz.d.y.o3 qz.d.y.q.t2.length qz.d.y.c3, .slice qz.d.y.o4 qz.d.y.q.q2.length qz.d.y.c4, .string qz.d.s, .slice qz.d.ro qz.d.rl.length qz.d.rc, .slice qz.d.lo qz.ts.length qz.d.lc]) (L' := (.obj g2 (.cells (qz.d.cells qz.ts.length).toArray 30) :: [])) A M rfl rfl (qj rfl rfl rfl (by kernel_rfl) M 0 rfl rfl rfl) 0 rfl rfl rfl ?_
   intro w27 M
   refine sda A λa A↦?_
   refine qa (hK24 _ _ (wp_ret (hret _ _ (en2 A rfl (qt M LiN_isS_30 rfl 0 rfl (cs := [.int .i64 qz.d.k, .int .i64 qz.d.n, .bool qz.d.y.q.b1, .slice qz.d.y.o1 qz.d.y.q.t1.length qz.d.y.c1, .slice qz.d.y.o2 qz.d.y.q.q1.length qz.d.y.c2, .bool qz.d.y.q.b2, .slice qz.d.y.o3 qz.d.y.q.t2.length qz.d.y.c3, .slice qz.d.y.o4 qz.d.y.q.q2.length qz.d.y.c4, .string qz.d.s, .slice qz.d.ro qz.d.rl.length qz.d.rc, .slice qz.d.lo qz.ts.length qz.d.lc]) rfl rfl) (qe rfl) ?_))))
   have e9 : ts = [] := List.length_eq_zero_iff.1 (by omega)
   exact ⟨qz, 0, rfl, ⟨yp _, by rw [e9]; exact (Prod.ext xw rfl : (qz.tr, (0 : Int)) = (nilT, 0)).trans qsb.symm⟩, M.bel⟩
  ·
   have hb23' := ne_of_beq_false hb23
   refine sdc A qi hb23 λa A↦?_
   refine qa (hK22 _ _ (wp_cond_false (A.ev rfl) ?_))
   refine wp_skip (hK21 _ _ (wsk fun K28 hK28 => wrl (kv (e := 30) (sz := 11) (m := 0) (vs := cellsOf []) A M rfl rfl rfl (zh rfl (by kernel_rfl)) rfl rfl (.inl (by decide)) ?_)))
   intro g29 w30 M a A
   refine sda A λa A↦?_
   refine qa (hK28 _ _ (wsk fun K31 hK31 => wsk fun K32 hK32 => wrl (sda A λa A↦?_)))
   refine qa (hK32 _ _ (wp_block ?_))
   have hall : (ts.all fun t => qp qh t.tr) = true := by rw [List.take_of_length_le (show ts.length ≤ i by omega)] at hin8; exact hin8
   refine zw (fun m_ a w1 => ∃ (j : Nat) (xs : List Dt) (so_ : Option Addr) (ca_ : Nat), m_ = 1 + (ts.length - j) ∧ (j ≤ ts.length - 1 ∧ (∀ x ∈ xs, x.rd w) ∧ Tr.bulks (xs.map Dt.tr) ≤ Tr.bulks ((ts.take j).map Dt.tr) ∧ jh ((ts.take j).map Dt.tr) = some (xs.map Dt.tr)) ∧ Sl a 60 [(0, .slice so ts.length ca), (2, .pointer (some ⟨g2, 0, none⟩)), (4, .int .i64 (((i : Nat) : Int))), (5, .slice so_ xs.length ca_), (6, .int .i64 (((j : Nat) : Int))), (9, .int .i64 (((i : Nat) : Int))), (10, .slice so ts.length ca), (11, .int .i64 (((ts.length : Nat) : Int))), (12, .bool false), (22, .slice so ts.length ca), (23, .int .i64 (((ts.length : Nat) : Int))), (24, .bool false), (26, .slice (some ⟨g29, 0, none⟩) 0 0)] ∧ Mg w w1 (.row 30 11 (.slice so_ xs.length ca_) xs.length (cellsOf xs) :: .obj g2 (.cells #[.int .i64 0, .int .i64 0, .bool false, .slice none 0 0, .slice none 0 0, .bool false, .slice none 0 0, .slice none 0 0, .string (⟨#[]⟩), .slice none 0 0, .slice none 0 0] 30) :: [])) _ ⟨0, [], some ⟨g29, 0, none⟩, 0, rfl, ⟨Nat.zero_le _, (fun x h => by cases h), Nat.zero_le _, rfl⟩, A.keep _ ⟨rfl, rfl, rfl, rfl, rfl, rfl, rfl, rfl, rfl, rfl, rfl, rfl, rfl, trivial⟩, M⟩ ?_
   clear M A
   rintro m_ a w33 ⟨j, xs, so_, ca_, rfl, hinv35, A, M⟩ K34 hK34
   obtain ⟨hi0, hxs, hbx, hJ⟩ := hinv35
   have hxl := jn xs
   refine wsk fun K36 hK36 => wsk fun K37 hK37 => wrl ?_
   iterate 2 refine sdm A λa A↦?_
   refine sdo A (qr Tryz.underlying22 rfl) λa A↦?_
   refine sdo (v := .int .i64 (((ts.length - 1 : Nat) : Int))) A (qf rfl rfl (ar_sub ((in_i64 (by omega) (by omega)).trans (by omega)))) λa A↦?_
   rcases tf (decide (((j : Nat) : Int) < ((ts.length - 1 : Nat) : Int))) with hb38 | hb38
   ·
    have hb38' := of_decide_eq_true hb38
    refine sdc A zf hb38 λa A↦?_
    refine qa (hK37 _ _ (wp_cond_true (A.ev rfl) ?_))
    refine wp_skip (hK36 _ _ (wsk fun K39 hK39 => wp_block (wsk fun K40 hK40 => ?_)))
    obtain ⟨t1, bt1, ot1, it1, mt1, rt1_, lt1, Ht1⟩ := qka hR hD (i := j) (by omega)
    have hbt := qaj it1
    have hbp := qba (ts := ts) (j + 1)
    have hs1 := qpe hall t1 mt1
    refine wrl ?_
    iterate 2 refine sdm A λa A↦?_
    refine sdo (v := .pointer (some ⟨bt1, ot1 + j * 11, none⟩)) A (zj (k := j) Tryz.underlying22 (by kernel_rfl) rfl rfl rfl lt1 (by omega)) λa A↦?_
    refine sdo A (zp M Ht1 LiN_isS_30 rfl rfl) λa A↦?_
    rcases tf ((zq t1.tr).isSome) with hb41 | hb41
    ·
     refine sct A (ef rfl rfl) (uj M.bel rt1_ (by have := ke mt1; omega) hs1 hb41) ?_
     rintro _ w43 ⟨so7, ca7, ys, rfl, ⟨hy1, hy2, hy3⟩, hM7⟩
     have hyb := jl hy1
     replace M : Mg w w43 (.row 30 11 (.slice so7 ys.length ca7) ys.length (cellsOf ys) :: .row 30 11 (.slice so_ xs.length ca_) xs.length (cellsOf xs) :: .obj g2 (.cells #[.int .i64 0, .int .i64 0, .bool false, .slice none 0 0, .slice none 0 0, .bool false, .slice none 0 0, .slice none 0 0, .string (⟨#[]⟩), .slice none 0 0, .slice none 0 0] 30) :: []) := (M.both hM7 (zb (by simp) (zb (by simp) (qx ze))) (zb (by simp) (qx ze)))
     refine ⟨_, rfl, ?_⟩
     intro a A
     refine sdm A λa A↦?_
     iterate 2 refine sdo A (qm (vs := [.slice so7 ys.length ca7, .int .i64 0]) rfl rfl) λa A↦?_
     iterate 2 refine sda A λa A↦?_
     refine qa (hK40 _ _ (wsk fun K44 hK44 => wsk fun K45 hK45 => wrl (sdm A λa A↦?_)))
     refine sdo (v := .bool false) A (qf rfl rfl (fun w => by kernel_rfl)) λa A↦?_
     refine qa (hK45 _ _ (wp_cond_false (A.ev rfl) ?_))
     refine wp_skip (hK44 _ _ (wrl ?_))
     iterate 2 refine sdm A λa A↦?_
     refine xm (e := 30) (sz := 11) (k := 1) (q := xs.length) (m := ys.length) (xs := cellsOf xs) (news := cellsOf ys) (L' := fun v46 => (.row 30 11 (.slice so7 ys.length ca7) ys.length (cellsOf ys) :: .row 30 11 (v46) (xs.length + ys.length) (cellsOf xs ++ cellsOf ys) :: .obj g2 (.cells #[.int .i64 0, .int .i64 0, .bool false, .slice none 0 0, .slice none 0 0, .bool false, .slice none 0 0, .slice none 0 0, .string (⟨#[]⟩), .slice none 0 0, .slice none 0 0] 30) :: [])) A rfl rfl rfl (qag (z := .agg #[.int .i64 0, .int .i64 0, .bool false, .slice none 0 0, .slice none 0 0, .bool false, .slice none 0 0, .slice none 0 0, .string ⟨#[]⟩, .slice none 0 0, .slice none 0 0]) (sz := 11) (by_ := 192) Tryz.underlying22 (by kernel_rfl) rfl rfl rfl M 1 rfl rfl rfl (xg ys) (qha (M.has 0 rfl)) (vk ys) (by omega)) (fun _ => rfl) ?_
     intro v46 w47 M a A
     replace M : Mg w w47 (.row 30 11 (.slice so7 ys.length ca7) ys.length (cellsOf ys) :: .row 30 11 (v46) ((xs ++ ys).length) (cellsOf (xs ++ ys)) :: .obj g2 (.cells #[.int .i64 0, .int .i64 0, .bool false, .slice none 0 0, .slice none 0 0, .bool false, .slice none 0 0, .slice none 0 0, .string (⟨#[]⟩), .slice none 0 0, .slice none 0 0] 30) :: []) := by
      rw [jv, List.length_append]; exact M
     obtain ⟨so48, ca49, rfl⟩ := kk (M.has 1 rfl)
     refine sda A λa A↦?_
     refine qa (hK39 _ _ (wrl (sdm A λa A↦?_)))
     refine sdo (v := .int .i64 (((j + 1 : Nat) : Int))) A (qf rfl rfl (ar_add ((in_i64 (by omega) (by omega)).trans (by omega)))) λa A↦?_
     refine sda A λa A↦?_
     refine qa ?_
     replace M : Mg w w47 (.row 30 11 (.slice so48 ((xs ++ ys).length) ca49) ((xs ++ ys).length) (cellsOf (xs ++ ys)) :: .obj g2 (.cells #[.int .i64 0, .int .i64 0, .bool false, .slice none 0 0, .slice none 0 0, .bool false, .slice none 0 0, .slice none 0 0, .string (⟨#[]⟩), .slice none 0 0, .slice none 0 0] 30) :: []) := by
      have h9 := M.sub (.cons _ (.cons_cons _ (.cons_cons _ (.refl _))))
      exact h9
     refine hK34 _ _ _ (by omega) ⟨j + 1, xs ++ ys, so48, ca49, rfl, ⟨by omega, (fun x hx => (List.mem_append.1 hx).elim (hxs x) (hy2 x)), by rw [List.map_append, jr]; omega, by rw [uw it1, List.map_append]; exact qai hJ hy1⟩, A.keep _ ⟨rfl, rfl, rfl, rfl, rfl, rfl, rfl, rfl, rfl, rfl, rfl, rfl, rfl, trivial⟩, M⟩
    ·
     refine gcl A M (ef rfl rfl) (uk M.bel rt1_ (by have := ke mt1; omega) hs1 hb41) fun w51 hb50 M a A => ?_
     refine sdm A λa A↦?_
     iterate 2 refine sdo A (qm (vs := [.slice none 0 0, .int .i64 10]) rfl rfl) λa A↦?_
     iterate 2 refine sda A λa A↦?_
     refine qa (hK40 _ _ (wsk fun K52 hK52 => wsk fun K53 hK53 => wrl (sdm A λa A↦?_)))
     refine sdo (v := .bool true) A (qf rfl rfl (fun w => by kernel_rfl)) λa A↦?_
     refine qa (hK53 _ _ (wp_cond_true (A.ev rfl) ?_))
     refine wsk fun K54 hK54 => wrl (sdo (v := .agg #[.int .i64 0, .int .i64 0, .bool false, .slice none 0 0, .slice none 0 0, .bool false, .slice none 0 0, .slice none 0 0, .string (⟨#[]⟩), .slice none 0 0, .slice none 0 0]) A (za rfl (fun w => by kernel_rfl)) λa A↦?_)
     refine sdm A λa A↦?_
     refine qw (us := [.int .i64 0, .int .i64 0, .bool false, .slice none 0 0, .slice none 0 0, .bool false, .slice none 0 0, .slice none 0 0, .string (⟨#[]⟩), .slice none 0 0, .slice none 0 0]) (L' := (.row 30 11 (.slice so_ xs.length ca_) xs.length (cellsOf xs) :: .obj g2 (.cells #[.int .i64 0, .int .i64 0, .bool false, .slice none 0 0, .slice none 0 0, .bool false, .slice none 0 0, .slice none 0 0, .string (⟨#[]⟩), .slice none 0 0, .slice none 0 0] 30) :: [])) A M rfl rfl (qj rfl rfl rfl (by kernel_rfl) M 1 rfl rfl rfl) 1 rfl rfl rfl ?_
     intro w55 M
     refine sda A λa A↦?_
     refine qa (hK54 _ _ (wp_ret (hret _ _ (en2 A rfl (qt M LiN_isS_30 rfl 1 rfl (cs := [.int .i64 0, .int .i64 0, .bool false, .slice none 0 0, .slice none 0 0, .bool false, .slice none 0 0, .slice none 0 0, .string (⟨#[]⟩), .slice none 0 0, .slice none 0 0]) rfl rfl) (qe rfl) ?_))))
     exact ⟨xf, 10, rfl, ⟨jc _, by rw [qmb hall (fun e => by rw [e] at hb23'; exact hb23' rfl) (zef hJ it1 (yu hb41) (by omega)), jb]⟩, M.bel⟩
   ·
    have hb38' := of_decide_eq_false hb38
    refine sdc A zf hb38 λa A↦?_
    refine qa (hK37 _ _ (wp_cond_false (A.ev rfl) ?_))
    refine wp_exit (hK31 _ _ (wsk fun K56 hK56 => ?_))
    obtain ⟨t9, bt9, ot9, it9, mt9, rt9_, lt9, Ht9⟩ := qka hR hD (i := (ts.length - 1)) (by omega)
    obtain rfl : j = ts.length - 1 := by omega
    have hjb := qna hJ
    have hgb : Tr.bulks ((ts.take (ts.length - 1)).map Dt.tr) + t9.tr.bulk = Tr.bulks (ts.map Dt.tr) := by
     have h7 := qaj it9
     rw [show ts.length - 1 + 1 = ts.length by omega, List.take_length] at h7
     omega
    refine wrl ?_
    iterate 3 refine sdm A λa A↦?_
    refine sdo A (qr Tryz.underlying22 rfl) λa A↦?_
    refine sdo (v := .int .i64 (((ts.length - 1 : Nat) : Int))) A (qf rfl rfl (ar_sub ((in_i64 (by omega) (by omega)).trans (by omega)))) λa A↦?_
    refine sdo (v := .pointer (some ⟨bt9, ot9 + (ts.length - 1) * 11, none⟩)) A (zj (k := (ts.length - 1)) Tryz.underlying22 (by kernel_rfl) rfl rfl rfl lt9 (by omega)) λa A↦?_
    refine sdo A (zp M Ht9 LiN_isS_30 rfl rfl) λa A↦?_
    obtain ⟨hge57, hlt58⟩ := Ck.lt (M.has 1 rfl) g2 rfl
    refine sct A (ef rfl rfl) (yi (vj (M.has 0 rfl)).1 (fun t ht => Dt.keep M.bel _ (hxs t ht)) (Dt.keep M.bel _ rt9_) (by omega) (fun b => b < w.heap.size ∨ w33.heap.size ≤ b) (fun b hb => .inr hb) (fun t ht => Dt.at_mono (fun b hb => .inl hb) _ (Dt.at_lt _ (hxs t ht))) (Dt.at_mono (fun b hb => .inl hb) _ (Dt.at_lt _ rt9_))) ?_
    rintro _ w60 ⟨t3, rfl, ⟨hrt3, hat3, htt3⟩, hb59⟩
    replace M := M.call hb59
    refine ⟨_, rfl, ?_⟩
    intro a A
    refine sct A (ef rfl rfl) (zed hrt3 (by rw [htt3, vf, List.length_map]; omega) hat3) ?_
    rintro _ w62 ⟨t2, k2, rfl, ⟨hrt2, hat2, htt2⟩, hb61⟩
    replace M := M.call hb61
    refine ⟨_, rfl, ?_⟩
    intro a A
    iterate 2 refine sdo A (qm (vs := [.agg (t2.d.cells t2.ts.length).toArray, .int .i64 k2]) rfl rfl) λa A↦?_
    refine ji (us := [.int .i64 t2.d.k, .int .i64 t2.d.n, .bool t2.d.y.q.b1, .slice t2.d.y.o1 t2.d.y.q.t1.length t2.d.y.c1, .slice t2.d.y.o2 t2.d.y.q.q1.length t2.d.y.c2, .bool t2.d.y.q.b2, .slice t2.d.y.o3 t2.d.y.q.t2.length t2.d.y.c3, .slice t2.d.y.o4 t2.d.y.q.q2.length t2.d.y.c4, .string t2.d.s, .slice t2.d.ro t2.d.rl.length t2.d.rc, .slice t2.d.lo t2.ts.length t2.d.lc]) (L' := (.row 30 11 (.slice so_ xs.length ca_) xs.length (cellsOf xs) :: .obj g2 (.cells (t2.d.cells t2.ts.length).toArray 30) :: [])) A M rfl rfl (qj rfl rfl rfl (by kernel_rfl) M 1 rfl rfl rfl) 1 rfl rfl rfl ?_
    intro w63 M hK64
    replace hrt2 := Dt.kept hK64 _ hrt2 (Dt.at_mono (fun b hb => by rintro rfl; omega) _ hat2)
    refine sda A λa A↦?_
    refine qa (hK56 _ _ (wp_ret (hret _ _ (en2 A rfl (qt M LiN_isS_30 rfl 1 rfl (cs := [.int .i64 t2.d.k, .int .i64 t2.d.n, .bool t2.d.y.q.b1, .slice t2.d.y.o1 t2.d.y.q.t1.length t2.d.y.c1, .slice t2.d.y.o2 t2.d.y.q.q1.length t2.d.y.c2, .bool t2.d.y.q.b2, .slice t2.d.y.o3 t2.d.y.q.t2.length t2.d.y.c3, .slice t2.d.y.o4 t2.d.y.q.q2.length t2.d.y.c4, .string t2.d.s, .slice t2.d.ro t2.d.rl.length t2.d.rc, .slice t2.d.lo t2.ts.length t2.d.lc]) rfl rfl) (qe rfl) ?_))))
    exact ⟨t2, k2, rfl, ⟨hrt2, by rw [qmc hall it9 hJ, htt2, htt3]; rfl⟩, M.bel⟩
theorem LiJ_is1_22 : Is1 Tryz.prog 22 := ⟨⟨_, Tryz.underlying22, rfl⟩, by kernel_rfl⟩
theorem LiJ_is1_3 : Is1 Tryz.prog 3 := ⟨⟨_, Tryz.underlying3, rfl⟩, by kernel_rfl⟩
theorem LiJ_fld_30_0 : FieldAt Tryz.prog 30 0 0 := ⟨_, _, Tryz.underlying30, rfl, rfl, by kernel_rfl⟩
theorem LiJ_fld_30_5 : FieldAt Tryz.prog 30 5 10 := ⟨_, _, Tryz.underlying30, rfl, rfl, by kernel_rfl⟩
theorem LiJ_isS_30 : IsS Tryz.prog 30 11 := ⟨⟨_, Tryz.underlying30⟩, by kernel_rfl⟩
theorem zag {w : World} (hT : Tabs8 w) : Calls Tryz.prog 16 #[] w fun e w' => e = .returned (.bool true) ∧ Below w.heap.size w w' := by
 have M : Mg w w ([]) := Mg.start w
 refine qn (l := []) Tryz.func16 rfl Tryz.ntmps16 rfl rfl ?_
 intro Q hret hnorm hP a A
 refine wsk fun K1 hK1 => wrl (sda A λa A↦?_)
 refine qa (hK1 _ _ (wsk fun K2 hK2 => wrl (sdo (v := .agg #[.int .i64 2, .int .i64 0, .bool false, .slice none 0 0, .slice none 0 0, .bool false, .slice none 0 0, .slice none 0 0, .string (⟨#[]⟩), .slice none 0 0, .slice none 0 0]) A (za rfl (fun w => by kernel_rfl)) λa A↦?_)))
 refine sdo (v := .agg #[.int .i64 10, .int .i64 0, .bool false, .slice none 0 0, .slice none 0 0, .bool false, .slice none 0 0, .slice none 0 0, .string (⟨#[]⟩), .slice none 0 0, .slice none 0 0]) A (za rfl (fun w => by kernel_rfl)) λa A↦?_
 refine kv (e := 30) (sz := 11) (m := 2) (vs := cellsOf [xu 2, xu 10]) A M rfl rfl rfl (zh rfl (by kernel_rfl)) rfl rfl (.inl (by decide)) ?_
 intro g3 w4 M a A
 refine sct A (ef rfl rfl) (of_any (ts := [xu 2, xu 10]) (vj (M.has 0 rfl)).1 (zec _) (by decide) (hT.below M.bel)) ?_
 rintro _ w6 ⟨x, rfl, ⟨hrx, -, htx⟩, hb5⟩
 have hbx := zgj [(xu 2).tr, (xu 10).tr]
 have hbx9 : Tr.bulks [(xu 2).tr, (xu 10).tr] = 2 := by rfl
 replace M := M.call hb5
 refine ⟨_, rfl, ?_⟩
 intro a A
 have hB1 := M.bel
 replace hT := hT.below M.bel
 replace M : Mg w6 w6 [] := Mg.start w6
 refine zr (vs := [.int .i64 0, .int .i64 0, .bool false, .slice none 0 0, .slice none 0 0, .bool false, .slice none 0 0, .slice none 0 0, .string (⟨#[]⟩), .slice none 0 0, .slice none 0 0]) (t := 30) A M rfl rfl rfl pg (qs (z := .agg #[.int .i64 0, .int .i64 0, .bool false, .slice none 0 0, .slice none 0 0, .bool false, .slice none 0 0, .slice none 0 0, .string (⟨#[]⟩), .slice none 0 0, .slice none 0 0]) (by kernel_rfl) rfl) (by decide) ?_
 intro g7 w8 M a A
 refine qw (us := [.int .i64 x.d.k, .int .i64 x.d.n, .bool x.d.y.q.b1, .slice x.d.y.o1 x.d.y.q.t1.length x.d.y.c1, .slice x.d.y.o2 x.d.y.q.q1.length x.d.y.c2, .bool x.d.y.q.b2, .slice x.d.y.o3 x.d.y.q.t2.length x.d.y.c3, .slice x.d.y.o4 x.d.y.q.q2.length x.d.y.c4, .string x.d.s, .slice x.d.ro x.d.rl.length x.d.rc, .slice x.d.lo x.ts.length x.d.lc]) (L' := (.obj g7 (.cells (x.d.cells x.ts.length).toArray 30) :: [])) A M rfl rfl (qj rfl rfl rfl (by kernel_rfl) M 0 rfl rfl rfl) 0 rfl rfl rfl ?_
 intro w9 M
 refine qa (hK2 _ _ (wsk fun K10 hK10 => wrl (sdo A (zi M LiJ_isS_30 rfl 0 rfl (cs := [.int .i64 x.d.k, .int .i64 x.d.n, .bool x.d.y.q.b1, .slice x.d.y.o1 x.d.y.q.t1.length x.d.y.c1, .slice x.d.y.o2 x.d.y.q.q1.length x.d.y.c2, .bool x.d.y.q.b2, .slice x.d.y.o3 x.d.y.q.t2.length x.d.y.c3, .slice x.d.y.o4 x.d.y.q.q2.length x.d.y.c4, .string x.d.s, .slice x.d.ro x.d.rl.length x.d.rc, .slice x.d.lo x.ts.length x.d.lc]) rfl rfl) λa A↦?_)))
 refine sct A (ef rfl rfl) (qeg (t := x) (Dt.keep M.bel _ hrx) (by have h9 : x.tr.bulk ≤ 6 := (by rw [htx]; show (ofS [(xu 2).tr, (xu 10).tr]).bulk ≤ 6; omega); omega) (hT.below M.bel)) ?_
 rintro _ w12 ⟨r, kr, rfl, ⟨hrr, -, htr⟩, hb11⟩
 replace M := M.call hb11
 refine ⟨_, rfl, ?_⟩
 intro a A
 have hB2 := hB1.trans (M.bel.mono hB1.size)
 replace hT := hT.below M.bel
 replace hrx := Dt.keep M.bel _ hrx
 have hHg7 := M.here 0 (cs := [.int .i64 x.d.k, .int .i64 x.d.n, .bool x.d.y.q.b1, .slice x.d.y.o1 x.d.y.q.t1.length x.d.y.c1, .slice x.d.y.o2 x.d.y.q.q1.length x.d.y.c2, .bool x.d.y.q.b2, .slice x.d.y.o3 x.d.y.q.t2.length x.d.y.c3, .slice x.d.y.o4 x.d.y.q.q2.length x.d.y.c4, .string x.d.s, .slice x.d.ro x.d.rl.length x.d.rc, .slice x.d.lo x.ts.length x.d.lc]) rfl
 replace M : Mg w12 w12 [] := Mg.start w12
 refine sdm A λa A↦?_
 iterate 2 refine sdo A (qm (vs := [.agg (r.d.cells r.ts.length).toArray, .int .i64 kr]) rfl rfl) λa A↦?_
 refine zr (vs := [.int .i64 0, .int .i64 0, .bool false, .slice none 0 0, .slice none 0 0, .bool false, .slice none 0 0, .slice none 0 0, .string (⟨#[]⟩), .slice none 0 0, .slice none 0 0]) (t := 30) A M rfl rfl rfl pg (qs (z := .agg #[.int .i64 0, .int .i64 0, .bool false, .slice none 0 0, .slice none 0 0, .bool false, .slice none 0 0, .slice none 0 0, .string (⟨#[]⟩), .slice none 0 0, .slice none 0 0]) (by kernel_rfl) rfl) (by decide) ?_
 intro g13 w14 M a A
 refine qw (us := [.int .i64 r.d.k, .int .i64 r.d.n, .bool r.d.y.q.b1, .slice r.d.y.o1 r.d.y.q.t1.length r.d.y.c1, .slice r.d.y.o2 r.d.y.q.q1.length r.d.y.c2, .bool r.d.y.q.b2, .slice r.d.y.o3 r.d.y.q.t2.length r.d.y.c3, .slice r.d.y.o4 r.d.y.q.q2.length r.d.y.c4, .string r.d.s, .slice r.d.ro r.d.rl.length r.d.rc, .slice r.d.lo r.ts.length r.d.lc]) (L' := (.obj g13 (.cells (r.d.cells r.ts.length).toArray 30) :: [])) A M rfl rfl (qj rfl rfl rfl (by kernel_rfl) M 0 rfl rfl rfl) 0 rfl rfl rfl ?_
 intro w15 M
 refine sda A λa A↦?_
 refine qa (hK10 _ _ (wsk fun K16 hK16 => ?_))
 have e9 : (r.tr, kr) = (zn [(xu 10).tr, (xu 2).tr] nilT, 0) := htr.trans (by rw [htx]; exact zeb)
 obtain ⟨f1, f2, f3⟩ := zad (congrArg Prod.fst e9)
 have f4 : kr = 0 := congrArg Prod.snd e9
 obtain ⟨r0, br0, or0, ir0, mr0, rr0_, lr0, Hr0⟩ := qqe hrr (i := 0) (by omega)
 have f5 : r0.d.k = 10 := by rw [← zia, f3 _ ir0]; rfl
 refine wrl (sdm A λa A↦?_)
 refine sdo (v := .bool true) A (qf rfl rfl (fun w => (qi w).trans (by rw [show ((kr == 0)) = true from (beq_iff_eq.2 f4)]))) λa A↦?_
 refine sdm A λa A↦?_
 refine sdo (v := .pointer (some ⟨g13, 0, none⟩)) A (qb LiJ_fld_30_0 rfl rfl) λa A↦?_
 refine sdo A (qk M LiJ_is1_3 rfl 0 rfl rfl) λa A↦?_
 refine sdo (v := .bool true) A (qf rfl rfl (fun w => (qi w).trans (by rw [show ((r.d.k == 8)) = true from (beq_iff_eq.2 f1)]))) λa A↦?_
 refine sdk (v := .bool true) A λa A↦?_
 refine sdm A λa A↦?_
 refine sdo (v := .pointer (some ⟨g13, 10, none⟩)) A (qb LiJ_fld_30_5 rfl rfl) λa A↦?_
 refine sdo A (qk M LiJ_is1_22 rfl 0 rfl rfl) λa A↦?_
 refine sdo A (qr Tryz.underlying22 rfl) λa A↦?_
 refine sdo (v := .bool true) A (qf rfl rfl (fun w => (qi w).trans (by rw [show ((((r.ts.length : Nat) : Int) == 2)) = true from (beq_iff_eq.2 (by omega))]))) λa A↦?_
 refine sdk (v := .bool true) A λa A↦?_
 refine sdm A λa A↦?_
 refine sdo (v := .pointer (some ⟨g13, 10, none⟩)) A (qb LiJ_fld_30_5 rfl rfl) λa A↦?_
 refine sdo A (qk M LiJ_is1_22 rfl 0 rfl rfl) λa A↦?_
 refine sdo (v := .pointer (some ⟨br0, or0 + 0 * 11, none⟩)) A (zj (k := 0) Tryz.underlying22 (by kernel_rfl) rfl rfl rfl lr0 (by omega)) λa A↦?_
 refine sdo (v := .pointer (some ⟨br0, or0 + 0 * 11, none⟩)) A (qb LiJ_fld_30_0 rfl rfl) λa A↦?_
 refine sdo A (ul (j := 0) M Hr0 LiJ_is1_3 rfl rfl rfl) λa A↦?_
 refine sdo (v := .bool true) A (qf rfl rfl (fun w => (qi w).trans (by rw [show ((r0.d.k == 10)) = true from (beq_iff_eq.2 f5)]))) λa A↦?_
 refine sdk (v := .bool true) A λa A↦?_
 refine sda A λa A↦?_
 refine qa (hK16 _ _ (wp_ret (hret _ _ (en1 A rfl (qe rfl) ?_))))
 exact ⟨rfl, hB2.trans (M.bel.mono hB2.size)⟩
theorem LiO_isS_30 : IsS Tryz.prog 30 11 := ⟨⟨_, Tryz.underlying30⟩, by kernel_rfl⟩
theorem qtc {w : World} {sa sb : Option Addr} {ca cb : Nat} {us vs : List Dt} (hRa : Rt w sa us) (hDa : ∀ t ∈ us, t.rd w) (hRb : Rt w sb vs) (hDb : ∀ t ∈ vs, t.rd w) (he : us.map Dt.tr = vs.map Dt.tr) (hl : us.length ≤ 1000000000) : Calls Tryz.prog 20 #[.slice sa us.length ca, .slice sb vs.length cb] w fun e w' => e = .returned (.bool true) ∧ Below w.heap.size w w' := by
 have hel : us.length = vs.length := by have := congrArg List.length he; simpa using this
 have M : Mg w w ([]) := Mg.start w
 refine qn (l := [(0, .slice sa us.length ca), (1, .slice sb vs.length cb)]) Tryz.func20 rfl Tryz.ntmps20 rfl rfl ?_
 intro Q hret hnorm hP a A
 refine wsk fun K1 hK1 => wrl (sda A λa A↦?_)
 refine qa (hK1 _ _ (wsk fun K2 hK2 => wsk fun K3 hK3 => wrl (sdm A λa A↦?_)))
 refine sdo A (qr Tryz.underlying22 rfl) λa A↦?_
 refine sdm A λa A↦?_
 refine sdo A (qr Tryz.underlying22 rfl) λa A↦?_
 refine sdo (v := .bool false) A (qf rfl rfl (fun w => (zt w).trans (by rw [show ((((us.length : Nat) : Int) != ((vs.length : Nat) : Int))) = false from (bne_eq_false_iff_eq.2 (by omega))]))) λa A↦?_
 refine qa (hK3 _ _ (wp_cond_false (A.ev rfl) ?_))
 refine wp_skip (hK2 _ _ (wsk fun K4 hK4 => wsk fun K5 hK5 => wrl (sda A λa A↦?_)))
 refine qa (hK5 _ _ (wp_block (zw (fun m_ a w1 => ∃ (i : Nat), m_ = 1 + (us.length - i) ∧ (i ≤ us.length) ∧ Sl a 27 [(0, .slice sa us.length ca), (1, .slice sb vs.length cb), (5, .int .i64 (((i : Nat) : Int))), (6, .slice sa us.length ca), (7, .int .i64 (((us.length : Nat) : Int))), (8, .slice sb vs.length cb), (9, .int .i64 (((vs.length : Nat) : Int))), (10, .bool false)] ∧ Mg w w1 ([])) _ ⟨0, rfl, Nat.zero_le _, A.keep _ ⟨rfl, rfl, rfl, rfl, rfl, rfl, rfl, rfl, trivial⟩, M⟩ ?_)))
 clear M A
 rintro m_ a w6 ⟨i, rfl, hinv8, A, M⟩ K7 hK7
 have hi0 := hinv8
 refine wsk fun K9 hK9 => wsk fun K10 hK10 => wrl ?_
 iterate 2 refine sdm A λa A↦?_
 refine sdo A (qr Tryz.underlying22 rfl) λa A↦?_
 rcases tf (decide (((i : Nat) : Int) < ((us.length : Nat) : Int))) with hb11 | hb11
 ·
  have hb11' := of_decide_eq_true hb11
  refine sdc A zf hb11 λa A↦?_
  refine qa (hK10 _ _ (wp_cond_true (A.ev rfl) ?_))
  refine wp_skip (hK9 _ _ (wsk fun K12 hK12 => wp_block (wsk fun K13 hK13 => ?_)))
  obtain ⟨t1, bt1, ot1, it1, mt1, rt1_, lt1, Ht1⟩ := qka hRa hDa (i := i) (by omega)
  obtain ⟨u1, bu1, ou1, iu1, mu1, ru1_, lu1, Hu1⟩ := qka hRb hDb (i := i) (by omega)
  refine xv (S := fun w1 => Mg w w1 ([])) (by kernel_rfl) ?_
  replace M := M.drew
  refine ql A 0 rfl rfl rfl rfl hP (M.sub (List.nil_sublist _)) (fun w1 M => zd rfl) λa A↦?_
  refine ql A 1 rfl rfl rfl rfl hP (M.sub (List.nil_sublist _)) (fun w1 M => zd rfl) λa A↦?_
  refine ql (v := .pointer (some ⟨bt1, ot1 + i * 11, none⟩)) A 2 rfl rfl rfl rfl hP (M.sub (List.nil_sublist _)) (fun w1 M => zj (k := i) Tryz.underlying22 (by kernel_rfl) rfl rfl rfl lt1 (by omega)) λa A↦?_
  refine ql A 3 rfl rfl rfl rfl hP (M.sub (List.nil_sublist _)) (fun w1 M => zp M Ht1 LiO_isS_30 rfl rfl) λa A↦?_
  refine ql A 4 rfl rfl rfl rfl hP (M.sub (List.nil_sublist _)) (fun w1 M => zd rfl) λa A↦?_
  refine ql A 5 rfl rfl rfl rfl hP (M.sub (List.nil_sublist _)) (fun w1 M => zd rfl) λa A↦?_
  refine ql (v := .pointer (some ⟨bu1, ou1 + i * 11, none⟩)) A 6 rfl rfl rfl rfl hP (M.sub (List.nil_sublist _)) (fun w1 M => zj (k := i) Tryz.underlying22 (by kernel_rfl) rfl rfl rfl lu1 (by omega)) λa A↦?_
  refine ql A 7 rfl rfl rfl rfl hP (M.sub (List.nil_sublist _)) (fun w1 M => zp M Hu1 LiO_isS_30 rfl rfl) λa A↦?_
  refine zv (by kernel_rfl) (jy A 8 rfl rfl rfl rfl (zu rfl rfl (fun w => by kernel_rfl)) ((((ui t1.tr u1.tr).2 (zjf he it1 iu1)) ▸ vt (t1.tr.bulk + 1) (t := t1) (u := u1) (Nat.lt_succ_self _) (Dt.keep M.bel _ rt1_) (Dt.keep M.bel _ ru1_))) ?_)
  rintro _ w15 ⟨rfl, hb14⟩
  replace M := M.call hb14
  refine ⟨_, rfl, (M.sub (List.nil_sublist _)), ?_⟩
  intro a A
  refine ql (v := .bool false) A 9 rfl rfl rfl rfl hP (M.sub (List.nil_sublist _)) (fun w1 M => qy rfl zk) λa A↦?_
  refine jo (by kernel_rfl) ?_
  refine hK13 _ _ (wp_cond_false (A.ev rfl) ?_)
  refine wp_skip (hK12 _ _ (wrl (sdm A λa A↦?_)))
  refine sdo (v := .int .i64 (((i + 1 : Nat) : Int))) A (qf rfl rfl (fun w => (jm (vb (by omega) (by omega)) w).trans (by rw [show (((i : Nat) : Int) + 1 : Int) = ((i + 1 : Nat) : Int) from by omega]))) λa A↦?_
  refine sda A λa A↦?_
  refine qa ?_
  refine hK7 _ _ _ (by omega) ⟨i + 1, rfl, by omega, A.keep _ ⟨rfl, rfl, rfl, rfl, rfl, rfl, rfl, rfl, trivial⟩, M⟩
 ·
  have hb11' := of_decide_eq_false hb11
  refine sdc A zf hb11 λa A↦?_
  refine qa (hK10 _ _ (wp_cond_false (A.ev rfl) ?_))
  refine wp_exit (hK4 _ _ (wsk fun K16 hK16 => wrl (sda A λa A↦?_)))
  refine qa (hK16 _ _ (wp_ret (hret _ _ (en1 A rfl (qe rfl) ?_))))
  exact ⟨rfl, M.bel⟩
theorem zah {w : World} {t : Dt} (ht : t.rd w) (hb : t.tr.bulk ≤ 300000000) (hT : Tabs8 w) : Calls Tryz.prog 8 #[.agg (t.d.cells t.ts.length).toArray] w fun e w' => ∃ so' ca' ys k, e = .returned (.tuple #[.slice so' (ys : List Dt).length ca', .int .i64 k]) ∧ ((ys.map Dt.tr, k) = qad t.tr ∧ Rt w' so' ys ∧ (∀ x ∈ ys, x.rd w')) ∧ Below w.heap.size w w' := by
 have M : Mg w w ([]) := Mg.start w
 refine qn (l := [(0, .agg (t.d.cells t.ts.length).toArray)]) Tryz.func8 rfl Tryz.ntmps8 rfl rfl ?_
 intro Q hret hnorm hP a A
 refine wsk fun K1 hK1 => wrl (zr (vs := [.int .i64 t.d.k, .int .i64 t.d.n, .bool t.d.y.q.b1, .slice t.d.y.o1 t.d.y.q.t1.length t.d.y.c1, .slice t.d.y.o2 t.d.y.q.q1.length t.d.y.c2, .bool t.d.y.q.b2, .slice t.d.y.o3 t.d.y.q.t2.length t.d.y.c3, .slice t.d.y.o4 t.d.y.q.q2.length t.d.y.c4, .string t.d.s, .slice t.d.ro t.d.rl.length t.d.rc, .slice t.d.lo t.ts.length t.d.lc]) (t := 30) A M rfl rfl rfl pg (zg rfl rfl) (by decide) ?_)
 intro g2 w3 M a A
 iterate 2 refine sda A λa A↦?_
 refine qa (hK1 _ _ (wsk fun K4 hK4 => wrl (sdo A (zi M LiO_isS_30 rfl 0 rfl (cs := [.int .i64 t.d.k, .int .i64 t.d.n, .bool t.d.y.q.b1, .slice t.d.y.o1 t.d.y.q.t1.length t.d.y.c1, .slice t.d.y.o2 t.d.y.q.q1.length t.d.y.c2, .bool t.d.y.q.b2, .slice t.d.y.o3 t.d.y.q.t2.length t.d.y.c3, .slice t.d.y.o4 t.d.y.q.q2.length t.d.y.c4, .string t.d.s, .slice t.d.ro t.d.rl.length t.d.rc, .slice t.d.lo t.ts.length t.d.lc]) rfl rfl) λa A↦?_)))
 rcases tf (qp qh t.tr) with hb5 | hb5
 ·
  rcases tf ((zq t.tr).isSome) with hb7 | hb7
  ·
   refine sct A (ef rfl rfl) (qbd M.bel ht (by omega) (hT.below M.bel) hb5 hb7) ?_
   rintro _ w9 ⟨so7, ca7, ys, rfl, ⟨hy1, hy2, hy3⟩, hM7⟩
   have hyb := jl hy1
   replace M : Mg w w9 (.row 30 11 (.slice so7 ys.length ca7) ys.length (cellsOf ys) :: .obj g2 (.cells (t.d.cells t.ts.length).toArray 30) :: []) := (M.both hM7 (zb (by simp) (qx ze)) (zb (by simp) (qx ze)))
   refine ⟨_, rfl, ?_⟩
   intro a A
   refine sdm A λa A↦?_
   iterate 2 refine sdo A (qm (vs := [.slice so7 ys.length ca7, .int .i64 0]) rfl rfl) λa A↦?_
   iterate 2 refine sda A λa A↦?_
   refine qa (hK4 _ _ (wsk fun K10 hK10 => wsk fun K11 hK11 => wrl (sdm A λa A↦?_)))
   refine sdo (v := .bool false) A (qf rfl rfl (fun w => by kernel_rfl)) λa A↦?_
   refine qa (hK11 _ _ (wp_cond_false (A.ev rfl) ?_))
   refine wp_skip (hK10 _ _ (wsk fun K12 hK12 => wrl (sdm A λa A↦?_)))
   refine sct A (ef rfl rfl) (qle (fun t _ => qah t) (vj (M.has 0 rfl)).1 (fun t ht => Dt.keep M.bel _ (hy2 t ht)) (by omega)) ?_
   rintro _ w13 ⟨v8, us, rfl, ⟨hu1, hu2⟩, hM8⟩
   obtain ⟨so8, ca8, rfl⟩ := kk (hM8.has 0 rfl)
   have hR8 := (vj (hM8.has 0 rfl)).1
   replace M := M.call hM8.bel
   refine ⟨_, rfl, ?_⟩
   intro a A
   iterate 2 refine sda A λa A↦?_
   refine qa (hK12 _ _ (wp_ret (hret _ _ (en2 A rfl (qe rfl) (qe rfl) ?_))))
   exact ⟨so8, ca8, us, 0, rfl, ⟨by rw [qjf hb5 hy1, hu1], hR8, fun x hx => (hu2 x hx).1⟩, M.bel⟩
  ·
   refine gcl A M (ef rfl rfl) (qbe M.bel ht (by omega) (hT.below M.bel) hb5 hb7) fun w15 hb14 M a A => ?_
   refine sdm A λa A↦?_
   iterate 2 refine sdo A (qm (vs := [.slice none 0 0, .int .i64 10]) rfl rfl) λa A↦?_
   iterate 2 refine sda A λa A↦?_
   refine qa (hK4 _ _ (wsk fun K16 hK16 => wsk fun K17 hK17 => wrl (sdm A λa A↦?_)))
   refine sdo (v := .bool true) A (qf rfl rfl (fun w => by kernel_rfl)) λa A↦?_
   refine qa (hK17 _ _ (wp_cond_true (A.ev rfl) ?_))
   refine wsk fun K18 hK18 => wrl (sdm A λa A↦?_)
   iterate 2 refine sda A λa A↦?_
   refine qa (hK18 _ _ (wp_ret (hret _ _ (en2 A rfl (qe rfl) (qe rfl) ?_))))
   exact ⟨none, 0, [], 10, rfl, ⟨(qje hb5 (yu hb7)).symm, (fun h => absurd rfl h), (fun x h => by cases h)⟩, M.bel⟩
 ·
  refine gcl A M (ef rfl rfl) (qdh M.bel ht (by omega) (hT.below M.bel) hb5) fun w20 hb19 M a A => ?_
  refine sdm A λa A↦?_
  iterate 2 refine sdo A (qm (vs := [.slice none 0 0, .int .i64 2]) rfl rfl) λa A↦?_
  iterate 2 refine sda A λa A↦?_
  refine qa (hK4 _ _ (wsk fun K21 hK21 => wsk fun K22 hK22 => wrl (sdm A λa A↦?_)))
  refine sdo (v := .bool true) A (qf rfl rfl (fun w => by kernel_rfl)) λa A↦?_
  refine qa (hK22 _ _ (wp_cond_true (A.ev rfl) ?_))
  refine wsk fun K23 hK23 => wrl (sdm A λa A↦?_)
  iterate 2 refine sda A λa A↦?_
  refine qa (hK23 _ _ (wp_ret (hret _ _ (en2 A rfl (qe rfl) (qe rfl) ?_))))
  exact ⟨none, 0, [], 2, rfl, ⟨(qnb hb5).symm, (fun h => absurd rfl h), (fun x h => by cases h)⟩, M.bel⟩
theorem qvi {w : World} {t : Dt} (ht : t.rd w) (hb : t.tr.bulk ≤ 1100000) : Calls Tryz.prog 9 #[.agg (t.d.cells t.ts.length).toArray] w fun e w' => ∃ so' ca' ys k, e = .returned (.tuple #[.slice so' (ys : List Dt).length ca', .int .i64 k]) ∧ ((ys.map Dt.tr, k) = qad t.tr ∧ Rt w' so' ys ∧ (∀ x ∈ ys, x.rd w')) ∧ Below w.heap.size w w' := by
 refine (ux (Below.refl _ w) ht (by omega)).mono ?_
 rintro e w' (⟨so', ca', ys, h1, h2, h3⟩ | ⟨h1, h2, h3⟩ | ⟨h1, h2, h3⟩)
 ·
  exact ⟨so', ca', ys, 0, h1, ⟨(qjf h2.1 h2.2.1).symm, (vj (h3.has 0 rfl)).1, fun x hx => Dt.keep h3.bel _ (h2.2.2.1 x hx)⟩, h3.bel⟩
 ·
  exact ⟨none, 0, [], 10, h1, ⟨(qje h2.1 h2.2).symm, (fun h => absurd rfl h), (fun x h => by cases h)⟩, h3⟩
 ·
  exact ⟨none, 0, [], 2, h1, ⟨(qnb h2).symm, (fun h => absurd rfl h), (fun x h => by cases h)⟩, h3⟩
theorem zeg (t : Tr) : (qad t).1.length ≤ t.bulk := by
 unfold qad
 split
 ·
  exact Nat.zero_le _
 ·
  cases h : zq t with
  | none => exact Nat.zero_le _
  | some xs => have := jl h; show xs.length ≤ _; omega
set_option maxHeartbeats 1000000 in
theorem qke {w : World} {si : Option Addr} {ca : Nat} {ts : List Dt} (hR : Rt w si ts) (hca : ts.length ≤ ca) (hD : ∀ t ∈ ts, t.rd w) {d : Dt} (hrd : d.rd w) {n : Int} (hT : Tabs8 w) (hb : Tr.bulks (ts.map Dt.tr) ≤ 1048576) (hb2 : d.tr.bulk ≤ 1048576) : Calls Tryz.prog 3 #[.slice si ts.length ca, .agg (d.d.cells d.ts.length).toArray, .int .i64 n] w fun e w' => e = .returned (.bool true) ∧ Below w.heap.size w w' := by
 have hbl := jn ts
 have M : Mg w w ([]) := Mg.start w
 refine qn (l := [(0, .slice si ts.length ca), (1, .agg (d.d.cells d.ts.length).toArray), (2, .int .i64 n)]) Tryz.func3 rfl Tryz.ntmps3 rfl rfl ?_
 intro Q hret hnorm hP a A
 refine wsk fun K1 hK1 => wrl (zr (vs := [.int .i64 d.d.k, .int .i64 d.d.n, .bool d.d.y.q.b1, .slice d.d.y.o1 d.d.y.q.t1.length d.d.y.c1, .slice d.d.y.o2 d.d.y.q.q1.length d.d.y.c2, .bool d.d.y.q.b2, .slice d.d.y.o3 d.d.y.q.t2.length d.d.y.c3, .slice d.d.y.o4 d.d.y.q.q2.length d.d.y.c4, .string d.d.s, .slice d.d.ro d.d.rl.length d.d.rc, .slice d.d.lo d.ts.length d.d.lc]) (t := 30) A M rfl rfl rfl pg (zg rfl rfl) (by decide) ?_)
 intro g2 w3 M a A
 refine sda A λa A↦?_
 refine qa (hK1 _ _ (wsk fun K4 hK4 => wrl (sdo A (zi M LiO_isS_30 rfl 0 rfl (cs := [.int .i64 d.d.k, .int .i64 d.d.n, .bool d.d.y.q.b1, .slice d.d.y.o1 d.d.y.q.t1.length d.d.y.c1, .slice d.d.y.o2 d.d.y.q.q1.length d.d.y.c2, .bool d.d.y.q.b2, .slice d.d.y.o3 d.d.y.q.t2.length d.d.y.c3, .slice d.d.y.o4 d.d.y.q.q2.length d.d.y.c4, .string d.d.s, .slice d.d.ro d.d.rl.length d.d.rc, .slice d.d.lo d.ts.length d.d.lc]) rfl rfl) λa A↦?_)))
 refine sct A (ef rfl rfl) (zah (Dt.keep M.bel _ hrd) (by omega) (hT.below M.bel)) ?_
 rintro _ w6 ⟨sl, cl, ll, kl, rfl, ⟨htl, hRl, hDl⟩, hb5⟩
 replace M := M.call hb5
 refine ⟨_, rfl, ?_⟩
 intro a A
 have hB1 := M.bel
 replace hT := hT.below M.bel
 replace hR := hR.below M.bel
 replace hD := fun t ht => Dt.keep M.bel _ (hD t ht)
 replace hrd := Dt.keep M.bel _ hrd
 have hHg2 := M.here 0 (cs := [.int .i64 d.d.k, .int .i64 d.d.n, .bool d.d.y.q.b1, .slice d.d.y.o1 d.d.y.q.t1.length d.d.y.c1, .slice d.d.y.o2 d.d.y.q.q1.length d.d.y.c2, .bool d.d.y.q.b2, .slice d.d.y.o3 d.d.y.q.t2.length d.d.y.c3, .slice d.d.y.o4 d.d.y.q.q2.length d.d.y.c4, .string d.d.s, .slice d.d.ro d.d.rl.length d.d.rc, .slice d.d.lo d.ts.length d.d.lc]) rfl
 replace M : Mg w6 w6 [] := Mg.start w6
 refine sdm A λa A↦?_
 iterate 2 refine sdo A (qm (vs := [.slice sl ll.length cl, .int .i64 kl]) rfl rfl) λa A↦?_
 iterate 2 refine sda A λa A↦?_
 refine qa (hK4 _ _ (wsk fun K7 hK7 => wrl (sdo A (zp M hHg2 LiO_isS_30 rfl rfl) λa A↦?_)))
 refine sct A (ef rfl rfl) (qvi (Dt.keep M.bel _ hrd) (by omega)) ?_
 rintro _ w9 ⟨sm, cm, lm, km, rfl, ⟨htm, hRm, hDm⟩, hb8⟩
 replace M := M.call hb8
 refine ⟨_, rfl, ?_⟩
 intro a A
 have hB2 := hB1.trans (M.bel.mono hB1.size)
 replace hT := hT.below M.bel
 replace hHg2 := hHg2.below M.bel
 replace hR := hR.below M.bel
 replace hD := fun t ht => Dt.keep M.bel _ (hD t ht)
 replace hRl := hRl.below M.bel
 replace hDl := fun t ht => Dt.keep M.bel _ (hDl t ht)
 replace hrd := Dt.keep M.bel _ hrd
 replace M : Mg w9 w9 [] := Mg.start w9
 refine sdm A λa A↦?_
 iterate 2 refine sdo A (qm (vs := [.slice sm lm.length cm, .int .i64 km]) rfl rfl) λa A↦?_
 iterate 2 refine sda A λa A↦?_
 refine qa (hK7 _ _ (wsk fun K10 hK10 => wrl (sdm A λa A↦?_)))
 refine sct A (ef rfl rfl) (qui (hR.below M.bel) (fun t ht => Dt.keep M.bel _ (hD t ht)) hca (by omega) (hT.below M.bel)) ?_
 rintro _ w12 ⟨aa, kaa, rfl, ⟨hraa, -, htaa⟩, hb11⟩
 replace M := M.call hb11
 refine ⟨_, rfl, ?_⟩
 intro a A
 have hB3 := hB2.trans (M.bel.mono hB2.size)
 replace hT := hT.below M.bel
 replace hHg2 := hHg2.below M.bel
 replace hR := hR.below M.bel
 replace hD := fun t ht => Dt.keep M.bel _ (hD t ht)
 replace hRl := hRl.below M.bel
 replace hDl := fun t ht => Dt.keep M.bel _ (hDl t ht)
 replace hRm := hRm.below M.bel
 replace hDm := fun t ht => Dt.keep M.bel _ (hDm t ht)
 replace hrd := Dt.keep M.bel _ hrd
 replace M : Mg w12 w12 [] := Mg.start w12
 refine sdm A λa A↦?_
 iterate 2 refine sdo A (qm (vs := [.agg (aa.d.cells aa.ts.length).toArray, .int .i64 kaa]) rfl rfl) λa A↦?_
 refine zr (vs := [.int .i64 0, .int .i64 0, .bool false, .slice none 0 0, .slice none 0 0, .bool false, .slice none 0 0, .slice none 0 0, .string (⟨#[]⟩), .slice none 0 0, .slice none 0 0]) (t := 30) A M rfl rfl rfl pg (qs (z := .agg #[.int .i64 0, .int .i64 0, .bool false, .slice none 0 0, .slice none 0 0, .bool false, .slice none 0 0, .slice none 0 0, .string (⟨#[]⟩), .slice none 0 0, .slice none 0 0]) (by kernel_rfl) rfl) (by decide) ?_
 intro g13 w14 M a A
 refine qw (us := [.int .i64 aa.d.k, .int .i64 aa.d.n, .bool aa.d.y.q.b1, .slice aa.d.y.o1 aa.d.y.q.t1.length aa.d.y.c1, .slice aa.d.y.o2 aa.d.y.q.q1.length aa.d.y.c2, .bool aa.d.y.q.b2, .slice aa.d.y.o3 aa.d.y.q.t2.length aa.d.y.c3, .slice aa.d.y.o4 aa.d.y.q.q2.length aa.d.y.c4, .string aa.d.s, .slice aa.d.ro aa.d.rl.length aa.d.rc, .slice aa.d.lo aa.ts.length aa.d.lc]) (L' := (.obj g13 (.cells (aa.d.cells aa.ts.length).toArray 30) :: [])) A M rfl rfl (qj rfl rfl rfl (by kernel_rfl) M 0 rfl rfl rfl) 0 rfl rfl rfl ?_
 intro w15 M
 refine sda A λa A↦?_
 refine qa (hK10 _ _ (wsk fun K16 hK16 => wrl (sdm A λa A↦?_)))
 refine sct A (ef rfl rfl) (qtb (hR.below M.bel) (fun t ht => Dt.keep M.bel _ (hD t ht)) (by omega)) ?_
 rintro _ w18 ⟨bb, kbb, rfl, ⟨hrbb, htbb⟩, hb17⟩
 replace M := M.call hb17
 refine ⟨_, rfl, ?_⟩
 intro a A
 have hB4 := hB3.trans (M.bel.mono hB3.size)
 replace hT := hT.below M.bel
 replace hHg2 := hHg2.below M.bel
 replace hR := hR.below M.bel
 replace hD := fun t ht => Dt.keep M.bel _ (hD t ht)
 replace hRl := hRl.below M.bel
 replace hDl := fun t ht => Dt.keep M.bel _ (hDl t ht)
 replace hRm := hRm.below M.bel
 replace hDm := fun t ht => Dt.keep M.bel _ (hDm t ht)
 replace hrd := Dt.keep M.bel _ hrd
 replace hraa := Dt.keep M.bel _ hraa
 have hHg13 := M.here 0 (cs := [.int .i64 aa.d.k, .int .i64 aa.d.n, .bool aa.d.y.q.b1, .slice aa.d.y.o1 aa.d.y.q.t1.length aa.d.y.c1, .slice aa.d.y.o2 aa.d.y.q.q1.length aa.d.y.c2, .bool aa.d.y.q.b2, .slice aa.d.y.o3 aa.d.y.q.t2.length aa.d.y.c3, .slice aa.d.y.o4 aa.d.y.q.q2.length aa.d.y.c4, .string aa.d.s, .slice aa.d.ro aa.d.rl.length aa.d.rc, .slice aa.d.lo aa.ts.length aa.d.lc]) rfl
 replace M : Mg w18 w18 [] := Mg.start w18
 refine sdm A λa A↦?_
 iterate 2 refine sdo A (qm (vs := [.agg (bb.d.cells bb.ts.length).toArray, .int .i64 kbb]) rfl rfl) λa A↦?_
 refine zr (vs := [.int .i64 0, .int .i64 0, .bool false, .slice none 0 0, .slice none 0 0, .bool false, .slice none 0 0, .slice none 0 0, .string (⟨#[]⟩), .slice none 0 0, .slice none 0 0]) (t := 30) A M rfl rfl rfl pg (qs (z := .agg #[.int .i64 0, .int .i64 0, .bool false, .slice none 0 0, .slice none 0 0, .bool false, .slice none 0 0, .slice none 0 0, .string (⟨#[]⟩), .slice none 0 0, .slice none 0 0]) (by kernel_rfl) rfl) (by decide) ?_
 intro g19 w20 M a A
 refine qw (us := [.int .i64 bb.d.k, .int .i64 bb.d.n, .bool bb.d.y.q.b1, .slice bb.d.y.o1 bb.d.y.q.t1.length bb.d.y.c1, .slice bb.d.y.o2 bb.d.y.q.q1.length bb.d.y.c2, .bool bb.d.y.q.b2, .slice bb.d.y.o3 bb.d.y.q.t2.length bb.d.y.c3, .slice bb.d.y.o4 bb.d.y.q.q2.length bb.d.y.c4, .string bb.d.s, .slice bb.d.ro bb.d.rl.length bb.d.rc, .slice bb.d.lo bb.ts.length bb.d.lc]) (L' := (.obj g19 (.cells (bb.d.cells bb.ts.length).toArray 30) :: [])) A M rfl rfl (qj rfl rfl rfl (by kernel_rfl) M 0 rfl rfl rfl) 0 rfl rfl rfl ?_
 intro w21 M
 refine sda A λa A↦?_
 refine qa (hK16 _ _ (wsk fun K22 hK22 => wrl (sdo A (zp M hHg2 LiO_isS_30 rfl rfl) λa A↦?_)))
 refine sct A (ef rfl rfl) (qeg (Dt.keep M.bel _ hrd) (by omega) (hT.below M.bel)) ?_
 rintro _ w24 ⟨r, kr, rfl, ⟨hrr, -, htr⟩, hb23⟩
 replace M := M.call hb23
 refine ⟨_, rfl, ?_⟩
 intro a A
 have hB5 := hB4.trans (M.bel.mono hB4.size)
 replace hT := hT.below M.bel
 replace hHg2 := hHg2.below M.bel
 replace hHg13 := hHg13.below M.bel
 replace hR := hR.below M.bel
 replace hD := fun t ht => Dt.keep M.bel _ (hD t ht)
 replace hRl := hRl.below M.bel
 replace hDl := fun t ht => Dt.keep M.bel _ (hDl t ht)
 replace hRm := hRm.below M.bel
 replace hDm := fun t ht => Dt.keep M.bel _ (hDm t ht)
 replace hrd := Dt.keep M.bel _ hrd
 replace hraa := Dt.keep M.bel _ hraa
 replace hrbb := Dt.keep M.bel _ hrbb
 have hHg19 := M.here 0 (cs := [.int .i64 bb.d.k, .int .i64 bb.d.n, .bool bb.d.y.q.b1, .slice bb.d.y.o1 bb.d.y.q.t1.length bb.d.y.c1, .slice bb.d.y.o2 bb.d.y.q.q1.length bb.d.y.c2, .bool bb.d.y.q.b2, .slice bb.d.y.o3 bb.d.y.q.t2.length bb.d.y.c3, .slice bb.d.y.o4 bb.d.y.q.q2.length bb.d.y.c4, .string bb.d.s, .slice bb.d.ro bb.d.rl.length bb.d.rc, .slice bb.d.lo bb.ts.length bb.d.lc]) rfl
 replace M : Mg w24 w24 [] := Mg.start w24
 refine sdm A λa A↦?_
 iterate 2 refine sdo A (qm (vs := [.agg (r.d.cells r.ts.length).toArray, .int .i64 kr]) rfl rfl) λa A↦?_
 refine zr (vs := [.int .i64 0, .int .i64 0, .bool false, .slice none 0 0, .slice none 0 0, .bool false, .slice none 0 0, .slice none 0 0, .string (⟨#[]⟩), .slice none 0 0, .slice none 0 0]) (t := 30) A M rfl rfl rfl pg (qs (z := .agg #[.int .i64 0, .int .i64 0, .bool false, .slice none 0 0, .slice none 0 0, .bool false, .slice none 0 0, .slice none 0 0, .string (⟨#[]⟩), .slice none 0 0, .slice none 0 0]) (by kernel_rfl) rfl) (by decide) ?_
 intro g25 w26 M a A
 refine qw (us := [.int .i64 r.d.k, .int .i64 r.d.n, .bool r.d.y.q.b1, .slice r.d.y.o1 r.d.y.q.t1.length r.d.y.c1, .slice r.d.y.o2 r.d.y.q.q1.length r.d.y.c2, .bool r.d.y.q.b2, .slice r.d.y.o3 r.d.y.q.t2.length r.d.y.c3, .slice r.d.y.o4 r.d.y.q.q2.length r.d.y.c4, .string r.d.s, .slice r.d.ro r.d.rl.length r.d.rc, .slice r.d.lo r.ts.length r.d.lc]) (L' := (.obj g25 (.cells (r.d.cells r.ts.length).toArray 30) :: [])) A M rfl rfl (qj rfl rfl rfl (by kernel_rfl) M 0 rfl rfl rfl) 0 rfl rfl rfl ?_
 intro w27 M
 refine sda A λa A↦?_
 refine qa (hK22 _ _ (wsk fun K28 hK28 => wrl (sdo A (zp M hHg2 LiO_isS_30 rfl rfl) λa A↦?_)))
 refine sct A (ef rfl rfl) (qpi (Dt.keep M.bel _ hrd) (by omega)) ?_
 rintro _ w30 ⟨s, ks, rfl, ⟨hrs, hts⟩, hb29⟩
 replace M := M.call hb29
 refine ⟨_, rfl, ?_⟩
 intro a A
 have hB6 := hB5.trans (M.bel.mono hB5.size)
 replace hT := hT.below M.bel
 replace hHg2 := hHg2.below M.bel
 replace hHg13 := hHg13.below M.bel
 replace hHg19 := hHg19.below M.bel
 replace hR := hR.below M.bel
 replace hD := fun t ht => Dt.keep M.bel _ (hD t ht)
 replace hRl := hRl.below M.bel
 replace hDl := fun t ht => Dt.keep M.bel _ (hDl t ht)
 replace hRm := hRm.below M.bel
 replace hDm := fun t ht => Dt.keep M.bel _ (hDm t ht)
 replace hrd := Dt.keep M.bel _ hrd
 replace hraa := Dt.keep M.bel _ hraa
 replace hrbb := Dt.keep M.bel _ hrbb
 replace hrr := Dt.keep M.bel _ hrr
 have hHg25 := M.here 0 (cs := [.int .i64 r.d.k, .int .i64 r.d.n, .bool r.d.y.q.b1, .slice r.d.y.o1 r.d.y.q.t1.length r.d.y.c1, .slice r.d.y.o2 r.d.y.q.q1.length r.d.y.c2, .bool r.d.y.q.b2, .slice r.d.y.o3 r.d.y.q.t2.length r.d.y.c3, .slice r.d.y.o4 r.d.y.q.q2.length r.d.y.c4, .string r.d.s, .slice r.d.ro r.d.rl.length r.d.rc, .slice r.d.lo r.ts.length r.d.lc]) rfl
 replace M : Mg w30 w30 [] := Mg.start w30
 refine sdm A λa A↦?_
 iterate 2 refine sdo A (qm (vs := [.agg (s.d.cells s.ts.length).toArray, .int .i64 ks]) rfl rfl) λa A↦?_
 refine zr (vs := [.int .i64 0, .int .i64 0, .bool false, .slice none 0 0, .slice none 0 0, .bool false, .slice none 0 0, .slice none 0 0, .string (⟨#[]⟩), .slice none 0 0, .slice none 0 0]) (t := 30) A M rfl rfl rfl pg (qs (z := .agg #[.int .i64 0, .int .i64 0, .bool false, .slice none 0 0, .slice none 0 0, .bool false, .slice none 0 0, .slice none 0 0, .string (⟨#[]⟩), .slice none 0 0, .slice none 0 0]) (by kernel_rfl) rfl) (by decide) ?_
 intro g31 w32 M a A
 refine qw (us := [.int .i64 s.d.k, .int .i64 s.d.n, .bool s.d.y.q.b1, .slice s.d.y.o1 s.d.y.q.t1.length s.d.y.c1, .slice s.d.y.o2 s.d.y.q.q1.length s.d.y.c2, .bool s.d.y.q.b2, .slice s.d.y.o3 s.d.y.q.t2.length s.d.y.c3, .slice s.d.y.o4 s.d.y.q.q2.length s.d.y.c4, .string s.d.s, .slice s.d.ro s.d.rl.length s.d.rc, .slice s.d.lo s.ts.length s.d.lc]) (L' := (.obj g31 (.cells (s.d.cells s.ts.length).toArray 30) :: [])) A M rfl rfl (qj rfl rfl rfl (by kernel_rfl) M 0 rfl rfl rfl) 0 rfl rfl rfl ?_
 intro w33 M
 refine sda A λa A↦?_
 refine qa (hK28 _ _ (wsk fun K34 hK34 => wrl (sdo A (zp M hHg2 LiO_isS_30 rfl rfl) λa A↦?_)))
 refine sdm A λa A↦?_
 refine sct A (ef rfl rfl) (zci (Dt.keep M.bel _ hrd) (by omega) (hT.below M.bel)) ?_
 rintro _ w36 ⟨tt, ktt, rfl, ⟨hrtt, -, httt⟩, hb35⟩
 replace M := M.call hb35
 refine ⟨_, rfl, ?_⟩
 intro a A
 have hB7 := hB6.trans (M.bel.mono hB6.size)
 replace hT := hT.below M.bel
 replace hHg2 := hHg2.below M.bel
 replace hHg13 := hHg13.below M.bel
 replace hHg19 := hHg19.below M.bel
 replace hHg25 := hHg25.below M.bel
 replace hR := hR.below M.bel
 replace hD := fun t ht => Dt.keep M.bel _ (hD t ht)
 replace hRl := hRl.below M.bel
 replace hDl := fun t ht => Dt.keep M.bel _ (hDl t ht)
 replace hRm := hRm.below M.bel
 replace hDm := fun t ht => Dt.keep M.bel _ (hDm t ht)
 replace hrd := Dt.keep M.bel _ hrd
 replace hraa := Dt.keep M.bel _ hraa
 replace hrbb := Dt.keep M.bel _ hrbb
 replace hrr := Dt.keep M.bel _ hrr
 replace hrs := Dt.keep M.bel _ hrs
 have hHg31 := M.here 0 (cs := [.int .i64 s.d.k, .int .i64 s.d.n, .bool s.d.y.q.b1, .slice s.d.y.o1 s.d.y.q.t1.length s.d.y.c1, .slice s.d.y.o2 s.d.y.q.q1.length s.d.y.c2, .bool s.d.y.q.b2, .slice s.d.y.o3 s.d.y.q.t2.length s.d.y.c3, .slice s.d.y.o4 s.d.y.q.q2.length s.d.y.c4, .string s.d.s, .slice s.d.ro s.d.rl.length s.d.rc, .slice s.d.lo s.ts.length s.d.lc]) rfl
 replace M : Mg w36 w36 [] := Mg.start w36
 refine sdm A λa A↦?_
 iterate 2 refine sdo A (qm (vs := [.agg (tt.d.cells tt.ts.length).toArray, .int .i64 ktt]) rfl rfl) λa A↦?_
 refine zr (vs := [.int .i64 0, .int .i64 0, .bool false, .slice none 0 0, .slice none 0 0, .bool false, .slice none 0 0, .slice none 0 0, .string (⟨#[]⟩), .slice none 0 0, .slice none 0 0]) (t := 30) A M rfl rfl rfl pg (qs (z := .agg #[.int .i64 0, .int .i64 0, .bool false, .slice none 0 0, .slice none 0 0, .bool false, .slice none 0 0, .slice none 0 0, .string (⟨#[]⟩), .slice none 0 0, .slice none 0 0]) (by kernel_rfl) rfl) (by decide) ?_
 intro g37 w38 M a A
 refine qw (us := [.int .i64 tt.d.k, .int .i64 tt.d.n, .bool tt.d.y.q.b1, .slice tt.d.y.o1 tt.d.y.q.t1.length tt.d.y.c1, .slice tt.d.y.o2 tt.d.y.q.q1.length tt.d.y.c2, .bool tt.d.y.q.b2, .slice tt.d.y.o3 tt.d.y.q.t2.length tt.d.y.c3, .slice tt.d.y.o4 tt.d.y.q.q2.length tt.d.y.c4, .string tt.d.s, .slice tt.d.ro tt.d.rl.length tt.d.rc, .slice tt.d.lo tt.ts.length tt.d.lc]) (L' := (.obj g37 (.cells (tt.d.cells tt.ts.length).toArray 30) :: [])) A M rfl rfl (qj rfl rfl rfl (by kernel_rfl) M 0 rfl rfl rfl) 0 rfl rfl rfl ?_
 intro w39 M
 refine sda A λa A↦?_
 refine qa (hK34 _ _ (wsk fun K40 hK40 => wrl (sdo A (zp M hHg2 LiO_isS_30 rfl rfl) λa A↦?_)))
 refine sdm A λa A↦?_
 refine sct A (ef rfl rfl) (zaf (Dt.keep M.bel _ hrd) (by omega)) ?_
 rintro _ w42 ⟨uu, kuu, rfl, ⟨hruu, htuu⟩, hb41⟩
 replace M := M.call hb41
 refine ⟨_, rfl, ?_⟩
 intro a A
 have hB8 := hB7.trans (M.bel.mono hB7.size)
 replace hT := hT.below M.bel
 replace hHg2 := hHg2.below M.bel
 replace hHg13 := hHg13.below M.bel
 replace hHg19 := hHg19.below M.bel
 replace hHg25 := hHg25.below M.bel
 replace hHg31 := hHg31.below M.bel
 replace hR := hR.below M.bel
 replace hD := fun t ht => Dt.keep M.bel _ (hD t ht)
 replace hRl := hRl.below M.bel
 replace hDl := fun t ht => Dt.keep M.bel _ (hDl t ht)
 replace hRm := hRm.below M.bel
 replace hDm := fun t ht => Dt.keep M.bel _ (hDm t ht)
 replace hrd := Dt.keep M.bel _ hrd
 replace hraa := Dt.keep M.bel _ hraa
 replace hrbb := Dt.keep M.bel _ hrbb
 replace hrr := Dt.keep M.bel _ hrr
 replace hrs := Dt.keep M.bel _ hrs
 replace hrtt := Dt.keep M.bel _ hrtt
 have hHg37 := M.here 0 (cs := [.int .i64 tt.d.k, .int .i64 tt.d.n, .bool tt.d.y.q.b1, .slice tt.d.y.o1 tt.d.y.q.t1.length tt.d.y.c1, .slice tt.d.y.o2 tt.d.y.q.q1.length tt.d.y.c2, .bool tt.d.y.q.b2, .slice tt.d.y.o3 tt.d.y.q.t2.length tt.d.y.c3, .slice tt.d.y.o4 tt.d.y.q.q2.length tt.d.y.c4, .string tt.d.s, .slice tt.d.ro tt.d.rl.length tt.d.rc, .slice tt.d.lo tt.ts.length tt.d.lc]) rfl
 replace M : Mg w42 w42 [] := Mg.start w42
 refine sdm A λa A↦?_
 iterate 2 refine sdo A (qm (vs := [.agg (uu.d.cells uu.ts.length).toArray, .int .i64 kuu]) rfl rfl) λa A↦?_
 refine zr (vs := [.int .i64 0, .int .i64 0, .bool false, .slice none 0 0, .slice none 0 0, .bool false, .slice none 0 0, .slice none 0 0, .string (⟨#[]⟩), .slice none 0 0, .slice none 0 0]) (t := 30) A M rfl rfl rfl pg (qs (z := .agg #[.int .i64 0, .int .i64 0, .bool false, .slice none 0 0, .slice none 0 0, .bool false, .slice none 0 0, .slice none 0 0, .string (⟨#[]⟩), .slice none 0 0, .slice none 0 0]) (by kernel_rfl) rfl) (by decide) ?_
 intro g43 w44 M a A
 refine qw (us := [.int .i64 uu.d.k, .int .i64 uu.d.n, .bool uu.d.y.q.b1, .slice uu.d.y.o1 uu.d.y.q.t1.length uu.d.y.c1, .slice uu.d.y.o2 uu.d.y.q.q1.length uu.d.y.c2, .bool uu.d.y.q.b2, .slice uu.d.y.o3 uu.d.y.q.t2.length uu.d.y.c3, .slice uu.d.y.o4 uu.d.y.q.q2.length uu.d.y.c4, .string uu.d.s, .slice uu.d.ro uu.d.rl.length uu.d.rc, .slice uu.d.lo uu.ts.length uu.d.lc]) (L' := (.obj g43 (.cells (uu.d.cells uu.ts.length).toArray 30) :: [])) A M rfl rfl (qj rfl rfl rfl (by kernel_rfl) M 0 rfl rfl rfl) 0 rfl rfl rfl ?_
 intro w45 M
 refine sda A λa A↦?_
 refine qa (hK40 _ _ (wsk fun K46 hK46 => wrl (sct A (ef rfl rfl) (zag (hT.below M.bel)) ?_)))
 rintro _ w48 ⟨rfl, hb47⟩
 replace M := M.call hb47
 refine ⟨_, rfl, ?_⟩
 intro a A
 iterate 2 refine sdm A λa A↦?_
 refine sct A (ef rfl rfl) (of_any (hR.below M.bel) (fun t ht => Dt.keep M.bel _ (hD t ht)) (by omega) (hT.below M.bel)) ?_
 rintro _ w50 ⟨p, rfl, ⟨hrp, -, htp⟩, hb49⟩
 replace M := M.call hb49
 refine ⟨_, rfl, ?_⟩
 intro a A
 have hB9 := hB8.trans (M.bel.mono hB8.size)
 replace hT := hT.below M.bel
 replace hHg2 := hHg2.below M.bel
 replace hHg13 := hHg13.below M.bel
 replace hHg19 := hHg19.below M.bel
 replace hHg25 := hHg25.below M.bel
 replace hHg31 := hHg31.below M.bel
 replace hHg37 := hHg37.below M.bel
 replace hR := hR.below M.bel
 replace hD := fun t ht => Dt.keep M.bel _ (hD t ht)
 replace hRl := hRl.below M.bel
 replace hDl := fun t ht => Dt.keep M.bel _ (hDl t ht)
 replace hRm := hRm.below M.bel
 replace hDm := fun t ht => Dt.keep M.bel _ (hDm t ht)
 replace hrd := Dt.keep M.bel _ hrd
 replace hraa := Dt.keep M.bel _ hraa
 replace hrbb := Dt.keep M.bel _ hrbb
 replace hrr := Dt.keep M.bel _ hrr
 replace hrs := Dt.keep M.bel _ hrs
 replace hrtt := Dt.keep M.bel _ hrtt
 replace hruu := Dt.keep M.bel _ hruu
 have hHg43 := M.here 0 (cs := [.int .i64 uu.d.k, .int .i64 uu.d.n, .bool uu.d.y.q.b1, .slice uu.d.y.o1 uu.d.y.q.t1.length uu.d.y.c1, .slice uu.d.y.o2 uu.d.y.q.q1.length uu.d.y.c2, .bool uu.d.y.q.b2, .slice uu.d.y.o3 uu.d.y.q.t2.length uu.d.y.c3, .slice uu.d.y.o4 uu.d.y.q.q2.length uu.d.y.c4, .string uu.d.s, .slice uu.d.ro uu.d.rl.length uu.d.rc, .slice uu.d.lo uu.ts.length uu.d.lc]) rfl
 replace M : Mg w50 w50 [] := Mg.start w50
 refine sdm A λa A↦?_
 refine sct A (ef rfl rfl) (zhb (hR.below M.bel) (fun t ht => Dt.keep M.bel _ (hD t ht)) (by omega)) ?_
 rintro _ w52 ⟨q, rfl, ⟨hrq, htq⟩, hb51⟩
 replace M := M.call hb51
 refine ⟨_, rfl, ?_⟩
 intro a A
 have hB10 := hB9.trans (M.bel.mono hB9.size)
 replace hT := hT.below M.bel
 replace hHg2 := hHg2.below M.bel
 replace hHg13 := hHg13.below M.bel
 replace hHg19 := hHg19.below M.bel
 replace hHg25 := hHg25.below M.bel
 replace hHg31 := hHg31.below M.bel
 replace hHg37 := hHg37.below M.bel
 replace hHg43 := hHg43.below M.bel
 replace hR := hR.below M.bel
 replace hD := fun t ht => Dt.keep M.bel _ (hD t ht)
 replace hRl := hRl.below M.bel
 replace hDl := fun t ht => Dt.keep M.bel _ (hDl t ht)
 replace hRm := hRm.below M.bel
 replace hDm := fun t ht => Dt.keep M.bel _ (hDm t ht)
 replace hrd := Dt.keep M.bel _ hrd
 replace hraa := Dt.keep M.bel _ hraa
 replace hrbb := Dt.keep M.bel _ hrbb
 replace hrr := Dt.keep M.bel _ hrr
 replace hrs := Dt.keep M.bel _ hrs
 replace hrtt := Dt.keep M.bel _ hrtt
 replace hruu := Dt.keep M.bel _ hruu
 replace hrp := Dt.keep M.bel _ hrp
 replace M : Mg w52 w52 [] := Mg.start w52
 refine gcl A M (ef rfl rfl) ((((ui p.tr q.tr).2 (htp.trans htq.symm)) ▸ vt (p.tr.bulk + 1) (t := p) (u := q) (Nat.lt_succ_self _) (Dt.keep M.bel _ hrp) (Dt.keep M.bel _ hrq))) fun w54 hb53 M a A => ?_
 refine sdk (v := .bool true) A λa A↦?_
 iterate 3 refine sdm A λa A↦?_
 refine gcl A M (ef rfl rfl) (qtc (hRl.below M.bel) (fun t ht => Dt.keep M.bel _ (hDl t ht)) (hRm.below M.bel) (fun t ht => Dt.keep M.bel _ (hDm t ht)) ((congrArg Prod.fst htl).trans (congrArg Prod.fst htm).symm) (by have h7 := congrArg (fun z => z.1.length) htl; simp only [List.length_map] at h7; have h8 := zeg d.tr; omega)) fun w56 hb55 M a A => ?_
 refine sdk (v := .bool true) A λa A↦?_
 iterate 3 refine sdm A λa A↦?_
 refine sdo (v := .bool true) A (qf rfl rfl (fun w => (qi w).trans (by rw [show ((kl == km)) = true from (beq_iff_eq.2 ((congrArg Prod.snd htl).trans (congrArg Prod.snd htm).symm))]))) λa A↦?_
 refine sdk (v := .bool true) A λa A↦?_
 refine sdm A λa A↦?_
 refine sdo A (zp M hHg13 LiO_isS_30 rfl rfl) λa A↦?_
 refine sdo A (zp M hHg19 LiO_isS_30 rfl rfl) λa A↦?_
 refine gcl A M (ef rfl rfl) ((((ui aa.tr bb.tr).2 ((congrArg Prod.fst htaa).trans (congrArg Prod.fst htbb).symm)) ▸ vt (aa.tr.bulk + 1) (t := aa) (u := bb) (Nat.lt_succ_self _) (Dt.keep M.bel _ hraa) (Dt.keep M.bel _ hrbb))) fun w58 hb57 M a A => ?_
 refine sdk (v := .bool true) A λa A↦?_
 iterate 3 refine sdm A λa A↦?_
 refine sdo (v := .bool true) A (qf rfl rfl (fun w => (qi w).trans (by rw [show ((kaa == kbb)) = true from (beq_iff_eq.2 ((congrArg Prod.snd htaa).trans (congrArg Prod.snd htbb).symm))]))) λa A↦?_
 refine sdk (v := .bool true) A λa A↦?_
 refine sdm A λa A↦?_
 refine sdo A (zp M hHg25 LiO_isS_30 rfl rfl) λa A↦?_
 refine sdo A (zp M hHg31 LiO_isS_30 rfl rfl) λa A↦?_
 refine gcl A M (ef rfl rfl) ((((ui r.tr s.tr).2 ((congrArg Prod.fst htr).trans (congrArg Prod.fst hts).symm)) ▸ vt (r.tr.bulk + 1) (t := r) (u := s) (Nat.lt_succ_self _) (Dt.keep M.bel _ hrr) (Dt.keep M.bel _ hrs))) fun w60 hb59 M a A => ?_
 refine sdk (v := .bool true) A λa A↦?_
 iterate 3 refine sdm A λa A↦?_
 refine sdo (v := .bool true) A (qf rfl rfl (fun w => (qi w).trans (by rw [show ((kr == ks)) = true from (beq_iff_eq.2 ((congrArg Prod.snd htr).trans (congrArg Prod.snd hts).symm))]))) λa A↦?_
 refine sdk (v := .bool true) A λa A↦?_
 refine sdm A λa A↦?_
 refine sdo A (zp M hHg37 LiO_isS_30 rfl rfl) λa A↦?_
 refine sdo A (zp M hHg43 LiO_isS_30 rfl rfl) λa A↦?_
 refine gcl A M (ef rfl rfl) ((((ui tt.tr uu.tr).2 ((congrArg Prod.fst httt).trans (congrArg Prod.fst htuu).symm)) ▸ vt (tt.tr.bulk + 1) (t := tt) (u := uu) (Nat.lt_succ_self _) (Dt.keep M.bel _ hrtt) (Dt.keep M.bel _ hruu))) fun w62 hb61 M a A => ?_
 refine sdk (v := .bool true) A λa A↦?_
 iterate 3 refine sdm A λa A↦?_
 refine sdo (v := .bool true) A (qf rfl rfl (fun w => (qi w).trans (by rw [show ((ktt == kuu)) = true from (beq_iff_eq.2 ((congrArg Prod.snd httt).trans (congrArg Prod.snd htuu).symm))]))) λa A↦?_
 refine sdk (v := .bool true) A λa A↦?_
 refine sda A λa A↦?_
 refine qa (hK46 _ _ (wp_ret (hret _ _ (en1 A rfl (qe rfl) ?_))))
 exact ⟨rfl, hB10.trans (M.bel.mono hB10.size)⟩
end Go.Proofs.YtbnjomifogjdfaaGreatDoor.G
namespace Go.Proofs.YtbnjomifogjdfaaGreatDoor
set_option linter.unusedVariables false

section
variable {H : Type}
theorem qtd (d : DataW H) : 0 < Rows.uptoBulk d := by
  unfold Rows.uptoBulk
  split <;> omega
theorem qte : ∀ l : List (DataW H), l.length ≤ Rows.uptoBulkAll l
  | [] => by simp
  | d :: l => by
    have h1 := qtd d
    have h2 := qte l
    simp only [Rows.uptoBulkAll, List.length_cons]
    omega
theorem qtf (xs ys : List (DataW H)) : xs.length ≤ Rows.uptoBulk (.slice xs ys) := by
  have := qte xs
  simp only [Rows.uptoBulk]
  omega
theorem ke {d : DataW H} : ∀ {l : List (DataW H)}, d ∈ l → Rows.uptoBulk d ≤ Rows.uptoBulkAll l
  | c :: l, h => by
    simp only [Rows.uptoBulkAll]
    rcases List.mem_cons.1 h with rfl | h
    · omega
    · have := ke h
      omega
theorem qxg {l : List (DataW H)} (hk : Rows.uptoSmall H l = true) {j : Nat} {d : DataW H} (hd : l[j]? = some d) : Rows.uptoBulk d ≤ 1048576 :=
  Nat.le_trans (ke (List.mem_of_getElem? hd)) (of_decide_eq_true hk)
end
end Go.Proofs.YtbnjomifogjdfaaGreatDoor
namespace Go.Proofs.YtbnjomifogjdfaaGreatDoor.G
open Go.ChangeShapes Go.WideShapes Go.ChangeAt Go.RowKit Go.Joins Go.Deep
set_option linter.unusedVariables false
set_option linter.unusedSimpArgs false
set_option maxRecDepth 100000

section
variable {H : Type} {enc : TypeId × Value → H} {W : World}
end
theorem zai {w : World} {x : Addr} {len cap : Nat} {zs : List Int} (hl : len ≤ cap) (hz : zs.length = cap)
    (hc : ∀ i, i < zs.length → w.cell? (x.add i) = some (.int .u8 (zs.getD i 0))) (hw : ∀ n ∈ zs, (Lit.int .u8 n).wf = true) :
    ∃ l : List UInt8, l.length = len ∧ Rb w (some x) l := by
  have hbd : ∀ n ∈ zs, 0 ≤ n ∧ n < 256 := by
    intro n hn
    have := bounds_u8 (hw n hn)
    omega
  refine ⟨(zs.take len).map b8, by rw [List.length_map, List.length_take]; omega, ⟨fun hne => ?_⟩⟩
  have hlen : ((zs.take len).map b8).length = len := by rw [List.length_map, List.length_take]; omega
  have h0 : 0 < len := by
    apply Classical.byContradiction
    intro h
    have : len = 0 := by omega
    subst this
    simp at hne
  obtain ⟨b, off, spot⟩ := x
  have hspot : spot = none := by
    have := hc 0 (by omega)
    simp only [World.cell?, Addr.add] at this
    split at this
    · cases spot with
      | none => rfl
      | some s => simp at this
    · cases this
  subst hspot
  have hcj : ∀ j, j < len → w.cell? ⟨b, off + j, none⟩ = some (.int .u8 (((((zs.take len).map b8).getD j 0).toNat : Nat) : Int)) := by
    intro j hj
    have h1 := hc j (by omega)
    rw [Addr.add_lit] at h1
    rw [h1]
    have hjz : j < zs.length := by omega
    have h2 := hbd zs[j] (List.getElem_mem hjz)
    have e1 : zs.getD j 0 = zs[j] := by simp [hjz]
    have e2 : ((zs.take len).map b8).getD j 0 = b8 zs[j] := by simp [List.getD_eq_getElem?_getD, hj, hjz]
    rw [e1, e2, zhf h2.1 h2.2]
  refine ⟨b, off, rfl, ?_, fun j hj => hcj j (by omega)⟩
  have := hcj 0 h0
  apply Classical.byContradiction
  intro h
  simp [World.cell?, Array.getElem?_eq_none (Nat.le_of_not_lt h)] at this
section
variable {H : Type} {enc : TypeId × Value → H} {W : World}
end
theorem Rb.take {w : World} {so : Option Addr} {l : List UInt8} (h : Rb w so l) (n : Nat) : Rb w so (l.take n) := by
  refine ⟨fun hne => ?_⟩
  obtain ⟨b, off, h1, h2, h3⟩ := h.pos (fun k => hne (by rw [k]; simp))
  refine ⟨b, off, h1, h2, fun j hj => ?_⟩
  rw [List.length_take] at hj
  rw [h3 j (by omega), List.getD_eq_getElem?_getD, List.getD_eq_getElem?_getD, List.getElem?_take_of_lt (by omega)]
section
variable {P : Program} {w : World} {l : List (Nat × Value)} {dst : Option Tmp} {ty : TypeId} {pos : String} {after : Array Edge} {guard : Option (Nat × Bool)}
end
def Nu.cells (y : Nu) : List Value := [.bool y.q.b1, .slice y.o1 y.q.t1.length y.c1, .slice y.o2 y.q.q1.length y.c2, .bool y.q.b2, .slice y.o3 y.q.t2.length y.c3, .slice y.o4 y.q.q2.length y.c4]
theorem zeh {w : World} {b o : Nat} {v : Value} (h : w.cell? ⟨b, o, none⟩ = some v) : b < w.heap.size := by
  apply Classical.byContradiction
  intro k
  simp [World.cell?, Array.getElem?_eq_none (Nat.le_of_not_lt k)] at h
section
variable {H : Type} {enc : TypeId × Value → H} {W : World}
theorem qjh (l : List (DataW H)) : Rows.uptoBulk (.agg l) = Rows.uptoBulkAll l + 1 := by simp only [Rows.uptoBulk]
theorem qtg {fuel : Nat} {v : Value} {x : DataW H × List MemPlace} (h : DataW.trod enc Tryz.prog W 0 (fun _ => true) true fuel 28 [v] = some x) : ∃ so cap l, v = .slice so (l : List UInt8).length cap ∧ Rb W so l ∧ l.length ≤ cap ∧ cap ≤ 9223372036854775807 ∧ l.length ≤ Rows.uptoBulk x.1 := by
  rcases open_ints Tryz.underlying28 Tryz.underlying5 (by kernel_rfl) h with ⟨hcs, _⟩ | ⟨x, l, c, zs, hcs, _, hl, hm, hz, hx, hcell, hwz⟩
  · simp only [List.cons.injEq, and_true] at hcs
    subst hcs
    exact ⟨none, 0, [], rfl, ⟨fun k => absurd rfl k⟩, Nat.le_refl _, by decide, Nat.zero_le _⟩
  · simp only [List.cons.injEq, and_true] at hcs
    subst hcs
    obtain ⟨us, e, ha⟩ := zai hl (by simpa using hz) hcell hwz
    subst e
    subst hx
    refine ⟨_, _, us, rfl, ha, hl, hm, ?_⟩
    simp only [if_true] at hz
    refine Nat.le_trans ?_ (qtf _ _)
    simp only [lits, List.length_map, List.length_take, List.length_drop]
    omega
theorem qfa {fuel : Nat} {v : Value} {x : DataW H × List MemPlace} (h : DataW.trod enc Tryz.prog W 0 (fun _ => true) true fuel 23 [v] = some x) : ∃ ao c l, v = .slice ao (l : List Nat).length c ∧ Arg W ao c l ∧ l.length ≤ Rows.uptoBulk x.1 := by
  rcases open_ints Tryz.underlying23 Tryz.underlying89 (by kernel_rfl) h with ⟨hcs, _⟩ | ⟨x, l, c, zs, hcs, _, hl, hm, hz, hx, hcell, hwz⟩
  · cases hcs
    exact ⟨none, 0, [], rfl, arg_nil W, Nat.zero_le _⟩
  · cases hcs
    obtain ⟨us, e, ha⟩ := arg_row hl hm (by simpa using hz) hcell hwz
    subst e
    subst hx
    refine ⟨_, _, us, rfl, ha, ?_⟩
    simp only [if_true] at hz
    refine Nat.le_trans ?_ (qtf _ _)
    simp only [lits, List.length_map, List.length_take, List.length_drop]
    omega
theorem qnc {fuel : Nat} {v0 v1 v2 : Value} {x : DataW H × List MemPlace} (h : DataW.trod enc Tryz.prog W 0 (fun _ => true) true fuel 25 [v0, v1, v2] = some x) : ∃ b o1 c1 l1 o2 c2 l2, v0 = .bool b ∧ v1 = .slice o1 (l1 : List Nat).length c1 ∧ v2 = .slice o2 (l2 : List Nat).length c2 ∧ Arg W o1 c1 l1 ∧ Arg W o2 c2 l2 ∧ l1.length + l2.length ≤ Rows.uptoBulk x.1 := by
  obtain ⟨y0, y1, y2, n, hx, _, h0, h1, h2⟩ := trod_struct3 Tryz.underlying25 h
  have e0 : Tryz.prog.cellsOf 4 = 1 := by kernel_rfl
  have e1 : Tryz.prog.cellsOf 23 = 1 := by kernel_rfl
  simp only [e0, e1, List.drop_zero, List.take_succ_cons, List.take_zero, List.drop_succ_cons] at h0 h1 h2
  obtain ⟨b, rfl⟩ := trod_bool h0
  obtain ⟨o1, c1, l1, rfl, a1, k1⟩ := qfa h1
  obtain ⟨o2, c2, l2, rfl, a2, k2⟩ := qfa h2
  refine ⟨b, o1, c1, l1, o2, c2, l2, rfl, rfl, rfl, a1, a2, ?_⟩
  rw [hx, qjh]
  simp only [Rows.uptoBulkAll]
  omega
theorem zaj {fuel : Nat} {cs : List Value} {x : DataW H × List MemPlace} (hl : cs.length = 6) (h : DataW.trod enc Tryz.prog W 0 (fun _ => true) true fuel 27 cs = some x) :
    ∃ y : Nu, cs = y.cells ∧ y.nm W ∧ LenQ y.q ∧ y.q.t1.length + y.q.q1.length + (y.q.t2.length + y.q.q2.length) ≤ Rows.uptoBulk x.1 := by
  match cs, hl with
  | [v0, v1, v2, v3, v4, v5], _ =>
    obtain ⟨y0, y1, n, hx, _, h0, h1⟩ := trod_struct2 Tryz.underlying27 h
    have e : Tryz.prog.cellsOf 25 = 3 := by kernel_rfl
    simp only [e, List.drop_zero, List.take_succ_cons, List.take_zero, List.drop_succ_cons] at h0 h1
    obtain ⟨b1, o1, c1, l1, o2, c2, l2, rfl, rfl, rfl, a1, a2, k1⟩ := qnc h0
    obtain ⟨b2, o3, c3, l3, o4, c4, l4, rfl, rfl, rfl, a3, a4, k2⟩ := qnc h1
    refine ⟨⟨⟨b1, l1, l2, b2, l3, l4⟩, o1, c1, o2, c2, o3, c3, o4, c4⟩, rfl, ⟨⟨a1.rd, a1.nil, a1.caps⟩, ⟨a2.rd, a2.nil, a2.caps⟩, ⟨a3.rd, a3.nil, a3.caps⟩, ⟨a4.rd, a4.nil, a4.caps⟩⟩, ⟨a1.len, a2.len, a3.len, a4.len⟩, ?_⟩
    rw [hx, qjh]
    simp only [Rows.uptoBulkAll]
    omega
/-- One datum, as it lies in a row of cells; and a list of them. -/
def OpenD (H : Type) (enc : TypeId × Value → H) (W : World) (fuel : Nat) : Prop := ∀ (cs : List Value) (x : DataW H × List MemPlace), DataW.trod enc Tryz.prog W 0 (fun _ => true) true fuel 30 cs = some x → ∃ t : Dt, cs = t.cells ∧ t.rd W ∧ t.tr.bulk ≤ Rows.uptoBulk x.1
theorem qji {fuel : Nat} {v : Value} {x : DataW H × List MemPlace} (ih : ∀ n, n < fuel → OpenD H enc W n) (h : DataW.trod enc Tryz.prog W 0 (fun _ => true) true fuel 22 [v] = some x) :
    ∃ lo lc ts, v = .slice lo (ts : List Dt).length lc ∧ ts.length ≤ lc ∧ lc ≤ 9223372036854775807 ∧ Rt W lo ts ∧ (∀ t ∈ ts, t.rd W) ∧ Tr.bulks (ts.map Dt.tr) ≤ Rows.uptoBulk x.1 := by
  rcases DataW.trod_slice Tryz.underlying22 h with ⟨hcs, _⟩ | ⟨a, len, cap, elems, rest, n, hf, hcs, hx, _, hl, hm, hlen, hel, _, _⟩
  · simp only [List.cons.injEq, and_true] at hcs
    subst hcs
    exact ⟨none, 0, [], rfl, Nat.le_refl _, by decide, fun k => absurd rfl k, fun _ k => by simp at k, Nat.zero_le _⟩
  · simp only [List.cons.injEq, and_true] at hcs
    subst hcs
    rw [show Tryz.prog.cellsOf 30 = 11 from by kernel_rfl] at hel
    have each : ∀ i, ∃ t : Dt, i < len → t.rd W ∧ (∀ j v, t.cells[j]? = some v → W.cell? ((a.add (i * 11)).add j) = some v) ∧ ∃ y, elems[i]? = some y ∧ t.tr.bulk ≤ Rows.uptoBulk y.1 := by
      intro i
      by_cases hi : i < len
      · have h1 := hel i hi
        rw [List.getElem?_eq_getElem (by omega)] at h1
        obtain ⟨cs, h2, h3⟩ := Option.bind_eq_some_iff.1 h1
        obtain ⟨_, hlc, hcell⟩ := World.cells?_some h2
        obtain ⟨t, rfl, hr, hb⟩ := ih n (by omega) cs _ h3
        exact ⟨t, fun _ => ⟨hr, fun j v hj => by rw [hcell j (by have := (List.getElem?_eq_some_iff.1 hj).1; rw [hlc] at this; exact this)]; exact hj, _, List.getElem?_eq_getElem (by omega), hb⟩⟩
      · exact ⟨.mk ⟨0, 0, ⟨⟨false, [], [], false, [], []⟩, none, 0, none, 0, none, 0, none, 0⟩, ⟨#[]⟩, none, 0, [], none, 0⟩ [], fun k => absurd k hi⟩
    obtain ⟨F, hF⟩ := Classical.skolem.1 each
    have hget : ∀ (j : Nat) (q : Dt), ((List.range len).map F)[j]? = some q → j < len ∧ q = F j := by
      intro j q hq
      rw [List.getElem?_map] at hq
      obtain ⟨y, h1, h2⟩ := Option.map_eq_some_iff.1 hq
      obtain ⟨h3, h4⟩ := List.getElem?_eq_some_iff.1 h1
      rw [List.length_range] at h3
      rw [List.getElem_range] at h4
      subst h4
      exact ⟨h3, h2.symm⟩
    refine ⟨some a, cap, (List.range len).map F, by simp, by simpa using hl, hm, fun hne => ?_, fun t ht => ?_, ?_⟩
    · have hn : 0 < len := by
        apply Classical.byContradiction
        intro k
        exact hne (by rw [show len = 0 from by omega]; rfl)
      obtain ⟨b, off, spot⟩ := a
      have h0 := (hF 0 hn).2.1 0 _ rfl
      have hspot : spot = none := by simpa [Addr.add] using World.cell?_spot h0
      subst hspot
      refine ⟨b, off, rfl, fun i t hi => ?_⟩
      obtain ⟨hlt, rfl⟩ := hget i t hi
      have hat : ∀ j v, (F i).cells[j]? = some v → W.cell? ⟨b, off + i * 11 + j, none⟩ = some v := fun j v hj => by
        have := (hF i hlt).2.1 j v hj
        rwa [Addr.add_lit, Addr.add_lit] at this
      exact ⟨zeh (hat 0 _ rfl), hat⟩
    · obtain ⟨j, hj⟩ := List.mem_iff_getElem?.1 ht
      obtain ⟨h1, rfl⟩ := hget j t hj
      exact (hF j h1).1
    · rw [hx]
      have key : ∀ m, m ≤ len → Tr.bulks (((List.range m).map F).map Dt.tr) ≤ Rows.uptoBulkAll ((elems.map (·.1)).take m) := by
        intro m
        induction m with
        | zero => intro _; simp [Tr.bulks]
        | succ m ih2 =>
          intro hm2
          have hs : ∀ (l : List Tr) (t : Tr), Tr.bulks (l ++ [t]) = Tr.bulks l + t.bulk := by
            intro l t
            induction l with
            | nil => simp [Tr.bulks]
            | cons u l ih3 => simp only [List.cons_append, Tr.bulks, ih3]; omega
          have hu : ∀ (l : List (DataW H)) (d : DataW H), Rows.uptoBulkAll (l ++ [d]) = Rows.uptoBulkAll l + Rows.uptoBulk d := by
            intro l d
            induction l with
            | nil => simp [Rows.uptoBulkAll]
            | cons u l ih3 => simp only [List.cons_append, Rows.uptoBulkAll, ih3]; omega
          obtain ⟨_, _, y, hy, hb⟩ := hF m (by omega)
          have := ih2 (by omega)
          rw [List.range_succ, List.map_append, List.map_append, List.take_add_one, List.getElem?_map, hy]
          simp only [List.map_cons, List.map_nil, Option.map_some, Option.toList_some]
          rw [hs, hu]
          omega
      have h1 := key len (Nat.le_refl _)
      rw [List.take_of_length_le (by rw [List.length_map]; omega)] at h1
      simp only [Rows.uptoBulk]
      omega
theorem qxh : ∀ fuel, OpenD H enc W fuel := by
  intro fuel
  induction fuel using Nat.strongRecOn with
  | ind fuel ih =>
    intro cs x h
    obtain ⟨xs, n, hfu, hx, hl, hxl, hf⟩ := DataW.trod_struct Tryz.underlying30 h
    rw [show Tryz.prog.cellsOf 30 = 11 from by kernel_rfl] at hl
    match cs, hl with
    | [v0, v1, v2, v3, v4, v5, v6, v7, v8, v9, v10], _ =>
      match xs, hxl with
      | [x0, x1, x2, x3, x4, x5], _ =>
        have g0 := hf 0 _ rfl
        have g1 := hf 1 _ rfl
        have g2 := hf 2 _ rfl
        have g3 := hf 3 _ rfl
        have g4 := hf 4 _ rfl
        have g5 := hf 5 _ rfl
        have c1 : Tryz.prog.cellsOf 3 = 1 := by kernel_rfl
        have c2 : Tryz.prog.cellsOf 27 = 6 := by kernel_rfl
        have c3 : Tryz.prog.cellsOf 9 = 1 := by kernel_rfl
        have c4 : Tryz.prog.cellsOf 28 = 1 := by kernel_rfl
        have c5 : Tryz.prog.cellsOf 22 = 1 := by kernel_rfl
        simp only [c1, c2, c3, c4, c5, List.drop_zero, List.take_succ_cons, List.take_zero, List.drop_succ_cons, List.getElem?_cons_zero, List.getElem?_cons_succ] at g0 g1 g2 g3 g4 g5
        obtain ⟨k, e0, _, w0⟩ := DataW.trod_int Tryz.underlying3 g0
        obtain ⟨m, e1, _, w1⟩ := DataW.trod_int Tryz.underlying3 g1
        obtain ⟨y, e2, hy, hq, b2⟩ := zaj rfl g2
        obtain ⟨s, e3, hs, hsm⟩ := DataW.trod_string Tryz.underlying9 g3
        obtain ⟨ro, rc, rl, e4, hr, hrc, hrm, b4⟩ := qtg g4
        obtain ⟨lo, lc, ts, e5, hlc, hlm, hrt, hrd, b5⟩ := qji (fun n' hn' => ih n' (by omega)) g5
        have bk := bounds_i64 w0
        have bm := bounds_i64 w1
        refine ⟨.mk ⟨k, m, y, s, ro, rc, rl, lo, lc⟩ ts, ?_, ?_, ?_⟩
        · injection e0 with f0
          injection e1 with f1
          injection e3 with f3
          injection e2 with e20 g
          injection g with e21 g
          injection g with e22 g
          injection g with e23 g
          injection g with e24 g
          injection g with e25 g
          subst f0 f1 f3 e4 e5 e20 e21 e22 e23 e24 e25
          rfl
        · rw [Dt.rd_iff]
          exact ⟨⟨hy, hq, hr, hrc, hrm, bk.1, bk.2, bm.1, bm.2, hsm⟩, hlc, hlm, hrt, hrd⟩
        · rw [Dt.tr_mk, ve, hx, qjh]
          have h3 : Rows.uptoBulk x3.1 = s.size + 1 := by
            rw [hs]
            rw [show Rows.uptoBulk (DataW.lit (H := H) (.string s.data.toList)) = s.data.toList.length + 1 from by simp only [Rows.uptoBulk], Array.length_toList]
            rfl
          simp only [List.map_cons, List.map_nil, Rows.uptoBulkAll]
          have := qtd x0.1
          omega
theorem qvj {base : Nat} {v : Value} {d : DataW H} {p : List MemPlace} (hv : Value.okWide Tryz.prog W .any base 30 v) (h : DataW.Trod enc Tryz.prog W 0 (fun _ => true) true 30 v d p) :
    ∃ t : Dt, v = .agg t.cells.toArray ∧ t.rd W ∧ t.tr.bulk ≤ Rows.uptoBulk d := by
  obtain ⟨cs, rfl, hsz⟩ := okWide_struct Tryz.underlying30 hv
  obtain ⟨fuel, hf⟩ := h
  obtain ⟨t, e, hr, hb⟩ := qxh fuel _ _ hf
  refine ⟨t, ?_, hr, hb⟩
  rw [← e]
  rfl
theorem zba {base : Nat} {v : Value} {d : DataW H} {p : List MemPlace} (hv : Value.okWide Tryz.prog W .any base 22 v) (h : DataW.Trod enc Tryz.prog W 0 (fun _ => true) true 22 v d p) :
    ∃ lo lc ts, v = .slice lo (ts : List Dt).length lc ∧ ts.length ≤ lc ∧ Rt W lo ts ∧ (∀ t ∈ ts, t.rd W) ∧ Tr.bulks (ts.map Dt.tr) ≤ Rows.uptoBulk d := by
  obtain ⟨a, n, c, rfl⟩ := okWide_slice Tryz.underlying22 hv
  obtain ⟨fuel, hf⟩ := h
  obtain ⟨lo, lc, ts, e, h1, _, h2, h3, h4⟩ := qji (v := .slice a n c) (fun n _ => qxh n) hf
  exact ⟨lo, lc, ts, e, h1, h2, h3, h4⟩
end
end Go.Proofs.YtbnjomifogjdfaaGreatDoor.G
