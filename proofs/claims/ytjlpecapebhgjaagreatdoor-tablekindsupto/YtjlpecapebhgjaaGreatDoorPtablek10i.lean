/- Walks of the mark of a whole number. A folded text has no bad byte. Walks of the law of the kinds. What a bound on the bulk of what is read gives. Transcoders that come in as arguments. Rows of bytes that come in as arguments; the first part of a row, and of a text. Data that come in as arguments. -/
import Derived.Test.YtjlpecapebhgjaaGreatDoorPtablek10h
import Derived.Test.YtjlpecapebhgjaaGreatDoorPtablek10d
import Derived.Test.YtjlpecapebhgjaaGreatDoorPtablek10c
import Derived.Lib.ValidLaws
import Derived.Test.YtjlpecapebhgjaaGreatDoorPtablek10g
import Derived.Test.YtjlpecapebhgjaaGreatDoorRows
import Derived.Test.YtjlpecapebhgjaaGreatDoorPtablek10e
import Derived.Test.YtjlpecapebhgjaaGreatDoorProg
import Derived.WalkKit
import Derived.ProofKit
import Derived.OpenShut
import Derived.ChangeOld
import Derived.Lib.SmallJoins
import Derived.Deep.Strs
import Derived.Deep.Slices
namespace Go.Proofs.YtjlpecapebhgjaaGreatDoor.G
open Go.RowKit
set_option linter.unusedVariables false
set_option linter.unusedSimpArgs false
set_option maxRecDepth 100000
theorem TeG_is1_3 : Is1 Tryz.prog 3 := ⟨⟨_, Tryz.underlying3, rfl⟩, by kernel_rfl⟩
theorem TeG_fld_38_0 : FieldAt Tryz.prog 38 0 0 := ⟨_, _, Tryz.underlying38, rfl, rfl, by kernel_rfl⟩
theorem TeG_fld_38_2 : FieldAt Tryz.prog 38 2 2 := ⟨_, _, Tryz.underlying38, rfl, rfl, by kernel_rfl⟩
theorem TeG_isS_35 : IsS Tryz.prog 35 6 := ⟨⟨_, Tryz.underlying35⟩, by kernel_rfl⟩
theorem TeG_isS_38 : IsS Tryz.prog 38 11 := ⟨⟨_, Tryz.underlying38⟩, by kernel_rfl⟩
def zj (q : Q6) (o1 : Option Addr) (c1 : Nat) (o2 : Option Addr) (c2 : Nat) (o3 : Option Addr) (c3 : Nat) (o4 : Option Addr) (c4 : Nat) : List Value := [.bool q.b1, .slice o1 q.t1.length c1, .slice o2 q.q1.length c2, .bool q.b2, .slice o3 q.t2.length c3, .slice o4 q.q2.length c4]
def ja : List Value := [.bool false, .slice none 0 0, .slice none 0 0, .bool false, .slice none 0 0, .slice none 0 0]
theorem zvi {w : World} {m : Int} (h : m.natAbs ≤ 4611686018427387904) {o1 o2 o3 o4 x1 x2 x3 x4 : Option Addr} {c1 c2 c3 c4 k1 k2 k3 k4 : Nat} (ha : Nm w (qs m) o1 c1 o2 c2 o3 c3 o4 c4) (hb : Nm w (qs 10) x1 k1 x2 k2 x3 k3 x4 k4) : Calls Tryz.prog 110 #[ys (qs m) o1 c1 o2 c2 o3 c3 o4 c4, ys (qs 10) x1 k1 x2 k2 x3 k3 x4 k4] w (AnsNN w (qs (m / 10), qs (m % 10), 0)) := by
 have hu := qbd (n := m) (by omega)
 have hx := qbd (n := 10) (by decide)
 have hz : (mkRat 10 1 : Rat) ≠ 0 := by rw [Rat.mkRat_one]; decide
 have hw : xy (Q6.rat (mkRat m 1) 0) (Q6.rat (mkRat 10 1) 0) = 0 := by rw [qnj hu qbf hx qbf, if_pos (show (0 : Rat) = 0 ∧ (0 : Rat) = 0 from ⟨rfl, rfl⟩)]
 have m1 := qha hu qbf
 have m3 := qhb hu qbf
 have m4 := qha hx qbf
 have m6 := qhb hx qbf
 have n1 := ztd (x2 := spX (mkRat 10 1) 0) (d1 := spD (mkRat m 1) 0) (k := 1024) (by decide) m1 m6
 have h0 := zbi hz
 have n2 := zte (x1 := spX (mkRat m 1) 0) (d2 := spD (mkRat 10 1) 0) (Nat.mul_ne_zero (by omega) (js (mkRat m 1) 0)) m4 m3
 have n4 := words_mul_length m3 m6
 have hD := Nat.mul_ne_zero (js (mkRat m 1) 0) (js (mkRat 10 1) 0)
 obtain ⟨e1, e2⟩ := zrj h
 rw [← uf m] at ha ⊢
 rw [← uf 10] at hb ⊢
 refine zvh ha hb hu qbf hx qbf hw (fun k => hz k.1) h0 rfl rfl rfl hD (Nat.le_trans n1 (by decide)) (Nat.le_trans n2 (by decide)) qua (Nat.le_trans n4 (by decide)) (z1 := (qs (m / 10), 0)) (z2 := (qs (m % 10), 0)) ?_ ?_ rfl rfl
 ·
  rw [qxf _ _ (by decide), Rat.zero_mkRat]; exact e1
 ·
  rw [qxf _ _ hD, Rat.zero_mkRat]; exact e2
theorem kn {w : World} {m : Int} (h : m.natAbs ≤ 4611686018427387904) {q : Q6} (hq : q = qs m) {o1 o2 o3 o4 x1 x2 x3 x4 : Option Addr} {c1 c2 c3 c4 k1 k2 k3 k4 : Nat} (ha : Nm w q o1 c1 o2 c2 o3 c3 o4 c4) (hb : Nm w (qs 10) x1 k1 x2 k2 x3 k3 x4 k4) : Calls Tryz.prog 110 #[ys q o1 c1 o2 c2 o3 c3 o4 c4, ys (qs 10) x1 k1 x2 k2 x3 k3 x4 k4] w (AnsNN w (qs (m / 10), qs (m % 10), 0)) := by
 subst hq
 exact zvi h ha hb
theorem jz {w w' : World} {q : Q6} {o1 o2 o3 o4 : Option Addr} {c1 c2 c3 c4 : Nat} (h : Nm w q o1 c1 o2 c2 o3 c3 o4 c4) (hb : Below w.heap.size w w') : Nm w' q o1 c1 o2 c2 o3 c3 o4 c4 := ⟨h.s1.below hb, h.s2.below hb, h.s3.below hb, h.s4.below hb⟩
theorem jn {w0 w w' : World} {L : List Ck} (M : Mg w0 w L) (k : Nat) {g : Nat} {vs : List Value} {t : TypeId} (hk : L[k]? = some (.obj g (.cells vs.toArray t))) (hw : vs.all qza = true) {q : Q6} {o1 o2 o3 o4 : Option Addr} {c1 c2 c3 c4 : Nat} (h : Nm w q o1 c1 o2 c2 o3 c3 o4 c4) (hK : Kept (· ≠ g) w w') : Nm w' q o1 c1 o2 c2 o3 c3 o4 c4 :=
 ⟨vi h.s1 (vb M k hk hw h.s1.rd) hK, vi h.s2 (vb M k hk hw h.s2.rd) hK, vi h.s3 (vb M k hk hw h.s3.rd) hK, vi h.s4 (vb M k hk hw h.s4.rd) hK⟩
def jp (q : Q6) (o1 : Option Addr) (c1 : Nat) (o2 : Option Addr) (c2 : Nat) (o3 : Option Addr) (c3 : Nat) (o4 : Option Addr) (c4 : Nat) : Dt := .mk ⟨3, 0, ⟨q, o1, c1, o2, c2, o3, c3, o4, c4⟩, ⟨#[]⟩, none, 0, [], none, 0⟩ []
theorem qif {w : World} {q : Q6} {o1 o2 o3 o4 : Option Addr} {c1 c2 c3 c4 : Nat} (h : Nm w q o1 c1 o2 c2 o3 c3 o4 c4) (hl : LenQ q) : (jp q o1 c1 o2 c2 o3 c3 o4 c4).rd w :=
 Dt.rd_iff.2 ⟨⟨h, hl, ⟨fun h => absurd rfl h⟩, Nat.le_refl _, by show (0 : Nat) ≤ _; omega, by show (-9223372036854775808 : Int) ≤ 3; omega, by show (3 : Int) ≤ 9223372036854775807; omega, by show (-9223372036854775808 : Int) ≤ 0; omega, by show (0 : Int) ≤ 9223372036854775807; omega, by show (0 : Nat) ≤ _; omega⟩, Nat.le_refl _, by show (0 : Nat) ≤ _; omega, fun h => absurd rfl h, fun t h => by cases h⟩
theorem qna (q : Q6) (o1 o2 o3 o4 : Option Addr) (c1 c2 c3 c4 : Nat) : (jp q o1 c1 o2 c2 o3 c3 o4 c4).tr = .mk 3 0 q ⟨#[]⟩ [] [] := by unfold jp; rw [Dt.tr_mk]; rfl
set_option maxHeartbeats 1000000 in
theorem jaj {w : World} {t : Dt} (ht : t.rd w) (hk : t.d.k = 3) (hwh : uj t.d.y.q = true) {im : Int} (hm9 : im.natAbs ≤ 4611686018427387904) (hq9 : t.d.y.q = qs im) (hl2 : LenQ (qs (im % 10))) : Calls Tryz.prog 74 #[.agg (t.d.cells t.ts.length).toArray] w fun e w' => ∃ m : Dt, e = .returned (.tuple #[.agg (m.d.cells m.ts.length).toArray, .int .i64 0]) ∧ (m.rd w' ∧ m.tr = .mk 3 0 (qs (im % 10)) ⟨#[]⟩ [] [] ∧ (m.d.rl = [] ∧ m.ts = [])) ∧ Below w.heap.size w w' := by
 have hnm : t.d.y.nm w := (Dt.okT ht).1.num
 have hlen : LenQ t.d.y.q := (Dt.okT ht).1.len
 have M : Mg w w ([]) := Mg.start w
 refine za (l := [(0, .agg (t.d.cells t.ts.length).toArray)]) Tryz.func74 rfl Tryz.ntmps74 rfl rfl ?_
 intro Q hret hnorm hP a A
 refine wsk fun K1 hK1 => wrl (jg (vs := (t.d.cells t.ts.length)) (t := 38) A M rfl rfl rfl pg (zb rfl rfl) (by decide) ?_)
 intro g2 w3 M a A
 refine jg (vs := (qx.d.cells qx.ts.length)) (t := 38) A M rfl rfl rfl pg (qi (z := .agg (qx.d.cells qx.ts.length).toArray) (by kernel_rfl) rfl) (by decide) ?_
 intro g4 w5 M a A
 refine sda A λa A↦?_
 refine qa (hK1 _ _ (wsk fun K6 hK6 => wsk fun K7 hK7 => wrl (sdo (v := .pointer (some ⟨g2, 0, none⟩)) A (qb TeG_fld_38_0 rfl rfl) λa A↦?_)))
 refine sdo A (qr M TeG_is1_3 rfl 1 rfl rfl) λa A↦?_
 refine sdo (v := .bool false) A (qk rfl rfl (fun w => (jr w).trans (by rw [show ((t.d.k != 3)) = false from (bne_eq_false_iff_eq.2 hk)]))) λa A↦?_
 refine sdm A λa A↦?_
 refine sdo (v := .pointer (some ⟨g2, 2, none⟩)) A (qb TeG_fld_38_2 rfl rfl) λa A↦?_
 refine sdo A (zl M TeG_isS_35 rfl 1 rfl (cs := [.bool t.d.y.q.b1, .slice t.d.y.o1 t.d.y.q.t1.length t.d.y.c1, .slice t.d.y.o2 t.d.y.q.q1.length t.d.y.c2, .bool t.d.y.q.b2, .slice t.d.y.o3 t.d.y.q.t2.length t.d.y.c3, .slice t.d.y.o4 t.d.y.q.q2.length t.d.y.c4]) rfl rfl) λa A↦?_
 refine gcl A M (ef rfl rfl) (zbg (Nu.below hnm M.bel) hlen hwh) fun w8 hbw M a A => ?_
 refine sdo (v := .bool false) A (zw rfl ji) λa A↦?_
 refine sdk (v := .bool false) A λa A↦?_
 refine qa (hK7 _ _ (wp_cond_false (A.ev rfl) ?_))
 refine wp_skip (hK6 _ _ (wsk fun K9 hK9 => ?_))
 have hJ10 : ∀ a w1, (∃ (s1 : Option Addr) (sk1 : Nat) (s2 : Option Addr) (sk2 : Nat) (s3 : Option Addr) (sk3 : Nat) (s4 : Option Addr) (sk4 : Nat) (hrest : Nm w1 (qs (im % 10)) s1 sk1 s2 sk2 s3 sk3 s4 sk4) (g9 : Nat), Sl a 28 [(0, .agg (t.d.cells t.ts.length).toArray), (1, .pointer (some ⟨g2, 0, none⟩)), (2, .pointer (some ⟨g4, 0, none⟩)), (3, .int .i64 0), (5, .pointer (some ⟨g9, 0, none⟩)), (6, .int .i64 0), (7, .pointer (some ⟨g2, 0, none⟩)), (8, .int .i64 t.d.k), (9, .bool false), (10, .bool false), (11, .pointer (some ⟨g2, 2, none⟩)), (12, .agg #[.bool t.d.y.q.b1, .slice t.d.y.o1 t.d.y.q.t1.length t.d.y.c1, .slice t.d.y.o2 t.d.y.q.q1.length t.d.y.c2, .bool t.d.y.q.b2, .slice t.d.y.o3 t.d.y.q.t2.length t.d.y.c3, .slice t.d.y.o4 t.d.y.q.q2.length t.d.y.c4]), (13, .bool true), (14, .bool false), (15, .bool false)] ∧ Mg w w1 (.obj g9 (.cells (zj (qs (im % 10)) s1 sk1 s2 sk2 s3 sk3 s4 sk4).toArray 35) :: .obj g4 (.cells (qx.d.cells qx.ts.length).toArray 38) :: .obj g2 (.cells (t.d.cells t.ts.length).toArray 38) :: [])) → K9 a w1 := by
  clear A M
  rintro a w11 ⟨s1, sk1, s2, sk2, s3, sk3, s4, sk4, hrest, g9, A, M⟩
  refine hK9 _ _ (wsk fun K12 hK12 => wrl (sdo A (zl M TeG_isS_35 rfl 0 rfl (cs := (zj (qs (im % 10)) s1 sk1 s2 sk2 s3 sk3 s4 sk4)) rfl rfl) λa A↦?_))
  refine sdo (v := .agg #[.int .i64 3, .int .i64 0, .bool ((qs (im % 10)).b1), .slice s1 ((qs (im % 10)).t1.length) sk1, .slice s2 ((qs (im % 10)).q1.length) sk2, .bool ((qs (im % 10)).b2), .slice s3 ((qs (im % 10)).t2.length) sk3, .slice s4 ((qs (im % 10)).q2.length) sk4, .string (⟨#[]⟩), .slice none 0 0, .slice none 0 0]) A (zg rfl (fun w => by kernel_rfl)) λa A↦?_
  refine sdm A λa A↦?_
  have hM7 := M
  refine qcg (us := [.int .i64 3, .int .i64 0, .bool ((qs (im % 10)).b1), .slice s1 ((qs (im % 10)).t1.length) sk1, .slice s2 ((qs (im % 10)).q1.length) sk2, .bool ((qs (im % 10)).b2), .slice s3 ((qs (im % 10)).t2.length) sk3, .slice s4 ((qs (im % 10)).q2.length) sk4, .string (⟨#[]⟩), .slice none 0 0, .slice none 0 0]) (L' := (.obj g9 (.cells (zj (qs (im % 10)) s1 sk1 s2 sk2 s3 sk3 s4 sk4).toArray 35) :: .obj g4 (.cells #[.int .i64 3, .int .i64 0, .bool ((qs (im % 10)).b1), .slice s1 ((qs (im % 10)).t1.length) sk1, .slice s2 ((qs (im % 10)).q1.length) sk2, .bool ((qs (im % 10)).b2), .slice s3 ((qs (im % 10)).t2.length) sk3, .slice s4 ((qs (im % 10)).q2.length) sk4, .string (⟨#[]⟩), .slice none 0 0, .slice none 0 0] 38) :: .obj g2 (.cells (t.d.cells t.ts.length).toArray 38) :: [])) A M rfl rfl (ze rfl rfl rfl (by kernel_rfl) M 1 rfl rfl rfl) 1 rfl rfl rfl ?_
  intro w13 M hK14
  replace hrest := jn hM7 1 (vs := (qx.d.cells qx.ts.length)) rfl rfl hrest hK14
  refine sda A λa A↦?_
  refine qa (hK12 _ _ (wp_ret (hret _ _ (en2 A rfl (vq M TeG_isS_38 rfl 1 rfl (cs := [.int .i64 3, .int .i64 0, .bool ((qs (im % 10)).b1), .slice s1 ((qs (im % 10)).t1.length) sk1, .slice s2 ((qs (im % 10)).q1.length) sk2, .bool ((qs (im % 10)).b2), .slice s3 ((qs (im % 10)).t2.length) sk3, .slice s4 ((qs (im % 10)).q2.length) sk4, .string (⟨#[]⟩), .slice none 0 0, .slice none 0 0]) rfl rfl) (ql rfl) ?_))))
  exact ⟨jp (qs (im % 10)) s1 sk1 s2 sk2 s3 sk3 s4 sk4, rfl, ⟨qif hrest hl2, qna _ _ _ _ _ _ _ _ _, rfl, rfl⟩, M.bel⟩
 refine je (S := fun w1 => Mg w w1 (.obj g2 (.cells (t.d.cells t.ts.length).toArray 38) :: [])) (by kernel_rfl) ?_
 replace M := M.drew
 refine qe (v := .pointer (some ⟨g2, 2, none⟩)) A 0 rfl rfl rfl rfl hP (M.sub (cn (cc (List.nil_sublist _)))) (fun w1 M => qb TeG_fld_38_2 rfl rfl) λa A↦?_
 refine qe A 1 rfl rfl rfl rfl hP (M.sub (cn (cc (List.nil_sublist _)))) (fun w1 M => zl M TeG_isS_35 rfl 0 rfl (cs := [.bool t.d.y.q.b1, .slice t.d.y.o1 t.d.y.q.t1.length t.d.y.c1, .slice t.d.y.o2 t.d.y.q.q1.length t.d.y.c2, .bool t.d.y.q.b2, .slice t.d.y.o3 t.d.y.q.t2.length t.d.y.c3, .slice t.d.y.o4 t.d.y.q.q2.length t.d.y.c4]) rfl rfl) λa A↦?_
 refine zk (rs := [2, 8, 9]) (by kernel_rfl) (by simp) ⟨?_, ?_, ?_, trivial⟩
 ·
  refine qm A 2 rfl rfl rfl rfl (qg rfl rfl (fun w => by kernel_rfl)) (yu (by decide) (by decide)) ?_
  rintro _ w16 ⟨x1, xk1, x2, xk2, x3, xk3, x4, xk4, rfl, hten, hb15⟩
  replace M := M.call hb15
  refine ⟨_, rfl, (M.sub (cn (cc (List.nil_sublist _)))), ?_⟩
  intro a A
  refine zk (rs := [3, 8, 9]) (by kernel_rfl) (by simp) ⟨?_, ?_, ?_, trivial⟩
  ·
   refine qm A 3 rfl rfl rfl rfl (qg rfl rfl (fun w => by kernel_rfl)) (kn hm9 hq9 (Nu.below hnm M.bel) hten) ?_
   rintro _ w18 ⟨y1, yk1, y2, yk2, y3, yk3, y4, yk4, s1, sk1, s2, sk2, s3, sk3, s4, sk4, he7, hquo, hrest, hb17⟩
   simp only at hrest
   subst he7
   replace M := M.call hb17
   refine ⟨_, rfl, (M.sub (cn (cc (List.nil_sublist _)))), ?_⟩
   intro a A
   refine qe A 4 rfl rfl rfl rfl hP (M.sub (cn (cc (List.nil_sublist _)))) (fun w1 M => qz rfl) λa A↦?_
   refine qe (v := .agg (zj (qs (im / 10)) y1 yk1 y2 yk2 y3 yk3 y4 yk4).toArray) A 5 rfl rfl rfl rfl hP (M.sub (cn (cc (List.nil_sublist _)))) (fun w1 M => qh (vs := [.agg (zj (qs (im / 10)) y1 yk1 y2 yk2 y3 yk3 y4 yk4).toArray, .agg (zj (qs (im % 10)) s1 sk1 s2 sk2 s3 sk3 s4 sk4).toArray, .int .i64 0]) rfl rfl) λa A↦?_
   refine qe (v := .agg (zj (qs (im % 10)) s1 sk1 s2 sk2 s3 sk3 s4 sk4).toArray) A 6 rfl rfl rfl rfl hP (M.sub (cn (cc (List.nil_sublist _)))) (fun w1 M => qh (vs := [.agg (zj (qs (im / 10)) y1 yk1 y2 yk2 y3 yk3 y4 yk4).toArray, .agg (zj (qs (im % 10)) s1 sk1 s2 sk2 s3 sk3 s4 sk4).toArray, .int .i64 0]) rfl rfl) λa A↦?_
   refine qe (v := .int .i64 0) A 7 rfl rfl rfl rfl hP (M.sub (cn (cc (List.nil_sublist _)))) (fun w1 M => qh (vs := [.agg (zj (qs (im / 10)) y1 yk1 y2 yk2 y3 yk3 y4 yk4).toArray, .agg (zj (qs (im % 10)) s1 sk1 s2 sk2 s3 sk3 s4 sk4).toArray, .int .i64 0]) rfl rfl) λa A↦?_
   refine zk (rs := [8, 9]) (by kernel_rfl) (by simp) ⟨?_, ?_, trivial⟩
   ·
    refine xr (vs := ja) (t := 35) A M 8 rfl rfl rfl rfl pg (qi (z := .agg ja.toArray) (by kernel_rfl) rfl) (by decide) ?_
    intro g19 w20 M hg21 hb22
    replace hrest := jz hrest hb22
    refine ⟨(M.sub (cn (cn (cc (List.nil_sublist _))))), ?_⟩
    intro a A
    refine qf (by kernel_rfl) (xr (vs := ja) (t := 35) A M 9 rfl rfl rfl rfl pg (qi (z := .agg ja.toArray) (by kernel_rfl) rfl) (by decide) ?_)
    intro g23 w24 M hg25 hb26
    replace hrest := jz hrest hb26
    refine ⟨(M.sub (cn (cn (cn (cc (List.nil_sublist _)))))), ?_⟩
    intro a A
    have hM7 := M
    refine qf (by kernel_rfl) (jd (us := (zj (qs (im / 10)) y1 yk1 y2 yk2 y3 yk3 y4 yk4)) (L' := (.obj g23 (.cells ja.toArray 35) :: .obj g19 (.cells (zj (qs (im / 10)) y1 yk1 y2 yk2 y3 yk3 y4 yk4).toArray 35) :: .obj g4 (.cells (qx.d.cells qx.ts.length).toArray 38) :: .obj g2 (.cells (t.d.cells t.ts.length).toArray 38) :: [])) A M 10 rfl rfl rfl (ze rfl rfl rfl (by kernel_rfl) M 1 rfl rfl rfl) 1 rfl rfl rfl ?_)
    intro w27 M hK28
    replace hrest := jn hM7 1 (vs := ja) rfl rfl hrest hK28
    refine ⟨(M.sub (cn (cn (cn (cc (List.nil_sublist _)))))), ?_⟩
    have hM7 := M
    refine qf (by kernel_rfl) (jd (us := (zj (qs (im % 10)) s1 sk1 s2 sk2 s3 sk3 s4 sk4)) (L' := (.obj g23 (.cells (zj (qs (im % 10)) s1 sk1 s2 sk2 s3 sk3 s4 sk4).toArray 35) :: .obj g19 (.cells (zj (qs (im / 10)) y1 yk1 y2 yk2 y3 yk3 y4 yk4).toArray 35) :: .obj g4 (.cells (qx.d.cells qx.ts.length).toArray 38) :: .obj g2 (.cells (t.d.cells t.ts.length).toArray 38) :: [])) A M 11 rfl rfl rfl (ze rfl rfl rfl (by kernel_rfl) M 0 rfl rfl rfl) 0 rfl rfl rfl ?_)
    intro w29 M hK30
    replace hrest := jn hM7 0 (vs := ja) rfl rfl hrest hK30
    refine ⟨(M.sub (cn (cn (cn (cc (List.nil_sublist _)))))), ?_⟩
    refine qe A 12 rfl rfl rfl rfl hP (M.sub (cn (cn (cn (cc (List.nil_sublist _)))))) (fun w1 M => zh rfl) λa A↦?_
    refine qy (by kernel_rfl) ?_
    replace M := M.b3
    replace M := M.b3
    replace M := M.b2
    replace M := M.sub (cc (cc (cc (cn (.refl _)))))
    exact hJ10 _ _ ⟨s1, sk1, s2, sk2, s3, sk3, s4, sk4, hrest, g23, A.keep _ (by repeat' constructor), M⟩
   ·
    refine xr (vs := ja) (t := 35) A M 9 rfl rfl rfl rfl pg (qi (z := .agg ja.toArray) (by kernel_rfl) rfl) (by decide) ?_
    intro g31 w32 M hg33 hb34
    replace hrest := jz hrest hb34
    refine ⟨(M.sub (cn (cn (cc (List.nil_sublist _))))), ?_⟩
    intro a A
    refine qf (by kernel_rfl) (xr (vs := ja) (t := 35) A M 8 rfl rfl rfl rfl pg (qi (z := .agg ja.toArray) (by kernel_rfl) rfl) (by decide) ?_)
    intro g35 w36 M hg37 hb38
    replace hrest := jz hrest hb38
    refine ⟨(M.sub (cn (cn (cn (cc (List.nil_sublist _)))))), ?_⟩
    intro a A
    have hM7 := M
    refine qf (by kernel_rfl) (jd (us := (zj (qs (im / 10)) y1 yk1 y2 yk2 y3 yk3 y4 yk4)) (L' := (.obj g35 (.cells (zj (qs (im / 10)) y1 yk1 y2 yk2 y3 yk3 y4 yk4).toArray 35) :: .obj g31 (.cells ja.toArray 35) :: .obj g4 (.cells (qx.d.cells qx.ts.length).toArray 38) :: .obj g2 (.cells (t.d.cells t.ts.length).toArray 38) :: [])) A M 10 rfl rfl rfl (ze rfl rfl rfl (by kernel_rfl) M 0 rfl rfl rfl) 0 rfl rfl rfl ?_)
    intro w39 M hK40
    replace hrest := jn hM7 0 (vs := ja) rfl rfl hrest hK40
    refine ⟨(M.sub (cn (cn (cn (cc (List.nil_sublist _)))))), ?_⟩
    have hM7 := M
    refine qf (by kernel_rfl) (jd (us := (zj (qs (im % 10)) s1 sk1 s2 sk2 s3 sk3 s4 sk4)) (L' := (.obj g35 (.cells (zj (qs (im / 10)) y1 yk1 y2 yk2 y3 yk3 y4 yk4).toArray 35) :: .obj g31 (.cells (zj (qs (im % 10)) s1 sk1 s2 sk2 s3 sk3 s4 sk4).toArray 35) :: .obj g4 (.cells (qx.d.cells qx.ts.length).toArray 38) :: .obj g2 (.cells (t.d.cells t.ts.length).toArray 38) :: [])) A M 11 rfl rfl rfl (ze rfl rfl rfl (by kernel_rfl) M 1 rfl rfl rfl) 1 rfl rfl rfl ?_)
    intro w41 M hK42
    replace hrest := jn hM7 1 (vs := ja) rfl rfl hrest hK42
    refine ⟨(M.sub (cn (cn (cn (cc (List.nil_sublist _)))))), ?_⟩
    refine qe A 12 rfl rfl rfl rfl hP (M.sub (cn (cn (cn (cc (List.nil_sublist _)))))) (fun w1 M => zh rfl) λa A↦?_
    refine qy (by kernel_rfl) ?_
    replace M := M.b3
    replace M := M.b3
    replace M := M.b3
    replace M := M.sub (cc (cc (cc (cn (.refl _)))))
    exact hJ10 _ _ ⟨s1, sk1, s2, sk2, s3, sk3, s4, sk4, hrest, g31, A.keep _ (by repeat' constructor), M⟩
  ·
   refine xr (vs := ja) (t := 35) A M 8 rfl rfl rfl rfl pg (qi (z := .agg ja.toArray) (by kernel_rfl) rfl) (by decide) ?_
   intro g43 w44 M hg45 hb46
   replace hten := jz hten hb46
   refine ⟨(M.sub (cn (cn (cc (List.nil_sublist _))))), ?_⟩
   intro a A
   refine zk (rs := [3, 9]) (by kernel_rfl) (by simp) ⟨?_, ?_, trivial⟩
   ·
    refine qm A 3 rfl rfl rfl rfl (qg rfl rfl (fun w => by kernel_rfl)) (kn hm9 hq9 (Nu.below hnm M.bel) hten) ?_
    rintro _ w48 ⟨y1, yk1, y2, yk2, y3, yk3, y4, yk4, s1, sk1, s2, sk2, s3, sk3, s4, sk4, he7, hquo, hrest, hb47⟩
    simp only at hrest
    subst he7
    replace M := M.call hb47
    refine ⟨_, rfl, (M.sub (cn (cn (cc (List.nil_sublist _))))), ?_⟩
    intro a A
    refine qe A 4 rfl rfl rfl rfl hP (M.sub (cn (cn (cc (List.nil_sublist _))))) (fun w1 M => qz rfl) λa A↦?_
    refine qe (v := .agg (zj (qs (im / 10)) y1 yk1 y2 yk2 y3 yk3 y4 yk4).toArray) A 5 rfl rfl rfl rfl hP (M.sub (cn (cn (cc (List.nil_sublist _))))) (fun w1 M => qh (vs := [.agg (zj (qs (im / 10)) y1 yk1 y2 yk2 y3 yk3 y4 yk4).toArray, .agg (zj (qs (im % 10)) s1 sk1 s2 sk2 s3 sk3 s4 sk4).toArray, .int .i64 0]) rfl rfl) λa A↦?_
    refine qe (v := .agg (zj (qs (im % 10)) s1 sk1 s2 sk2 s3 sk3 s4 sk4).toArray) A 6 rfl rfl rfl rfl hP (M.sub (cn (cn (cc (List.nil_sublist _))))) (fun w1 M => qh (vs := [.agg (zj (qs (im / 10)) y1 yk1 y2 yk2 y3 yk3 y4 yk4).toArray, .agg (zj (qs (im % 10)) s1 sk1 s2 sk2 s3 sk3 s4 sk4).toArray, .int .i64 0]) rfl rfl) λa A↦?_
    refine qe (v := .int .i64 0) A 7 rfl rfl rfl rfl hP (M.sub (cn (cn (cc (List.nil_sublist _))))) (fun w1 M => qh (vs := [.agg (zj (qs (im / 10)) y1 yk1 y2 yk2 y3 yk3 y4 yk4).toArray, .agg (zj (qs (im % 10)) s1 sk1 s2 sk2 s3 sk3 s4 sk4).toArray, .int .i64 0]) rfl rfl) λa A↦?_
    refine qf (by kernel_rfl) (xr (vs := ja) (t := 35) A M 9 rfl rfl rfl rfl pg (qi (z := .agg ja.toArray) (by kernel_rfl) rfl) (by decide) ?_)
    intro g49 w50 M hg51 hb52
    replace hrest := jz hrest hb52
    refine ⟨(M.sub (cn (cn (cn (cc (List.nil_sublist _)))))), ?_⟩
    intro a A
    have hM7 := M
    refine qf (by kernel_rfl) (jd (us := (zj (qs (im / 10)) y1 yk1 y2 yk2 y3 yk3 y4 yk4)) (L' := (.obj g49 (.cells ja.toArray 35) :: .obj g43 (.cells (zj (qs (im / 10)) y1 yk1 y2 yk2 y3 yk3 y4 yk4).toArray 35) :: .obj g4 (.cells (qx.d.cells qx.ts.length).toArray 38) :: .obj g2 (.cells (t.d.cells t.ts.length).toArray 38) :: [])) A M 10 rfl rfl rfl (ze rfl rfl rfl (by kernel_rfl) M 1 rfl rfl rfl) 1 rfl rfl rfl ?_)
    intro w53 M hK54
    replace hrest := jn hM7 1 (vs := ja) rfl rfl hrest hK54
    refine ⟨(M.sub (cn (cn (cn (cc (List.nil_sublist _)))))), ?_⟩
    have hM7 := M
    refine qf (by kernel_rfl) (jd (us := (zj (qs (im % 10)) s1 sk1 s2 sk2 s3 sk3 s4 sk4)) (L' := (.obj g49 (.cells (zj (qs (im % 10)) s1 sk1 s2 sk2 s3 sk3 s4 sk4).toArray 35) :: .obj g43 (.cells (zj (qs (im / 10)) y1 yk1 y2 yk2 y3 yk3 y4 yk4).toArray 35) :: .obj g4 (.cells (qx.d.cells qx.ts.length).toArray 38) :: .obj g2 (.cells (t.d.cells t.ts.length).toArray 38) :: [])) A M 11 rfl rfl rfl (ze rfl rfl rfl (by kernel_rfl) M 0 rfl rfl rfl) 0 rfl rfl rfl ?_)
    intro w55 M hK56
    replace hrest := jn hM7 0 (vs := ja) rfl rfl hrest hK56
    refine ⟨(M.sub (cn (cn (cn (cc (List.nil_sublist _)))))), ?_⟩
    refine qe A 12 rfl rfl rfl rfl hP (M.sub (cn (cn (cn (cc (List.nil_sublist _)))))) (fun w1 M => zh rfl) λa A↦?_
    refine qy (by kernel_rfl) ?_
    replace M := M.b3
    replace M := M.b3
    replace M := M.b2
    replace M := M.sub (cc (cc (cc (cn (.refl _)))))
    exact hJ10 _ _ ⟨s1, sk1, s2, sk2, s3, sk3, s4, sk4, hrest, g49, A.keep _ (by repeat' constructor), M⟩
   ·
    refine xr (vs := ja) (t := 35) A M 9 rfl rfl rfl rfl pg (qi (z := .agg ja.toArray) (by kernel_rfl) rfl) (by decide) ?_
    intro g57 w58 M hg59 hb60
    replace hten := jz hten hb60
    refine ⟨(M.sub (cn (cn (cn (cc (List.nil_sublist _)))))), ?_⟩
    intro a A
    refine qf (by kernel_rfl) (qm A 3 rfl rfl rfl rfl (qg rfl rfl (fun w => by kernel_rfl)) (kn hm9 hq9 (Nu.below hnm M.bel) hten) ?_)
    rintro _ w62 ⟨y1, yk1, y2, yk2, y3, yk3, y4, yk4, s1, sk1, s2, sk2, s3, sk3, s4, sk4, he7, hquo, hrest, hb61⟩
    simp only at hrest
    subst he7
    replace M := M.call hb61
    refine ⟨_, rfl, (M.sub (cn (cn (cn (cc (List.nil_sublist _)))))), ?_⟩
    intro a A
    refine qe A 4 rfl rfl rfl rfl hP (M.sub (cn (cn (cn (cc (List.nil_sublist _)))))) (fun w1 M => qz rfl) λa A↦?_
    refine qe (v := .agg (zj (qs (im / 10)) y1 yk1 y2 yk2 y3 yk3 y4 yk4).toArray) A 5 rfl rfl rfl rfl hP (M.sub (cn (cn (cn (cc (List.nil_sublist _)))))) (fun w1 M => qh (vs := [.agg (zj (qs (im / 10)) y1 yk1 y2 yk2 y3 yk3 y4 yk4).toArray, .agg (zj (qs (im % 10)) s1 sk1 s2 sk2 s3 sk3 s4 sk4).toArray, .int .i64 0]) rfl rfl) λa A↦?_
    refine qe (v := .agg (zj (qs (im % 10)) s1 sk1 s2 sk2 s3 sk3 s4 sk4).toArray) A 6 rfl rfl rfl rfl hP (M.sub (cn (cn (cn (cc (List.nil_sublist _)))))) (fun w1 M => qh (vs := [.agg (zj (qs (im / 10)) y1 yk1 y2 yk2 y3 yk3 y4 yk4).toArray, .agg (zj (qs (im % 10)) s1 sk1 s2 sk2 s3 sk3 s4 sk4).toArray, .int .i64 0]) rfl rfl) λa A↦?_
    refine qe (v := .int .i64 0) A 7 rfl rfl rfl rfl hP (M.sub (cn (cn (cn (cc (List.nil_sublist _)))))) (fun w1 M => qh (vs := [.agg (zj (qs (im / 10)) y1 yk1 y2 yk2 y3 yk3 y4 yk4).toArray, .agg (zj (qs (im % 10)) s1 sk1 s2 sk2 s3 sk3 s4 sk4).toArray, .int .i64 0]) rfl rfl) λa A↦?_
    have hM7 := M
    refine qf (by kernel_rfl) (jd (us := (zj (qs (im / 10)) y1 yk1 y2 yk2 y3 yk3 y4 yk4)) (L' := (.obj g57 (.cells ja.toArray 35) :: .obj g43 (.cells (zj (qs (im / 10)) y1 yk1 y2 yk2 y3 yk3 y4 yk4).toArray 35) :: .obj g4 (.cells (qx.d.cells qx.ts.length).toArray 38) :: .obj g2 (.cells (t.d.cells t.ts.length).toArray 38) :: [])) A M 10 rfl rfl rfl (ze rfl rfl rfl (by kernel_rfl) M 1 rfl rfl rfl) 1 rfl rfl rfl ?_)
    intro w63 M hK64
    replace hrest := jn hM7 1 (vs := ja) rfl rfl hrest hK64
    refine ⟨(M.sub (cn (cn (cn (cc (List.nil_sublist _)))))), ?_⟩
    have hM7 := M
    refine qf (by kernel_rfl) (jd (us := (zj (qs (im % 10)) s1 sk1 s2 sk2 s3 sk3 s4 sk4)) (L' := (.obj g57 (.cells (zj (qs (im % 10)) s1 sk1 s2 sk2 s3 sk3 s4 sk4).toArray 35) :: .obj g43 (.cells (zj (qs (im / 10)) y1 yk1 y2 yk2 y3 yk3 y4 yk4).toArray 35) :: .obj g4 (.cells (qx.d.cells qx.ts.length).toArray 38) :: .obj g2 (.cells (t.d.cells t.ts.length).toArray 38) :: [])) A M 11 rfl rfl rfl (ze rfl rfl rfl (by kernel_rfl) M 0 rfl rfl rfl) 0 rfl rfl rfl ?_)
    intro w65 M hK66
    replace hrest := jn hM7 0 (vs := ja) rfl rfl hrest hK66
    refine ⟨(M.sub (cn (cn (cn (cc (List.nil_sublist _)))))), ?_⟩
    refine qe A 12 rfl rfl rfl rfl hP (M.sub (cn (cn (cn (cc (List.nil_sublist _)))))) (fun w1 M => zh rfl) λa A↦?_
    refine qy (by kernel_rfl) ?_
    replace M := M.b3
    replace M := M.b3
    replace M := M.b2
    replace M := M.sub (cc (cc (cc (cn (.refl _)))))
    exact hJ10 _ _ ⟨s1, sk1, s2, sk2, s3, sk3, s4, sk4, hrest, g57, A.keep _ (by repeat' constructor), M⟩
  ·
   refine xr (vs := ja) (t := 35) A M 9 rfl rfl rfl rfl pg (qi (z := .agg ja.toArray) (by kernel_rfl) rfl) (by decide) ?_
   intro g67 w68 M hg69 hb70
   replace hten := jz hten hb70
   refine ⟨(M.sub (cn (cn (cc (List.nil_sublist _))))), ?_⟩
   intro a A
   refine zk (rs := [3, 8]) (by kernel_rfl) (by simp) ⟨?_, ?_, trivial⟩
   ·
    refine qm A 3 rfl rfl rfl rfl (qg rfl rfl (fun w => by kernel_rfl)) (kn hm9 hq9 (Nu.below hnm M.bel) hten) ?_
    rintro _ w72 ⟨y1, yk1, y2, yk2, y3, yk3, y4, yk4, s1, sk1, s2, sk2, s3, sk3, s4, sk4, he7, hquo, hrest, hb71⟩
    simp only at hrest
    subst he7
    replace M := M.call hb71
    refine ⟨_, rfl, (M.sub (cn (cn (cc (List.nil_sublist _))))), ?_⟩
    intro a A
    refine qe A 4 rfl rfl rfl rfl hP (M.sub (cn (cn (cc (List.nil_sublist _))))) (fun w1 M => qz rfl) λa A↦?_
    refine qe (v := .agg (zj (qs (im / 10)) y1 yk1 y2 yk2 y3 yk3 y4 yk4).toArray) A 5 rfl rfl rfl rfl hP (M.sub (cn (cn (cc (List.nil_sublist _))))) (fun w1 M => qh (vs := [.agg (zj (qs (im / 10)) y1 yk1 y2 yk2 y3 yk3 y4 yk4).toArray, .agg (zj (qs (im % 10)) s1 sk1 s2 sk2 s3 sk3 s4 sk4).toArray, .int .i64 0]) rfl rfl) λa A↦?_
    refine qe (v := .agg (zj (qs (im % 10)) s1 sk1 s2 sk2 s3 sk3 s4 sk4).toArray) A 6 rfl rfl rfl rfl hP (M.sub (cn (cn (cc (List.nil_sublist _))))) (fun w1 M => qh (vs := [.agg (zj (qs (im / 10)) y1 yk1 y2 yk2 y3 yk3 y4 yk4).toArray, .agg (zj (qs (im % 10)) s1 sk1 s2 sk2 s3 sk3 s4 sk4).toArray, .int .i64 0]) rfl rfl) λa A↦?_
    refine qe (v := .int .i64 0) A 7 rfl rfl rfl rfl hP (M.sub (cn (cn (cc (List.nil_sublist _))))) (fun w1 M => qh (vs := [.agg (zj (qs (im / 10)) y1 yk1 y2 yk2 y3 yk3 y4 yk4).toArray, .agg (zj (qs (im % 10)) s1 sk1 s2 sk2 s3 sk3 s4 sk4).toArray, .int .i64 0]) rfl rfl) λa A↦?_
    refine qf (by kernel_rfl) (xr (vs := ja) (t := 35) A M 8 rfl rfl rfl rfl pg (qi (z := .agg ja.toArray) (by kernel_rfl) rfl) (by decide) ?_)
    intro g73 w74 M hg75 hb76
    replace hrest := jz hrest hb76
    refine ⟨(M.sub (cn (cn (cn (cc (List.nil_sublist _)))))), ?_⟩
    intro a A
    have hM7 := M
    refine qf (by kernel_rfl) (jd (us := (zj (qs (im / 10)) y1 yk1 y2 yk2 y3 yk3 y4 yk4)) (L' := (.obj g73 (.cells (zj (qs (im / 10)) y1 yk1 y2 yk2 y3 yk3 y4 yk4).toArray 35) :: .obj g67 (.cells ja.toArray 35) :: .obj g4 (.cells (qx.d.cells qx.ts.length).toArray 38) :: .obj g2 (.cells (t.d.cells t.ts.length).toArray 38) :: [])) A M 10 rfl rfl rfl (ze rfl rfl rfl (by kernel_rfl) M 0 rfl rfl rfl) 0 rfl rfl rfl ?_)
    intro w77 M hK78
    replace hrest := jn hM7 0 (vs := ja) rfl rfl hrest hK78
    refine ⟨(M.sub (cn (cn (cn (cc (List.nil_sublist _)))))), ?_⟩
    have hM7 := M
    refine qf (by kernel_rfl) (jd (us := (zj (qs (im % 10)) s1 sk1 s2 sk2 s3 sk3 s4 sk4)) (L' := (.obj g73 (.cells (zj (qs (im / 10)) y1 yk1 y2 yk2 y3 yk3 y4 yk4).toArray 35) :: .obj g67 (.cells (zj (qs (im % 10)) s1 sk1 s2 sk2 s3 sk3 s4 sk4).toArray 35) :: .obj g4 (.cells (qx.d.cells qx.ts.length).toArray 38) :: .obj g2 (.cells (t.d.cells t.ts.length).toArray 38) :: [])) A M 11 rfl rfl rfl (ze rfl rfl rfl (by kernel_rfl) M 1 rfl rfl rfl) 1 rfl rfl rfl ?_)
    intro w79 M hK80
    replace hrest := jn hM7 1 (vs := ja) rfl rfl hrest hK80
    refine ⟨(M.sub (cn (cn (cn (cc (List.nil_sublist _)))))), ?_⟩
    refine qe A 12 rfl rfl rfl rfl hP (M.sub (cn (cn (cn (cc (List.nil_sublist _)))))) (fun w1 M => zh rfl) λa A↦?_
    refine qy (by kernel_rfl) ?_
    replace M := M.b3
    replace M := M.b3
    replace M := M.b3
    replace M := M.sub (cc (cc (cc (cn (.refl _)))))
    exact hJ10 _ _ ⟨s1, sk1, s2, sk2, s3, sk3, s4, sk4, hrest, g67, A.keep _ (by repeat' constructor), M⟩
   ·
    refine xr (vs := ja) (t := 35) A M 8 rfl rfl rfl rfl pg (qi (z := .agg ja.toArray) (by kernel_rfl) rfl) (by decide) ?_
    intro g81 w82 M hg83 hb84
    replace hten := jz hten hb84
    refine ⟨(M.sub (cn (cn (cn (cc (List.nil_sublist _)))))), ?_⟩
    intro a A
    refine qf (by kernel_rfl) (qm A 3 rfl rfl rfl rfl (qg rfl rfl (fun w => by kernel_rfl)) (kn hm9 hq9 (Nu.below hnm M.bel) hten) ?_)
    rintro _ w86 ⟨y1, yk1, y2, yk2, y3, yk3, y4, yk4, s1, sk1, s2, sk2, s3, sk3, s4, sk4, he7, hquo, hrest, hb85⟩
    simp only at hrest
    subst he7
    replace M := M.call hb85
    refine ⟨_, rfl, (M.sub (cn (cn (cn (cc (List.nil_sublist _)))))), ?_⟩
    intro a A
    refine qe A 4 rfl rfl rfl rfl hP (M.sub (cn (cn (cn (cc (List.nil_sublist _)))))) (fun w1 M => qz rfl) λa A↦?_
    refine qe (v := .agg (zj (qs (im / 10)) y1 yk1 y2 yk2 y3 yk3 y4 yk4).toArray) A 5 rfl rfl rfl rfl hP (M.sub (cn (cn (cn (cc (List.nil_sublist _)))))) (fun w1 M => qh (vs := [.agg (zj (qs (im / 10)) y1 yk1 y2 yk2 y3 yk3 y4 yk4).toArray, .agg (zj (qs (im % 10)) s1 sk1 s2 sk2 s3 sk3 s4 sk4).toArray, .int .i64 0]) rfl rfl) λa A↦?_
    refine qe (v := .agg (zj (qs (im % 10)) s1 sk1 s2 sk2 s3 sk3 s4 sk4).toArray) A 6 rfl rfl rfl rfl hP (M.sub (cn (cn (cn (cc (List.nil_sublist _)))))) (fun w1 M => qh (vs := [.agg (zj (qs (im / 10)) y1 yk1 y2 yk2 y3 yk3 y4 yk4).toArray, .agg (zj (qs (im % 10)) s1 sk1 s2 sk2 s3 sk3 s4 sk4).toArray, .int .i64 0]) rfl rfl) λa A↦?_
    refine qe (v := .int .i64 0) A 7 rfl rfl rfl rfl hP (M.sub (cn (cn (cn (cc (List.nil_sublist _)))))) (fun w1 M => qh (vs := [.agg (zj (qs (im / 10)) y1 yk1 y2 yk2 y3 yk3 y4 yk4).toArray, .agg (zj (qs (im % 10)) s1 sk1 s2 sk2 s3 sk3 s4 sk4).toArray, .int .i64 0]) rfl rfl) λa A↦?_
    have hM7 := M
    refine qf (by kernel_rfl) (jd (us := (zj (qs (im / 10)) y1 yk1 y2 yk2 y3 yk3 y4 yk4)) (L' := (.obj g81 (.cells (zj (qs (im / 10)) y1 yk1 y2 yk2 y3 yk3 y4 yk4).toArray 35) :: .obj g67 (.cells ja.toArray 35) :: .obj g4 (.cells (qx.d.cells qx.ts.length).toArray 38) :: .obj g2 (.cells (t.d.cells t.ts.length).toArray 38) :: [])) A M 10 rfl rfl rfl (ze rfl rfl rfl (by kernel_rfl) M 0 rfl rfl rfl) 0 rfl rfl rfl ?_)
    intro w87 M hK88
    replace hrest := jn hM7 0 (vs := ja) rfl rfl hrest hK88
    refine ⟨(M.sub (cn (cn (cn (cc (List.nil_sublist _)))))), ?_⟩
    have hM7 := M
    refine qf (by kernel_rfl) (jd (us := (zj (qs (im % 10)) s1 sk1 s2 sk2 s3 sk3 s4 sk4)) (L' := (.obj g81 (.cells (zj (qs (im / 10)) y1 yk1 y2 yk2 y3 yk3 y4 yk4).toArray 35) :: .obj g67 (.cells (zj (qs (im % 10)) s1 sk1 s2 sk2 s3 sk3 s4 sk4).toArray 35) :: .obj g4 (.cells (qx.d.cells qx.ts.length).toArray 38) :: .obj g2 (.cells (t.d.cells t.ts.length).toArray 38) :: [])) A M 11 rfl rfl rfl (ze rfl rfl rfl (by kernel_rfl) M 1 rfl rfl rfl) 1 rfl rfl rfl ?_)
    intro w89 M hK90
    replace hrest := jn hM7 1 (vs := ja) rfl rfl hrest hK90
    refine ⟨(M.sub (cn (cn (cn (cc (List.nil_sublist _)))))), ?_⟩
    refine qe A 12 rfl rfl rfl rfl hP (M.sub (cn (cn (cn (cc (List.nil_sublist _)))))) (fun w1 M => zh rfl) λa A↦?_
    refine qy (by kernel_rfl) ?_
    replace M := M.b3
    replace M := M.b3
    replace M := M.b3
    replace M := M.sub (cc (cc (cc (cn (.refl _)))))
    exact hJ10 _ _ ⟨s1, sk1, s2, sk2, s3, sk3, s4, sk4, hrest, g67, A.keep _ (by repeat' constructor), M⟩
 ·
  refine xr (vs := ja) (t := 35) A M 8 rfl rfl rfl rfl pg (qi (z := .agg ja.toArray) (by kernel_rfl) rfl) (by decide) ?_
  intro g91 w92 M hg93 hb94
  refine ⟨(M.sub (cn (cn (cc (List.nil_sublist _))))), ?_⟩
  intro a A
  refine zk (rs := [2, 9]) (by kernel_rfl) (by simp) ⟨?_, ?_, trivial⟩
  ·
   refine qm A 2 rfl rfl rfl rfl (qg rfl rfl (fun w => by kernel_rfl)) (yu (by decide) (by decide)) ?_
   rintro _ w96 ⟨x1, xk1, x2, xk2, x3, xk3, x4, xk4, rfl, hten, hb95⟩
   replace M := M.call hb95
   refine ⟨_, rfl, (M.sub (cn (cn (cc (List.nil_sublist _))))), ?_⟩
   intro a A
   refine zk (rs := [3, 9]) (by kernel_rfl) (by simp) ⟨?_, ?_, trivial⟩
   ·
    refine qm A 3 rfl rfl rfl rfl (qg rfl rfl (fun w => by kernel_rfl)) (kn hm9 hq9 (Nu.below hnm M.bel) hten) ?_
    rintro _ w98 ⟨y1, yk1, y2, yk2, y3, yk3, y4, yk4, s1, sk1, s2, sk2, s3, sk3, s4, sk4, he7, hquo, hrest, hb97⟩
    simp only at hrest
    subst he7
    replace M := M.call hb97
    refine ⟨_, rfl, (M.sub (cn (cn (cc (List.nil_sublist _))))), ?_⟩
    intro a A
    refine qe A 4 rfl rfl rfl rfl hP (M.sub (cn (cn (cc (List.nil_sublist _))))) (fun w1 M => qz rfl) λa A↦?_
    refine qe (v := .agg (zj (qs (im / 10)) y1 yk1 y2 yk2 y3 yk3 y4 yk4).toArray) A 5 rfl rfl rfl rfl hP (M.sub (cn (cn (cc (List.nil_sublist _))))) (fun w1 M => qh (vs := [.agg (zj (qs (im / 10)) y1 yk1 y2 yk2 y3 yk3 y4 yk4).toArray, .agg (zj (qs (im % 10)) s1 sk1 s2 sk2 s3 sk3 s4 sk4).toArray, .int .i64 0]) rfl rfl) λa A↦?_
    refine qe (v := .agg (zj (qs (im % 10)) s1 sk1 s2 sk2 s3 sk3 s4 sk4).toArray) A 6 rfl rfl rfl rfl hP (M.sub (cn (cn (cc (List.nil_sublist _))))) (fun w1 M => qh (vs := [.agg (zj (qs (im / 10)) y1 yk1 y2 yk2 y3 yk3 y4 yk4).toArray, .agg (zj (qs (im % 10)) s1 sk1 s2 sk2 s3 sk3 s4 sk4).toArray, .int .i64 0]) rfl rfl) λa A↦?_
    refine qe (v := .int .i64 0) A 7 rfl rfl rfl rfl hP (M.sub (cn (cn (cc (List.nil_sublist _))))) (fun w1 M => qh (vs := [.agg (zj (qs (im / 10)) y1 yk1 y2 yk2 y3 yk3 y4 yk4).toArray, .agg (zj (qs (im % 10)) s1 sk1 s2 sk2 s3 sk3 s4 sk4).toArray, .int .i64 0]) rfl rfl) λa A↦?_
    refine qf (by kernel_rfl) (xr (vs := ja) (t := 35) A M 9 rfl rfl rfl rfl pg (qi (z := .agg ja.toArray) (by kernel_rfl) rfl) (by decide) ?_)
    intro g99 w100 M hg101 hb102
    replace hrest := jz hrest hb102
    refine ⟨(M.sub (cn (cn (cn (cc (List.nil_sublist _)))))), ?_⟩
    intro a A
    have hM7 := M
    refine qf (by kernel_rfl) (jd (us := (zj (qs (im / 10)) y1 yk1 y2 yk2 y3 yk3 y4 yk4)) (L' := (.obj g99 (.cells ja.toArray 35) :: .obj g91 (.cells (zj (qs (im / 10)) y1 yk1 y2 yk2 y3 yk3 y4 yk4).toArray 35) :: .obj g4 (.cells (qx.d.cells qx.ts.length).toArray 38) :: .obj g2 (.cells (t.d.cells t.ts.length).toArray 38) :: [])) A M 10 rfl rfl rfl (ze rfl rfl rfl (by kernel_rfl) M 1 rfl rfl rfl) 1 rfl rfl rfl ?_)
    intro w103 M hK104
    replace hrest := jn hM7 1 (vs := ja) rfl rfl hrest hK104
    refine ⟨(M.sub (cn (cn (cn (cc (List.nil_sublist _)))))), ?_⟩
    have hM7 := M
    refine qf (by kernel_rfl) (jd (us := (zj (qs (im % 10)) s1 sk1 s2 sk2 s3 sk3 s4 sk4)) (L' := (.obj g99 (.cells (zj (qs (im % 10)) s1 sk1 s2 sk2 s3 sk3 s4 sk4).toArray 35) :: .obj g91 (.cells (zj (qs (im / 10)) y1 yk1 y2 yk2 y3 yk3 y4 yk4).toArray 35) :: .obj g4 (.cells (qx.d.cells qx.ts.length).toArray 38) :: .obj g2 (.cells (t.d.cells t.ts.length).toArray 38) :: [])) A M 11 rfl rfl rfl (ze rfl rfl rfl (by kernel_rfl) M 0 rfl rfl rfl) 0 rfl rfl rfl ?_)
    intro w105 M hK106
    replace hrest := jn hM7 0 (vs := ja) rfl rfl hrest hK106
    refine ⟨(M.sub (cn (cn (cn (cc (List.nil_sublist _)))))), ?_⟩
    refine qe A 12 rfl rfl rfl rfl hP (M.sub (cn (cn (cn (cc (List.nil_sublist _)))))) (fun w1 M => zh rfl) λa A↦?_
    refine qy (by kernel_rfl) ?_
    replace M := M.b3
    replace M := M.b3
    replace M := M.b2
    replace M := M.sub (cc (cc (cc (cn (.refl _)))))
    exact hJ10 _ _ ⟨s1, sk1, s2, sk2, s3, sk3, s4, sk4, hrest, g99, A.keep _ (by repeat' constructor), M⟩
   ·
    refine xr (vs := ja) (t := 35) A M 9 rfl rfl rfl rfl pg (qi (z := .agg ja.toArray) (by kernel_rfl) rfl) (by decide) ?_
    intro g107 w108 M hg109 hb110
    replace hten := jz hten hb110
    refine ⟨(M.sub (cn (cn (cn (cc (List.nil_sublist _)))))), ?_⟩
    intro a A
    refine qf (by kernel_rfl) (qm A 3 rfl rfl rfl rfl (qg rfl rfl (fun w => by kernel_rfl)) (kn hm9 hq9 (Nu.below hnm M.bel) hten) ?_)
    rintro _ w112 ⟨y1, yk1, y2, yk2, y3, yk3, y4, yk4, s1, sk1, s2, sk2, s3, sk3, s4, sk4, he7, hquo, hrest, hb111⟩
    simp only at hrest
    subst he7
    replace M := M.call hb111
    refine ⟨_, rfl, (M.sub (cn (cn (cn (cc (List.nil_sublist _)))))), ?_⟩
    intro a A
    refine qe A 4 rfl rfl rfl rfl hP (M.sub (cn (cn (cn (cc (List.nil_sublist _)))))) (fun w1 M => qz rfl) λa A↦?_
    refine qe (v := .agg (zj (qs (im / 10)) y1 yk1 y2 yk2 y3 yk3 y4 yk4).toArray) A 5 rfl rfl rfl rfl hP (M.sub (cn (cn (cn (cc (List.nil_sublist _)))))) (fun w1 M => qh (vs := [.agg (zj (qs (im / 10)) y1 yk1 y2 yk2 y3 yk3 y4 yk4).toArray, .agg (zj (qs (im % 10)) s1 sk1 s2 sk2 s3 sk3 s4 sk4).toArray, .int .i64 0]) rfl rfl) λa A↦?_
    refine qe (v := .agg (zj (qs (im % 10)) s1 sk1 s2 sk2 s3 sk3 s4 sk4).toArray) A 6 rfl rfl rfl rfl hP (M.sub (cn (cn (cn (cc (List.nil_sublist _)))))) (fun w1 M => qh (vs := [.agg (zj (qs (im / 10)) y1 yk1 y2 yk2 y3 yk3 y4 yk4).toArray, .agg (zj (qs (im % 10)) s1 sk1 s2 sk2 s3 sk3 s4 sk4).toArray, .int .i64 0]) rfl rfl) λa A↦?_
    refine qe (v := .int .i64 0) A 7 rfl rfl rfl rfl hP (M.sub (cn (cn (cn (cc (List.nil_sublist _)))))) (fun w1 M => qh (vs := [.agg (zj (qs (im / 10)) y1 yk1 y2 yk2 y3 yk3 y4 yk4).toArray, .agg (zj (qs (im % 10)) s1 sk1 s2 sk2 s3 sk3 s4 sk4).toArray, .int .i64 0]) rfl rfl) λa A↦?_
    have hM7 := M
    refine qf (by kernel_rfl) (jd (us := (zj (qs (im / 10)) y1 yk1 y2 yk2 y3 yk3 y4 yk4)) (L' := (.obj g107 (.cells ja.toArray 35) :: .obj g91 (.cells (zj (qs (im / 10)) y1 yk1 y2 yk2 y3 yk3 y4 yk4).toArray 35) :: .obj g4 (.cells (qx.d.cells qx.ts.length).toArray 38) :: .obj g2 (.cells (t.d.cells t.ts.length).toArray 38) :: [])) A M 10 rfl rfl rfl (ze rfl rfl rfl (by kernel_rfl) M 1 rfl rfl rfl) 1 rfl rfl rfl ?_)
    intro w113 M hK114
    replace hrest := jn hM7 1 (vs := ja) rfl rfl hrest hK114
    refine ⟨(M.sub (cn (cn (cn (cc (List.nil_sublist _)))))), ?_⟩
    have hM7 := M
    refine qf (by kernel_rfl) (jd (us := (zj (qs (im % 10)) s1 sk1 s2 sk2 s3 sk3 s4 sk4)) (L' := (.obj g107 (.cells (zj (qs (im % 10)) s1 sk1 s2 sk2 s3 sk3 s4 sk4).toArray 35) :: .obj g91 (.cells (zj (qs (im / 10)) y1 yk1 y2 yk2 y3 yk3 y4 yk4).toArray 35) :: .obj g4 (.cells (qx.d.cells qx.ts.length).toArray 38) :: .obj g2 (.cells (t.d.cells t.ts.length).toArray 38) :: [])) A M 11 rfl rfl rfl (ze rfl rfl rfl (by kernel_rfl) M 0 rfl rfl rfl) 0 rfl rfl rfl ?_)
    intro w115 M hK116
    replace hrest := jn hM7 0 (vs := ja) rfl rfl hrest hK116
    refine ⟨(M.sub (cn (cn (cn (cc (List.nil_sublist _)))))), ?_⟩
    refine qe A 12 rfl rfl rfl rfl hP (M.sub (cn (cn (cn (cc (List.nil_sublist _)))))) (fun w1 M => zh rfl) λa A↦?_
    refine qy (by kernel_rfl) ?_
    replace M := M.b3
    replace M := M.b3
    replace M := M.b2
    replace M := M.sub (cc (cc (cc (cn (.refl _)))))
    exact hJ10 _ _ ⟨s1, sk1, s2, sk2, s3, sk3, s4, sk4, hrest, g107, A.keep _ (by repeat' constructor), M⟩
  ·
   refine xr (vs := ja) (t := 35) A M 9 rfl rfl rfl rfl pg (qi (z := .agg ja.toArray) (by kernel_rfl) rfl) (by decide) ?_
   intro g117 w118 M hg119 hb120
   refine ⟨(M.sub (cn (cn (cn (cc (List.nil_sublist _)))))), ?_⟩
   intro a A
   refine qf (by kernel_rfl) (qm A 2 rfl rfl rfl rfl (qg rfl rfl (fun w => by kernel_rfl)) (yu (by decide) (by decide)) ?_)
   rintro _ w122 ⟨x1, xk1, x2, xk2, x3, xk3, x4, xk4, rfl, hten, hb121⟩
   replace M := M.call hb121
   refine ⟨_, rfl, (M.sub (cn (cn (cn (cc (List.nil_sublist _)))))), ?_⟩
   intro a A
   refine qf (by kernel_rfl) (qm A 3 rfl rfl rfl rfl (qg rfl rfl (fun w => by kernel_rfl)) (kn hm9 hq9 (Nu.below hnm M.bel) hten) ?_)
   rintro _ w124 ⟨y1, yk1, y2, yk2, y3, yk3, y4, yk4, s1, sk1, s2, sk2, s3, sk3, s4, sk4, he7, hquo, hrest, hb123⟩
   simp only at hrest
   subst he7
   replace M := M.call hb123
   refine ⟨_, rfl, (M.sub (cn (cn (cn (cc (List.nil_sublist _)))))), ?_⟩
   intro a A
   refine qe A 4 rfl rfl rfl rfl hP (M.sub (cn (cn (cn (cc (List.nil_sublist _)))))) (fun w1 M => qz rfl) λa A↦?_
   refine qe (v := .agg (zj (qs (im / 10)) y1 yk1 y2 yk2 y3 yk3 y4 yk4).toArray) A 5 rfl rfl rfl rfl hP (M.sub (cn (cn (cn (cc (List.nil_sublist _)))))) (fun w1 M => qh (vs := [.agg (zj (qs (im / 10)) y1 yk1 y2 yk2 y3 yk3 y4 yk4).toArray, .agg (zj (qs (im % 10)) s1 sk1 s2 sk2 s3 sk3 s4 sk4).toArray, .int .i64 0]) rfl rfl) λa A↦?_
   refine qe (v := .agg (zj (qs (im % 10)) s1 sk1 s2 sk2 s3 sk3 s4 sk4).toArray) A 6 rfl rfl rfl rfl hP (M.sub (cn (cn (cn (cc (List.nil_sublist _)))))) (fun w1 M => qh (vs := [.agg (zj (qs (im / 10)) y1 yk1 y2 yk2 y3 yk3 y4 yk4).toArray, .agg (zj (qs (im % 10)) s1 sk1 s2 sk2 s3 sk3 s4 sk4).toArray, .int .i64 0]) rfl rfl) λa A↦?_
   refine qe (v := .int .i64 0) A 7 rfl rfl rfl rfl hP (M.sub (cn (cn (cn (cc (List.nil_sublist _)))))) (fun w1 M => qh (vs := [.agg (zj (qs (im / 10)) y1 yk1 y2 yk2 y3 yk3 y4 yk4).toArray, .agg (zj (qs (im % 10)) s1 sk1 s2 sk2 s3 sk3 s4 sk4).toArray, .int .i64 0]) rfl rfl) λa A↦?_
   have hM7 := M
   refine qf (by kernel_rfl) (jd (us := (zj (qs (im / 10)) y1 yk1 y2 yk2 y3 yk3 y4 yk4)) (L' := (.obj g117 (.cells ja.toArray 35) :: .obj g91 (.cells (zj (qs (im / 10)) y1 yk1 y2 yk2 y3 yk3 y4 yk4).toArray 35) :: .obj g4 (.cells (qx.d.cells qx.ts.length).toArray 38) :: .obj g2 (.cells (t.d.cells t.ts.length).toArray 38) :: [])) A M 10 rfl rfl rfl (ze rfl rfl rfl (by kernel_rfl) M 1 rfl rfl rfl) 1 rfl rfl rfl ?_)
   intro w125 M hK126
   replace hrest := jn hM7 1 (vs := ja) rfl rfl hrest hK126
   refine ⟨(M.sub (cn (cn (cn (cc (List.nil_sublist _)))))), ?_⟩
   have hM7 := M
   refine qf (by kernel_rfl) (jd (us := (zj (qs (im % 10)) s1 sk1 s2 sk2 s3 sk3 s4 sk4)) (L' := (.obj g117 (.cells (zj (qs (im % 10)) s1 sk1 s2 sk2 s3 sk3 s4 sk4).toArray 35) :: .obj g91 (.cells (zj (qs (im / 10)) y1 yk1 y2 yk2 y3 yk3 y4 yk4).toArray 35) :: .obj g4 (.cells (qx.d.cells qx.ts.length).toArray 38) :: .obj g2 (.cells (t.d.cells t.ts.length).toArray 38) :: [])) A M 11 rfl rfl rfl (ze rfl rfl rfl (by kernel_rfl) M 0 rfl rfl rfl) 0 rfl rfl rfl ?_)
   intro w127 M hK128
   replace hrest := jn hM7 0 (vs := ja) rfl rfl hrest hK128
   refine ⟨(M.sub (cn (cn (cn (cc (List.nil_sublist _)))))), ?_⟩
   refine qe A 12 rfl rfl rfl rfl hP (M.sub (cn (cn (cn (cc (List.nil_sublist _)))))) (fun w1 M => zh rfl) λa A↦?_
   refine qy (by kernel_rfl) ?_
   replace M := M.b3
   replace M := M.b3
   replace M := M.b2
   replace M := M.sub (cc (cc (cc (cn (.refl _)))))
   exact hJ10 _ _ ⟨s1, sk1, s2, sk2, s3, sk3, s4, sk4, hrest, g117, A.keep _ (by repeat' constructor), M⟩
 ·
  refine xr (vs := ja) (t := 35) A M 9 rfl rfl rfl rfl pg (qi (z := .agg ja.toArray) (by kernel_rfl) rfl) (by decide) ?_
  intro g129 w130 M hg131 hb132
  refine ⟨(M.sub (cn (cn (cc (List.nil_sublist _))))), ?_⟩
  intro a A
  refine zk (rs := [2, 8]) (by kernel_rfl) (by simp) ⟨?_, ?_, trivial⟩
  ·
   refine qm A 2 rfl rfl rfl rfl (qg rfl rfl (fun w => by kernel_rfl)) (yu (by decide) (by decide)) ?_
   rintro _ w134 ⟨x1, xk1, x2, xk2, x3, xk3, x4, xk4, rfl, hten, hb133⟩
   replace M := M.call hb133
   refine ⟨_, rfl, (M.sub (cn (cn (cc (List.nil_sublist _))))), ?_⟩
   intro a A
   refine zk (rs := [3, 8]) (by kernel_rfl) (by simp) ⟨?_, ?_, trivial⟩
   ·
    refine qm A 3 rfl rfl rfl rfl (qg rfl rfl (fun w => by kernel_rfl)) (kn hm9 hq9 (Nu.below hnm M.bel) hten) ?_
    rintro _ w136 ⟨y1, yk1, y2, yk2, y3, yk3, y4, yk4, s1, sk1, s2, sk2, s3, sk3, s4, sk4, he7, hquo, hrest, hb135⟩
    simp only at hrest
    subst he7
    replace M := M.call hb135
    refine ⟨_, rfl, (M.sub (cn (cn (cc (List.nil_sublist _))))), ?_⟩
    intro a A
    refine qe A 4 rfl rfl rfl rfl hP (M.sub (cn (cn (cc (List.nil_sublist _))))) (fun w1 M => qz rfl) λa A↦?_
    refine qe (v := .agg (zj (qs (im / 10)) y1 yk1 y2 yk2 y3 yk3 y4 yk4).toArray) A 5 rfl rfl rfl rfl hP (M.sub (cn (cn (cc (List.nil_sublist _))))) (fun w1 M => qh (vs := [.agg (zj (qs (im / 10)) y1 yk1 y2 yk2 y3 yk3 y4 yk4).toArray, .agg (zj (qs (im % 10)) s1 sk1 s2 sk2 s3 sk3 s4 sk4).toArray, .int .i64 0]) rfl rfl) λa A↦?_
    refine qe (v := .agg (zj (qs (im % 10)) s1 sk1 s2 sk2 s3 sk3 s4 sk4).toArray) A 6 rfl rfl rfl rfl hP (M.sub (cn (cn (cc (List.nil_sublist _))))) (fun w1 M => qh (vs := [.agg (zj (qs (im / 10)) y1 yk1 y2 yk2 y3 yk3 y4 yk4).toArray, .agg (zj (qs (im % 10)) s1 sk1 s2 sk2 s3 sk3 s4 sk4).toArray, .int .i64 0]) rfl rfl) λa A↦?_
    refine qe (v := .int .i64 0) A 7 rfl rfl rfl rfl hP (M.sub (cn (cn (cc (List.nil_sublist _))))) (fun w1 M => qh (vs := [.agg (zj (qs (im / 10)) y1 yk1 y2 yk2 y3 yk3 y4 yk4).toArray, .agg (zj (qs (im % 10)) s1 sk1 s2 sk2 s3 sk3 s4 sk4).toArray, .int .i64 0]) rfl rfl) λa A↦?_
    refine qf (by kernel_rfl) (xr (vs := ja) (t := 35) A M 8 rfl rfl rfl rfl pg (qi (z := .agg ja.toArray) (by kernel_rfl) rfl) (by decide) ?_)
    intro g137 w138 M hg139 hb140
    replace hrest := jz hrest hb140
    refine ⟨(M.sub (cn (cn (cn (cc (List.nil_sublist _)))))), ?_⟩
    intro a A
    have hM7 := M
    refine qf (by kernel_rfl) (jd (us := (zj (qs (im / 10)) y1 yk1 y2 yk2 y3 yk3 y4 yk4)) (L' := (.obj g137 (.cells (zj (qs (im / 10)) y1 yk1 y2 yk2 y3 yk3 y4 yk4).toArray 35) :: .obj g129 (.cells ja.toArray 35) :: .obj g4 (.cells (qx.d.cells qx.ts.length).toArray 38) :: .obj g2 (.cells (t.d.cells t.ts.length).toArray 38) :: [])) A M 10 rfl rfl rfl (ze rfl rfl rfl (by kernel_rfl) M 0 rfl rfl rfl) 0 rfl rfl rfl ?_)
    intro w141 M hK142
    replace hrest := jn hM7 0 (vs := ja) rfl rfl hrest hK142
    refine ⟨(M.sub (cn (cn (cn (cc (List.nil_sublist _)))))), ?_⟩
    have hM7 := M
    refine qf (by kernel_rfl) (jd (us := (zj (qs (im % 10)) s1 sk1 s2 sk2 s3 sk3 s4 sk4)) (L' := (.obj g137 (.cells (zj (qs (im / 10)) y1 yk1 y2 yk2 y3 yk3 y4 yk4).toArray 35) :: .obj g129 (.cells (zj (qs (im % 10)) s1 sk1 s2 sk2 s3 sk3 s4 sk4).toArray 35) :: .obj g4 (.cells (qx.d.cells qx.ts.length).toArray 38) :: .obj g2 (.cells (t.d.cells t.ts.length).toArray 38) :: [])) A M 11 rfl rfl rfl (ze rfl rfl rfl (by kernel_rfl) M 1 rfl rfl rfl) 1 rfl rfl rfl ?_)
    intro w143 M hK144
    replace hrest := jn hM7 1 (vs := ja) rfl rfl hrest hK144
    refine ⟨(M.sub (cn (cn (cn (cc (List.nil_sublist _)))))), ?_⟩
    refine qe A 12 rfl rfl rfl rfl hP (M.sub (cn (cn (cn (cc (List.nil_sublist _)))))) (fun w1 M => zh rfl) λa A↦?_
    refine qy (by kernel_rfl) ?_
    replace M := M.b3
    replace M := M.b3
    replace M := M.b3
    replace M := M.sub (cc (cc (cc (cn (.refl _)))))
    exact hJ10 _ _ ⟨s1, sk1, s2, sk2, s3, sk3, s4, sk4, hrest, g129, A.keep _ (by repeat' constructor), M⟩
   ·
    refine xr (vs := ja) (t := 35) A M 8 rfl rfl rfl rfl pg (qi (z := .agg ja.toArray) (by kernel_rfl) rfl) (by decide) ?_
    intro g145 w146 M hg147 hb148
    replace hten := jz hten hb148
    refine ⟨(M.sub (cn (cn (cn (cc (List.nil_sublist _)))))), ?_⟩
    intro a A
    refine qf (by kernel_rfl) (qm A 3 rfl rfl rfl rfl (qg rfl rfl (fun w => by kernel_rfl)) (kn hm9 hq9 (Nu.below hnm M.bel) hten) ?_)
    rintro _ w150 ⟨y1, yk1, y2, yk2, y3, yk3, y4, yk4, s1, sk1, s2, sk2, s3, sk3, s4, sk4, he7, hquo, hrest, hb149⟩
    simp only at hrest
    subst he7
    replace M := M.call hb149
    refine ⟨_, rfl, (M.sub (cn (cn (cn (cc (List.nil_sublist _)))))), ?_⟩
    intro a A
    refine qe A 4 rfl rfl rfl rfl hP (M.sub (cn (cn (cn (cc (List.nil_sublist _)))))) (fun w1 M => qz rfl) λa A↦?_
    refine qe (v := .agg (zj (qs (im / 10)) y1 yk1 y2 yk2 y3 yk3 y4 yk4).toArray) A 5 rfl rfl rfl rfl hP (M.sub (cn (cn (cn (cc (List.nil_sublist _)))))) (fun w1 M => qh (vs := [.agg (zj (qs (im / 10)) y1 yk1 y2 yk2 y3 yk3 y4 yk4).toArray, .agg (zj (qs (im % 10)) s1 sk1 s2 sk2 s3 sk3 s4 sk4).toArray, .int .i64 0]) rfl rfl) λa A↦?_
    refine qe (v := .agg (zj (qs (im % 10)) s1 sk1 s2 sk2 s3 sk3 s4 sk4).toArray) A 6 rfl rfl rfl rfl hP (M.sub (cn (cn (cn (cc (List.nil_sublist _)))))) (fun w1 M => qh (vs := [.agg (zj (qs (im / 10)) y1 yk1 y2 yk2 y3 yk3 y4 yk4).toArray, .agg (zj (qs (im % 10)) s1 sk1 s2 sk2 s3 sk3 s4 sk4).toArray, .int .i64 0]) rfl rfl) λa A↦?_
    refine qe (v := .int .i64 0) A 7 rfl rfl rfl rfl hP (M.sub (cn (cn (cn (cc (List.nil_sublist _)))))) (fun w1 M => qh (vs := [.agg (zj (qs (im / 10)) y1 yk1 y2 yk2 y3 yk3 y4 yk4).toArray, .agg (zj (qs (im % 10)) s1 sk1 s2 sk2 s3 sk3 s4 sk4).toArray, .int .i64 0]) rfl rfl) λa A↦?_
    have hM7 := M
    refine qf (by kernel_rfl) (jd (us := (zj (qs (im / 10)) y1 yk1 y2 yk2 y3 yk3 y4 yk4)) (L' := (.obj g145 (.cells (zj (qs (im / 10)) y1 yk1 y2 yk2 y3 yk3 y4 yk4).toArray 35) :: .obj g129 (.cells ja.toArray 35) :: .obj g4 (.cells (qx.d.cells qx.ts.length).toArray 38) :: .obj g2 (.cells (t.d.cells t.ts.length).toArray 38) :: [])) A M 10 rfl rfl rfl (ze rfl rfl rfl (by kernel_rfl) M 0 rfl rfl rfl) 0 rfl rfl rfl ?_)
    intro w151 M hK152
    replace hrest := jn hM7 0 (vs := ja) rfl rfl hrest hK152
    refine ⟨(M.sub (cn (cn (cn (cc (List.nil_sublist _)))))), ?_⟩
    have hM7 := M
    refine qf (by kernel_rfl) (jd (us := (zj (qs (im % 10)) s1 sk1 s2 sk2 s3 sk3 s4 sk4)) (L' := (.obj g145 (.cells (zj (qs (im / 10)) y1 yk1 y2 yk2 y3 yk3 y4 yk4).toArray 35) :: .obj g129 (.cells (zj (qs (im % 10)) s1 sk1 s2 sk2 s3 sk3 s4 sk4).toArray 35) :: .obj g4 (.cells (qx.d.cells qx.ts.length).toArray 38) :: .obj g2 (.cells (t.d.cells t.ts.length).toArray 38) :: [])) A M 11 rfl rfl rfl (ze rfl rfl rfl (by kernel_rfl) M 1 rfl rfl rfl) 1 rfl rfl rfl ?_)
    intro w153 M hK154
    replace hrest := jn hM7 1 (vs := ja) rfl rfl hrest hK154
    refine ⟨(M.sub (cn (cn (cn (cc (List.nil_sublist _)))))), ?_⟩
    refine qe A 12 rfl rfl rfl rfl hP (M.sub (cn (cn (cn (cc (List.nil_sublist _)))))) (fun w1 M => zh rfl) λa A↦?_
    refine qy (by kernel_rfl) ?_
    replace M := M.b3
    replace M := M.b3
    replace M := M.b3
    replace M := M.sub (cc (cc (cc (cn (.refl _)))))
    exact hJ10 _ _ ⟨s1, sk1, s2, sk2, s3, sk3, s4, sk4, hrest, g129, A.keep _ (by repeat' constructor), M⟩
  ·
   refine xr (vs := ja) (t := 35) A M 8 rfl rfl rfl rfl pg (qi (z := .agg ja.toArray) (by kernel_rfl) rfl) (by decide) ?_
   intro g155 w156 M hg157 hb158
   refine ⟨(M.sub (cn (cn (cn (cc (List.nil_sublist _)))))), ?_⟩
   intro a A
   refine qf (by kernel_rfl) (qm A 2 rfl rfl rfl rfl (qg rfl rfl (fun w => by kernel_rfl)) (yu (by decide) (by decide)) ?_)
   rintro _ w160 ⟨x1, xk1, x2, xk2, x3, xk3, x4, xk4, rfl, hten, hb159⟩
   replace M := M.call hb159
   refine ⟨_, rfl, (M.sub (cn (cn (cn (cc (List.nil_sublist _)))))), ?_⟩
   intro a A
   refine qf (by kernel_rfl) (qm A 3 rfl rfl rfl rfl (qg rfl rfl (fun w => by kernel_rfl)) (kn hm9 hq9 (Nu.below hnm M.bel) hten) ?_)
   rintro _ w162 ⟨y1, yk1, y2, yk2, y3, yk3, y4, yk4, s1, sk1, s2, sk2, s3, sk3, s4, sk4, he7, hquo, hrest, hb161⟩
   simp only at hrest
   subst he7
   replace M := M.call hb161
   refine ⟨_, rfl, (M.sub (cn (cn (cn (cc (List.nil_sublist _)))))), ?_⟩
   intro a A
   refine qe A 4 rfl rfl rfl rfl hP (M.sub (cn (cn (cn (cc (List.nil_sublist _)))))) (fun w1 M => qz rfl) λa A↦?_
   refine qe (v := .agg (zj (qs (im / 10)) y1 yk1 y2 yk2 y3 yk3 y4 yk4).toArray) A 5 rfl rfl rfl rfl hP (M.sub (cn (cn (cn (cc (List.nil_sublist _)))))) (fun w1 M => qh (vs := [.agg (zj (qs (im / 10)) y1 yk1 y2 yk2 y3 yk3 y4 yk4).toArray, .agg (zj (qs (im % 10)) s1 sk1 s2 sk2 s3 sk3 s4 sk4).toArray, .int .i64 0]) rfl rfl) λa A↦?_
   refine qe (v := .agg (zj (qs (im % 10)) s1 sk1 s2 sk2 s3 sk3 s4 sk4).toArray) A 6 rfl rfl rfl rfl hP (M.sub (cn (cn (cn (cc (List.nil_sublist _)))))) (fun w1 M => qh (vs := [.agg (zj (qs (im / 10)) y1 yk1 y2 yk2 y3 yk3 y4 yk4).toArray, .agg (zj (qs (im % 10)) s1 sk1 s2 sk2 s3 sk3 s4 sk4).toArray, .int .i64 0]) rfl rfl) λa A↦?_
   refine qe (v := .int .i64 0) A 7 rfl rfl rfl rfl hP (M.sub (cn (cn (cn (cc (List.nil_sublist _)))))) (fun w1 M => qh (vs := [.agg (zj (qs (im / 10)) y1 yk1 y2 yk2 y3 yk3 y4 yk4).toArray, .agg (zj (qs (im % 10)) s1 sk1 s2 sk2 s3 sk3 s4 sk4).toArray, .int .i64 0]) rfl rfl) λa A↦?_
   have hM7 := M
   refine qf (by kernel_rfl) (jd (us := (zj (qs (im / 10)) y1 yk1 y2 yk2 y3 yk3 y4 yk4)) (L' := (.obj g155 (.cells (zj (qs (im / 10)) y1 yk1 y2 yk2 y3 yk3 y4 yk4).toArray 35) :: .obj g129 (.cells ja.toArray 35) :: .obj g4 (.cells (qx.d.cells qx.ts.length).toArray 38) :: .obj g2 (.cells (t.d.cells t.ts.length).toArray 38) :: [])) A M 10 rfl rfl rfl (ze rfl rfl rfl (by kernel_rfl) M 0 rfl rfl rfl) 0 rfl rfl rfl ?_)
   intro w163 M hK164
   replace hrest := jn hM7 0 (vs := ja) rfl rfl hrest hK164
   refine ⟨(M.sub (cn (cn (cn (cc (List.nil_sublist _)))))), ?_⟩
   have hM7 := M
   refine qf (by kernel_rfl) (jd (us := (zj (qs (im % 10)) s1 sk1 s2 sk2 s3 sk3 s4 sk4)) (L' := (.obj g155 (.cells (zj (qs (im / 10)) y1 yk1 y2 yk2 y3 yk3 y4 yk4).toArray 35) :: .obj g129 (.cells (zj (qs (im % 10)) s1 sk1 s2 sk2 s3 sk3 s4 sk4).toArray 35) :: .obj g4 (.cells (qx.d.cells qx.ts.length).toArray 38) :: .obj g2 (.cells (t.d.cells t.ts.length).toArray 38) :: [])) A M 11 rfl rfl rfl (ze rfl rfl rfl (by kernel_rfl) M 1 rfl rfl rfl) 1 rfl rfl rfl ?_)
   intro w165 M hK166
   replace hrest := jn hM7 1 (vs := ja) rfl rfl hrest hK166
   refine ⟨(M.sub (cn (cn (cn (cc (List.nil_sublist _)))))), ?_⟩
   refine qe A 12 rfl rfl rfl rfl hP (M.sub (cn (cn (cn (cc (List.nil_sublist _)))))) (fun w1 M => zh rfl) λa A↦?_
   refine qy (by kernel_rfl) ?_
   replace M := M.b3
   replace M := M.b3
   replace M := M.b3
   replace M := M.sub (cc (cc (cc (cn (.refl _)))))
   exact hJ10 _ _ ⟨s1, sk1, s2, sk2, s3, sk3, s4, sk4, hrest, g129, A.keep _ (by repeat' constructor), M⟩
theorem zvj {w0 w : World} {L : List Ck} (M : Mg w0 w L) (k : Nat) {g : Nat} {vs : List Value} {ty : TypeId} (hk : L[k]? = some (.obj g (.cells vs.toArray ty))) (hw : vs.all qza = true) {t : Dt} (ht : t.rd w) (h1 : t.d.rl = []) (h2 : t.ts = []) : t.at_ (· ≠ g) := by
 cases t with
 | mk d ts =>
  simp only [Dt.d, Dt.ts] at h1 h2
  subst h2
  rw [Dt.rd_iff] at ht
  rw [Dt.at_iff]
  exact ⟨⟨vb M k hk hw ht.1.num.s1.rd, vb M k hk hw ht.1.num.s2.rd, vb M k hk hw ht.1.num.s3.rd, vb M k hk hw ht.1.num.s4.rd, fun hne => absurd h1 hne⟩, fun hne => absurd rfl hne, fun t ht => by cases ht⟩
theorem zsb {w : World} {t : Dt} (ht : t.rd w) (hk : t.d.k = 3) (hwh : uj t.d.y.q = true) {im : Int} (hm9 : im.natAbs ≤ 4611686018427387904) (hq9 : t.d.y.q = qs im) (hl2 : LenQ (qs (im % 10))) : Calls Tryz.prog 48 #[.int .i64 3, .agg (t.d.cells t.ts.length).toArray] w fun e w' => ∃ m : Dt, e = .returned (.tuple #[.agg (m.d.cells m.ts.length).toArray, .int .i64 0]) ∧ (m.rd w' ∧ m.tr = .mk 3 0 (qs (im % 10)) ⟨#[]⟩ [] [] ∧ (m.d.rl = [] ∧ m.ts = [])) ∧ Below w.heap.size w w' := by
 have M : Mg w w ([]) := Mg.start w
 refine za (l := [(0, .int .i64 3), (1, .agg (t.d.cells t.ts.length).toArray)]) Tryz.func48 rfl Tryz.ntmps48 rfl rfl ?_
 intro Q hret hnorm hP a A
 refine wsk fun K1 hK1 => wrl (jg (vs := (t.d.cells t.ts.length)) (t := 38) A M rfl rfl rfl pg (zb rfl rfl) (by decide) ?_)
 intro g2 w3 M a A
 refine jg (vs := (qx.d.cells qx.ts.length)) (t := 38) A M rfl rfl rfl pg (qi (z := .agg (qx.d.cells qx.ts.length).toArray) (by kernel_rfl) rfl) (by decide) ?_
 intro g4 w5 M a A
 refine sda A λa A↦?_
 refine qa (hK1 _ _ (wsk fun K6 hK6 => wsk fun K7 hK7 => wrl (sdm A λa A↦?_)))
 refine qa (hK7 _ _ (wp_block (wsk fun K8 hK8 => wrl (sdo (v := .bool false) A (qk rfl rfl (fun w => by kernel_rfl)) λa A↦?_))))
 refine sda A λa A↦?_
 refine qa (hK8 _ _ (wp_cond_false (A.ev rfl) ?_))
 refine wsk fun K9 hK9 => wrl (sdo (v := .bool true) A (qk rfl rfl (fun w => by kernel_rfl)) λa A↦?_)
 refine sda A λa A↦?_
 refine qa (hK9 _ _ (wp_cond_true (A.ev rfl) ?_))
 refine wsk fun K10 hK10 => wrl (sdo A (zl M TeG_isS_38 rfl 1 rfl (cs := (t.d.cells t.ts.length)) rfl rfl) λa A↦?_)
 refine sct A (ef rfl rfl) (jaj (Dt.keep M.bel _ ht) hk hwh hm9 hq9 hl2) ?_
 rintro _ w11 ⟨m8, rfl, ⟨hr8, ht8, hz8, hz9⟩, hb8⟩
 replace M := M.call hb8
 refine ⟨_, rfl, ?_⟩
 intro a A
 iterate 2 refine sdo A (qh (vs := [.agg (m8.d.cells m8.ts.length).toArray, .int .i64 0]) rfl rfl) λa A↦?_
 have hn8 := zvj M 0 (vs := (qx.d.cells qx.ts.length)) rfl rfl hr8 hz8 hz9
 refine qcg (us := (m8.d.cells m8.ts.length)) (L' := (.obj g4 (.cells (m8.d.cells m8.ts.length).toArray 38) :: .obj g2 (.cells (t.d.cells t.ts.length).toArray 38) :: [])) A M rfl rfl (ze rfl rfl rfl (by kernel_rfl) M 0 rfl rfl rfl) 0 rfl rfl rfl ?_
 intro w12 M hK13
 replace hr8 := Dt.kept hK13 _ hr8 hn8
 refine sda A λa A↦?_
 refine qa (hK10 _ _ (wp_ret (hret _ _ (en2 A rfl (vq M TeG_isS_38 rfl 0 rfl (cs := [.int .i64 m8.d.k, .int .i64 m8.d.n, .bool m8.d.y.q.b1, .slice m8.d.y.o1 m8.d.y.q.t1.length m8.d.y.c1, .slice m8.d.y.o2 m8.d.y.q.q1.length m8.d.y.c2, .bool m8.d.y.q.b2, .slice m8.d.y.o3 m8.d.y.q.t2.length m8.d.y.c3, .slice m8.d.y.o4 m8.d.y.q.q2.length m8.d.y.c4, .string m8.d.s, .slice m8.d.ro m8.d.rl.length m8.d.rc, .slice m8.d.lo m8.ts.length m8.d.lc]) rfl rfl) (ql rfl) ?_))))
 exact ⟨m8, rfl, ⟨hr8, ht8, hz8, hz9⟩, M.bel⟩
theorem zeh : Marks 3 mk3 ok3 := ⟨rfl, fun {w t} ht hb hs => by
  obtain ⟨m, hm, he⟩ := zzi hs
  have hk : t.d.k = 3 := by rw [← zyc, he]; rfl
  have hq : t.d.y.q = qs m := by
   have := congrArg Tr.q he
   rw [Dt.tr_eta] at this; exact this
  have hwh : uj t.d.y.q = true := by
   rw [hq]; unfold qs
   refine qtj (qid (by omega)) ?_
   by_cases k : m < 0
   ·
    rw [decide_eq_true k]; show 1 ≤ _; omega
   ·
    rw [decide_eq_false k]; exact Nat.zero_le _
  refine (zsb ht hk hwh hm hq (qie (by omega))).mono ?_
  rintro e w' ⟨m9, h1, ⟨h2, h3, h4⟩, h5⟩
  exact ⟨m9, h1, ⟨h2, by rw [h3, he, km hm]; rfl, .inr (.inr h4)⟩, h5⟩⟩
end Go.Proofs.YtjlpecapebhgjaaGreatDoor.G
namespace Go.Proofs.YtjlpecapebhgjaaGreatDoor.C
open Go.RowKit
set_option linter.unusedSimpArgs false
set_option linter.unusedVariables false

theorem yw (r : Int) (h0 : 0 ≤ r) (h1 : r < 55296) : ValidR r := ⟨h0, by omega, by omega⟩
theorem zla (r : Int) (h : ValidR r) : ValidR (upZ r) := by
  have hc := qbb r
  obtain ⟨a, b, c⟩ := h
  unfold upZ
  split
  · exact yw _ (by omega) (by omega)
  · split
    · exact yw _ (by omega) (by omega)
    · split
      · exact yw _ (by omega) (by omega)
      · exact ⟨by omega, by omega, by omega⟩
theorem zah (r : Int) (h : ValidR r) : ValidR (qbe r) := by
  have hc := qbc r
  obtain ⟨a, b, c⟩ := h
  unfold qbe
  rw [qkd r (by omega) (by omega)]
  unfold SmallAt at hc
  split
  · exact yw _ (by omega) (by omega)
  · exact ⟨by omega, by omega, by omega⟩
theorem zai (r : Int) (h : ValidR r) : ∀ x ∈ qej r, ValidR x := by
  unfold qej
  split
  · intro x hx
    simp at hx
    subst hx
    exact yw _ (by omega) (by omega)
  · intro x hx
    rw [List.mem_singleton.1 hx]
    exact zah _ (zla _ h)
theorem qqg : ∀ l : List Int, (∀ r ∈ l, ValidR r) → Lib.validD (encs l) = true
  | [], _ => rfl
  | r :: l, h => by
    have hr := h r List.mem_cons_self
    have e : encs (r :: l) = Lib.encodeRune r ++ encs l := by simp [encs]
    have hl := encodeRune_len r
    have hne : Lib.encodeRune r ++ encs l ≠ [] := fun k => by
      have h9 := congrArg List.length k
      rw [List.length_append, List.length_nil] at h9
      omega
    rw [e, Lib.validD_step _ hne, decodeL_enc r hr]
    have hno : ¬ (r.toNat = 65533 ∧ (Lib.encodeRune r).length = 1) := by
      rintro ⟨h1, h2⟩
      have h3 : r = 65533 := by have := hr.1; omega
      subst h3
      revert h2
      decide +kernel
    rw [if_neg hno]
    simp only [List.drop_left]
    exact qqg l fun x hx => h x (List.mem_cons_of_mem _ hx)
theorem fold_ok (l : List UInt8) : Lib.validD (fold l) = true := by
  unfold fold
  refine qqg _ fun x hx => ?_
  obtain ⟨r, hr, hx⟩ := List.mem_flatMap.1 hx
  exact zai r (runes_valid l r hr) x hx
end Go.Proofs.YtjlpecapebhgjaaGreatDoor.C
namespace Go.Proofs.YtjlpecapebhgjaaGreatDoor.G
open Go.RowKit
set_option linter.unusedVariables false
set_option linter.unusedSimpArgs false
set_option maxRecDepth 100000
theorem TeH_is1_28 : Is1 Tryz.prog 28 := ⟨⟨_, Tryz.underlying28, rfl⟩, by kernel_rfl⟩
theorem TeH_is1_3 : Is1 Tryz.prog 3 := ⟨⟨_, Tryz.underlying3, rfl⟩, by kernel_rfl⟩
theorem TeH_is1_36 : Is1 Tryz.prog 36 := ⟨⟨_, Tryz.underlying36, rfl⟩, by kernel_rfl⟩
theorem TeH_is1_9 : Is1 Tryz.prog 9 := ⟨⟨_, Tryz.underlying9, rfl⟩, by kernel_rfl⟩
theorem TeH_fld_35_0 : FieldAt Tryz.prog 35 0 0 := ⟨_, _, Tryz.underlying35, rfl, rfl, by kernel_rfl⟩
theorem TeH_fld_35_1 : FieldAt Tryz.prog 35 1 3 := ⟨_, _, Tryz.underlying35, rfl, rfl, by kernel_rfl⟩
theorem TeH_fld_38_0 : FieldAt Tryz.prog 38 0 0 := ⟨_, _, Tryz.underlying38, rfl, rfl, by kernel_rfl⟩
theorem TeH_fld_38_1 : FieldAt Tryz.prog 38 1 1 := ⟨_, _, Tryz.underlying38, rfl, rfl, by kernel_rfl⟩
theorem TeH_fld_38_2 : FieldAt Tryz.prog 38 2 2 := ⟨_, _, Tryz.underlying38, rfl, rfl, by kernel_rfl⟩
theorem TeH_fld_38_3 : FieldAt Tryz.prog 38 3 8 := ⟨_, _, Tryz.underlying38, rfl, rfl, by kernel_rfl⟩
theorem TeH_fld_38_4 : FieldAt Tryz.prog 38 4 9 := ⟨_, _, Tryz.underlying38, rfl, rfl, by kernel_rfl⟩
theorem TeH_fld_38_5 : FieldAt Tryz.prog 38 5 10 := ⟨_, _, Tryz.underlying38, rfl, rfl, by kernel_rfl⟩
theorem TeH_isS_33 : IsS Tryz.prog 33 3 := ⟨⟨_, Tryz.underlying33⟩, by kernel_rfl⟩
theorem TeH_isS_38 : IsS Tryz.prog 38 11 := ⟨⟨_, Tryz.underlying38⟩, by kernel_rfl⟩
theorem P_nob {s : TS} (h : xl s.T) (g : Nat) (kind : Int) : xl (s.P g kind) := fun c hc b bs e => by
 rcases List.mem_cons.1 hc with k | k
 ·
  rw [k] at e; cases e
 ·
  rcases List.mem_cons.1 k with k | k
  ·
   rw [k] at e; cases e
  ·
   rcases List.mem_append.1 k with k | k
   ·
    exact zae _ c k b bs e
   ·
    exact h c k b bs e
theorem qdb (m g : Nat) (kind : Int) : xl ((TS.zero m).P g kind) := P_nob (fun c hc => by cases hc) g kind
theorem qad (s : ByteArray) : zx zq (qab s) = okS s := by
 unfold zx qab
 cases h : okS s <;> simp [xe, qbg, qbh, qij, zq, jt, vt, qcd, Q6.zero, h]
theorem qkg (s : ByteArray) : zx zq (qab (vw s)) = true := (qad _).trans (C.fold_ok _)
theorem qee {w : World} (s : ByteArray) (hs : s.size ≤ 35184372088832) : Calls Tryz.prog 23 #[.string s] w fun e w' => e = .returned (.string (vw s)) ∧ Below w.heap.size w w' := C.fold_any s w hs
theorem ve (s : ByteArray) : qqa (zi s).tr = qab (vw s) := by rw [xk]; rfl
theorem zsc {s t : ByteArray} (h : qab s = qab t) : s = t := by unfold qab at h; injection h
theorem qef (s : ByteArray) : (zi s).tr.bulk = s.size + 1 ∨ (zi s).tr.bulk ≤ s.size + 20 := by
 rw [xk]; unfold qab; rw [yj]; right
 simp only [Tr.bulks]
 show _ ≤ _
 simp [Q6.zero]
theorem qeg {n : Int} (h : n.natAbs ≤ 18446744073709551616) (o1 o2 o3 o4 : Option Addr) (c1 c2 c3 c4 : Nat) : (jp (qs n) o1 c1 o2 c2 o3 c3 o4 c4).tr.bulk ≤ 4000000 := by
 rw [qna, yj]
 have h1 := qid h
 have h2 : (ByteArray.mk #[]).size = 0 := rfl
 simp only [Tr.bulks, qs, Q6.whole, List.length_cons, List.length_nil, h2]
 show _ ≤ _
 omega
theorem zwa {w0 w : World} {c1 c2 : Ck} {m g : Nat} {kind : Int} (M : Mg w0 w (c1 :: c2 :: (TS.zero m).P g kind)) (h1 : qac w c1) (h2 : qac w c2) : ∀ d ∈ c1 :: c2 :: (TS.zero m).P g kind, qac w d := fun d hd => by
 rcases List.mem_cons.1 hd with k | k
 ·
  rw [k]; exact h1
 ·
  rcases List.mem_cons.1 k with k | k
  ·
   rw [k]; exact h2
  ·
   rcases List.mem_cons.1 k with k | k
   ·
    rw [k]; exact yv M 2 (vs := [.int .i64 kind, .map (some m), .int .i64 ((0 : Nat) : Int), .int .i64 ((0 : Nat) : Int)]) rfl rfl
   ·
    rcases List.mem_cons.1 k with k | k
    ·
     rw [k]; exact qwh M 3 (es := []) (ck := 0) rfl
    ·
     cases k
theorem jba (m : Int) : -9 ≤ m.tmod 10 ∧ m.tmod 10 ≤ 9 ∧ (m.tmod 10 + 10).tmod 10 = m % 10 := by
 by_cases h : 0 ≤ m
 ·
  rw [Int.tmod_eq_emod_of_nonneg h, Int.tmod_eq_emod_of_nonneg (by omega)]; omega
 ·
  have e : m.tmod 10 = -((-m) % 10) := by rw [← Int.tmod_eq_emod_of_nonneg (show 0 ≤ -m by omega), Int.neg_tmod, Int.neg_neg]
  rw [e, Int.tmod_eq_emod_of_nonneg (by omega)]; omega
theorem ug {P : Program} {k : IntKind} {t : TypeId} {x y : Operand} {a b z : Int} (hb : b ≠ 0) (h : a.tmod b = z) : ∀ w, (do eqGuard .rem t x y (.int k a) (.int k b); binOp .rem t (.int k a) (.int k b) : Sem Value).run P w = .ok (.int k z) w := fun w => by simp [go_sem, hb, h]
theorem qlh {w : World} {s : ByteArray} (hs : s.size ≤ 4000000) : Calls Tryz.prog 64 #[.agg ((zi s).d.cells (zi s).ts.length).toArray] w fun e w' => e = .returned (.bool (okS s)) ∧ Below w.heap.size w w' := by
 have M : Mg w w ([]) := Mg.start w
 refine za (l := [(0, .agg ((zi s).d.cells (zi s).ts.length).toArray)]) Tryz.func64 rfl Tryz.ntmps64 rfl rfl ?_
 intro Q hret hnorm hP a A
 refine wsk fun K1 hK1 => wrl (jg (vs := ((zi s).d.cells (zi s).ts.length)) (t := 38) A M rfl rfl rfl pg (zb rfl rfl) (by decide) ?_)
 intro g2 w3 M a A
 refine sda A λa A↦?_
 refine qa (hK1 _ _ (wsk fun K4 hK4 => wsk fun K5 hK5 => wrl (sdo (v := .pointer (some ⟨g2, 0, none⟩)) A (qb TeH_fld_38_0 rfl rfl) λa A↦?_)))
 refine sdo A (qr M TeH_is1_3 rfl 0 rfl rfl) λa A↦?_
 refine sdo (v := .bool false) A (qk rfl rfl (fun w => (zu w).trans (by rw [show (decide ((zi s).d.k < 1)) = false from (by rfl)]))) λa A↦?_
 refine sdm A λa A↦?_
 refine sdo (v := .pointer (some ⟨g2, 0, none⟩)) A (qb TeH_fld_38_0 rfl rfl) λa A↦?_
 refine sdo A (qr M TeH_is1_3 rfl 0 rfl rfl) λa A↦?_
 refine sdo (v := .bool false) A (qk rfl rfl (fun w => (xu w).trans (by rw [show (decide (11 < (zi s).d.k)) = false from (by rfl)]))) λa A↦?_
 refine sdk (v := .bool false) A λa A↦?_
 refine sdm A λa A↦?_
 refine sdo (v := .pointer (some ⟨g2, 8, none⟩)) A (qb TeH_fld_38_3 rfl rfl) λa A↦?_
 refine sdo A (qr M TeH_is1_9 rfl 0 rfl rfl) λa A↦?_
 rcases tf (okS s) with hb6 | hb6
 ·
  refine gcl A M (ef rfl rfl) (qpd hs hb6) fun w8 hb7 M a A => ?_
  refine sdo (v := .bool false) A (zw rfl ji) λa A↦?_
  refine sdk (v := .bool false) A λa A↦?_
  refine qa (hK5 _ _ (wp_cond_false (A.ev rfl) ?_))
  refine wp_skip (hK4 _ _ (wsk fun K9 hK9 => wsk fun K10 hK10 => wrl (sdo (v := .pointer (some ⟨g2, 0, none⟩)) A (qb TeH_fld_38_0 rfl rfl) λa A↦?_)))
  refine sdo A (qr M TeH_is1_3 rfl 0 rfl rfl) λa A↦?_
  refine sdo (v := .bool false) A (qk rfl rfl (fun w => (qp w).trans (by rw [show (((zi s).d.k == 3)) = false from (by rfl)]))) λa A↦?_
  refine qa (hK10 _ _ (wp_cond_false (A.ev rfl) ?_))
  refine wsk fun K11 hK11 => wrl (sdo (v := .pointer (some ⟨g2, 2, none⟩)) A (qb TeH_fld_38_2 rfl rfl) λa A↦?_)
  refine sdo (v := .pointer (some ⟨g2, 2, none⟩)) A (qb TeH_fld_35_0 rfl rfl) λa A↦?_
  refine sdo A (zl M TeH_isS_33 rfl 0 rfl (cs := [.bool ((zi s).d.y.q.b1), .slice ((zi s).d.y.o1) ((zi s).d.y.q.t1.length) ((zi s).d.y.c1), .slice ((zi s).d.y.o2) ((zi s).d.y.q.q1.length) ((zi s).d.y.c2)]) rfl rfl) λa A↦?_
  refine gcl A M (ef rfl rfl) (qsf (m1 := 0) (m2 := 0) (b := false) (by decide) (by decide) rfl) fun w13 hb12 M a A => ?_
  refine sdo (v := .bool false) A (zw rfl ji) λa A↦?_
  refine sdm A λa A↦?_
  refine sdo (v := .pointer (some ⟨g2, 2, none⟩)) A (qb TeH_fld_38_2 rfl rfl) λa A↦?_
  refine sdo (v := .pointer (some ⟨g2, 5, none⟩)) A (qb TeH_fld_35_1 rfl rfl) λa A↦?_
  refine sdo A (zl M TeH_isS_33 rfl 0 rfl (cs := [.bool ((zi s).d.y.q.b2), .slice ((zi s).d.y.o3) ((zi s).d.y.q.t2.length) ((zi s).d.y.c3), .slice ((zi s).d.y.o4) ((zi s).d.y.q.q2.length) ((zi s).d.y.c4)]) rfl rfl) λa A↦?_
  refine gcl A M (ef rfl rfl) (qsf (m1 := 0) (m2 := 0) (b := false) (by decide) (by decide) rfl) fun w15 hb14 M a A => ?_
  refine sdo (v := .bool false) A (zw rfl ji) λa A↦?_
  refine sdk (v := .bool false) A λa A↦?_
  refine qa (hK11 _ _ (wp_cond_false (A.ev rfl) ?_))
  refine wp_skip (hK9 _ _ (wsk fun K16 hK16 => ?_))
  have hJ17 : ∀ a w1, (Sl a 100 [(0, .agg ((zi s).d.cells (zi s).ts.length).toArray), (1, .pointer (some ⟨g2, 0, none⟩)), (3, .pointer (some ⟨g2, 0, none⟩)), (4, .int .i64 ((zi s).d.k)), (5, .bool false), (6, .bool false), (7, .pointer (some ⟨g2, 0, none⟩)), (8, .int .i64 ((zi s).d.k)), (9, .bool false), (10, .bool false), (11, .bool false), (12, .pointer (some ⟨g2, 8, none⟩)), (13, .string ((zi s).d.s)), (14, .bool true), (15, .bool false), (16, .bool false), (17, .pointer (some ⟨g2, 0, none⟩)), (18, .int .i64 ((zi s).d.k)), (19, .bool false), (24, .pointer (some ⟨g2, 2, none⟩)), (25, .pointer (some ⟨g2, 2, none⟩)), (26, .agg #[.bool ((zi s).d.y.q.b1), .slice ((zi s).d.y.o1) ((zi s).d.y.q.t1.length) ((zi s).d.y.c1), .slice ((zi s).d.y.o2) ((zi s).d.y.q.q1.length) ((zi s).d.y.c2)]), (27, .bool true), (28, .bool false), (29, .bool false), (30, .pointer (some ⟨g2, 2, none⟩)), (31, .pointer (some ⟨g2, 5, none⟩)), (32, .agg #[.bool ((zi s).d.y.q.b2), .slice ((zi s).d.y.o3) ((zi s).d.y.q.t2.length) ((zi s).d.y.c3), .slice ((zi s).d.y.o4) ((zi s).d.y.q.q2.length) ((zi s).d.y.c4)]), (33, .bool true), (34, .bool false), (35, .bool false)] ∧ Mg w w1 (.obj g2 (.cells ((zi s).d.cells (zi s).ts.length).toArray 38) :: [])) → K16 a w1 := by
   clear A M
   rintro a w18 ⟨A, M⟩
   refine hK16 _ _ (wsk fun K20 hK20 => wsk fun K21 hK21 => wrl (sdo (v := .pointer (some ⟨g2, 9, none⟩)) A (qb TeH_fld_38_4 rfl rfl) λa A↦?_))
   refine sdo A (qr M TeH_is1_36 rfl 0 rfl rfl) λa A↦?_
   refine sdo A (zp Tryz.underlying36 rfl) λa A↦?_
   refine sdo (v := .bool false) A (qk rfl rfl (fun w => (xu w).trans (by rw [show (decide (0 < (((zi s).d.rl.length : Nat) : Int))) = false from (by rfl)]))) λa A↦?_
   refine sdm A λa A↦?_
   iterate 3 refine zf A rfl rfl rfl λa A↦?_
   refine sdk (v := .bool false) A λa A↦?_
   refine qa (hK21 _ _ (wp_cond_false (A.ev rfl) ?_))
   refine wp_skip (hK20 _ _ (wsk fun K22 hK22 => wsk fun K23 hK23 => wrl (sdo (v := .pointer (some ⟨g2, 0, none⟩)) A (qb TeH_fld_38_0 rfl rfl) λa A↦?_)))
   refine sdo A (qr M TeH_is1_3 rfl 0 rfl rfl) λa A↦?_
   refine qa (hK23 _ _ (wp_block (wsk fun K24 hK24 => wrl (sdo (v := .bool false) A (qk rfl rfl (fun w => (qp w).trans (by rw [show (((zi s).d.k == 2)) = false from (by rfl)]))) λa A↦?_))))
   refine sda A λa A↦?_
   refine qa (hK24 _ _ (wp_cond_false (A.ev rfl) ?_))
   refine wsk fun K25 hK25 => wrl (sdo (v := .bool false) A (qk rfl rfl (fun w => (qp w).trans (by rw [show (((zi s).d.k == 4)) = false from (by rfl)]))) λa A↦?_)
   refine sda A λa A↦?_
   refine qa (hK25 _ _ (wp_cond_false (A.ev rfl) ?_))
   refine wsk fun K26 hK26 => wrl (sdo (v := .pointer (some ⟨g2, 1, none⟩)) A (qb TeH_fld_38_1 rfl rfl) λa A↦?_)
   refine sdo A (qr M TeH_is1_3 rfl 0 rfl rfl) λa A↦?_
   refine sdo (v := .bool false) A (qk rfl rfl (fun w => (jr w).trans (by rw [show (((zi s).d.n != 0)) = false from (by rfl)]))) λa A↦?_
   refine qa (hK26 _ _ (wp_cond_false (A.ev rfl) ?_))
   refine wp_skip (hK22 _ _ (wsk fun K27 hK27 => wsk fun K28 hK28 => wrl (sdo (v := .pointer (some ⟨g2, 0, none⟩)) A (qb TeH_fld_38_0 rfl rfl) λa A↦?_)))
   refine sdo A (qr M TeH_is1_3 rfl 0 rfl rfl) λa A↦?_
   refine sdo (v := .bool false) A (qk rfl rfl (fun w => (qp w).trans (by rw [show (((zi s).d.k == 8)) = false from (by rfl)]))) λa A↦?_
   refine qa (hK28 _ _ (wp_cond_false (A.ev rfl) ?_))
   refine wp_skip (hK27 _ _ (wsk fun K29 hK29 => wrl (sdo (v := .pointer (some ⟨g2, 0, none⟩)) A (qb TeH_fld_38_0 rfl rfl) λa A↦?_)))
   refine sdo A (qr M TeH_is1_3 rfl 0 rfl rfl) λa A↦?_
   refine sdo (v := .bool false) A (qk rfl rfl (fun w => (qp w).trans (by rw [show (((zi s).d.k == 9)) = false from (by rfl)]))) λa A↦?_
   refine sdm A λa A↦?_
   refine sdo (v := .pointer (some ⟨g2, 10, none⟩)) A (qb TeH_fld_38_5 rfl rfl) λa A↦?_
   refine sdo A (qr M TeH_is1_28 rfl 0 rfl rfl) λa A↦?_
   refine sdo A (zp Tryz.underlying28 rfl) λa A↦?_
   refine sdo (v := .bool true) A (qk rfl rfl (fun w => (qp w).trans (by rw [show (((((zi s).ts.length : Nat) : Int) == 0)) = true from (by rfl)]))) λa A↦?_
   refine sdk (v := .bool true) A λa A↦?_
   refine sda A λa A↦?_
   refine qa (hK29 _ _ (wp_ret (hret _ _ (en1 A rfl (ql rfl) ?_))))
   exact ⟨by rw [hb6], M.bel⟩
  refine wsk fun K30 hK30 => wrl (sdo (v := .pointer (some ⟨g2, 8, none⟩)) A (qb TeH_fld_38_3 rfl rfl) λa A↦?_)
  refine sdo A (qr M TeH_is1_9 rfl 0 rfl rfl) λa A↦?_
  rcases tf (decide ((zi s).d.s = ⟨#[]⟩)) with hb31 | hb31
  ·
   have hb31' := of_decide_eq_true hb31
   refine sdo (v := .bool false) A (qk rfl rfl (fun w => (qxd Tryz.underlying9 w).trans (by rw [hb31] <;> rfl))) λa A↦?_
   refine sdm A λa A↦?_
   iterate 3 refine zf A rfl rfl rfl λa A↦?_
   refine sdk (v := .bool false) A λa A↦?_
   refine sdm A λa A↦?_
   iterate 3 refine zf A rfl rfl rfl λa A↦?_
   refine sdk (v := .bool false) A λa A↦?_
   refine sdm A λa A↦?_
   iterate 3 refine zf A rfl rfl rfl λa A↦?_
   refine sdk (v := .bool false) A λa A↦?_
   refine qa (hK30 _ _ (wp_cond_false (A.ev rfl) ?_))
   refine wp_skip ?_
   exact hJ17 _ _ ⟨A.keep _ (by repeat' constructor), M⟩
  ·
   have hb31' := of_decide_eq_false hb31
   refine sdo (v := .bool true) A (qk rfl rfl (fun w => (qxd Tryz.underlying9 w).trans (by rw [hb31] <;> rfl))) λa A↦?_
   refine sdm A λa A↦?_
   refine sdo (v := .pointer (some ⟨g2, 0, none⟩)) A (qb TeH_fld_38_0 rfl rfl) λa A↦?_
   refine sdo A (qr M TeH_is1_3 rfl 0 rfl rfl) λa A↦?_
   refine sdo (v := .bool false) A (qk rfl rfl (fun w => (jr w).trans (by rw [show (((zi s).d.k != 5)) = false from (by rfl)]))) λa A↦?_
   refine sdk (v := .bool false) A λa A↦?_
   refine sdm A λa A↦?_
   iterate 3 refine zf A rfl rfl rfl λa A↦?_
   refine sdk (v := .bool false) A λa A↦?_
   refine sdm A λa A↦?_
   iterate 3 refine zf A rfl rfl rfl λa A↦?_
   refine sdk (v := .bool false) A λa A↦?_
   refine qa (hK30 _ _ (wp_cond_false (A.ev rfl) ?_))
   refine wp_skip ?_
   exact hJ17 _ _ ⟨A.keep _ (by repeat' constructor), M⟩
 ·
  refine gcl A M (ef rfl rfl) (qpd hs hb6) fun w33 hb32 M a A => ?_
  refine sdo (v := .bool true) A (zw rfl ji) λa A↦?_
  refine sdk (v := .bool true) A λa A↦?_
  refine qa (hK5 _ _ (wp_cond_true (A.ev rfl) ?_))
  refine wsk fun K34 hK34 => wrl (sda A λa A↦?_)
  refine qa (hK34 _ _ (wp_ret (hret _ _ (en1 A rfl (ql rfl) ?_))))
  exact ⟨by rw [hb6], M.bel⟩
theorem zaj {w : World} {s : ByteArray} (hs : s.size ≤ 4000000) {b : Bool} (hb : okS s = b) : Calls Tryz.prog 38 #[.agg ((zi s).d.cells (zi s).ts.length).toArray, .int .i64 1, .int .i64 20000] w fun e w' => e = .returned (.int .i64 (if b = true then 19999 else -1)) ∧ Below w.heap.size w w' := by
 have M : Mg w w ([]) := Mg.start w
 refine za (l := [(0, .agg ((zi s).d.cells (zi s).ts.length).toArray), (1, .int .i64 1), (2, .int .i64 20000)]) Tryz.func38 rfl Tryz.ntmps38 rfl rfl ?_
 intro Q hret hnorm hP a A
 refine wsk fun K1 hK1 => wrl (jg (vs := ((zi s).d.cells (zi s).ts.length)) (t := 38) A M rfl rfl rfl pg (zb rfl rfl) (by decide) ?_)
 intro g2 w3 M a A
 refine sda A λa A↦?_
 refine qa (hK1 _ _ (wsk fun K4 hK4 => wsk fun K5 hK5 => wrl (sdm A λa A↦?_)))
 refine sdo (v := .bool false) A (qk rfl rfl (fun w => by kernel_rfl)) λa A↦?_
 iterate 2 refine sdm A λa A↦?_
 refine sdo (v := .bool false) A (qk rfl rfl (fun w => by kernel_rfl)) λa A↦?_
 refine sdk (v := .bool false) A λa A↦?_
 refine sdm A λa A↦?_
 refine sdo A (zl M TeH_isS_38 rfl 0 rfl (cs := ((zi s).d.cells (zi s).ts.length)) rfl rfl) λa A↦?_
 rcases tf (okS s) with hb6 | hb6
 ·
  refine gcl A M (ef rfl rfl) ((hb6 ▸ qlh hs)) fun w8 hb7 M a A => ?_
  refine sdo (v := .bool false) A (zw rfl ji) λa A↦?_
  refine sdk (v := .bool false) A λa A↦?_
  refine qa (hK5 _ _ (wp_cond_false (A.ev rfl) ?_))
  refine wp_skip (hK4 _ _ (wsk fun K9 hK9 => wrl (sdm A λa A↦?_)))
  refine sdo (v := .int .i64 19999) A (qk rfl rfl (fun w => by kernel_rfl)) λa A↦?_
  refine sda A λa A↦?_
  refine qa (hK9 _ _ (wsk fun K10 hK10 => wsk fun K11 hK11 => wrl (sda A λa A↦?_)))
  refine qa (hK11 _ _ (wp_block (wp_loop_rounds 1 ?_)))
  refine kk ?_
  intro K12 hK12
  refine wsk fun K13 hK13 => wsk fun K14 hK14 => wrl (sdm A λa A↦?_)
  refine sdo (v := .pointer (some ⟨g2, 10, none⟩)) A (qb TeH_fld_38_5 rfl rfl) λa A↦?_
  refine sdo A (qr M TeH_is1_28 rfl 0 rfl rfl) λa A↦?_
  refine sdo A (zp Tryz.underlying28 rfl) λa A↦?_
  refine sdo (v := .bool false) A (qk rfl rfl (fun w => by kernel_rfl)) λa A↦?_
  refine sdm A λa A↦?_
  iterate 2 refine zf A rfl rfl rfl λa A↦?_
  refine sdk (v := .bool false) A λa A↦?_
  refine qa (hK14 _ _ (wp_cond_false (A.ev rfl) ?_))
  refine wp_exit (hK10 _ _ (wsk fun K15 hK15 => wrl (sdm A λa A↦?_)))
  refine sda A λa A↦?_
  refine qa (hK15 _ _ (wp_ret (hret _ _ (en1 A rfl (ql rfl) ?_))))
  exact ⟨by rw [← hb, hb6]; rfl, M.bel⟩
 ·
  refine gcl A M (ef rfl rfl) ((hb6 ▸ qlh hs)) fun w17 hb16 M a A => ?_
  refine sdo (v := .bool true) A (zw rfl ji) λa A↦?_
  refine sdk (v := .bool true) A λa A↦?_
  refine qa (hK5 _ _ (wp_cond_true (A.ev rfl) ?_))
  refine wsk fun K18 hK18 => wrl (sda A λa A↦?_)
  refine qa (hK18 _ _ (wp_ret (hret _ _ (en1 A rfl (ql rfl) ?_))))
  exact ⟨by rw [← hb, hb6]; rfl, M.bel⟩
theorem uh {w : World} {s : ByteArray} (hs : s.size ≤ 4000000) : Calls Tryz.prog 22 #[.agg ((zi s).d.cells (zi s).ts.length).toArray] w fun e w' => e = .returned (.bool (okS s)) ∧ Below w.heap.size w w' := by
 have M : Mg w w ([]) := Mg.start w
 refine za (l := [(0, .agg ((zi s).d.cells (zi s).ts.length).toArray)]) Tryz.func22 rfl Tryz.ntmps22 rfl rfl ?_
 intro Q hret hnorm hP a A
 refine wsk fun K1 hK1 => wrl (jg (vs := ((zi s).d.cells (zi s).ts.length)) (t := 38) A M rfl rfl rfl pg (zb rfl rfl) (by decide) ?_)
 intro g2 w3 M a A
 refine sda A λa A↦?_
 refine qa (hK1 _ _ (wsk fun K4 hK4 => wrl (sdo A (zl M TeH_isS_38 rfl 0 rfl (cs := ((zi s).d.cells (zi s).ts.length)) rfl rfl) λa A↦?_)))
 refine gcl A M (ef rfl rfl) (zaj hs rfl) fun w6 hb5 M a A => ?_
 refine sdo (v := .bool (decide (0 ≤ (if okS s = true then 19999 else -1)))) A (qk rfl rfl kl) λa A↦?_
 refine sda A λa A↦?_
 refine qa (hK4 _ _ (wp_ret (hret _ _ (en1 A rfl (ql rfl) ?_))))
 exact ⟨by cases okS s <;> rfl, M.bel⟩
set_option maxHeartbeats 1000000 in
theorem qqh {w : World} {sa sb : ByteArray} {im ik : Int} (hT : Tabs8 w) (hsa : sa.size ≤ 1048576) (hsb : sb.size ≤ 1048576) (h1 : -2147483648 ≤ im) (h2 : im ≤ 2147483647) (h3 : -2147483648 ≤ ik) (h4 : ik ≤ 2147483647) : Calls Tryz.prog 6 #[.string sa, .string sb, .int .i32 im, .int .i32 ik] w fun e w' => e = .returned (.bool true) ∧ Below w.heap.size w w' := by
 obtain ⟨rim, hrim⟩ : ∃ r, im.tmod 10 = r := ⟨_, rfl⟩
 obtain ⟨rik, hrik⟩ : ∃ r, ik.tmod 10 = r := ⟨_, rfl⟩
 have tim := jba im
 have tik := jba ik
 rw [hrim] at tim
 rw [hrik] at tik
 have hmim := tim.2.2
 have hmik := tik.2.2
 have M : Mg w w ([]) := Mg.start w
 refine za (l := [(0, .string sa), (1, .string sb), (2, .int .i32 im), (3, .int .i32 ik)]) Tryz.func6 rfl Tryz.ntmps6 rfl rfl ?_
 intro Q hret hnorm hP a A
 refine wsk fun K1 hK1 => wrl (sda A λa A↦?_)
 refine qa (hK1 _ _ (wsk fun K2 hK2 => wrl (sdm A λa A↦?_)))
 refine sdo (v := .agg ((zi sa).d.cells (zi sa).ts.length).toArray) A (zg rfl (fun w => by kernel_rfl)) λa A↦?_
 refine sdm A λa A↦?_
 refine sdo (v := .agg ((zi sb).d.cells (zi sb).ts.length).toArray) A (zg rfl (fun w => by kernel_rfl)) λa A↦?_
 refine jg (vs := (qx.d.cells qx.ts.length)) (t := 38) A M rfl rfl rfl pg (qi (z := .agg (qx.d.cells qx.ts.length).toArray) (by kernel_rfl) rfl) (by decide) ?_
 intro g3 w4 M a A
 refine jg (vs := (qx.d.cells qx.ts.length)) (t := 38) A M rfl rfl rfl pg (qi (z := .agg (qx.d.cells qx.ts.length).toArray) (by kernel_rfl) rfl) (by decide) ?_
 intro g5 w6 M a A
 refine jc (us := ((zi sa).d.cells (zi sa).ts.length)) (L' := (.obj g5 (.cells (qx.d.cells qx.ts.length).toArray 38) :: .obj g3 (.cells ((zi sa).d.cells (zi sa).ts.length).toArray 38) :: [])) A M rfl rfl (ze rfl rfl rfl (by kernel_rfl) M 1 rfl rfl rfl) 1 rfl rfl rfl ?_
 intro w7 M
 refine jc (us := ((zi sb).d.cells (zi sb).ts.length)) (L' := (.obj g5 (.cells ((zi sb).d.cells (zi sb).ts.length).toArray 38) :: .obj g3 (.cells ((zi sa).d.cells (zi sa).ts.length).toArray 38) :: [])) A M rfl rfl (ze rfl rfl rfl (by kernel_rfl) M 0 rfl rfl rfl) 0 rfl rfl rfl ?_
 intro w8 M
 refine qa (hK2 _ _ (wsk fun K9 hK9 => wrl (sct A (ef rfl rfl) (zef (kind := 2) rfl) ?_)))
 rintro _ w10 ⟨g, m, rfl, hM9⟩
 replace M : Mg w w10 (.obj g5 (.cells ((zi sb).d.cells (zi sb).ts.length).toArray 38) :: .obj g3 (.cells ((zi sa).d.cells (zi sa).ts.length).toArray 38) :: ((TS.zero m).P g 2)) := ((M.both hM9 (qt (by simp) (qt (by simp) (xf xp))) (qdb m g 2)).perm (List.perm_append_comm (l₂ := ([.obj g5 (.cells ((zi sb).d.cells (zi sb).ts.length).toArray 38), .obj g3 (.cells ((zi sa).d.cells (zi sa).ts.length).toArray 38)] : List Ck))))
 refine ⟨_, rfl, ?_⟩
 intro a A
 refine sdm A λa A↦?_
 iterate 2 refine sdo A (qh (vs := [.pointer (some ⟨g, 0, none⟩), .int .i64 0]) rfl rfl) λa A↦?_
 iterate 2 refine sda A λa A↦?_
 refine qa (hK9 _ _ (wsk fun K11 hK11 => wrl (sct A (ef rfl rfl) (zef (kind := 3) rfl) ?_)))
 rintro _ w12 ⟨g2, m2, rfl, hM9⟩
 replace M : Mg w w12 (.obj g5 (.cells ((zi sb).d.cells (zi sb).ts.length).toArray 38) :: .obj g3 (.cells ((zi sa).d.cells (zi sa).ts.length).toArray 38) :: ((TS.zero m2).P g2 3 ++ ((TS.zero m).P g 2))) := ((M.both hM9 (qt (by simp) (qt (by simp) (qdb m g 2))) (qdb m2 g2 3)).perm (List.perm_append_comm_assoc _ ([.obj g5 (.cells ((zi sb).d.cells (zi sb).ts.length).toArray 38), .obj g3 (.cells ((zi sa).d.cells (zi sa).ts.length).toArray 38)] : List Ck) _))
 refine ⟨_, rfl, ?_⟩
 intro a A
 refine sdm A λa A↦?_
 iterate 2 refine sdo A (qh (vs := [.pointer (some ⟨g2, 0, none⟩), .int .i64 0]) rfl rfl) λa A↦?_
 iterate 2 refine sda A λa A↦?_
 refine qa (hK11 _ _ (wsk fun K13 hK13 => wsk fun K14 hK14 => wrl (sct A (ef rfl rfl) (zkj (hT.below M.bel)) ?_)))
 rintro _ w15 ⟨rfl, hba⟩
 replace M := M.call hba
 refine ⟨_, rfl, ?_⟩
 intro a A
 refine sdo (v := .bool false) A (zw rfl ji) λa A↦?_
 iterate 2 refine sdm A λa A↦?_
 refine sdo (v := .bool false) A (qk rfl rfl (fun w => by kernel_rfl)) λa A↦?_
 refine sdk (v := .bool false) A λa A↦?_
 iterate 2 refine sdm A λa A↦?_
 refine sdo (v := .bool false) A (qk rfl rfl (fun w => by kernel_rfl)) λa A↦?_
 refine sdk (v := .bool false) A λa A↦?_
 iterate 2 refine sdm A λa A↦?_
 refine sdo (v := .bool false) A (qk rfl rfl (qia Tryz.underlying24)) λa A↦?_
 refine sdk (v := .bool false) A λa A↦?_
 iterate 2 refine sdm A λa A↦?_
 refine sdo (v := .bool false) A (qk rfl rfl (qia Tryz.underlying24)) λa A↦?_
 refine sdk (v := .bool false) A λa A↦?_
 refine qa (hK14 _ _ (wp_cond_false (A.ev rfl) ?_))
 refine wp_skip (hK13 _ _ (wsk fun K16 hK16 => ?_))
 have hJ17 : ∀ a w1, (Sl a 107 [(0, .string sa), (1, .string sb), (2, .int .i32 im), (3, .int .i32 ik), (9, .pointer (some ⟨g3, 0, none⟩)), (10, .pointer (some ⟨g5, 0, none⟩)), (11, .pointer (some ⟨g, 0, none⟩)), (12, .int .i64 0), (13, .pointer (some ⟨g2, 0, none⟩)), (14, .int .i64 0), (19, .string sa), (20, .agg ((zi sa).d.cells (zi sa).ts.length).toArray), (21, .string sb), (22, .agg ((zi sb).d.cells (zi sb).ts.length).toArray), (23, .tuple #[.pointer (some ⟨g, 0, none⟩), .int .i64 0]), (24, .tuple #[.pointer (some ⟨g, 0, none⟩), .int .i64 0]), (25, .pointer (some ⟨g, 0, none⟩)), (26, .int .i64 0), (27, .tuple #[.pointer (some ⟨g2, 0, none⟩), .int .i64 0]), (28, .tuple #[.pointer (some ⟨g2, 0, none⟩), .int .i64 0]), (29, .pointer (some ⟨g2, 0, none⟩)), (30, .int .i64 0), (31, .bool true), (32, .bool false), (33, .bool false), (34, .int .i64 0), (35, .bool false), (36, .bool false), (37, .bool false), (38, .int .i64 0), (39, .bool false), (40, .bool false), (41, .bool false), (42, .pointer (some ⟨g, 0, none⟩)), (43, .bool false), (44, .bool false), (45, .bool false), (46, .pointer (some ⟨g2, 0, none⟩)), (47, .bool false), (48, .bool false)] ∧ Mg w w1 (((TS.zero m2).P g2 3))) → K16 a w1 := by
  clear A M
  rintro a w18 ⟨A, M⟩
  refine hK16 _ _ (wsk fun K20 hK20 => wrl (sdm A λa A↦?_))
  refine sdo (v := .int .i64 im) A (zr rfl (ar_conv Tryz.underlying21 Tryz.underlying3 (in_i64 (by omega) (by omega)))) λa A↦?_
  refine sct A (ef rfl rfl) (yu (by omega) (by omega)) ?_
  rintro _ w22 ⟨p1, pk1, p2, pk2, p3, pk3, p4, pk4, rfl, hp, hb21⟩
  replace M := M.call hb21
  refine ⟨_, rfl, ?_⟩
  intro a A
  refine sdo (v := .agg ((jp (qs im) p1 pk1 p2 pk2 p3 pk3 p4 pk4).d.cells (jp (qs im) p1 pk1 p2 pk2 p3 pk3 p4 pk4).ts.length).toArray) A (zg rfl (fun w => by kernel_rfl)) λa A↦?_
  refine zcd (vs := (qx.d.cells qx.ts.length)) (t := 38) A M rfl rfl rfl pg (qi (z := .agg (qx.d.cells qx.ts.length).toArray) (by kernel_rfl) rfl) (by decide) ?_
  intro g23 w24 M hg25 hb26 a A
  replace hp := jz hp hb26
  have hM7 := M
  refine qcg (us := ((jp (qs im) p1 pk1 p2 pk2 p3 pk3 p4 pk4).d.cells (jp (qs im) p1 pk1 p2 pk2 p3 pk3 p4 pk4).ts.length)) (L' := (.obj g23 (.cells ((jp (qs im) p1 pk1 p2 pk2 p3 pk3 p4 pk4).d.cells (jp (qs im) p1 pk1 p2 pk2 p3 pk3 p4 pk4).ts.length).toArray 38) :: ((TS.zero m2).P g2 3))) A M rfl rfl (ze rfl rfl rfl (by kernel_rfl) M 0 rfl rfl rfl) 0 rfl rfl rfl ?_
  intro w27 M hK28
  replace hp := jn hM7 0 (vs := (qx.d.cells qx.ts.length)) rfl rfl hp hK28
  refine qa (hK20 _ _ (wsk fun K29 hK29 => wrl (sdm A λa A↦?_)))
  refine sdo (v := .int .i64 ik) A (zr rfl (ar_conv Tryz.underlying21 Tryz.underlying3 (in_i64 (by omega) (by omega)))) λa A↦?_
  refine sct A (ef rfl rfl) (yu (by omega) (by omega)) ?_
  rintro _ w31 ⟨q1, qk1, q2, qk2, q3, qk3, q4, qk4, rfl, hq, hb30⟩
  replace hp := jz hp hb30
  replace M := M.call hb30
  refine ⟨_, rfl, ?_⟩
  intro a A
  refine sdo (v := .agg ((jp (qs ik) q1 qk1 q2 qk2 q3 qk3 q4 qk4).d.cells (jp (qs ik) q1 qk1 q2 qk2 q3 qk3 q4 qk4).ts.length).toArray) A (zg rfl (fun w => by kernel_rfl)) λa A↦?_
  refine zcd (vs := (qx.d.cells qx.ts.length)) (t := 38) A M rfl rfl rfl pg (qi (z := .agg (qx.d.cells qx.ts.length).toArray) (by kernel_rfl) rfl) (by decide) ?_
  intro g32 w33 M hg34 hb35 a A
  replace hp := jz hp hb35
  replace hq := jz hq hb35
  have hM7 := M
  refine qcg (us := ((jp (qs ik) q1 qk1 q2 qk2 q3 qk3 q4 qk4).d.cells (jp (qs ik) q1 qk1 q2 qk2 q3 qk3 q4 qk4).ts.length)) (L' := (.obj g32 (.cells ((jp (qs ik) q1 qk1 q2 qk2 q3 qk3 q4 qk4).d.cells (jp (qs ik) q1 qk1 q2 qk2 q3 qk3 q4 qk4).ts.length).toArray 38) :: .obj g23 (.cells ((jp (qs im) p1 pk1 p2 pk2 p3 pk3 p4 pk4).d.cells (jp (qs im) p1 pk1 p2 pk2 p3 pk3 p4 pk4).ts.length).toArray 38) :: ((TS.zero m2).P g2 3))) A M rfl rfl (ze rfl rfl rfl (by kernel_rfl) M 0 rfl rfl rfl) 0 rfl rfl rfl ?_
  intro w36 M hK37
  replace hp := jn hM7 0 (vs := (qx.d.cells qx.ts.length)) rfl rfl hp hK37
  replace hq := jn hM7 0 (vs := (qx.d.cells qx.ts.length)) rfl rfl hq hK37
  refine qa (hK29 _ _ (wsk fun K38 hK38 => wsk fun K39 hK39 => wrl (sdm A λa A↦?_)))
  refine sdo A (zl M TeH_isS_38 rfl 1 rfl (cs := ((jp (qs im) p1 pk1 p2 pk2 p3 pk3 p4 pk4).d.cells (jp (qs im) p1 pk1 p2 pk2 p3 pk3 p4 pk4).ts.length)) rfl rfl) λa A↦?_
  refine sdo A (zl M TeH_isS_38 rfl 0 rfl (cs := ((jp (qs ik) q1 qk1 q2 qk2 q3 qk3 q4 qk4).d.cells (jp (qs ik) q1 qk1 q2 qk2 q3 qk3 q4 qk4).ts.length)) rfl rfl) λa A↦?_
  have hwl := zwa M (yv M 0 (vs := ((jp (qs ik) q1 qk1 q2 qk2 q3 qk3 q4 qk4).d.cells (jp (qs ik) q1 qk1 q2 qk2 q3 qk3 q4 qk4).ts.length)) rfl rfl) (yv M 1 (vs := ((jp (qs im) p1 pk1 p2 pk2 p3 pk3 p4 pk4).d.cells (jp (qs im) p1 pk1 p2 pk2 p3 pk3 p4 pk4).ts.length)) rfl rfl)
  have hlp := qlf M (qif hp (qie (by omega))) (qtd hwl (qif hp (qie (by omega))) rfl rfl)
  have hlq := qlf M (qif hq (qie (by omega))) (qtd hwl (qif hq (qie (by omega))) rfl rfl)
  replace M := (M.fill (qt (by simp) (qt (by simp) (qdb m2 g2 3)))).perm (List.perm_append_comm_assoc _ ([.obj g32 (.cells ((jp (qs ik) q1 qk1 q2 qk2 q3 qk3 q4 qk4).d.cells (jp (qs ik) q1 qk1 q2 qk2 q3 qk3 q4 qk4).ts.length).toArray 38), .obj g23 (.cells ((jp (qs im) p1 pk1 p2 pk2 p3 pk3 p4 pk4).d.cells (jp (qs im) p1 pk1 p2 pk2 p3 pk3 p4 pk4).ts.length).toArray 38)] : List Ck) _)
  have hnO := zeg (w0 := w) (w := w36) (L := (.obj g32 (.cells ((jp (qs ik) q1 qk1 q2 qk2 q3 qk3 q4 qk4).d.cells (jp (qs ik) q1 qk1 q2 qk2 q3 qk3 q4 qk4).ts.length).toArray 38) :: .obj g23 (.cells ((jp (qs im) p1 pk1 p2 pk2 p3 pk3 p4 pk4).d.cells (jp (qs im) p1 pk1 p2 pk2 p3 pk3 p4 pk4).ts.length).toArray 38) :: ((TS.zero m2).P g2 3)))
  generalize others w w36 (.obj g32 (.cells ((jp (qs ik) q1 qk1 q2 qk2 q3 qk3 q4 qk4).d.cells (jp (qs ik) q1 qk1 q2 qk2 q3 qk3 q4 qk4).ts.length).toArray 38) :: .obj g23 (.cells ((jp (qs im) p1 pk1 p2 pk2 p3 pk3 p4 pk4).d.cells (jp (qs im) p1 pk1 p2 pk2 p3 pk3 p4 pk4).ts.length).toArray 38) :: ((TS.zero m2).P g2 3)) = O at M hlp hlq hnO
  have etp := (show (jp (qs im) p1 pk1 p2 pk2 p3 pk3 p4 pk4).tr = qfj im from qna _ _ _ _ _ _ _ _ _)
  have etq := (show (jp (qs ik) q1 qk1 q2 qk2 q3 qk3 q4 qk4).tr = qfj ik from qna _ _ _ _ _ _ _ _ _)
  refine sct A (ef rfl rfl) (qwe zeh (m := m2) (Y := (.obj g32 (.cells ((jp (qs ik) q1 qk1 q2 qk2 q3 qk3 q4 qk4).d.cells (jp (qs ik) q1 qk1 q2 qk2 q3 qk3 q4 qk4).ts.length).toArray 38) :: .obj g23 (.cells ((jp (qs im) p1 pk1 p2 pk2 p3 pk3 p4 pk4).d.cells (jp (qs im) p1 pk1 p2 pk2 p3 pk3 p4 pk4).ts.length).toArray 38) :: O)) (g := g2) (qt (by simp) (qt (by simp) hnO)) hT (t := (jp (qs im) p1 pk1 p2 pk2 p3 pk3 p4 pk4)) (v := (jp (qs ik) q1 qk1 q2 qk2 q3 qk3 q4 qk4)) (fun w9 h9 => hlp w9 (h9.dropn 2)) (fun w9 h9 => hlq w9 (h9.dropn 2)) (qeg (by omega) _ _ _ _ _ _ _ _) (qeg (by omega) _ _ _ _ _ _ _ _) (by rw [etp]; exact ki (by omega)) (by rw [etq]; exact ki (by omega)) (by rw [etp]; exact qwg (by omega)) (by rw [etp, km (by omega)]; exact ki (by omega)) (by rw [etp, km (by omega)]; exact qqf (by omega)) M) ?_
  rintro _ w40 ⟨s8, rfl, ⟨hs8, hc8, hH⟩, hM9⟩
  replace M : Mg w w40 (.obj g32 (.cells ((jp (qs ik) q1 qk1 q2 qk2 q3 qk3 q4 qk4).d.cells (jp (qs ik) q1 qk1 q2 qk2 q3 qk3 q4 qk4).ts.length).toArray 38) :: .obj g23 (.cells ((jp (qs im) p1 pk1 p2 pk2 p3 pk3 p4 pk4).d.cells (jp (qs im) p1 pk1 p2 pk2 p3 pk3 p4 pk4).ts.length).toArray 38) :: (O ++ s8.P g2 3)) := hM9
  refine ⟨_, rfl, ?_⟩
  intro a A
  refine sdo (v := .bool false) A (qk rfl rfl (fun w => by kernel_rfl)) λa A↦?_
  refine qa (hK39 _ _ (wp_cond_false (A.ev rfl) ?_))
  refine wp_skip (hK38 _ _ (wsk fun K41 hK41 => wrl (sdm A λa A↦?_)))
  refine sdo A (zl M TeH_isS_38 rfl 0 rfl (cs := ((jp (qs ik) q1 qk1 q2 qk2 q3 qk3 q4 qk4).d.cells (jp (qs ik) q1 qk1 q2 qk2 q3 qk3 q4 qk4).ts.length)) rfl rfl) λa A↦?_
  rcases tf (decide (im % 10 = ik % 10)) with hb42 | hb42
  ·
   have hb42' := of_decide_eq_true hb42
   refine sct A (ef rfl rfl) (qqe zeh hs8 (Y := (.obj g32 (.cells ((jp (qs ik) q1 qk1 q2 qk2 q3 qk3 q4 qk4).d.cells (jp (qs ik) q1 qk1 q2 qk2 q3 qk3 q4 qk4).ts.length).toArray 38) :: .obj g23 (.cells ((jp (qs im) p1 pk1 p2 pk2 p3 pk3 p4 pk4).d.cells (jp (qs im) p1 pk1 p2 pk2 p3 pk3 p4 pk4).ts.length).toArray 38) :: O)) (g := g2) (hT.below M.bel) (t := (jp (qs ik) q1 qk1 q2 qk2 q3 qk3 q4 qk4)) (hlq _ ((M.dropn 2).sub (List.sublist_append_left _ _))) (qeg (by omega) _ _ _ _ _ _ _ _) (by rw [etq]; exact ki (by omega)) (by rw [etq]; exact qwg (by omega)) (by rw [etq, km (by omega)]; exact ki (by omega)) (by rw [etq, km (by omega)]; exact qqf (by omega)) hc8 M) ?_
   rintro _ w43 (⟨e9, he9, hm9, r9, rfl, ⟨hr9, -, ht9⟩, hb9⟩ | ⟨-, hn9, hb9⟩)
   rotate_left
   ·
    obtain ⟨e9, he9, hk9⟩ := hH.mem.1 (List.mem_singleton.2 rfl); exact absurd (by rw [show e9.k.tr = _ from congrArg Prod.fst hk9, etp, etq, km (by omega), km (by omega), of_decide_eq_true hb42]) (hn9 e9 he9)
   replace M := M.call hb9
   refine ⟨_, rfl, ?_⟩
   intro a A
   refine sdm A λa A↦?_
   iterate 2 refine sdo A (qh (vs := [.agg (r9.d.cells r9.ts.length).toArray, .int .i64 0]) rfl rfl) λa A↦?_
   refine sda A λa A↦?_
   refine qa (hK41 _ _ (wsk fun K44 hK44 => wrl (sdm A λa A↦?_)))
   refine sdo (v := .bool true) A (qk rfl rfl (fun w => by kernel_rfl)) λa A↦?_
   refine sdm A λa A↦?_
   refine sdo (v := .int .i64 im) A (zr rfl (ar_conv Tryz.underlying21 Tryz.underlying3 (in_i64 (by omega) (by omega)))) λa A↦?_
   refine sdo (v := .int .i64 rim) A (qk rfl rfl (ug (by decide) hrim)) λa A↦?_
   refine sdo (v := .int .i64 ((rim + 10))) A (qk rfl rfl (ar_add (in_i64 (by omega) (by omega)))) λa A↦?_
   refine sdo (v := .int .i64 ((im % 10))) A (qk rfl rfl (ug (by decide) hmim)) λa A↦?_
   refine sdm A λa A↦?_
   refine sdo (v := .int .i64 ik) A (zr rfl (ar_conv Tryz.underlying21 Tryz.underlying3 (in_i64 (by omega) (by omega)))) λa A↦?_
   refine sdo (v := .int .i64 rik) A (qk rfl rfl (ug (by decide) hrik)) λa A↦?_
   refine sdo (v := .int .i64 ((rik + 10))) A (qk rfl rfl (ar_add (in_i64 (by omega) (by omega)))) λa A↦?_
   refine sdo (v := .int .i64 ((ik % 10))) A (qk rfl rfl (ug (by decide) hmik)) λa A↦?_
   refine sdo (v := .bool true) A (qk rfl rfl (fun w => (qp w).trans (by rw [show (((im % 10) == (ik % 10))) = true from (beq_iff_eq.2 (of_decide_eq_true hb42))]))) λa A↦?_
   refine sdo (v := .bool true) A (qk rfl rfl (yq Tryz.underlying4)) λa A↦?_
   refine sda A λa A↦?_
   refine qa (hK44 _ _ (wp_ret (hret _ _ (en1 A rfl (ql rfl) ?_))))
   exact ⟨rfl, M.bel⟩
  ·
   have hb42' := of_decide_eq_false hb42
   refine sct A (ef rfl rfl) (qqe zeh hs8 (Y := (.obj g32 (.cells ((jp (qs ik) q1 qk1 q2 qk2 q3 qk3 q4 qk4).d.cells (jp (qs ik) q1 qk1 q2 qk2 q3 qk3 q4 qk4).ts.length).toArray 38) :: .obj g23 (.cells ((jp (qs im) p1 pk1 p2 pk2 p3 pk3 p4 pk4).d.cells (jp (qs im) p1 pk1 p2 pk2 p3 pk3 p4 pk4).ts.length).toArray 38) :: O)) (g := g2) (hT.below M.bel) (t := (jp (qs ik) q1 qk1 q2 qk2 q3 qk3 q4 qk4)) (hlq _ ((M.dropn 2).sub (List.sublist_append_left _ _))) (qeg (by omega) _ _ _ _ _ _ _ _) (by rw [etq]; exact ki (by omega)) (by rw [etq]; exact qwg (by omega)) (by rw [etq, km (by omega)]; exact ki (by omega)) (by rw [etq, km (by omega)]; exact qqf (by omega)) hc8 M) ?_
   rintro _ w45 (⟨e9, he9, hm9, r9, rfl, ⟨hr9, -, ht9⟩, hb9⟩ | ⟨rfl, hn9, hb9⟩)
   ·
    have h7 := hH.mem.2 ⟨e9, he9, rfl⟩; have h8 : e9.k.tr = _ := congrArg Prod.fst (List.mem_singleton.1 h7); rw [h8, etp, etq, km (by omega), km (by omega)] at hm9; exact absurd (zaf hm9) (of_decide_eq_false hb42)
   replace M := M.call hb9
   refine ⟨_, rfl, ?_⟩
   intro a A
   refine sdm A λa A↦?_
   iterate 2 refine sdo A (qh (vs := [.agg (qx.d.cells qx.ts.length).toArray, .int .i64 7]) rfl rfl) λa A↦?_
   refine sda A λa A↦?_
   refine qa (hK41 _ _ (wsk fun K46 hK46 => wrl (sdm A λa A↦?_)))
   refine sdo (v := .bool false) A (qk rfl rfl (fun w => by kernel_rfl)) λa A↦?_
   refine sdm A λa A↦?_
   refine sdo (v := .int .i64 im) A (zr rfl (ar_conv Tryz.underlying21 Tryz.underlying3 (in_i64 (by omega) (by omega)))) λa A↦?_
   refine sdo (v := .int .i64 rim) A (qk rfl rfl (ug (by decide) hrim)) λa A↦?_
   refine sdo (v := .int .i64 ((rim + 10))) A (qk rfl rfl (ar_add (in_i64 (by omega) (by omega)))) λa A↦?_
   refine sdo (v := .int .i64 ((im % 10))) A (qk rfl rfl (ug (by decide) hmim)) λa A↦?_
   refine sdm A λa A↦?_
   refine sdo (v := .int .i64 ik) A (zr rfl (ar_conv Tryz.underlying21 Tryz.underlying3 (in_i64 (by omega) (by omega)))) λa A↦?_
   refine sdo (v := .int .i64 rik) A (qk rfl rfl (ug (by decide) hrik)) λa A↦?_
   refine sdo (v := .int .i64 ((rik + 10))) A (qk rfl rfl (ar_add (in_i64 (by omega) (by omega)))) λa A↦?_
   refine sdo (v := .int .i64 ((ik % 10))) A (qk rfl rfl (ug (by decide) hmik)) λa A↦?_
   refine sdo (v := .bool false) A (qk rfl rfl (fun w => (qp w).trans (by rw [show (((im % 10) == (ik % 10))) = false from (beq_eq_false_iff_ne.2 (of_decide_eq_false hb42))]))) λa A↦?_
   refine sdo (v := .bool true) A (qk rfl rfl (yq Tryz.underlying4)) λa A↦?_
   refine sda A λa A↦?_
   refine qa (hK46 _ _ (wp_ret (hret _ _ (en1 A rfl (ql rfl) ?_))))
   exact ⟨rfl, M.bel⟩
 refine wsk fun K47 hK47 => wrl (sdo A (zl M TeH_isS_38 rfl 1 rfl (cs := ((zi sa).d.cells (zi sa).ts.length)) rfl rfl) λa A↦?_)
 rcases tf (okS sa) with hb48 | hb48
 ·
  refine gcl A M (ef rfl rfl) ((hb48 ▸ uh (s := sa) (by omega))) fun w50 hb49 M a A => ?_
  refine sdm A λa A↦?_
  refine sdo A (zl M TeH_isS_38 rfl 0 rfl (cs := ((zi sb).d.cells (zi sb).ts.length)) rfl rfl) λa A↦?_
  rcases tf (okS sb) with hb51 | hb51
  ·
   refine gcl A M (ef rfl rfl) ((hb51 ▸ uh (s := sb) (by omega))) fun w53 hb52 M a A => ?_
   refine sdk (v := .bool true) A λa A↦?_
   refine qa (hK47 _ _ (wp_cond_true (A.ev rfl) ?_))
   refine wsk fun K54 hK54 => wsk fun K55 hK55 => wrl (sdm A λa A↦?_)
   iterate 2 refine sdo A (zl M TeH_isS_38 rfl 1 rfl (cs := ((zi sa).d.cells (zi sa).ts.length)) rfl rfl) λa A↦?_
   refine sct A (ef rfl rfl) (qwe qqc (m := m) (Y := (.obj g5 (.cells ((zi sb).d.cells (zi sb).ts.length).toArray 38) :: .obj g3 (.cells ((zi sa).d.cells (zi sa).ts.length).toArray 38) :: (TS.zero m2).P g2 3)) (g := g) (qt (by simp) (qt (by simp) (qdb m2 g2 3))) hT (t := zi sa) (v := zi sa) (fun w9 _ => qed _ (by omega)) (fun w9 _ => qed _ (by omega)) (by have := qef sa; omega) (by have := qef sa; omega) (by rw [xk, qad]; exact hb48) (by rw [xk, qad]; exact hb48) (by rw [xk]; rfl) (by rw [ve]; exact qkg sa) (by rw [ve]; exact qda (qkg sa)) M) ?_
   rintro _ w56 ⟨s9, rfl, ⟨hs9, hc9, hH⟩, hM9⟩
   replace M : Mg w w56 (.obj g5 (.cells ((zi sb).d.cells (zi sb).ts.length).toArray 38) :: .obj g3 (.cells ((zi sa).d.cells (zi sa).ts.length).toArray 38) :: ((TS.zero m2).P g2 3 ++ s9.P g 2)) := hM9
   refine ⟨_, rfl, ?_⟩
   intro a A
   refine sdo (v := .bool false) A (qk rfl rfl (fun w => by kernel_rfl)) λa A↦?_
   refine qa (hK55 _ _ (wp_cond_false (A.ev rfl) ?_))
   refine wp_skip (hK54 _ _ (wsk fun K57 hK57 => wrl (sdm A λa A↦?_)))
   refine sdo A (zl M TeH_isS_38 rfl 0 rfl (cs := ((zi sb).d.cells (zi sb).ts.length)) rfl rfl) λa A↦?_
   rcases tf (decide (vw sa = vw sb)) with hb58 | hb58
   ·
    have hb58' := of_decide_eq_true hb58
    refine sct A (ef rfl rfl) (qqe qqc hs9 (Y := (.obj g5 (.cells ((zi sb).d.cells (zi sb).ts.length).toArray 38) :: .obj g3 (.cells ((zi sa).d.cells (zi sa).ts.length).toArray 38) :: (TS.zero m2).P g2 3)) (g := g) (hT.below M.bel) (t := zi sb) (qed _ (by omega)) (by have := qef sb; omega) (by rw [xk, qad]; exact hb51) (by rw [xk]; rfl) (by rw [ve]; exact qkg sb) (by rw [ve]; exact qda (qkg sb)) hc9 M) ?_
    rintro _ w59 (⟨e9, he9, hm9, r9, rfl, ⟨hr9, -, ht9⟩, hb9⟩ | ⟨-, hn9, hb9⟩)
    rotate_left
    ·
     obtain ⟨e9, he9, hk9⟩ := hH.mem.1 (List.mem_singleton.2 rfl); exact absurd (by rw [show e9.k.tr = (zi sa).tr from congrArg Prod.fst hk9, ve, ve, of_decide_eq_true hb58]) (hn9 e9 he9)
    replace M := M.call hb9
    refine ⟨_, rfl, ?_⟩
    intro a A
    refine sdm A λa A↦?_
    iterate 2 refine sdo A (qh (vs := [.agg (r9.d.cells r9.ts.length).toArray, .int .i64 0]) rfl rfl) λa A↦?_
    refine jg (vs := (qx.d.cells qx.ts.length)) (t := 38) A M rfl rfl rfl pg (qi (z := .agg (qx.d.cells qx.ts.length).toArray) (by kernel_rfl) rfl) (by decide) ?_
    intro g60 w61 M a A
    refine jc (us := (r9.d.cells r9.ts.length)) (L' := (.obj g60 (.cells (r9.d.cells r9.ts.length).toArray 38) :: .obj g5 (.cells ((zi sb).d.cells (zi sb).ts.length).toArray 38) :: .obj g3 (.cells ((zi sa).d.cells (zi sa).ts.length).toArray 38) :: ((TS.zero m2).P g2 3 ++ s9.P g 2))) A M rfl rfl (ze rfl rfl rfl (by kernel_rfl) M 0 rfl rfl rfl) 0 rfl rfl rfl ?_
    intro w62 M
    refine sda A λa A↦?_
    refine qa (hK57 _ _ (wsk fun K63 hK63 => wrl (sdm A λa A↦?_)))
    refine sdo (v := .bool true) A (qk rfl rfl (fun w => by kernel_rfl)) λa A↦?_
    refine sdm A λa A↦?_
    refine gcl A M (ef rfl rfl) (qee sa (by omega)) fun w65 hb64 M a A => ?_
    refine sdm A λa A↦?_
    refine gcl A M (ef rfl rfl) (qee sb (by omega)) fun w67 hb66 M a A => ?_
    refine sdo (v := .bool true) A (qk rfl rfl (fun w => (qcc Tryz.underlying9 w).trans (by rw [hb58] <;> rfl))) λa A↦?_
    refine sdo (v := .bool false) A (qk rfl rfl (qgd Tryz.underlying4)) λa A↦?_
    refine qa (hK63 _ _ (wp_cond_false (A.ev rfl) ?_))
    refine wp_skip ?_
    replace M : Mg w w67 (((TS.zero m2).P g2 3)) := M.sub (cn (cn (cn (List.sublist_append_left _ _))))
    exact hJ17 _ _ ⟨A.keep _ (by repeat' constructor), M⟩
   ·
    have hb58' := of_decide_eq_false hb58
    refine sct A (ef rfl rfl) (qqe qqc hs9 (Y := (.obj g5 (.cells ((zi sb).d.cells (zi sb).ts.length).toArray 38) :: .obj g3 (.cells ((zi sa).d.cells (zi sa).ts.length).toArray 38) :: (TS.zero m2).P g2 3)) (g := g) (hT.below M.bel) (t := zi sb) (qed _ (by omega)) (by have := qef sb; omega) (by rw [xk, qad]; exact hb51) (by rw [xk]; rfl) (by rw [ve]; exact qkg sb) (by rw [ve]; exact qda (qkg sb)) hc9 M) ?_
    rintro _ w69 (⟨e9, he9, hm9, r9, rfl, ⟨hr9, -, ht9⟩, hb9⟩ | ⟨rfl, hn9, hb9⟩)
    ·
     have h7 := hH.mem.2 ⟨e9, he9, rfl⟩; have h8 : e9.k.tr = (zi sa).tr := congrArg Prod.fst (List.mem_singleton.1 h7); rw [h8, ve, ve] at hm9; exact absurd (zsc hm9) (of_decide_eq_false hb58)
    replace M := M.call hb9
    refine ⟨_, rfl, ?_⟩
    intro a A
    refine sdm A λa A↦?_
    iterate 2 refine sdo A (qh (vs := [.agg (qx.d.cells qx.ts.length).toArray, .int .i64 7]) rfl rfl) λa A↦?_
    refine jg (vs := (qx.d.cells qx.ts.length)) (t := 38) A M rfl rfl rfl pg (qi (z := .agg (qx.d.cells qx.ts.length).toArray) (by kernel_rfl) rfl) (by decide) ?_
    intro g70 w71 M a A
    refine jc (us := (qx.d.cells qx.ts.length)) (L' := (.obj g70 (.cells (qx.d.cells qx.ts.length).toArray 38) :: .obj g5 (.cells ((zi sb).d.cells (zi sb).ts.length).toArray 38) :: .obj g3 (.cells ((zi sa).d.cells (zi sa).ts.length).toArray 38) :: ((TS.zero m2).P g2 3 ++ s9.P g 2))) A M rfl rfl (ze rfl rfl rfl (by kernel_rfl) M 0 rfl rfl rfl) 0 rfl rfl rfl ?_
    intro w72 M
    refine sda A λa A↦?_
    refine qa (hK57 _ _ (wsk fun K73 hK73 => wrl (sdm A λa A↦?_)))
    refine sdo (v := .bool false) A (qk rfl rfl (fun w => by kernel_rfl)) λa A↦?_
    refine sdm A λa A↦?_
    refine gcl A M (ef rfl rfl) (qee sa (by omega)) fun w75 hb74 M a A => ?_
    refine sdm A λa A↦?_
    refine gcl A M (ef rfl rfl) (qee sb (by omega)) fun w77 hb76 M a A => ?_
    refine sdo (v := .bool false) A (qk rfl rfl (fun w => (qcc Tryz.underlying9 w).trans (by rw [hb58] <;> rfl))) λa A↦?_
    refine sdo (v := .bool false) A (qk rfl rfl (qgd Tryz.underlying4)) λa A↦?_
    refine qa (hK73 _ _ (wp_cond_false (A.ev rfl) ?_))
    refine wp_skip ?_
    replace M : Mg w w77 (((TS.zero m2).P g2 3)) := M.sub (cn (cn (cn (List.sublist_append_left _ _))))
    exact hJ17 _ _ ⟨A.keep _ (by repeat' constructor), M⟩
  ·
   refine gcl A M (ef rfl rfl) ((hb51 ▸ uh (s := sb) (by omega))) fun w80 hb79 M a A => ?_
   refine sdk (v := .bool false) A λa A↦?_
   refine qa (hK47 _ _ (wp_cond_false (A.ev rfl) ?_))
   refine wp_skip ?_
   replace M : Mg w w80 (((TS.zero m2).P g2 3)) := M.sub (cn (cn (List.sublist_append_left _ _)))
   exact hJ17 _ _ ⟨A.keep _ (by repeat' constructor), M⟩
 ·
  refine gcl A M (ef rfl rfl) ((hb48 ▸ uh (s := sa) (by omega))) fun w82 hb81 M a A => ?_
  refine sdm A λa A↦?_
  iterate 2 refine zf A rfl rfl rfl λa A↦?_
  refine sdk (v := .bool false) A λa A↦?_
  refine qa (hK47 _ _ (wp_cond_false (A.ev rfl) ?_))
  refine wp_skip ?_
  replace M : Mg w w82 (((TS.zero m2).P g2 3)) := M.sub (cn (cn (List.sublist_append_left _ _)))
  exact hJ17 _ _ ⟨A.keep _ (by repeat' constructor), M⟩
end Go.Proofs.YtjlpecapebhgjaaGreatDoor.G
namespace Go.Proofs.YtjlpecapebhgjaaGreatDoor
set_option linter.unusedVariables false

section
variable {H : Type}
theorem qmd {d : DataW H} : ∀ {l : List (DataW H)}, d ∈ l → Rows.uptoBulk d ≤ Rows.uptoBulkAll l
  | c :: l, h => by
    simp only [Rows.uptoBulkAll]
    rcases List.mem_cons.1 h with rfl | h
    · omega
    · have := qmd h
      omega
theorem zhc {l : List (DataW H)} (hk : Rows.uptoSmall H l = true) {j : Nat} {d : DataW H} (hd : l[j]? = some d) : Rows.uptoBulk d ≤ 1048576 :=
  Nat.le_trans (qmd (List.mem_of_getElem? hd)) (of_decide_eq_true hk)
end
end Go.Proofs.YtjlpecapebhgjaaGreatDoor
namespace Go.Proofs.YtjlpecapebhgjaaGreatDoor.G
open Go.ChangeShapes Go.WideShapes Go.ChangeAt Go.RowKit Go.Joins Go.Deep
set_option linter.unusedVariables false
set_option linter.unusedSimpArgs false
set_option maxRecDepth 100000

section
variable {H : Type} {enc : TypeId × Value → H} {W : World}
end
section
variable {H : Type} {enc : TypeId × Value → H} {W : World}
end
section
variable {P : Program} {w : World} {l : List (Nat × Value)} {dst : Option Tmp} {ty : TypeId} {pos : String} {after : Array Edge} {guard : Option (Nat × Bool)}
end
section
variable {H : Type} {enc : TypeId × Value → H} {W : World}
end
end Go.Proofs.YtjlpecapebhgjaaGreatDoor.G
