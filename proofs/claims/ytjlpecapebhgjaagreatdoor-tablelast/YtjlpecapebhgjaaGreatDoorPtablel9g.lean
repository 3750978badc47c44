/- Walks of the order of data. Walks of Equal, Cmp and Hash. Plain functions on characters: what the program's functions and the document's answers give, and that they agree. Walks of the program's small functions on characters. The library's contracts, as theorems of this program. Walks of the program's Up, Down and Fold. Walks of the small functions of table, and of marks. Walks of where a key is looked for. Walks of Get, and of calls on a nil table. Walks of a new table, and of Set. Tables: what they hold, and what a xx at a mark finds. Tables: what they hold, as pairs of trees in the order in which they came. Tables: how a table's state goes on. Calls on a table, by its state. Worlds: what their memory reads as, and what the calls make of them. Rows with zeros appended, an element cut out, the end cleared. Tables: a key goes. -/
import Derived.Test.YtjlpecapebhgjaaGreatDoorPtablel9f
import Derived.Lib.RuneBytes
import Derived.RowKit
import Derived.Test.YtjlpecapebhgjaaGreatDoorProg
import Derived.WalkKit
import Derived.WalkSpells
import Derived.Deep.Light
import Derived.Shelf.Strings.Builder1
import Derived.Shelf.Small.Utf8
import Derived.Shelf.Small.Bits
import Derived.Shelf.Small.Strs
import Derived.Shelf.Strings.BuilderF
import Derived.Shelf.Strings.BuilderK
import Derived.Shelf.Strings.BuilderRune
import Derived.Shelf.Utf8.AppendRunePlain
import Derived.Shelf.Strconv.Itoa0
import Derived.Shelf.LaysM
import Derived.Shelf.Strconv.Clone
import Derived.Test.YtjlpecapebhgjaaGreatDoorText
import Derived.BigCall
import Derived.Test.YtjlpecapebhgjaaGreatDoorPtablel9e
namespace Go.Proofs.YtjlpecapebhgjaaGreatDoor.G
open Go.RowKit
set_option linter.unusedVariables false
set_option linter.unusedSimpArgs false
set_option maxRecDepth 100000
theorem EqB_is1_28 : Is1 Tryz.prog 28 := ⟨⟨_, Tryz.underlying28, rfl⟩, by kernel_rfl⟩
theorem EqB_is1_3 : Is1 Tryz.prog 3 := ⟨⟨_, Tryz.underlying3, rfl⟩, by kernel_rfl⟩
theorem EqB_is1_36 : Is1 Tryz.prog 36 := ⟨⟨_, Tryz.underlying36, rfl⟩, by kernel_rfl⟩
theorem EqB_is1_9 : Is1 Tryz.prog 9 := ⟨⟨_, Tryz.underlying9, rfl⟩, by kernel_rfl⟩
theorem EqB_fld_38_0 : FieldAt Tryz.prog 38 0 0 := ⟨_, _, Tryz.underlying38, rfl, rfl, by kernel_rfl⟩
theorem EqB_fld_38_1 : FieldAt Tryz.prog 38 1 1 := ⟨_, _, Tryz.underlying38, rfl, rfl, by kernel_rfl⟩
theorem EqB_fld_38_2 : FieldAt Tryz.prog 38 2 2 := ⟨_, _, Tryz.underlying38, rfl, rfl, by kernel_rfl⟩
theorem EqB_fld_38_3 : FieldAt Tryz.prog 38 3 8 := ⟨_, _, Tryz.underlying38, rfl, rfl, by kernel_rfl⟩
theorem EqB_fld_38_4 : FieldAt Tryz.prog 38 4 9 := ⟨_, _, Tryz.underlying38, rfl, rfl, by kernel_rfl⟩
theorem EqB_fld_38_5 : FieldAt Tryz.prog 38 5 10 := ⟨_, _, Tryz.underlying38, rfl, rfl, by kernel_rfl⟩
theorem EqB_isS_35 : IsS Tryz.prog 35 6 := ⟨⟨_, Tryz.underlying35⟩, by kernel_rfl⟩
theorem EqB_isS_38 : IsS Tryz.prog 38 11 := ⟨⟨_, Tryz.underlying38⟩, by kernel_rfl⟩
def Orders (n : Nat) : Prop := ∀ {w : World} {t u : Dt}, t.tr.bulk < n → t.rd w → u.rd w → t.tr.good → u.tr.good → Calls Tryz.prog 77 #[.agg (t.d.cells t.ts.length).toArray, .agg (u.d.cells u.ts.length).toArray] w fun e w' => e = .returned (.int .i64 (kh t.tr u.tr)) ∧ Below w.heap.size w w'
theorem zmf {n : Nat} (ih : Orders n) {w : World} {t u : Dt} (ht : t.rd w) (hu : u.rd w) (gt : t.tr.good) (gu : u.tr.good) (hb : t.tr.bulk ≤ n) (hlen : t.ts.length = u.ts.length) : Calls Tryz.prog 151 #[.slice t.d.lo t.ts.length t.d.lc, .slice u.d.lo u.ts.length u.d.lc, .func (.func 77) #[] #[]] w fun e w' => e = .returned (.int .i64 (yt (t.ts.map Dt.tr) (u.ts.map Dt.tr))) ∧ Below w.heap.size w w' := by
 have hlt := (Dt.okT ht).2
 have M : Mg w w ([]) := Mg.start w
 refine qs (l := [(0, .slice t.d.lo t.ts.length t.d.lc), (1, .slice u.d.lo u.ts.length u.d.lc), (2, .func (.func 77) #[] #[])]) Tryz.func151 rfl Tryz.ntmps151 rfl rfl ?_
 intro Q hret hnorm hP a A
 refine wsk fun K1 hK1 => wrl (sda A λa A↦?_)
 refine qa (hK1 _ _ (wsk fun K2 hK2 => wsk fun K3 hK3 => wrl (sdm A λa A↦?_)))
 refine sdo A (qy Tryz.underlying28 rfl) λa A↦?_
 refine sdm A λa A↦?_
 refine qa (hK3 _ _ (wp_block (jp (fun m_ a w1 => ∃ (i : Nat), m_ = 1 + (t.ts.length - i) ∧ (i ≤ t.ts.length ∧ yt (t.ts.map Dt.tr) (u.ts.map Dt.tr) = yt ((t.ts.map Dt.tr).drop i) ((u.ts.map Dt.tr).drop i)) ∧ Sl a 39 [(0, .slice t.d.lo t.ts.length t.d.lc), (1, .slice u.d.lo u.ts.length u.d.lc), (2, .func (.func 77) #[] #[]), (11, .slice t.d.lo t.ts.length t.d.lc), (12, .int .i64 (((t.ts.length : Nat) : Int))), (13, .int .i64 (((i : Nat) : Int)))] ∧ Mg w w1 ([])) _ ⟨0, rfl, ⟨Nat.zero_le _, rfl⟩, A.keep _ (by repeat' constructor), M⟩ ?_)))
 clear M A
 rintro m_ a w4 ⟨i, rfl, hinv6, A, M⟩ K5 hK5
 obtain ⟨hi0, hin9⟩ := hinv6
 refine wsk fun K7 hK7 => wrl ?_
 rcases tf (decide (((i : Nat) : Int) < ((t.ts.length : Nat) : Int))) with hb8 | hb8
 ·
  have hb8' := of_decide_eq_true hb8
  refine sdc A zq hb8 λa A↦?_
  refine qa (hK7 _ _ (wsk fun K9 hK9 => wp_cond_true (A.ev rfl) ?_))
  refine wp_skip (hK9 _ _ (wsk fun K10 hK10 => wp_block (wsk fun K11 hK11 => ?_)))
  obtain ⟨t1, bt1, ot1, it1, mt1, rt1_, lt1, Ht1⟩ := qnj ht (i := i) (by omega)
  obtain ⟨u1, bu1, ou1, iu1, mu1, ru1_, lu1, Hu1⟩ := qnj hu (i := i) (by omega)
  refine wrl (sdm A λa A↦?_)
  refine sdo (v := .pointer (some ⟨bt1, ot1 + i * 11, none⟩)) A (zu (k := i) Tryz.underlying28 (by kernel_rfl) rfl rfl rfl lt1 (by omega)) λa A↦?_
  refine sdo A (jv M Ht1 EqB_isS_38 rfl rfl) λa A↦?_
  refine zx (vs := [.int .i64 0, .int .i64 0, .bool false, .slice none 0 0, .slice none 0 0, .bool false, .slice none 0 0, .slice none 0 0, .string (⟨#[]⟩), .slice none 0 0, .slice none 0 0]) (t := 38) A M rfl rfl rfl pg (ql (z := .agg #[.int .i64 0, .int .i64 0, .bool false, .slice none 0 0, .slice none 0 0, .bool false, .slice none 0 0, .slice none 0 0, .string (⟨#[]⟩), .slice none 0 0, .slice none 0 0]) (by kernel_rfl) rfl) (by decide) ?_
  intro g12 w13 M a A
  refine sda A λa A↦?_
  refine zr (us := (t1.d.cells t1.ts.length)) (L' := (.obj g12 (.cells (t1.d.cells t1.ts.length).toArray 38) :: [])) A M rfl rfl (za rfl rfl rfl (by kernel_rfl) M 0 rfl rfl rfl) 0 rfl rfl rfl ?_
  intro w14 M
  refine qa (hK11 _ _ (wsk fun K15 hK15 => wsk fun K16 hK16 => wrl ?_))
  iterate 2 refine sdm A λa A↦?_
  refine sdo A (qy Tryz.underlying28 rfl) λa A↦?_
  refine sdo (v := .bool false) A (qg rfl rfl (fun w => (kp w).trans (by rw [show (decide (((u.ts.length : Nat) : Int) ≤ ((i : Nat) : Int))) = false from (decide_eq_false (by omega))]))) λa A↦?_
  refine qa (hK16 _ _ (wp_cond_false (A.ev rfl) ?_))
  refine wp_skip (hK15 _ _ (wsk fun K17 hK17 => wrl ?_))
  iterate 2 refine sdm A λa A↦?_
  refine sdo (v := .pointer (some ⟨bu1, ou1 + i * 11, none⟩)) A (zu (k := i) Tryz.underlying28 (by kernel_rfl) rfl rfl rfl lu1 (by omega)) λa A↦?_
  refine sdo A (jv M Hu1 EqB_isS_38 rfl rfl) λa A↦?_
  refine zx (vs := [.int .i64 0, .int .i64 0, .bool false, .slice none 0 0, .slice none 0 0, .bool false, .slice none 0 0, .slice none 0 0, .string (⟨#[]⟩), .slice none 0 0, .slice none 0 0]) (t := 38) A M rfl rfl rfl pg (ql (z := .agg #[.int .i64 0, .int .i64 0, .bool false, .slice none 0 0, .slice none 0 0, .bool false, .slice none 0 0, .slice none 0 0, .string (⟨#[]⟩), .slice none 0 0, .slice none 0 0]) (by kernel_rfl) rfl) (by decide) ?_
  intro g18 w19 M a A
  refine zr (us := (u1.d.cells u1.ts.length)) (L' := (.obj g18 (.cells (u1.d.cells u1.ts.length).toArray 38) :: .obj g12 (.cells (t1.d.cells t1.ts.length).toArray 38) :: [])) A M rfl rfl (za rfl rfl rfl (by kernel_rfl) M 0 rfl rfl rfl) 0 rfl rfl rfl ?_
  intro w20 M
  refine qa (hK17 _ _ (wsk fun K21 hK21 => wrl (sdm A λa A↦?_)))
  refine sdo A (qw M EqB_isS_38 rfl 1 rfl (cs := (t1.d.cells t1.ts.length)) rfl rfl) λa A↦?_
  refine sdo A (qw M EqB_isS_38 rfl 0 rfl (cs := (u1.d.cells u1.ts.length)) rfl rfl) λa A↦?_
  refine gcl A M (ef rfl rfl) (ih (by have := qij mt1; omega) (Dt.keep M.bel _ rt1_) (Dt.keep M.bel _ ru1_) ((xa gt).2.2 _ mt1) ((xa gu).2.2 _ mu1)) fun w23 hb22 M a A => ?_
  refine sda A λa A↦?_
  refine qa (hK21 _ _ (wsk fun K24 hK24 => wrl (sdm A λa A↦?_)))
  rcases tf ((kh t1.tr u1.tr != 0)) with hb25 | hb25
  ·
   have hb25' := bne_iff_ne.1 hb25
   refine sdc A jo hb25 λa A↦?_
   refine qa (hK24 _ _ (wp_cond_true (A.ev rfl) ?_))
   refine wsk fun K26 hK26 => wrl (sdm A λa A↦?_)
   refine sda A λa A↦?_
   refine qa (hK26 _ _ (wp_ret (hret _ _ (en1 A rfl (qj rfl) ?_))))
   exact ⟨by rw [hin9, zbi it1 iu1, zjj hb25'], M.bel⟩
  ·
   have hb25' := bne_eq_false_iff_eq.1 hb25
   refine sdc A jo hb25 λa A↦?_
   refine qa (hK24 _ _ (wp_cond_false (A.ev rfl) ?_))
   refine wp_skip (hK10 _ _ (wrl (sdo (v := .int .i64 (((i + 1 : Nat) : Int))) A (qg rfl rfl (fun w => (vg (yy (by omega) (by omega)) w).trans (by rw [show (((i : Nat) : Int) + 1 : Int) = ((i + 1 : Nat) : Int) from by omega]))) λa A↦?_)))
   refine sdm A λa A↦?_
   refine qa ?_
   replace M : Mg w w23 ([]) := by
    have h9 := M.sub (cn (cn (.refl _)))
    exact h9
   refine hK5 _ _ _ (by omega) ⟨i + 1, rfl, ⟨by omega, by rw [hin9, zbi it1 iu1, hb25', zji]⟩, A.keep _ (by repeat' constructor), M⟩
 ·
  have hb8' := of_decide_eq_false hb8
  refine sdc A zq hb8 λa A↦?_
  refine qa (hK7 _ _ (wsk fun K27 hK27 => wp_cond_false (A.ev rfl) ?_))
  refine wp_exit (hK2 _ _ (wsk fun K28 hK28 => wsk fun K29 hK29 => wrl (sdm A λa A↦?_)))
  refine sdo A (qy Tryz.underlying28 rfl) λa A↦?_
  refine sdm A λa A↦?_
  refine sdo A (qy Tryz.underlying28 rfl) λa A↦?_
  refine sdo (v := .bool false) A (qg rfl rfl (fun w => (zq w).trans (by rw [show (decide (((t.ts.length : Nat) : Int) < ((u.ts.length : Nat) : Int))) = false from (decide_eq_false (by omega))]))) λa A↦?_
  refine qa (hK29 _ _ (wp_cond_false (A.ev rfl) ?_))
  refine wp_skip (hK28 _ _ (wsk fun K30 hK30 => wrl (sda A λa A↦?_)))
  refine qa (hK30 _ _ (wp_ret (hret _ _ (en1 A rfl (qj rfl) ?_))))
  exact ⟨by rw [hin9, zka (by omega)], M.bel⟩
theorem zsg {n : Nat} (ih : Orders n) {w : World} {t u : Dt} (ht : t.rd w) (hu : u.rd w) (gt : t.tr.good) (gu : u.tr.good) (hb : t.tr.bulk ≤ n) : Calls Tryz.prog 118 #[.slice t.d.lo t.ts.length t.d.lc, .slice u.d.lo u.ts.length u.d.lc] w fun e w' => e = .returned (.int .i64 (lex (yg (t.ts.length : Int) (u.ts.length : Int)) (yt (t.ts.map Dt.tr) (u.ts.map Dt.tr)))) ∧ Below w.heap.size w w' := by
 have M : Mg w w ([]) := Mg.start w
 refine qs (l := [(0, .slice t.d.lo t.ts.length t.d.lc), (1, .slice u.d.lo u.ts.length u.d.lc)]) Tryz.func118 rfl Tryz.ntmps118 rfl rfl ?_
 intro Q hret hnorm hP a A
 refine wsk fun K1 hK1 => wrl (sda A λa A↦?_)
 refine qa (hK1 _ _ (wsk fun K2 hK2 => wsk fun K3 hK3 => wrl (sdm A λa A↦?_)))
 refine sdo A (qy Tryz.underlying28 rfl) λa A↦?_
 refine sdm A λa A↦?_
 refine sdo A (qy Tryz.underlying28 rfl) λa A↦?_
 rcases tf ((((t.ts.length : Nat) : Int) != ((u.ts.length : Nat) : Int))) with hb4 | hb4
 ·
  have hb4' := bne_iff_ne.1 hb4
  refine sdc A jo hb4 λa A↦?_
  refine qa (hK3 _ _ (wp_cond_true (A.ev rfl) ?_))
  refine wsk fun K5 hK5 => wrl (sdm A λa A↦?_)
  refine sdo A (qy Tryz.underlying28 rfl) λa A↦?_
  refine sdm A λa A↦?_
  refine sdo A (qy Tryz.underlying28 rfl) λa A↦?_
  refine gcl A M (ef rfl rfl) (qbd) fun w7 hb6 M a A => ?_
  refine sda A λa A↦?_
  refine qa (hK5 _ _ (wp_ret (hret _ _ (en1 A rfl (qj rfl) ?_))))
  exact ⟨by rw [zjj (fun e => hb4' (yn e))], M.bel⟩
 ·
  have hb4' := bne_eq_false_iff_eq.1 hb4
  refine sdc A jo hb4 λa A↦?_
  refine qa (hK3 _ _ (wp_cond_false (A.ev rfl) ?_))
  refine wp_skip (hK2 _ _ (wsk fun K8 hK8 => wrl ?_))
  iterate 2 refine sdm A λa A↦?_
  refine gcl A M (ef rfl rfl) (zmf ih (Dt.keep M.bel _ ht) (Dt.keep M.bel _ hu) gt gu hb (by omega)) fun w9 hbv M a A => ?_
  refine sda A λa A↦?_
  refine qa (hK8 _ _ (wp_ret (hret _ _ (en1 A rfl (qj rfl) ?_))))
  exact ⟨by rw [hb4', qhf, zji], M.bel⟩
theorem qvi {n : Nat} (ih : Orders n) : Orders (n + 1) := by
 intro w t u hn ht hu gt gu
 have M : Mg w w ([]) := Mg.start w
 refine qs (l := [(0, .agg (t.d.cells t.ts.length).toArray), (1, .agg (u.d.cells u.ts.length).toArray)]) Tryz.func77 rfl Tryz.ntmps77 rfl rfl ?_
 intro Q hret hnorm hP a A
 refine wsk fun K1 hK1 => wrl (zx (vs := (t.d.cells t.ts.length)) (t := 38) A M rfl rfl rfl pg (qr rfl rfl) (by decide) ?_)
 intro g2 w3 M a A
 refine zx (vs := (u.d.cells u.ts.length)) (t := 38) A M rfl rfl rfl pg (qr rfl rfl) (by decide) ?_
 intro g4 w5 M a A
 refine sda A λa A↦?_
 refine qa (hK1 _ _ (wsk fun K6 hK6 => wp_block (jp (fun m_ a w1 => ∃ (p : Dt) (r : Dt), m_ = 1 + p.tr.bulk ∧ (p.rd w ∧ r.rd w ∧ p.tr.good ∧ r.tr.good ∧ p.tr.bulk ≤ t.tr.bulk ∧ kh t.tr u.tr = kh p.tr r.tr) ∧ Sl a 84 [(0, .agg (t.d.cells t.ts.length).toArray), (1, .agg (u.d.cells u.ts.length).toArray), (2, .pointer (some ⟨g2, 0, none⟩)), (3, .pointer (some ⟨g4, 0, none⟩))] ∧ Mg w w1 (.obj g4 (.cells (r.d.cells r.ts.length).toArray 38) :: .obj g2 (.cells (p.d.cells p.ts.length).toArray 38) :: [])) _ ⟨t, u, rfl, ⟨ht, hu, gt, gu, Nat.le_refl _, rfl⟩, A.keep _ ⟨rfl, rfl, rfl, rfl, trivial⟩, M⟩ ?_)))
 clear M A
 rintro m_ a w7 ⟨p, r, rfl, hinv9, A, M⟩ K8 hK8
 obtain ⟨hp, hr, gp, gr, hbk, hin9⟩ := hinv9
 refine wsk fun K10 hK10 => wsk fun K11 hK11 => wrl (sdo (v := .pointer (some ⟨g2, 0, none⟩)) A (qb EqB_fld_38_0 rfl rfl) λa A↦?_)
 refine sdo A (qk M EqB_is1_3 rfl 1 rfl rfl) λa A↦?_
 rcases tf ((p.d.k == 8)) with hb12 | hb12
 ·
  have hb12' := eq_of_beq hb12
  refine sdc A qm hb12 λa A↦?_
  refine sdm A λa A↦?_
  refine sdo (v := .pointer (some ⟨g4, 0, none⟩)) A (qb EqB_fld_38_0 rfl rfl) λa A↦?_
  refine sdo A (qk M EqB_is1_3 rfl 0 rfl rfl) λa A↦?_
  rcases tf ((r.d.k == 8)) with hb13 | hb13
  ·
   have hb13' := eq_of_beq hb13
   refine sdc A qm hb13 λa A↦?_
   refine sdk (v := .bool true) A λa A↦?_
   refine qa (hK11 _ _ (wp_cond_true (A.ev rfl) ?_))
   refine wp_skip (hK10 _ _ (wp_block (wsk fun K14 hK14 => wsk fun K15 hK15 => ?_)))
   have l2p := (xa gp).1.h8 hb12'
   have l2r := (xa gr).1.h8 hb13'
   obtain ⟨p0, bp0, op0, ip0, mp0, rp0_, lp0, Hp0⟩ := qnj hp (i := 0) (by omega)
   obtain ⟨p1, bp1, op1, ip1, mp1, rp1_, lp1, Hp1⟩ := qnj hp (i := 1) (by omega)
   obtain ⟨r0, br0, or0, ir0, mr0, rr0_, lr0, Hr0⟩ := qnj hr (i := 0) (by omega)
   obtain ⟨r1, br1, or1, ir1, mr1, rr1_, lr1, Hr1⟩ := qnj hr (i := 1) (by omega)
   have hpq := zjh hb12' hb13' l2p l2r ip0 ip1 ir0 ir1
   refine jh (S := fun w1 => Mg w w1 (.obj g4 (.cells (r.d.cells r.ts.length).toArray 38) :: .obj g2 (.cells (p.d.cells p.ts.length).toArray 38) :: [])) (by kernel_rfl) ?_
   replace M := M.drew
   refine qe (v := .pointer (some ⟨g2, 10, none⟩)) A 0 rfl rfl rfl rfl hP (M.sub (cc (cc (List.nil_sublist _)))) (fun w1 M => qb EqB_fld_38_5 rfl rfl) λa A↦?_
   refine qe A 1 rfl rfl rfl rfl hP (M.sub (cc (cc (List.nil_sublist _)))) (fun w1 M => qk M EqB_is1_28 rfl 1 rfl rfl) λa A↦?_
   refine qe (v := .pointer (some ⟨bp0, op0 + 0 * 11, none⟩)) A 2 rfl rfl rfl rfl hP (M.sub (cc (cc (List.nil_sublist _)))) (fun w1 M => zu (k := 0) Tryz.underlying28 (by kernel_rfl) rfl rfl rfl lp0 (by omega)) λa A↦?_
   refine qe A 3 rfl rfl rfl rfl hP (M.sub (cc (cc (List.nil_sublist _)))) (fun w1 M => jv M Hp0 EqB_isS_38 rfl rfl) λa A↦?_
   refine qe (v := .pointer (some ⟨g4, 10, none⟩)) A 4 rfl rfl rfl rfl hP (M.sub (cc (cc (List.nil_sublist _)))) (fun w1 M => qb EqB_fld_38_5 rfl rfl) λa A↦?_
   refine qe A 5 rfl rfl rfl rfl hP (M.sub (cc (cc (List.nil_sublist _)))) (fun w1 M => qk M EqB_is1_28 rfl 0 rfl rfl) λa A↦?_
   refine qe (v := .pointer (some ⟨br0, or0 + 0 * 11, none⟩)) A 6 rfl rfl rfl rfl hP (M.sub (cc (cc (List.nil_sublist _)))) (fun w1 M => zu (k := 0) Tryz.underlying28 (by kernel_rfl) rfl rfl rfl lr0 (by omega)) λa A↦?_
   refine qe A 7 rfl rfl rfl rfl hP (M.sub (cc (cc (List.nil_sublist _)))) (fun w1 M => jv M Hr0 EqB_isS_38 rfl rfl) λa A↦?_
   refine qh (by kernel_rfl) (qn A 8 rfl rfl rfl rfl (qi rfl rfl (fun w => by kernel_rfl)) (ih (by have := qij mp0; omega) (Dt.keep M.bel _ rp0_) (Dt.keep M.bel _ rr0_) ((xa gp).2.2 _ mp0) ((xa gr).2.2 _ mr0)) ?_)
   rintro _ w17 ⟨rfl, hb16⟩
   replace M := M.call hb16
   refine ⟨_, rfl, (M.sub (cc (cc (List.nil_sublist _)))), ?_⟩
   intro a A
   refine qe A 9 rfl rfl rfl rfl hP (M.sub (cc (cc (List.nil_sublist _)))) (fun w1 M => jf rfl) λa A↦?_
   refine ze (by kernel_rfl) ?_
   refine hK15 _ _ (wsk fun K18 hK18 => wrl (sdm A λa A↦?_))
   rcases tf ((kh p0.tr r0.tr != 0)) with hb19 | hb19
   ·
    have hb19' := bne_iff_ne.1 hb19
    refine sdc A jo hb19 λa A↦?_
    refine qa (hK18 _ _ (wp_cond_true (A.ev rfl) ?_))
    refine wsk fun K20 hK20 => wrl (sdm A λa A↦?_)
    refine sda A λa A↦?_
    refine qa (hK20 _ _ (wp_ret (hret _ _ (en1 A rfl (qj rfl) ?_))))
    exact ⟨by rw [hin9, hpq, zjj hb19'], M.bel⟩
   ·
    have hb19' := bne_eq_false_iff_eq.1 hb19
    refine sdc A jo hb19 λa A↦?_
    refine qa (hK18 _ _ (wp_cond_false (A.ev rfl) ?_))
    refine wp_skip (hK14 _ _ ?_)
    have hJ21 : ∀ a w1, (∃ (z_ : Unit), Sl a 84 [(0, .agg (t.d.cells t.ts.length).toArray), (1, .agg (u.d.cells u.ts.length).toArray), (2, .pointer (some ⟨g2, 0, none⟩)), (3, .pointer (some ⟨g4, 0, none⟩)), (5, .int .i64 (kh p0.tr r0.tr)), (6, .pointer (some ⟨g2, 0, none⟩)), (7, .int .i64 p.d.k), (8, .bool true), (9, .bool true), (10, .pointer (some ⟨g4, 0, none⟩)), (11, .int .i64 r.d.k), (12, .bool true), (13, .bool true), (14, .pointer (some ⟨g2, 10, none⟩)), (15, .slice p.d.lo p.ts.length p.d.lc), (16, .pointer (some ⟨bp0, op0 + 0 * 11, none⟩)), (17, .agg (p0.d.cells p0.ts.length).toArray), (18, .pointer (some ⟨g4, 10, none⟩)), (19, .slice r.d.lo r.ts.length r.d.lc), (20, .pointer (some ⟨br0, or0 + 0 * 11, none⟩)), (21, .agg (r0.d.cells r0.ts.length).toArray), (22, .int .i64 (kh p0.tr r0.tr)), (23, .int .i64 (kh p0.tr r0.tr)), (24, .bool false)] ∧ Mg w w1 (.obj g4 (.cells (r1.d.cells r1.ts.length).toArray 38) :: .obj g2 (.cells (p1.d.cells p1.ts.length).toArray 38) :: [])) → K8 a w1 := by
     clear A M
     rintro a w22 ⟨z_, A, M⟩
     refine hK8 _ _ _ (by have := qij mp1; omega) ⟨p1, r1, rfl, ⟨rp1_, rr1_, (xa gp).2.2 _ mp1, (xa gr).2.2 _ mr1, by have := qij mp1; omega, by rw [hin9, hpq, hb19', zji]⟩, A.keep _ ⟨rfl, rfl, rfl, rfl, trivial⟩, M⟩
    refine jh (S := fun w1 => Mg w w1 ([])) (by kernel_rfl) ?_
    replace M := M.drew
    refine qe (v := .pointer (some ⟨g2, 10, none⟩)) A 0 rfl rfl rfl rfl hP (M.sub (cn (cn (List.nil_sublist _)))) (fun w1 M => qb EqB_fld_38_5 rfl rfl) λa A↦?_
    refine qe (v := .pointer (some ⟨g4, 10, none⟩)) A 4 rfl rfl rfl rfl hP (M.sub (cn (cn (List.nil_sublist _)))) (fun w1 M => qb EqB_fld_38_5 rfl rfl) λa A↦?_
    refine jn (rs := [1, 5]) (by kernel_rfl) (by simp) ⟨?_, ?_, trivial⟩
    ·
     refine xz A 1 rfl rfl rfl rfl (qk M EqB_is1_28 rfl 1 rfl rfl) (M.sub (cn (cn (List.nil_sublist _)))) λa A↦?_
     refine qe (v := .pointer (some ⟨bp1, op1 + 1 * 11, none⟩)) A 2 rfl rfl rfl rfl hP (M.sub (cn (cn (List.nil_sublist _)))) (fun w1 M => zu (k := 1) Tryz.underlying28 (by kernel_rfl) rfl rfl rfl lp1 (by omega)) λa A↦?_
     refine qe A 3 rfl rfl rfl rfl hP (M.sub (cn (cn (List.nil_sublist _)))) (fun w1 M => jv M Hp1 EqB_isS_38 rfl rfl) λa A↦?_
     refine jn (rs := [5, 8]) (by kernel_rfl) (by simp) ⟨?_, ?_, trivial⟩
     ·
      refine xz A 5 rfl rfl rfl rfl (qk M EqB_is1_28 rfl 0 rfl rfl) (M.sub (cn (cn (List.nil_sublist _)))) λa A↦?_
      refine qe (v := .pointer (some ⟨br1, or1 + 1 * 11, none⟩)) A 6 rfl rfl rfl rfl hP (M.sub (cn (cn (List.nil_sublist _)))) (fun w1 M => zu (k := 1) Tryz.underlying28 (by kernel_rfl) rfl rfl rfl lr1 (by omega)) λa A↦?_
      refine qe A 7 rfl rfl rfl rfl hP (M.sub (cn (cn (List.nil_sublist _)))) (fun w1 M => jv M Hr1 EqB_isS_38 rfl rfl) λa A↦?_
      refine qh (by kernel_rfl) (ut (us := (p1.d.cells p1.ts.length)) (L' := (.obj g4 (.cells (r.d.cells r.ts.length).toArray 38) :: .obj g2 (.cells (p1.d.cells p1.ts.length).toArray 38) :: [])) A M 8 rfl rfl rfl (za rfl rfl rfl (by kernel_rfl) M 1 rfl rfl rfl) 1 rfl rfl rfl ?_)
      intro w23 M
      refine ⟨(M.sub (cn (cn (List.nil_sublist _)))), ?_⟩
      refine qh (by kernel_rfl) (ut (us := (r1.d.cells r1.ts.length)) (L' := (.obj g4 (.cells (r1.d.cells r1.ts.length).toArray 38) :: .obj g2 (.cells (p1.d.cells p1.ts.length).toArray 38) :: [])) A M 9 rfl rfl rfl (za rfl rfl rfl (by kernel_rfl) M 0 rfl rfl rfl) 0 rfl rfl rfl ?_)
      intro w24 M
      refine ⟨(M.sub (cn (cn (List.nil_sublist _)))), ?_⟩
      refine ze (by kernel_rfl) ?_
      exact hJ21 _ _ ⟨(), A.keep _ (by repeat' constructor), M⟩
     ·
      refine ut (us := (p1.d.cells p1.ts.length)) (L' := (.obj g4 (.cells (r.d.cells r.ts.length).toArray 38) :: .obj g2 (.cells (p1.d.cells p1.ts.length).toArray 38) :: [])) A M 8 rfl rfl rfl (za rfl rfl rfl (by kernel_rfl) M 1 rfl rfl rfl) 1 rfl rfl rfl ?_
      intro w25 M
      refine ⟨(M.sub (cn (cn (List.nil_sublist _)))), ?_⟩
      refine qh (by kernel_rfl) (xz A 5 rfl rfl rfl rfl (qk M EqB_is1_28 rfl 0 rfl rfl) (M.sub (cn (cn (List.nil_sublist _)))) ?_)
      intro a A
      refine qe (v := .pointer (some ⟨br1, or1 + 1 * 11, none⟩)) A 6 rfl rfl rfl rfl hP (M.sub (cn (cn (List.nil_sublist _)))) (fun w1 M => zu (k := 1) Tryz.underlying28 (by kernel_rfl) rfl rfl rfl lr1 (by omega)) λa A↦?_
      refine qe A 7 rfl rfl rfl rfl hP (M.sub (cn (cn (List.nil_sublist _)))) (fun w1 M => jv M Hr1 EqB_isS_38 rfl rfl) λa A↦?_
      refine qh (by kernel_rfl) (ut (us := (r1.d.cells r1.ts.length)) (L' := (.obj g4 (.cells (r1.d.cells r1.ts.length).toArray 38) :: .obj g2 (.cells (p1.d.cells p1.ts.length).toArray 38) :: [])) A M 9 rfl rfl rfl (za rfl rfl rfl (by kernel_rfl) M 0 rfl rfl rfl) 0 rfl rfl rfl ?_)
      intro w26 M
      refine ⟨(M.sub (cn (cn (List.nil_sublist _)))), ?_⟩
      refine ze (by kernel_rfl) ?_
      exact hJ21 _ _ ⟨(), A.keep _ (by repeat' constructor), M⟩
    ·
     refine xz A 5 rfl rfl rfl rfl (qk M EqB_is1_28 rfl 0 rfl rfl) (M.sub (cn (cn (List.nil_sublist _)))) λa A↦?_
     refine qe (v := .pointer (some ⟨br1, or1 + 1 * 11, none⟩)) A 6 rfl rfl rfl rfl hP (M.sub (cn (cn (List.nil_sublist _)))) (fun w1 M => zu (k := 1) Tryz.underlying28 (by kernel_rfl) rfl rfl rfl lr1 (by omega)) λa A↦?_
     refine qe A 7 rfl rfl rfl rfl hP (M.sub (cn (cn (List.nil_sublist _)))) (fun w1 M => jv M Hr1 EqB_isS_38 rfl rfl) λa A↦?_
     refine qh (by kernel_rfl) (xz A 1 rfl rfl rfl rfl (qk M EqB_is1_28 rfl 1 rfl rfl) (M.sub (cn (cn (List.nil_sublist _)))) ?_)
     intro a A
     refine qe (v := .pointer (some ⟨bp1, op1 + 1 * 11, none⟩)) A 2 rfl rfl rfl rfl hP (M.sub (cn (cn (List.nil_sublist _)))) (fun w1 M => zu (k := 1) Tryz.underlying28 (by kernel_rfl) rfl rfl rfl lp1 (by omega)) λa A↦?_
     refine qe A 3 rfl rfl rfl rfl hP (M.sub (cn (cn (List.nil_sublist _)))) (fun w1 M => jv M Hp1 EqB_isS_38 rfl rfl) λa A↦?_
     refine qh (by kernel_rfl) (ut (us := (p1.d.cells p1.ts.length)) (L' := (.obj g4 (.cells (r.d.cells r.ts.length).toArray 38) :: .obj g2 (.cells (p1.d.cells p1.ts.length).toArray 38) :: [])) A M 8 rfl rfl rfl (za rfl rfl rfl (by kernel_rfl) M 1 rfl rfl rfl) 1 rfl rfl rfl ?_)
     intro w27 M
     refine ⟨(M.sub (cn (cn (List.nil_sublist _)))), ?_⟩
     refine qh (by kernel_rfl) (ut (us := (r1.d.cells r1.ts.length)) (L' := (.obj g4 (.cells (r1.d.cells r1.ts.length).toArray 38) :: .obj g2 (.cells (p1.d.cells p1.ts.length).toArray 38) :: [])) A M 9 rfl rfl rfl (za rfl rfl rfl (by kernel_rfl) M 0 rfl rfl rfl) 0 rfl rfl rfl ?_)
     intro w28 M
     refine ⟨(M.sub (cn (cn (List.nil_sublist _)))), ?_⟩
     refine ze (by kernel_rfl) ?_
     exact hJ21 _ _ ⟨(), A.keep _ (by repeat' constructor), M⟩
  ·
   have hb13' := ne_of_beq_false hb13
   refine sdc A qm hb13 λa A↦?_
   refine sdk (v := .bool false) A λa A↦?_
   refine qa (hK11 _ _ (wp_cond_false (A.ev rfl) ?_))
   refine wp_exit (hK6 _ _ (wsk fun K29 hK29 => wsk fun K30 hK30 => wrl (sdo (v := .pointer (some ⟨g2, 0, none⟩)) A (qb EqB_fld_38_0 rfl rfl) λa A↦?_)))
   refine sdo A (qk M EqB_is1_3 rfl 1 rfl rfl) λa A↦?_
   refine sdo (v := .pointer (some ⟨g4, 0, none⟩)) A (qb EqB_fld_38_0 rfl rfl) λa A↦?_
   refine sdo A (qk M EqB_is1_3 rfl 0 rfl rfl) λa A↦?_
   refine sdo (v := .bool true) A (qg rfl rfl (fun w => (jo w).trans (by rw [show ((p.d.k != r.d.k)) = true from (bne_iff_ne.2 (by omega))]))) λa A↦?_
   refine qa (hK30 _ _ (wp_cond_true (A.ev rfl) ?_))
   refine wsk fun K31 hK31 => wrl (sdo (v := .pointer (some ⟨g2, 0, none⟩)) A (qb EqB_fld_38_0 rfl rfl) λa A↦?_)
   refine sdo A (qk M EqB_is1_3 rfl 1 rfl rfl) λa A↦?_
   refine sdo (v := .pointer (some ⟨g4, 0, none⟩)) A (qb EqB_fld_38_0 rfl rfl) λa A↦?_
   refine sdo A (qk M EqB_is1_3 rfl 0 rfl rfl) λa A↦?_
   refine gcl A M (ef rfl rfl) (qbd) fun w33 hb32 M a A => ?_
   refine sda A λa A↦?_
   refine qa (hK31 _ _ (wp_ret (hret _ _ (en1 A rfl (qj rfl) ?_))))
   exact ⟨by rw [hin9, qud (by omega)], M.bel⟩
 ·
  have hb12' := ne_of_beq_false hb12
  refine sdc A qm hb12 λa A↦?_
  refine sdm A λa A↦?_
  iterate 3 refine zg A rfl rfl rfl λa A↦?_
  refine sdk (v := .bool false) A λa A↦?_
  refine qa (hK11 _ _ (wp_cond_false (A.ev rfl) ?_))
  refine wp_exit (hK6 _ _ (wsk fun K34 hK34 => wsk fun K35 hK35 => wrl (sdo (v := .pointer (some ⟨g2, 0, none⟩)) A (qb EqB_fld_38_0 rfl rfl) λa A↦?_)))
  refine sdo A (qk M EqB_is1_3 rfl 1 rfl rfl) λa A↦?_
  refine sdo (v := .pointer (some ⟨g4, 0, none⟩)) A (qb EqB_fld_38_0 rfl rfl) λa A↦?_
  refine sdo A (qk M EqB_is1_3 rfl 0 rfl rfl) λa A↦?_
  rcases tf ((p.d.k != r.d.k)) with hb36 | hb36
  ·
   have hb36' := bne_iff_ne.1 hb36
   refine sdc A jo hb36 λa A↦?_
   refine qa (hK35 _ _ (wp_cond_true (A.ev rfl) ?_))
   refine wsk fun K37 hK37 => wrl (sdo (v := .pointer (some ⟨g2, 0, none⟩)) A (qb EqB_fld_38_0 rfl rfl) λa A↦?_)
   refine sdo A (qk M EqB_is1_3 rfl 1 rfl rfl) λa A↦?_
   refine sdo (v := .pointer (some ⟨g4, 0, none⟩)) A (qb EqB_fld_38_0 rfl rfl) λa A↦?_
   refine sdo A (qk M EqB_is1_3 rfl 0 rfl rfl) λa A↦?_
   refine gcl A M (ef rfl rfl) (qbd) fun w39 hb38 M a A => ?_
   refine sda A λa A↦?_
   refine qa (hK37 _ _ (wp_ret (hret _ _ (en1 A rfl (qj rfl) ?_))))
   exact ⟨by rw [hin9, qud (by omega)], M.bel⟩
  ·
   have hb36' := bne_eq_false_iff_eq.1 hb36
   refine sdc A jo hb36 λa A↦?_
   refine qa (hK35 _ _ (wp_cond_false (A.ev rfl) ?_))
   refine wp_skip (hK34 _ _ (wsk fun K40 hK40 => wsk fun K41 hK41 => wrl (sdo (v := .pointer (some ⟨g2, 0, none⟩)) A (qb EqB_fld_38_0 rfl rfl) λa A↦?_)))
   refine sdo A (qk M EqB_is1_3 rfl 1 rfl rfl) λa A↦?_
   refine qa (hK41 _ _ (wp_block (wsk fun K42 hK42 => wsk fun K43 hK43 => wrl ?_)))
   rcases tf ((p.d.k == 2)) with hb44 | hb44
   ·
    have hb44' := eq_of_beq hb44
    refine sdc A qm hb44 λa A↦?_
    refine sda A λa A↦?_
    refine qa (hK43 _ _ (wp_cond_true (A.ev rfl) ?_))
    refine wp_skip (hK42 _ _ (wp_cond_true (A.ev rfl) ?_))
    refine wsk fun K45 hK45 => wrl (sdo (v := .pointer (some ⟨g2, 1, none⟩)) A (qb EqB_fld_38_1 rfl rfl) λa A↦?_)
    refine sdo A (qk M EqB_is1_3 rfl 1 rfl rfl) λa A↦?_
    refine sdo (v := .pointer (some ⟨g4, 1, none⟩)) A (qb EqB_fld_38_1 rfl rfl) λa A↦?_
    refine sdo A (qk M EqB_is1_3 rfl 0 rfl rfl) λa A↦?_
    refine gcl A M (ef rfl rfl) (qbd) fun w47 hb46 M a A => ?_
    refine sda A λa A↦?_
    refine qa (hK45 _ _ (wp_ret (hret _ _ (en1 A rfl (qj rfl) ?_))))
    exact ⟨by
     rw [hin9, yi gp gr (by omega) (by omega)]
     repeat (first | rw [if_pos (by omega)] | rw [if_neg (by omega)]), M.bel⟩
   ·
    have hb44' := ne_of_beq_false hb44
    refine sdc A qm hb44 λa A↦?_
    refine sda A λa A↦?_
    refine qa (hK43 _ _ (wp_cond_false (A.ev rfl) ?_))
    refine wrl ?_
    rcases tf ((p.d.k == 4)) with hb48 | hb48
    ·
     have hb48' := eq_of_beq hb48
     refine sdc A qm hb48 λa A↦?_
     refine sda A λa A↦?_
     refine qa (hK42 _ _ (wp_cond_true (A.ev rfl) ?_))
     refine wsk fun K49 hK49 => wrl (sdo (v := .pointer (some ⟨g2, 1, none⟩)) A (qb EqB_fld_38_1 rfl rfl) λa A↦?_)
     refine sdo A (qk M EqB_is1_3 rfl 1 rfl rfl) λa A↦?_
     refine sdo (v := .pointer (some ⟨g4, 1, none⟩)) A (qb EqB_fld_38_1 rfl rfl) λa A↦?_
     refine sdo A (qk M EqB_is1_3 rfl 0 rfl rfl) λa A↦?_
     refine gcl A M (ef rfl rfl) (qbd) fun w51 hb50 M a A => ?_
     refine sda A λa A↦?_
     refine qa (hK49 _ _ (wp_ret (hret _ _ (en1 A rfl (qj rfl) ?_))))
     exact ⟨by
      rw [hin9, yi gp gr (by omega) (by omega)]
      repeat (first | rw [if_pos (by omega)] | rw [if_neg (by omega)]), M.bel⟩
    ·
     have hb48' := ne_of_beq_false hb48
     refine sdc A qm hb48 λa A↦?_
     refine sda A λa A↦?_
     refine qa (hK42 _ _ (wp_cond_false (A.ev rfl) ?_))
     refine wsk fun K52 hK52 => wrl ?_
     rcases tf ((p.d.k == 3)) with hb53 | hb53
     ·
      have hb53' := eq_of_beq hb53
      refine sdc A qm hb53 λa A↦?_
      refine sda A λa A↦?_
      refine qa (hK52 _ _ (wp_cond_true (A.ev rfl) ?_))
      refine wsk fun K54 hK54 => wrl (sdo (v := .pointer (some ⟨g2, 2, none⟩)) A (qb EqB_fld_38_2 rfl rfl) λa A↦?_)
      refine sdo A (qw M EqB_isS_35 rfl 1 rfl (cs := [.bool p.d.y.q.b1, .slice p.d.y.o1 p.d.y.q.t1.length p.d.y.c1, .slice p.d.y.o2 p.d.y.q.q1.length p.d.y.c2, .bool p.d.y.q.b2, .slice p.d.y.o3 p.d.y.q.t2.length p.d.y.c3, .slice p.d.y.o4 p.d.y.q.q2.length p.d.y.c4]) rfl rfl) λa A↦?_
      refine sdo (v := .pointer (some ⟨g4, 2, none⟩)) A (qb EqB_fld_38_2 rfl rfl) λa A↦?_
      refine sdo A (qw M EqB_isS_35 rfl 0 rfl (cs := [.bool r.d.y.q.b1, .slice r.d.y.o1 r.d.y.q.t1.length r.d.y.c1, .slice r.d.y.o2 r.d.y.q.q1.length r.d.y.c2, .bool r.d.y.q.b2, .slice r.d.y.o3 r.d.y.q.t2.length r.d.y.c3, .slice r.d.y.o4 r.d.y.q.q2.length r.d.y.c4]) rfl rfl) λa A↦?_
      refine gcl A M (ef rfl rfl) (zme (y := p.d.y) (z := r.d.y) (Nu.below (Dt.okT hp).1.num M.bel) (Nu.below (Dt.okT hr).1.num M.bel) ((xa gp).2.1 (by omega)) ((xa gr).2.1 (by omega))) fun w55 hbn M a A => ?_
      refine sda A λa A↦?_
      refine qa (hK54 _ _ (wp_ret (hret _ _ (en1 A rfl (qj rfl) ?_))))
      exact ⟨by
       rw [hin9, yi gp gr (by omega) (by omega)]
       repeat (first | rw [if_pos (by omega)] | rw [if_neg (by omega)]), M.bel⟩
     ·
      have hb53' := ne_of_beq_false hb53
      refine sdc A qm hb53 λa A↦?_
      refine sda A λa A↦?_
      refine qa (hK52 _ _ (wp_cond_false (A.ev rfl) ?_))
      refine wsk fun K56 hK56 => wsk fun K57 hK57 => wrl ?_
      rcases tf ((p.d.k == 5)) with hb58 | hb58
      ·
       have hb58' := eq_of_beq hb58
       refine sdc A qm hb58 λa A↦?_
       refine sda A λa A↦?_
       refine qa (hK57 _ _ (wp_cond_true (A.ev rfl) ?_))
       refine wp_skip (hK56 _ _ (wp_cond_true (A.ev rfl) ?_))
       refine wsk fun K59 hK59 => wrl (sdo (v := .pointer (some ⟨g2, 8, none⟩)) A (qb EqB_fld_38_3 rfl rfl) λa A↦?_)
       refine sdo A (qk M EqB_is1_9 rfl 1 rfl rfl) λa A↦?_
       refine sdo (v := .pointer (some ⟨g4, 8, none⟩)) A (qb EqB_fld_38_3 rfl rfl) λa A↦?_
       refine sdo A (qk M EqB_is1_9 rfl 0 rfl rfl) λa A↦?_
       refine gcl A M (ef rfl rfl) (qmc) fun w61 hb60 M a A => ?_
       refine sda A λa A↦?_
       refine qa (hK59 _ _ (wp_ret (hret _ _ (en1 A rfl (qj rfl) ?_))))
       exact ⟨by
        rw [hin9, yi gp gr (by omega) (by omega)]
        repeat (first | rw [if_pos (by omega)] | rw [if_neg (by omega)]), M.bel⟩
      ·
       have hb58' := ne_of_beq_false hb58
       refine sdc A qm hb58 λa A↦?_
       refine sda A λa A↦?_
       refine qa (hK57 _ _ (wp_cond_false (A.ev rfl) ?_))
       refine wsk fun K62 hK62 => wrl ?_
       rcases tf ((p.d.k == 6)) with hb63 | hb63
       ·
        have hb63' := eq_of_beq hb63
        refine sdc A qm hb63 λa A↦?_
        refine sda A λa A↦?_
        refine qa (hK62 _ _ (wp_cond_true (A.ev rfl) ?_))
        refine wp_skip (hK56 _ _ (wp_cond_true (A.ev rfl) ?_))
        refine wsk fun K64 hK64 => wrl (sdo (v := .pointer (some ⟨g2, 8, none⟩)) A (qb EqB_fld_38_3 rfl rfl) λa A↦?_)
        refine sdo A (qk M EqB_is1_9 rfl 1 rfl rfl) λa A↦?_
        refine sdo (v := .pointer (some ⟨g4, 8, none⟩)) A (qb EqB_fld_38_3 rfl rfl) λa A↦?_
        refine sdo A (qk M EqB_is1_9 rfl 0 rfl rfl) λa A↦?_
        refine gcl A M (ef rfl rfl) (qmc) fun w66 hb65 M a A => ?_
        refine sda A λa A↦?_
        refine qa (hK64 _ _ (wp_ret (hret _ _ (en1 A rfl (qj rfl) ?_))))
        exact ⟨by
         rw [hin9, yi gp gr (by omega) (by omega)]
         repeat (first | rw [if_pos (by omega)] | rw [if_neg (by omega)]), M.bel⟩
       ·
        have hb63' := ne_of_beq_false hb63
        refine sdc A qm hb63 λa A↦?_
        refine sda A λa A↦?_
        refine qa (hK62 _ _ (wp_cond_false (A.ev rfl) ?_))
        refine wrl ?_
        rcases tf ((p.d.k == 11)) with hb67 | hb67
        ·
         have hb67' := eq_of_beq hb67
         refine sdc A qm hb67 λa A↦?_
         refine sda A λa A↦?_
         refine qa (hK56 _ _ (wp_cond_true (A.ev rfl) ?_))
         refine wsk fun K68 hK68 => wrl (sdo (v := .pointer (some ⟨g2, 8, none⟩)) A (qb EqB_fld_38_3 rfl rfl) λa A↦?_)
         refine sdo A (qk M EqB_is1_9 rfl 1 rfl rfl) λa A↦?_
         refine sdo (v := .pointer (some ⟨g4, 8, none⟩)) A (qb EqB_fld_38_3 rfl rfl) λa A↦?_
         refine sdo A (qk M EqB_is1_9 rfl 0 rfl rfl) λa A↦?_
         refine gcl A M (ef rfl rfl) (qmc) fun w70 hb69 M a A => ?_
         refine sda A λa A↦?_
         refine qa (hK68 _ _ (wp_ret (hret _ _ (en1 A rfl (qj rfl) ?_))))
         exact ⟨by
          rw [hin9, yi gp gr (by omega) (by omega)]
          repeat (first | rw [if_pos (by omega)] | rw [if_neg (by omega)]), M.bel⟩
        ·
         have hb67' := ne_of_beq_false hb67
         refine sdc A qm hb67 λa A↦?_
         refine sda A λa A↦?_
         refine qa (hK56 _ _ (wp_cond_false (A.ev rfl) ?_))
         refine wsk fun K71 hK71 => wrl ?_
         rcases tf ((p.d.k == 7)) with hb72 | hb72
         ·
          have hb72' := eq_of_beq hb72
          refine sdc A qm hb72 λa A↦?_
          refine sda A λa A↦?_
          refine qa (hK71 _ _ (wp_cond_true (A.ev rfl) ?_))
          refine wsk fun K73 hK73 => wrl (sdo (v := .pointer (some ⟨g2, 9, none⟩)) A (qb EqB_fld_38_4 rfl rfl) λa A↦?_)
          refine sdo A (qk M EqB_is1_36 rfl 1 rfl rfl) λa A↦?_
          refine sdo (v := .pointer (some ⟨g4, 9, none⟩)) A (qb EqB_fld_38_4 rfl rfl) λa A↦?_
          refine sdo A (qk M EqB_is1_36 rfl 0 rfl rfl) λa A↦?_
          refine gcl A M (ef rfl rfl) (zlh ((Dt.okT hp).1.raw.below M.bel) ((Dt.okT hr).1.raw.below M.bel)) fun w75 hb74 M a A => ?_
          refine sda A λa A↦?_
          refine qa (hK73 _ _ (wp_ret (hret _ _ (en1 A rfl (qj rfl) ?_))))
          exact ⟨by
           rw [hin9, yi gp gr (by omega) (by omega)]
           repeat (first | rw [if_pos (by omega)] | rw [if_neg (by omega)]), M.bel⟩
         ·
          have hb72' := ne_of_beq_false hb72
          refine sdc A qm hb72 λa A↦?_
          refine sda A λa A↦?_
          refine qa (hK71 _ _ (wp_cond_false (A.ev rfl) ?_))
          refine wsk fun K76 hK76 => wrl ?_
          rcases tf ((p.d.k == 9)) with hb77 | hb77
          ·
           have hb77' := eq_of_beq hb77
           refine sdc A qm hb77 λa A↦?_
           refine sda A λa A↦?_
           refine qa (hK76 _ _ (wp_cond_true (A.ev rfl) ?_))
           refine wsk fun K78 hK78 => wrl (sdo (v := .pointer (some ⟨g2, 10, none⟩)) A (qb EqB_fld_38_5 rfl rfl) λa A↦?_)
           refine sdo A (qk M EqB_is1_28 rfl 1 rfl rfl) λa A↦?_
           refine sdo (v := .pointer (some ⟨g4, 10, none⟩)) A (qb EqB_fld_38_5 rfl rfl) λa A↦?_
           refine sdo A (qk M EqB_is1_28 rfl 0 rfl rfl) λa A↦?_
           refine gcl A M (ef rfl rfl) (zsg ih (Dt.keep M.bel _ hp) (Dt.keep M.bel _ hr) gp gr (by omega)) fun w80 hb79 M a A => ?_
           refine sda A λa A↦?_
           refine qa (hK78 _ _ (wp_ret (hret _ _ (en1 A rfl (qj rfl) ?_))))
           exact ⟨by
            rw [hin9, yi gp gr (by omega) (by omega)]
            repeat (first | rw [if_pos (by omega)] | rw [if_neg (by omega)]), M.bel⟩
          ·
           have hb77' := ne_of_beq_false hb77
           refine sdc A qm hb77 λa A↦?_
           refine sda A λa A↦?_
           refine qa (hK76 _ _ (wp_cond_false (A.ev rfl) ?_))
           refine wp_skip (hK40 _ _ (wsk fun K81 hK81 => wrl (sda A λa A↦?_)))
           refine qa (hK81 _ _ (wp_ret (hret _ _ (en1 A rfl (qj rfl) ?_))))
           exact ⟨by
            rw [hin9, yi gp gr (by omega) (by omega)]
            repeat (first | rw [if_pos (by omega)] | rw [if_neg (by omega)]), M.bel⟩
theorem qmg : ∀ n, Orders n
 | 0 => fun h => absurd h (Nat.not_lt_zero _)
 | n + 1 => qvi (qmg n)
theorem EqC_is1_28 : Is1 Tryz.prog 28 := ⟨⟨_, Tryz.underlying28, rfl⟩, by kernel_rfl⟩
theorem EqC_is1_3 : Is1 Tryz.prog 3 := ⟨⟨_, Tryz.underlying3, rfl⟩, by kernel_rfl⟩
theorem EqC_is1_36 : Is1 Tryz.prog 36 := ⟨⟨_, Tryz.underlying36, rfl⟩, by kernel_rfl⟩
theorem EqC_is1_9 : Is1 Tryz.prog 9 := ⟨⟨_, Tryz.underlying9, rfl⟩, by kernel_rfl⟩
theorem EqC_fld_35_0 : FieldAt Tryz.prog 35 0 0 := ⟨_, _, Tryz.underlying35, rfl, rfl, by kernel_rfl⟩
theorem EqC_fld_35_1 : FieldAt Tryz.prog 35 1 3 := ⟨_, _, Tryz.underlying35, rfl, rfl, by kernel_rfl⟩
theorem EqC_fld_38_0 : FieldAt Tryz.prog 38 0 0 := ⟨_, _, Tryz.underlying38, rfl, rfl, by kernel_rfl⟩
theorem EqC_fld_38_1 : FieldAt Tryz.prog 38 1 1 := ⟨_, _, Tryz.underlying38, rfl, rfl, by kernel_rfl⟩
theorem EqC_fld_38_2 : FieldAt Tryz.prog 38 2 2 := ⟨_, _, Tryz.underlying38, rfl, rfl, by kernel_rfl⟩
theorem EqC_fld_38_3 : FieldAt Tryz.prog 38 3 8 := ⟨_, _, Tryz.underlying38, rfl, rfl, by kernel_rfl⟩
theorem EqC_fld_38_4 : FieldAt Tryz.prog 38 4 9 := ⟨_, _, Tryz.underlying38, rfl, rfl, by kernel_rfl⟩
theorem EqC_fld_38_5 : FieldAt Tryz.prog 38 5 10 := ⟨_, _, Tryz.underlying38, rfl, rfl, by kernel_rfl⟩
theorem EqC_isS_33 : IsS Tryz.prog 33 3 := ⟨⟨_, Tryz.underlying33⟩, by kernel_rfl⟩
theorem EqC_isS_38 : IsS Tryz.prog 38 11 := ⟨⟨_, Tryz.underlying38⟩, by kernel_rfl⟩
theorem qvj {w : World} {t u : Dt} (ht : t.rd w) (hu : u.rd w) (hT : Tabs8 w) : Calls Tryz.prog 76 #[.agg (t.d.cells t.ts.length).toArray, .agg (u.d.cells u.ts.length).toArray] w fun e w' => e = .returned (.bool (qz qx t.tr && qz qx u.tr : Bool)) ∧ Below w.heap.size w w' := by
 have M : Mg w w ([]) := Mg.start w
 refine qs (l := [(0, .agg (t.d.cells t.ts.length).toArray), (1, .agg (u.d.cells u.ts.length).toArray)]) Tryz.func76 rfl Tryz.ntmps76 rfl rfl ?_
 intro Q hret hnorm hP a A
 refine wsk fun K1 hK1 => wrl (zx (vs := (t.d.cells t.ts.length)) (t := 38) A M rfl rfl rfl pg (qr rfl rfl) (by decide) ?_)
 intro g2 w3 M a A
 refine zx (vs := (u.d.cells u.ts.length)) (t := 38) A M rfl rfl rfl pg (qr rfl rfl) (by decide) ?_
 intro g4 w5 M a A
 refine sda A λa A↦?_
 refine qa (hK1 _ _ (wsk fun K6 hK6 => wrl (sdo A (qw M EqC_isS_38 rfl 1 rfl (cs := (t.d.cells t.ts.length)) rfl rfl) λa A↦?_)))
 rcases tf (qz qx t.tr) with hb7 | hb7
 ·
  refine gcl A M (ef rfl rfl) ((hb7 ▸ sound_any (t := t) (Dt.keep M.bel _ ht) (hT.below M.bel))) fun w9 hb8 M a A => ?_
  refine sdm A λa A↦?_
  refine sdo A (qw M EqC_isS_38 rfl 0 rfl (cs := (u.d.cells u.ts.length)) rfl rfl) λa A↦?_
  rcases tf (qz qx u.tr) with hb10 | hb10
  ·
   refine gcl A M (ef rfl rfl) ((hb10 ▸ sound_any (t := u) (Dt.keep M.bel _ hu) (hT.below M.bel))) fun w12 hb11 M a A => ?_
   refine sdk (v := .bool true) A λa A↦?_
   refine sda A λa A↦?_
   refine qa (hK6 _ _ (wp_ret (hret _ _ (en1 A rfl (qj rfl) ?_))))
   exact ⟨by simp_all, M.bel⟩
  ·
   refine gcl A M (ef rfl rfl) ((hb10 ▸ sound_any (t := u) (Dt.keep M.bel _ hu) (hT.below M.bel))) fun w14 hb13 M a A => ?_
   refine sdk (v := .bool false) A λa A↦?_
   refine sda A λa A↦?_
   refine qa (hK6 _ _ (wp_ret (hret _ _ (en1 A rfl (qj rfl) ?_))))
   exact ⟨by simp_all, M.bel⟩
 ·
  refine gcl A M (ef rfl rfl) ((hb7 ▸ sound_any (t := t) (Dt.keep M.bel _ ht) (hT.below M.bel))) fun w16 hb15 M a A => ?_
  refine sdm A λa A↦?_
  iterate 2 refine zg A rfl rfl rfl λa A↦?_
  refine sdk (v := .bool false) A λa A↦?_
  refine sda A λa A↦?_
  refine qa (hK6 _ _ (wp_ret (hret _ _ (en1 A rfl (qj rfl) ?_))))
  exact ⟨by simp_all, M.bel⟩
theorem qhd {w : World} {t u : Dt} (ht : t.rd w) (hu : u.rd w) (hT : Tabs8 w) : Calls Tryz.prog 52 #[.agg (t.d.cells t.ts.length).toArray, .agg (u.d.cells u.ts.length).toArray] w fun e w' => e = .returned (.bool (ki t.tr u.tr)) ∧ Below w.heap.size w w' := by
 have M : Mg w w ([]) := Mg.start w
 refine qs (l := [(0, .agg (t.d.cells t.ts.length).toArray), (1, .agg (u.d.cells u.ts.length).toArray)]) Tryz.func52 rfl Tryz.ntmps52 rfl rfl ?_
 intro Q hret hnorm hP a A
 refine wsk fun K1 hK1 => wrl (zx (vs := (t.d.cells t.ts.length)) (t := 38) A M rfl rfl rfl pg (qr rfl rfl) (by decide) ?_)
 intro g2 w3 M a A
 refine zx (vs := (u.d.cells u.ts.length)) (t := 38) A M rfl rfl rfl pg (qr rfl rfl) (by decide) ?_
 intro g4 w5 M a A
 refine sda A λa A↦?_
 refine qa (hK1 _ _ (wsk fun K6 hK6 => wrl (sdo A (qw M EqC_isS_38 rfl 1 rfl (cs := (t.d.cells t.ts.length)) rfl rfl) λa A↦?_)))
 refine sdo A (qw M EqC_isS_38 rfl 0 rfl (cs := (u.d.cells u.ts.length)) rfl rfl) λa A↦?_
 rcases tf ((qz qx t.tr && qz qx u.tr)) with hb7 | hb7
 ·
  refine gcl A M (ef rfl rfl) ((hb7 ▸ qvj (Dt.keep M.bel _ ht) (Dt.keep M.bel _ hu) (hT.below M.bel))) fun w9 hb8 M a A => ?_
  refine sdm A λa A↦?_
  refine sdo A (qw M EqC_isS_38 rfl 1 rfl (cs := (t.d.cells t.ts.length)) rfl rfl) λa A↦?_
  refine sdo A (qw M EqC_isS_38 rfl 0 rfl (cs := (u.d.cells u.ts.length)) rfl rfl) λa A↦?_
  refine gcl A M (ef rfl rfl) (qmg (t.tr.bulk + 1) (Nat.lt_succ_self _) (Dt.keep M.bel _ ht) (Dt.keep M.bel _ hu) (qre ht (zbj hb7).1) (qre hu (zbj hb7).2)) fun w11 hb10 M a A => ?_
  rcases tf ((kh t.tr u.tr == 0)) with hb12 | hb12
  ·
   have hb12' := eq_of_beq hb12
   refine sdc A qm hb12 λa A↦?_
   refine sdk (v := .bool true) A λa A↦?_
   refine sda A λa A↦?_
   refine qa (hK6 _ _ (wp_ret (hret _ _ (en1 A rfl (qj rfl) ?_))))
   exact ⟨by unfold ki; simp_all, M.bel⟩
  ·
   have hb12' := ne_of_beq_false hb12
   refine sdc A qm hb12 λa A↦?_
   refine sdk (v := .bool false) A λa A↦?_
   refine sda A λa A↦?_
   refine qa (hK6 _ _ (wp_ret (hret _ _ (en1 A rfl (qj rfl) ?_))))
   exact ⟨by unfold ki; simp_all, M.bel⟩
 ·
  refine gcl A M (ef rfl rfl) ((hb7 ▸ qvj (Dt.keep M.bel _ ht) (Dt.keep M.bel _ hu) (hT.below M.bel))) fun w14 hb13 M a A => ?_
  refine sdm A λa A↦?_
  iterate 4 refine zg A rfl rfl rfl λa A↦?_
  refine sdk (v := .bool false) A λa A↦?_
  refine sda A λa A↦?_
  refine qa (hK6 _ _ (wp_ret (hret _ _ (en1 A rfl (qj rfl) ?_))))
  exact ⟨by unfold ki; simp_all, M.bel⟩
def Hashes (n : Nat) : Prop := ∀ {w : World} {t : Dt} {h : Int}, t.tr.bulk < n → t.rd w → t.tr.good → Calls Tryz.prog 75 #[.int .u64 h, .agg (t.d.cells t.ts.length).toArray] w fun e w' => e = .returned (.int .u64 (ue h t.tr)) ∧ Below w.heap.size w w'
theorem zmg {n : Nat} (ih : Hashes n) {w : World} {t : Dt} {h : Int} (ht : t.rd w) (gt : t.tr.good) (hb : t.tr.bulk ≤ n) : Calls Tryz.prog 114 #[.int .u64 h, .slice t.d.lo t.ts.length t.d.lc] w fun e w' => e = .returned (.int .u64 (uf (hw h (t.ts.length : Int)) (t.ts.map Dt.tr))) ∧ Below w.heap.size w w' := by
 have hlt := (Dt.okT ht).2
 have M : Mg w w ([]) := Mg.start w
 refine qs (l := [(0, .int .u64 h), (1, .slice t.d.lo t.ts.length t.d.lc)]) Tryz.func114 rfl Tryz.ntmps114 rfl rfl ?_
 intro Q hret hnorm hP a A
 refine wsk fun K1 hK1 => wrl (sda A λa A↦?_)
 refine qa (hK1 _ _ (wsk fun K2 hK2 => wrl ?_))
 iterate 2 refine sdm A λa A↦?_
 refine sdo A (qy Tryz.underlying28 rfl) λa A↦?_
 refine sdo (v := .int .u64 (((t.ts.length : Nat) : Int))) A (jq rfl (ar_conv Tryz.underlying3 Tryz.underlying67 (in_u64 (by omega) (by omega)))) λa A↦?_
 refine gcl A M (ef rfl rfl) (ve) fun w4 hb3 M a A => ?_
 refine sda A λa A↦?_
 refine qa (hK2 _ _ (wsk fun K5 hK5 => wsk fun K6 hK6 => wrl (sdm A λa A↦?_)))
 refine sdo A (qy Tryz.underlying28 rfl) λa A↦?_
 refine sdm A λa A↦?_
 refine qa (hK6 _ _ (wp_block (jp (fun m_ a w1 => ∃ (i : Nat) (m : Int), m_ = 1 + (t.ts.length - i) ∧ (i ≤ t.ts.length ∧ uf (hw h (t.ts.length : Int)) (t.ts.map Dt.tr) = uf m ((t.ts.map Dt.tr).drop i)) ∧ Sl a 23 [(0, .int .u64 m), (1, .slice t.d.lo t.ts.length t.d.lc), (4, .int .u64 0), (7, .int .u64 h), (8, .slice t.d.lo t.ts.length t.d.lc), (9, .int .i64 (((t.ts.length : Nat) : Int))), (10, .int .u64 (((t.ts.length : Nat) : Int))), (11, .int .u64 (hw h (((t.ts.length : Nat) : Int)))), (12, .slice t.d.lo t.ts.length t.d.lc), (13, .int .i64 (((t.ts.length : Nat) : Int))), (14, .int .i64 (((i : Nat) : Int)))] ∧ Mg w w1 ([])) _ ⟨0, hw h ((t.ts.length : Nat) : Int), rfl, ⟨Nat.zero_le _, rfl⟩, A.keep _ (by repeat' constructor), M⟩ ?_)))
 clear M A
 rintro m_ a w7 ⟨i, m, rfl, hinv9, A, M⟩ K8 hK8
 obtain ⟨hi0, hin9⟩ := hinv9
 refine wsk fun K10 hK10 => wrl ?_
 rcases tf (decide (((i : Nat) : Int) < ((t.ts.length : Nat) : Int))) with hb11 | hb11
 ·
  have hb11' := of_decide_eq_true hb11
  refine sdc A zq hb11 λa A↦?_
  refine qa (hK10 _ _ (wsk fun K12 hK12 => wp_cond_true (A.ev rfl) ?_))
  refine wp_skip (hK12 _ _ (wsk fun K13 hK13 => wp_block (wsk fun K14 hK14 => ?_)))
  obtain ⟨t1, bt1, ot1, it1, mt1, rt1_, lt1, Ht1⟩ := qnj ht (i := i) (by omega)
  refine wrl (sdo (v := .pointer (some ⟨bt1, ot1 + i * 11, none⟩)) A (zu (k := i) Tryz.underlying28 (by kernel_rfl) rfl rfl rfl lt1 (by omega)) λa A↦?_)
  refine sdo A (jv M Ht1 EqC_isS_38 rfl rfl) λa A↦?_
  refine zx (vs := [.int .i64 0, .int .i64 0, .bool false, .slice none 0 0, .slice none 0 0, .bool false, .slice none 0 0, .slice none 0 0, .string (⟨#[]⟩), .slice none 0 0, .slice none 0 0]) (t := 38) A M rfl rfl rfl pg (ql (z := .agg #[.int .i64 0, .int .i64 0, .bool false, .slice none 0 0, .slice none 0 0, .bool false, .slice none 0 0, .slice none 0 0, .string (⟨#[]⟩), .slice none 0 0, .slice none 0 0]) (by kernel_rfl) rfl) (by decide) ?_
  intro g15 w16 M a A
  refine zr (us := (t1.d.cells t1.ts.length)) (L' := (.obj g15 (.cells (t1.d.cells t1.ts.length).toArray 38) :: [])) A M rfl rfl (za rfl rfl rfl (by kernel_rfl) M 0 rfl rfl rfl) 0 rfl rfl rfl ?_
  intro w17 M
  refine qa (hK14 _ _ (wrl (sdm A λa A↦?_)))
  refine sdo A (qw M EqC_isS_38 rfl 0 rfl (cs := (t1.d.cells t1.ts.length)) rfl rfl) λa A↦?_
  refine gcl A M (ef rfl rfl) (ih (by have := qij mt1; omega) (Dt.keep M.bel _ rt1_) ((xa gt).2.2 _ mt1)) fun w19 hb18 M a A => ?_
  refine sda A λa A↦?_
  refine qa (hK13 _ _ (wrl (sdo (v := .int .i64 (((i + 1 : Nat) : Int))) A (qg rfl rfl (fun w => (vg (yy (by omega) (by omega)) w).trans (by rw [show (((i : Nat) : Int) + 1 : Int) = ((i + 1 : Nat) : Int) from by omega]))) λa A↦?_)))
  refine sdm A λa A↦?_
  refine qa ?_
  replace M : Mg w w19 ([]) := by
   have h9 := M.sub (cn (.refl _))
   exact h9
  refine hK8 _ _ _ (by omega) ⟨i + 1, ue m t1.tr, rfl, ⟨by omega, by rw [hin9, zkb it1]⟩, A.keep _ (by repeat' constructor), M⟩
 ·
  have hb11' := of_decide_eq_false hb11
  refine sdc A zq hb11 λa A↦?_
  refine qa (hK10 _ _ (wsk fun K20 hK20 => wp_cond_false (A.ev rfl) ?_))
  refine wp_exit (hK5 _ _ (wsk fun K21 hK21 => wrl (sdm A λa A↦?_)))
  refine sda A λa A↦?_
  refine qa (hK21 _ _ (wp_ret (hret _ _ (en1 A rfl (qj rfl) ?_))))
  exact ⟨by rw [hin9, zfe (by omega)], M.bel⟩
theorem qwa {n : Nat} (ih : Hashes n) : Hashes (n + 1) := by
 intro w t h hn ht gt
 have M : Mg w w ([]) := Mg.start w
 refine qs (l := [(0, .int .u64 h), (1, .agg (t.d.cells t.ts.length).toArray)]) Tryz.func75 rfl Tryz.ntmps75 rfl rfl ?_
 intro Q hret hnorm hP a A
 refine wsk fun K1 hK1 => wrl (zx (vs := (t.d.cells t.ts.length)) (t := 38) A M rfl rfl rfl pg (qr rfl rfl) (by decide) ?_)
 intro g2 w3 M a A
 refine sda A λa A↦?_
 refine qa (hK1 _ _ (wsk fun K4 hK4 => wp_block (jp (fun m_ a w1 => ∃ (p : Dt) (m : Int), m_ = 1 + p.tr.bulk ∧ (p.rd w ∧ p.tr.good ∧ p.tr.bulk ≤ t.tr.bulk ∧ ue h t.tr = ue m p.tr) ∧ Sl a 67 [(0, .int .u64 m), (1, .agg (t.d.cells t.ts.length).toArray), (3, .pointer (some ⟨g2, 0, none⟩)), (4, .int .u64 0)] ∧ Mg w w1 (.obj g2 (.cells (p.d.cells p.ts.length).toArray 38) :: [])) _ ⟨t, h, rfl, ⟨ht, gt, Nat.le_refl _, rfl⟩, A.keep _ ⟨rfl, rfl, rfl, rfl, trivial⟩, M⟩ ?_)))
 clear M A
 rintro m_ a w5 ⟨p, m, rfl, hinv7, A, M⟩ K6 hK6
 obtain ⟨hp, gp, hbk, hin9⟩ := hinv7
 have hk0 := (xa gp).1.h0
 have hk1 := (xa gp).1.h1
 have hn9 := zyi (xa gp).1
 refine wsk fun K8 hK8 => wsk fun K9 hK9 => wrl (sdo (v := .pointer (some ⟨g2, 0, none⟩)) A (qb EqC_fld_38_0 rfl rfl) λa A↦?_)
 refine sdo A (qk M EqC_is1_3 rfl 0 rfl rfl) λa A↦?_
 rcases tf ((p.d.k == 8)) with hb10 | hb10
 ·
  have hb10' := eq_of_beq hb10
  refine sdc A qm hb10 λa A↦?_
  refine qa (hK9 _ _ (wp_cond_true (A.ev rfl) ?_))
  refine wp_skip (hK8 _ _ (wp_block (wsk fun K11 hK11 => ?_)))
  have l2p := (xa gp).1.h8 hb10'
  obtain ⟨p0, bp0, op0, ip0, mp0, rp0_, lp0, Hp0⟩ := qnj hp (i := 0) (by omega)
  obtain ⟨p1, bp1, op1, ip1, mp1, rp1_, lp1, Hp1⟩ := qnj hp (i := 1) (by omega)
  have hpq := zfd (h := m) hb10' l2p ip0 ip1
  refine jh (S := fun w1 => Mg w w1 (.obj g2 (.cells (p.d.cells p.ts.length).toArray 38) :: [])) (by kernel_rfl) ?_
  replace M := M.drew
  refine qe A 0 rfl rfl rfl rfl hP (M.sub (cc (List.nil_sublist _))) (fun w1 M => qp rfl) λa A↦?_
  refine qe (v := .pointer (some ⟨g2, 10, none⟩)) A 2 rfl rfl rfl rfl hP (M.sub (cc (List.nil_sublist _))) (fun w1 M => qb EqC_fld_38_5 rfl rfl) λa A↦?_
  refine qe A 3 rfl rfl rfl rfl hP (M.sub (cc (List.nil_sublist _))) (fun w1 M => qk M EqC_is1_28 rfl 0 rfl rfl) λa A↦?_
  refine qe (v := .pointer (some ⟨bp0, op0 + 0 * 11, none⟩)) A 4 rfl rfl rfl rfl hP (M.sub (cc (List.nil_sublist _))) (fun w1 M => zu (k := 0) Tryz.underlying28 (by kernel_rfl) rfl rfl rfl lp0 (by omega)) λa A↦?_
  refine qe A 5 rfl rfl rfl rfl hP (M.sub (cc (List.nil_sublist _))) (fun w1 M => jv M Hp0 EqC_isS_38 rfl rfl) λa A↦?_
  refine qh (by kernel_rfl) (qn A 1 rfl rfl rfl rfl (qi rfl rfl (fun w => by kernel_rfl)) (ve) ?_)
  rintro _ w13 ⟨rfl, hb12⟩
  replace M := M.call hb12
  refine ⟨_, rfl, (M.sub (cc (List.nil_sublist _))), ?_⟩
  intro a A
  refine qh (by kernel_rfl) (qn A 6 rfl rfl rfl rfl (qi rfl rfl (fun w => by kernel_rfl)) (ih (by have := qij mp0; omega) (Dt.keep M.bel _ rp0_) ((xa gp).2.2 _ mp0)) ?_)
  rintro _ w15 ⟨rfl, hb14⟩
  replace M := M.call hb14
  refine ⟨_, rfl, (M.sub (cc (List.nil_sublist _))), ?_⟩
  intro a A
  refine qe A 7 rfl rfl rfl rfl hP (M.sub (cc (List.nil_sublist _))) (fun w1 M => jf rfl) λa A↦?_
  refine ze (by kernel_rfl) ?_
  refine hK11 _ _ (wrl (sdo (v := .pointer (some ⟨g2, 10, none⟩)) A (qb EqC_fld_38_5 rfl rfl) λa A↦?_))
  refine sdo A (qk M EqC_is1_28 rfl 0 rfl rfl) λa A↦?_
  refine sdo (v := .pointer (some ⟨bp1, op1 + 1 * 11, none⟩)) A (zu (k := 1) Tryz.underlying28 (by kernel_rfl) rfl rfl rfl lp1 (by omega)) λa A↦?_
  refine sdo A (jv M Hp1 EqC_isS_38 rfl rfl) λa A↦?_
  refine zr (us := (p1.d.cells p1.ts.length)) (L' := (.obj g2 (.cells (p1.d.cells p1.ts.length).toArray 38) :: [])) A M rfl rfl (za rfl rfl rfl (by kernel_rfl) M 0 rfl rfl rfl) 0 rfl rfl rfl ?_
  intro w16 M
  refine qa ?_
  refine hK6 _ _ _ (by have := qij mp1; omega) ⟨p1, ue (hw m 8) p0.tr, rfl, ⟨rp1_, (xa gp).2.2 _ mp1, by have := qij mp1; omega, by rw [hin9, hpq]⟩, A.keep _ ⟨rfl, rfl, rfl, rfl, trivial⟩, M⟩
 ·
  have hb10' := ne_of_beq_false hb10
  refine sdc A qm hb10 λa A↦?_
  refine qa (hK9 _ _ (wp_cond_false (A.ev rfl) ?_))
  refine wp_exit (hK4 _ _ (wsk fun K17 hK17 => wrl (sdm A λa A↦?_)))
  refine sdo (v := .pointer (some ⟨g2, 0, none⟩)) A (qb EqC_fld_38_0 rfl rfl) λa A↦?_
  refine sdo A (qk M EqC_is1_3 rfl 0 rfl rfl) λa A↦?_
  refine sdo (v := .int .u64 p.d.k) A (jq rfl (ar_conv Tryz.underlying3 Tryz.underlying67 (in_u64 (by omega) (by omega)))) λa A↦?_
  refine gcl A M (ef rfl rfl) (ve) fun w19 hb18 M a A => ?_
  refine sda A λa A↦?_
  refine qa (hK17 _ _ (wsk fun K20 hK20 => wsk fun K21 hK21 => wrl (sdo (v := .pointer (some ⟨g2, 0, none⟩)) A (qb EqC_fld_38_0 rfl rfl) λa A↦?_)))
  refine sdo A (qk M EqC_is1_3 rfl 0 rfl rfl) λa A↦?_
  refine qa (hK21 _ _ (wp_block (wsk fun K22 hK22 => wsk fun K23 hK23 => wrl ?_)))
  rcases tf ((p.d.k == 2)) with hb24 | hb24
  ·
   have hb24' := eq_of_beq hb24
   refine sdc A qm hb24 λa A↦?_
   refine sda A λa A↦?_
   refine qa (hK23 _ _ (wp_cond_true (A.ev rfl) ?_))
   refine wp_skip (hK22 _ _ (wp_cond_true (A.ev rfl) ?_))
   refine wsk fun K25 hK25 => wrl (sdm A λa A↦?_)
   refine sdo (v := .pointer (some ⟨g2, 1, none⟩)) A (qb EqC_fld_38_1 rfl rfl) λa A↦?_
   refine sdo A (qk M EqC_is1_3 rfl 0 rfl rfl) λa A↦?_
   refine sdo (v := .int .u64 p.d.n) A (jq rfl (ar_conv Tryz.underlying3 Tryz.underlying67 (in_u64 (by omega) (by omega)))) λa A↦?_
   refine gcl A M (ef rfl rfl) (ve) fun w27 hb26 M a A => ?_
   refine sda A λa A↦?_
   refine qa (hK25 _ _ (wp_ret (hret _ _ (en1 A rfl (qj rfl) ?_))))
   exact ⟨by
    rw [hin9, kq]
    repeat (first | rw [if_pos (by omega)] | rw [if_neg (by omega)])
    try rfl, M.bel⟩
  ·
   have hb24' := ne_of_beq_false hb24
   refine sdc A qm hb24 λa A↦?_
   refine sda A λa A↦?_
   refine qa (hK23 _ _ (wp_cond_false (A.ev rfl) ?_))
   refine wrl ?_
   rcases tf ((p.d.k == 4)) with hb28 | hb28
   ·
    have hb28' := eq_of_beq hb28
    refine sdc A qm hb28 λa A↦?_
    refine sda A λa A↦?_
    refine qa (hK22 _ _ (wp_cond_true (A.ev rfl) ?_))
    refine wsk fun K29 hK29 => wrl (sdm A λa A↦?_)
    refine sdo (v := .pointer (some ⟨g2, 1, none⟩)) A (qb EqC_fld_38_1 rfl rfl) λa A↦?_
    refine sdo A (qk M EqC_is1_3 rfl 0 rfl rfl) λa A↦?_
    refine sdo (v := .int .u64 p.d.n) A (jq rfl (ar_conv Tryz.underlying3 Tryz.underlying67 (in_u64 (by omega) (by omega)))) λa A↦?_
    refine gcl A M (ef rfl rfl) (ve) fun w31 hb30 M a A => ?_
    refine sda A λa A↦?_
    refine qa (hK29 _ _ (wp_ret (hret _ _ (en1 A rfl (qj rfl) ?_))))
    exact ⟨by
     rw [hin9, kq]
     repeat (first | rw [if_pos (by omega)] | rw [if_neg (by omega)])
     try rfl, M.bel⟩
   ·
    have hb28' := ne_of_beq_false hb28
    refine sdc A qm hb28 λa A↦?_
    refine sda A λa A↦?_
    refine qa (hK22 _ _ (wp_cond_false (A.ev rfl) ?_))
    refine wsk fun K32 hK32 => wrl ?_
    rcases tf ((p.d.k == 3)) with hb33 | hb33
    ·
     have hb33' := eq_of_beq hb33
     refine sdc A qm hb33 λa A↦?_
     refine sda A λa A↦?_
     refine qa (hK32 _ _ (wp_cond_true (A.ev rfl) ?_))
     refine wsk fun K34 hK34 => jh (S := fun w1 => Mg w w1 (.obj g2 (.cells (p.d.cells p.ts.length).toArray 38) :: [])) (by kernel_rfl) ?_
     replace M := M.drew
     refine qe A 0 rfl rfl rfl rfl hP (M.sub (cc (List.nil_sublist _))) (fun w1 M => qp rfl) λa A↦?_
     refine qe (v := .pointer (some ⟨g2, 2, none⟩)) A 1 rfl rfl rfl rfl hP (M.sub (cc (List.nil_sublist _))) (fun w1 M => qb EqC_fld_38_2 rfl rfl) λa A↦?_
     refine qe (v := .pointer (some ⟨g2, 2, none⟩)) A 2 rfl rfl rfl rfl hP (M.sub (cc (List.nil_sublist _))) (fun w1 M => qb EqC_fld_35_0 rfl rfl) λa A↦?_
     refine qe A 3 rfl rfl rfl rfl hP (M.sub (cc (List.nil_sublist _))) (fun w1 M => qw M EqC_isS_33 rfl 0 rfl (cs := [.bool p.d.y.q.b1, .slice p.d.y.o1 p.d.y.q.t1.length p.d.y.c1, .slice p.d.y.o2 p.d.y.q.q1.length p.d.y.c2]) rfl rfl) λa A↦?_
     refine qe (v := .pointer (some ⟨g2, 2, none⟩)) A 5 rfl rfl rfl rfl hP (M.sub (cc (List.nil_sublist _))) (fun w1 M => qb EqC_fld_38_2 rfl rfl) λa A↦?_
     refine qe (v := .pointer (some ⟨g2, 5, none⟩)) A 6 rfl rfl rfl rfl hP (M.sub (cc (List.nil_sublist _))) (fun w1 M => qb EqC_fld_35_1 rfl rfl) λa A↦?_
     refine qe A 7 rfl rfl rfl rfl hP (M.sub (cc (List.nil_sublist _))) (fun w1 M => qw M EqC_isS_33 rfl 0 rfl (cs := [.bool p.d.y.q.b2, .slice p.d.y.o3 p.d.y.q.t2.length p.d.y.c3, .slice p.d.y.o4 p.d.y.q.q2.length p.d.y.c4]) rfl rfl) λa A↦?_
     refine qh (by kernel_rfl) (qn A 4 rfl rfl rfl rfl (qi rfl rfl (fun w => by kernel_rfl)) (zci ((Dt.okT hp).1.num.s1.rd.below M.bel) ((Dt.okT hp).1.num.s2.rd.below M.bel) (Dt.okT hp).1.len.l1 (Dt.okT hp).1.len.l2) ?_)
     rintro _ w36 ⟨rfl, hb35⟩
     replace M := M.call hb35
     refine ⟨_, rfl, (M.sub (cc (List.nil_sublist _))), ?_⟩
     intro a A
     refine qh (by kernel_rfl) (qn A 8 rfl rfl rfl rfl (qi rfl rfl (fun w => by kernel_rfl)) (zci ((Dt.okT hp).1.num.s3.rd.below M.bel) ((Dt.okT hp).1.num.s4.rd.below M.bel) (Dt.okT hp).1.len.l3 (Dt.okT hp).1.len.l4) ?_)
     rintro _ w38 ⟨rfl, hb37⟩
     replace M := M.call hb37
     refine ⟨_, rfl, (M.sub (cc (List.nil_sublist _))), ?_⟩
     intro a A
     refine qe A 9 rfl rfl rfl rfl hP (M.sub (cc (List.nil_sublist _))) (fun w1 M => jf rfl) λa A↦?_
     refine ze (by kernel_rfl) ?_
     refine hK34 _ _ (wp_ret (hret _ _ (en1 A rfl (qj rfl) ?_)))
     exact ⟨by
      rw [hin9, kq]
      repeat (first | rw [if_pos (by omega)] | rw [if_neg (by omega)])
      try rfl, M.bel⟩
    ·
     have hb33' := ne_of_beq_false hb33
     refine sdc A qm hb33 λa A↦?_
     refine sda A λa A↦?_
     refine qa (hK32 _ _ (wp_cond_false (A.ev rfl) ?_))
     refine wsk fun K39 hK39 => wsk fun K40 hK40 => wrl ?_
     rcases tf ((p.d.k == 5)) with hb41 | hb41
     ·
      have hb41' := eq_of_beq hb41
      refine sdc A qm hb41 λa A↦?_
      refine sda A λa A↦?_
      refine qa (hK40 _ _ (wp_cond_true (A.ev rfl) ?_))
      refine wp_skip (hK39 _ _ (wp_cond_true (A.ev rfl) ?_))
      refine wsk fun K42 hK42 => wrl (sdm A λa A↦?_)
      refine sdo (v := .pointer (some ⟨g2, 8, none⟩)) A (qb EqC_fld_38_3 rfl rfl) λa A↦?_
      refine sdo A (qk M EqC_is1_9 rfl 0 rfl rfl) λa A↦?_
      refine qse A M rfl Tryz.underlying9 Tryz.underlying36 Tryz.underlying5 rfl rfl rfl rfl ?_
      intro so43 ca44 w45 hrb46 M a A
      refine gcl A M (ef rfl rfl) (qke hrb46 (by rw [kz]; exact (Dt.okT hp).1.smax)) fun w48 hb47 M a A => ?_
      refine sda A λa A↦?_
      refine qa (hK42 _ _ (wp_ret (hret _ _ (en1 A rfl (qj rfl) ?_))))
      exact ⟨by
       rw [hin9, kq]
       repeat (first | rw [if_pos (by omega)] | rw [if_neg (by omega)])
       try rfl, M.bel⟩
     ·
      have hb41' := ne_of_beq_false hb41
      refine sdc A qm hb41 λa A↦?_
      refine sda A λa A↦?_
      refine qa (hK40 _ _ (wp_cond_false (A.ev rfl) ?_))
      refine wsk fun K49 hK49 => wrl ?_
      rcases tf ((p.d.k == 6)) with hb50 | hb50
      ·
       have hb50' := eq_of_beq hb50
       refine sdc A qm hb50 λa A↦?_
       refine sda A λa A↦?_
       refine qa (hK49 _ _ (wp_cond_true (A.ev rfl) ?_))
       refine wp_skip (hK39 _ _ (wp_cond_true (A.ev rfl) ?_))
       refine wsk fun K51 hK51 => wrl (sdm A λa A↦?_)
       refine sdo (v := .pointer (some ⟨g2, 8, none⟩)) A (qb EqC_fld_38_3 rfl rfl) λa A↦?_
       refine sdo A (qk M EqC_is1_9 rfl 0 rfl rfl) λa A↦?_
       refine qse A M rfl Tryz.underlying9 Tryz.underlying36 Tryz.underlying5 rfl rfl rfl rfl ?_
       intro so52 ca53 w54 hrb55 M a A
       refine gcl A M (ef rfl rfl) (qke hrb55 (by rw [kz]; exact (Dt.okT hp).1.smax)) fun w57 hb56 M a A => ?_
       refine sda A λa A↦?_
       refine qa (hK51 _ _ (wp_ret (hret _ _ (en1 A rfl (qj rfl) ?_))))
       exact ⟨by
        rw [hin9, kq]
        repeat (first | rw [if_pos (by omega)] | rw [if_neg (by omega)])
        try rfl, M.bel⟩
      ·
       have hb50' := ne_of_beq_false hb50
       refine sdc A qm hb50 λa A↦?_
       refine sda A λa A↦?_
       refine qa (hK49 _ _ (wp_cond_false (A.ev rfl) ?_))
       refine wrl ?_
       rcases tf ((p.d.k == 11)) with hb58 | hb58
       ·
        have hb58' := eq_of_beq hb58
        refine sdc A qm hb58 λa A↦?_
        refine sda A λa A↦?_
        refine qa (hK39 _ _ (wp_cond_true (A.ev rfl) ?_))
        refine wsk fun K59 hK59 => wrl (sdm A λa A↦?_)
        refine sdo (v := .pointer (some ⟨g2, 8, none⟩)) A (qb EqC_fld_38_3 rfl rfl) λa A↦?_
        refine sdo A (qk M EqC_is1_9 rfl 0 rfl rfl) λa A↦?_
        refine qse A M rfl Tryz.underlying9 Tryz.underlying36 Tryz.underlying5 rfl rfl rfl rfl ?_
        intro so60 ca61 w62 hrb63 M a A
        refine gcl A M (ef rfl rfl) (qke hrb63 (by rw [kz]; exact (Dt.okT hp).1.smax)) fun w65 hb64 M a A => ?_
        refine sda A λa A↦?_
        refine qa (hK59 _ _ (wp_ret (hret _ _ (en1 A rfl (qj rfl) ?_))))
        exact ⟨by
         rw [hin9, kq]
         repeat (first | rw [if_pos (by omega)] | rw [if_neg (by omega)])
         try rfl, M.bel⟩
       ·
        have hb58' := ne_of_beq_false hb58
        refine sdc A qm hb58 λa A↦?_
        refine sda A λa A↦?_
        refine qa (hK39 _ _ (wp_cond_false (A.ev rfl) ?_))
        refine wsk fun K66 hK66 => wrl ?_
        rcases tf ((p.d.k == 7)) with hb67 | hb67
        ·
         have hb67' := eq_of_beq hb67
         refine sdc A qm hb67 λa A↦?_
         refine sda A λa A↦?_
         refine qa (hK66 _ _ (wp_cond_true (A.ev rfl) ?_))
         refine wsk fun K68 hK68 => wrl (sdm A λa A↦?_)
         refine sdo (v := .pointer (some ⟨g2, 9, none⟩)) A (qb EqC_fld_38_4 rfl rfl) λa A↦?_
         refine sdo A (qk M EqC_is1_36 rfl 0 rfl rfl) λa A↦?_
         refine gcl A M (ef rfl rfl) (qke ((Dt.okT hp).1.raw.below M.bel) (Nat.le_trans (Dt.okT hp).1.rcap (Dt.okT hp).1.rmax)) fun w70 hb69 M a A => ?_
         refine sda A λa A↦?_
         refine qa (hK68 _ _ (wp_ret (hret _ _ (en1 A rfl (qj rfl) ?_))))
         exact ⟨by
          rw [hin9, kq]
          repeat (first | rw [if_pos (by omega)] | rw [if_neg (by omega)])
          try rfl, M.bel⟩
        ·
         have hb67' := ne_of_beq_false hb67
         refine sdc A qm hb67 λa A↦?_
         refine sda A λa A↦?_
         refine qa (hK66 _ _ (wp_cond_false (A.ev rfl) ?_))
         refine wsk fun K71 hK71 => wrl ?_
         rcases tf ((p.d.k == 9)) with hb72 | hb72
         ·
          have hb72' := eq_of_beq hb72
          refine sdc A qm hb72 λa A↦?_
          refine sda A λa A↦?_
          refine qa (hK71 _ _ (wp_cond_true (A.ev rfl) ?_))
          refine wsk fun K73 hK73 => wrl (sdm A λa A↦?_)
          refine sdo (v := .pointer (some ⟨g2, 10, none⟩)) A (qb EqC_fld_38_5 rfl rfl) λa A↦?_
          refine sdo A (qk M EqC_is1_28 rfl 0 rfl rfl) λa A↦?_
          refine gcl A M (ef rfl rfl) (zmg ih (Dt.keep M.bel _ hp) gp (by omega)) fun w75 hb74 M a A => ?_
          refine sda A λa A↦?_
          refine qa (hK73 _ _ (wp_ret (hret _ _ (en1 A rfl (qj rfl) ?_))))
          exact ⟨by
           rw [hin9, kq]
           repeat (first | rw [if_pos (by omega)] | rw [if_neg (by omega)])
           try rfl, M.bel⟩
         ·
          have hb72' := ne_of_beq_false hb72
          refine sdc A qm hb72 λa A↦?_
          refine sda A λa A↦?_
          refine qa (hK71 _ _ (wp_cond_false (A.ev rfl) ?_))
          refine wp_skip (hK20 _ _ (wsk fun K76 hK76 => wrl (sdm A λa A↦?_)))
          refine sda A λa A↦?_
          refine qa (hK76 _ _ (wp_ret (hret _ _ (en1 A rfl (qj rfl) ?_))))
          exact ⟨by
           rw [hin9, kq]
           repeat (first | rw [if_pos (by omega)] | rw [if_neg (by omega)])
           try rfl, M.bel⟩
theorem qmh : ∀ n, Hashes n
 | 0 => fun h => absurd h (Nat.not_lt_zero _)
 | n + 1 => qwa (qmh n)
theorem zmh {w : World} {t : Dt} (ht : t.rd w) (hT : Tabs8 w) : Calls Tryz.prog 49 #[.agg (t.d.cells t.ts.length).toArray] w fun e w' => e = .returned (.int .u64 (zm t.tr)) ∧ Below w.heap.size w w' := by
 have M : Mg w w ([]) := Mg.start w
 refine qs (l := [(0, .agg (t.d.cells t.ts.length).toArray)]) Tryz.func49 rfl Tryz.ntmps49 rfl rfl ?_
 intro Q hret hnorm hP a A
 refine wsk fun K1 hK1 => wrl (zx (vs := (t.d.cells t.ts.length)) (t := 38) A M rfl rfl rfl pg (qr rfl rfl) (by decide) ?_)
 intro g2 w3 M a A
 refine sda A λa A↦?_
 refine qa (hK1 _ _ (wsk fun K4 hK4 => wsk fun K5 hK5 => wrl (sdo A (qw M EqC_isS_38 rfl 0 rfl (cs := (t.d.cells t.ts.length)) rfl rfl) λa A↦?_)))
 rcases tf (qz qx t.tr) with hb6 | hb6
 ·
  refine gcl A M (ef rfl rfl) ((hb6 ▸ sound_any (t := t) (Dt.keep M.bel _ ht) (hT.below M.bel))) fun w8 hb7 M a A => ?_
  refine sdo (v := .bool false) A (je rfl jl) λa A↦?_
  refine qa (hK5 _ _ (wp_cond_false (A.ev rfl) ?_))
  refine wp_skip (hK4 _ _ (wsk fun K9 hK9 => wrl (sdo A (qw M EqC_isS_38 rfl 0 rfl (cs := (t.d.cells t.ts.length)) rfl rfl) λa A↦?_)))
  refine gcl A M (ef rfl rfl) (qmh (t.tr.bulk + 1) (Nat.lt_succ_self _) (Dt.keep M.bel _ ht) (qre ht hb6)) fun w10 hbh M a A => ?_
  refine sda A λa A↦?_
  refine qa (hK9 _ _ (wp_ret (hret _ _ (en1 A rfl (qj rfl) ?_))))
  exact ⟨by rw [zwg hb6], M.bel⟩
 ·
  refine gcl A M (ef rfl rfl) ((hb6 ▸ sound_any (t := t) (Dt.keep M.bel _ ht) (hT.below M.bel))) fun w12 hb11 M a A => ?_
  refine sdo (v := .bool true) A (je rfl jl) λa A↦?_
  refine qa (hK5 _ _ (wp_cond_true (A.ev rfl) ?_))
  refine wsk fun K13 hK13 => wrl (sda A λa A↦?_)
  refine qa (hK13 _ _ (wp_ret (hret _ _ (en1 A rfl (qj rfl) ?_))))
  exact ⟨by rw [zwf hb6], M.bel⟩
end Go.Proofs.YtjlpecapebhgjaaGreatDoor.G
namespace Go.Proofs.YtjlpecapebhgjaaGreatDoor.C
open Go.RowKit

def qfh (r : Int) : Bool := decide ((r ≠ 304 ∧ r ≠ 305 ∧ 256 ≤ r ∧ r ≤ 311) ∨ (330 ≤ r ∧ r ≤ 375))
def qsf (r : Int) : Bool := decide ((313 ≤ r ∧ r ≤ 328) ∨ (377 ≤ r ∧ r ≤ 382))
/-- how far below a small letter its capital stands -/
def qaa (r : Int) : Int :=
  if 97 ≤ r ∧ r ≤ 122 then 32
  else if 224 ≤ r ∧ r ≤ 254 ∧ r ≠ 247 then 32
  else if qfh r = true ∧ r % 2 = 1 then 1
  else if qsf r = true ∧ r % 2 = 0 then 1
  else if 945 ≤ r ∧ r ≤ 969 ∧ r ≠ 962 then 32
  else if 1072 ≤ r ∧ r ≤ 1103 then 32
  else if 1104 ≤ r ∧ r ≤ 1119 then 80
  else 0

def qdj (r : Int) : Int :=
  if qaa (wrap32 (r + 1)) = 1 then 1 else if qaa (wrap32 (r + 32)) = 32 then 32 else if qaa (wrap32 (r + 80)) = 80 then 80 else 0
theorem qbe (r : Int) (h : r < 97 ∨ 1119 < r) : qaa r = 0 := by
  unfold qaa qfh qsf
  simp only [decide_eq_true_eq]
  rw [if_neg (by omega), if_neg (by omega), if_neg (by omega), if_neg (by omega), if_neg (by omega), if_neg (by omega), if_neg (by omega)]
theorem zge (x : Int) (h0 : -2147483648 ≤ x) (h1 : x ≤ 2147483647) : wrap32 x = x := by unfold wrap32; omega
theorem qsg (r k : Int) (h0 : -2147483648 ≤ r) (h1 : r ≤ 2147483647) (hk : 0 ≤ k) (hk' : k ≤ 80) : qaa (wrap32 (r + k)) = qaa (r + k) := by
  by_cases h : r + k ≤ 2147483647
  · rw [zge _ (by omega) h]
  · rw [qbe (wrap32 (r + k)) (by unfold wrap32; omega), qbe (r + k) (by omega)]
def qib (r : Int) : Int := if qaa (r + 1) = 1 then 1 else if qaa (r + 32) = 32 then 32 else if qaa (r + 80) = 80 then 80 else 0
theorem qpg (r : Int) (h0 : -2147483648 ≤ r) (h1 : r ≤ 2147483647) : qdj r = qib r := by
  unfold qdj qib
  rw [qsg r 1 h0 h1 (by omega) (by omega), qsg r 32 h0 h1 (by omega) (by omega), qsg r 80 h0 h1 (by omega) (by omega)]
theorem zaa (r : Int) (h : r < 17 ∨ 1119 < r) : qib r = 0 := by
  unfold qib
  rw [qbe (r + 1) (by omega), if_neg (by omega)]
  by_cases a : r + 32 < 97 ∨ 1119 < r + 32
  · rw [qbe (r + 32) a, if_neg (by omega)]
    rw [qbe (r + 80) (by omega), if_neg (by omega)]
  · omega

theorem qcf (r : Int) : (qfh r = true) = ((r ≠ 304 ∧ r ≠ 305 ∧ 256 ≤ r ∧ r ≤ 311) ∨ (330 ≤ r ∧ r ≤ 375)) := by simp [qfh]
theorem qsh (r : Int) : (qfh r = false) = ¬ ((r ≠ 304 ∧ r ≠ 305 ∧ 256 ≤ r ∧ r ≤ 311) ∨ (330 ≤ r ∧ r ≤ 375)) := by rw [← qcf]; simp
theorem qic (r : Int) : (qsf r = true) = ((313 ≤ r ∧ r ≤ 328) ∨ (377 ≤ r ∧ r ≤ 382)) := by simp [qsf]
theorem zab (r : Int) : (qsf r = false) = ¬ ((313 ≤ r ∧ r ≤ 328) ∨ (377 ≤ r ∧ r ≤ 382)) := by rw [← qic]; simp

/-- Which distance at which character. -/
theorem qea (r : Int) :
    (qaa r = 32 ∧ ((97 ≤ r ∧ r ≤ 122) ∨ (224 ≤ r ∧ r ≤ 254 ∧ r ≠ 247) ∨ (945 ≤ r ∧ r ≤ 969 ∧ r ≠ 962) ∨ (1072 ≤ r ∧ r ≤ 1103)))
    ∨ (qaa r = 1 ∧ ((((r ≠ 304 ∧ r ≠ 305 ∧ 256 ≤ r ∧ r ≤ 311) ∨ (330 ≤ r ∧ r ≤ 375)) ∧ r % 2 = 1) ∨ (((313 ≤ r ∧ r ≤ 328) ∨ (377 ≤ r ∧ r ≤ 382)) ∧ r % 2 = 0)))
    ∨ (qaa r = 80 ∧ 1104 ≤ r ∧ r ≤ 1119)
    ∨ (qaa r = 0 ∧ ¬ (97 ≤ r ∧ r ≤ 122) ∧ ¬ (224 ≤ r ∧ r ≤ 254 ∧ r ≠ 247) ∧ ¬ (945 ≤ r ∧ r ≤ 969 ∧ r ≠ 962) ∧ ¬ (1072 ≤ r ∧ r ≤ 1119)
        ∧ ¬ (((r ≠ 304 ∧ r ≠ 305 ∧ 256 ≤ r ∧ r ≤ 311) ∨ (330 ≤ r ∧ r ≤ 375)) ∧ r % 2 = 1) ∧ ¬ (((313 ≤ r ∧ r ≤ 328) ∨ (377 ≤ r ∧ r ≤ 382)) ∧ r % 2 = 0)) := by
  unfold qaa
  simp only [qcf, qic]
  split
  · omega
  · split
    · omega
    · split
      · omega
      · split
        · omega
        · split
          · omega
          · split
            · omega
            · split <;> omega

/-- Which distance at which capital. -/
def SmallAt (r s : Int) : Prop :=
    (s = 1 ∧ ((((r ≠ 304 ∧ 256 ≤ r ∧ r ≤ 310) ∨ (330 ≤ r ∧ r ≤ 374)) ∧ r % 2 = 0) ∨ (((313 ≤ r ∧ r ≤ 327) ∨ (377 ≤ r ∧ r ≤ 381)) ∧ r % 2 = 1)))
    ∨ (s = 32 ∧ ((65 ≤ r ∧ r ≤ 90) ∨ (192 ≤ r ∧ r ≤ 222 ∧ r ≠ 215) ∨ (913 ≤ r ∧ r ≤ 937 ∧ r ≠ 930) ∨ (1040 ≤ r ∧ r ≤ 1071)))
    ∨ (s = 80 ∧ 1024 ≤ r ∧ r ≤ 1039)
    ∨ (s = 0 ∧ ¬ (65 ≤ r ∧ r ≤ 90) ∧ ¬ (192 ≤ r ∧ r ≤ 222 ∧ r ≠ 215) ∧ ¬ (913 ≤ r ∧ r ≤ 937 ∧ r ≠ 930) ∧ ¬ (1024 ≤ r ∧ r ≤ 1071)
        ∧ ¬ (((r ≠ 304 ∧ 256 ≤ r ∧ r ≤ 310) ∨ (330 ≤ r ∧ r ≤ 374)) ∧ r % 2 = 0) ∧ ¬ (((313 ≤ r ∧ r ≤ 327) ∨ (377 ≤ r ∧ r ≤ 381)) ∧ r % 2 = 1))
def zac (r : Int) : Int :=
  if (((r ≠ 304 ∧ 256 ≤ r ∧ r ≤ 310) ∨ (330 ≤ r ∧ r ≤ 374)) ∧ r % 2 = 0) ∨ (((313 ≤ r ∧ r ≤ 327) ∨ (377 ≤ r ∧ r ≤ 381)) ∧ r % 2 = 1) then 1
  else if (65 ≤ r ∧ r ≤ 90) ∨ (192 ≤ r ∧ r ≤ 222 ∧ r ≠ 215) ∨ (913 ≤ r ∧ r ≤ 937 ∧ r ≠ 930) ∨ (1040 ≤ r ∧ r ≤ 1071) then 32
  else if 1024 ≤ r ∧ r ≤ 1039 then 80 else 0
theorem zad : ∀ k : Nat, k < 1200 → qib (k : Int) = zac (k : Int) := by decide +kernel
theorem qsi (r : Int) : SmallAt r (zac r) := by
  unfold zac SmallAt
  split
  · omega
  · split
    · omega
    · split <;> omega
theorem qfi (r : Int) : SmallAt r (qib r) := by
  by_cases h : 0 ≤ r ∧ r < 1200
  · have := zad r.toNat (by omega)
    rw [Int.toNat_of_nonneg h.1] at this
    rw [this]
    exact qsi r
  · rw [zaa r (by omega)]
    unfold SmallAt
    omega
set_option linter.unusedSimpArgs false
set_option linter.unusedVariables false
theorem qcg {k : IntKind} {a b : Int} (h : a = b) : Ending.returned (.int k a) = .returned (.int k b) := by rw [h]
theorem qwb {a b : Bool} (h : a = b) : Ending.returned (.bool a) = .returned (.bool b) := by rw [h]
set_option maxHeartbeats 400000 in
theorem qmi (r : Int) (w : World) :
    Calls Tryz.prog 104 #[.int .i32 r] w fun e w' => e = .returned (.bool (qfh r)) ∧ w' = w := by
  go_enter Tryz.func104, Tryz.ntmps104
  go_wp2
  all_goals go_ret
  all_goals refine ⟨qwb ?_, rfl⟩
  all_goals (unfold qfh; rw [Bool.eq_iff_iff]; simp at *; omega)
set_option maxHeartbeats 400000 in
theorem qsj (r : Int) (w : World) :
    Calls Tryz.prog 105 #[.int .i32 r] w fun e w' => e = .returned (.bool (qsf r)) ∧ w' = w := by
  go_enter Tryz.func105, Tryz.ntmps105
  go_wp2
  all_goals go_ret
  all_goals refine ⟨qwb ?_, rfl⟩
  all_goals (unfold qsf; rw [Bool.eq_iff_iff]; simp at *; try omega)
set_option maxHeartbeats 1000000 in
theorem zcj (r : Int) (w : World) :
    Calls Tryz.prog 68 #[.int .i32 r] w fun e w' => e = .returned (.int .i32 (qaa r)) ∧ w' = w := by
  have HC : Hid _ := qea r
  have h0 : qfh r = true → 0 ≤ r := by rw [qcf]; omega
  have h1 : qsf r = true → 0 ≤ r := by rw [qic]; omega
  by_cases he : qfh r = true
  · have hr := h0 he
    clear h0 h1
    go_enter Tryz.func68, Tryz.ntmps68
    go_wp2_with (first | (go_at_call 104; refine (qmi _ _).mono ?_; rintro e w' ⟨rfl, rfl⟩) | (go_at_call 105; refine (qsj _ _).mono ?_; rintro e w' ⟨rfl, rfl⟩))
    all_goals go_ret
    all_goals refine ⟨qcg ?_, rfl⟩
    all_goals (have hc := HC.out; go_light; simp only [qcf, qic, qsh, zab, Bool.not_eq_true, beq_iff_eq, bne_iff_ne, beq_eq_false_iff_ne, bne_eq_false_iff_eq, ne_eq] at *; omega)
  · by_cases ho : qsf r = true
    · have hr := h1 ho
      clear h0 h1
      go_enter Tryz.func68, Tryz.ntmps68
      go_wp2_with (first | (go_at_call 104; refine (qmi _ _).mono ?_; rintro e w' ⟨rfl, rfl⟩) | (go_at_call 105; refine (qsj _ _).mono ?_; rintro e w' ⟨rfl, rfl⟩))
      all_goals go_ret
      all_goals refine ⟨qcg ?_, rfl⟩
      all_goals (have hc := HC.out; go_light; simp only [qcf, qic, qsh, zab, Bool.not_eq_true, beq_iff_eq, bne_iff_ne, beq_eq_false_iff_ne, bne_eq_false_iff_eq, ne_eq] at *; omega)
    · clear h0 h1
      go_enter Tryz.func68, Tryz.ntmps68
      go_wp2_with (first | (go_at_call 104; refine (qmi _ _).mono ?_; rintro e w' ⟨rfl, rfl⟩) | (go_at_call 105; refine (qsj _ _).mono ?_; rintro e w' ⟨rfl, rfl⟩))
      all_goals go_ret
      all_goals refine ⟨qcg ?_, rfl⟩
      all_goals (have hc := HC.out; go_light; simp only [qcf, qic, qsh, zab, Bool.not_eq_true, beq_iff_eq, bne_iff_ne, beq_eq_false_iff_ne, bne_eq_false_iff_eq, ne_eq] at *; omega)
set_option maxHeartbeats 1000000 in
theorem zae (r : Int) (w : World) :
    Calls Tryz.prog 67 #[.int .i32 r] w fun e w' => e = .returned (.int .i32 (qdj r)) ∧ w' = w := by
  go_enter Tryz.func67, Tryz.ntmps67
  go_wp2_with (go_at_call 68; refine (zcj _ _).mono ?_; rintro e w' ⟨rfl, rfl⟩)
  all_goals go_ret
  all_goals refine ⟨qcg ?_, rfl⟩
  all_goals (unfold qdj; simp at *; simp [*])
end Go.Proofs.YtjlpecapebhgjaaGreatDoor.C
namespace Go.Proofs
open Go.Shelf
def Tryz.lays166_ren : Go.Shelf.Ren := ⟨fun | 166 => 39 | 240 => 65 | 276 => 102 | n => n, fun | 70 => 86 | 9 => 9 | 3 => 3 | 75 => 90 | 0 => 0 | 72 => 88 | 37 => 36 | 4 => 4 | 164 => 134 | 80 => 95 | 5 => 5 | 20 => 20 | n => n, fun | n => n⟩
theorem Tryz.lays166 : Go.Proofs.Lays.n166 Tryz.prog Tryz.lays166_ren := {
  mixed := by kernel_rfl
  f166 := Tryz.func39.trans (congrArg some (by kernel_rfl))
  f240 := Tryz.func65.trans (congrArg some (by kernel_rfl))
  f276 := Tryz.func102.trans (congrArg some (by kernel_rfl))
  t0 := Tryz.underlying0
  a0 := Tryz.isAgg0
  z0 := Tryz.sizeOf0
  v0 := Tryz.zeroValue0
  t3 := Tryz.underlying3
  a3 := Tryz.isAgg3
  z3 := Tryz.sizeOf3
  v3 := Tryz.zeroValue3
  t4 := Tryz.underlying4
  a4 := Tryz.isAgg4
  z4 := Tryz.sizeOf4
  v4 := Tryz.zeroValue4
  t9 := Tryz.underlying9
  a9 := Tryz.isAgg9
  z9 := Tryz.sizeOf9
  v9 := Tryz.zeroValue9
  t20 := Tryz.underlying20
  a20 := Tryz.isAgg20
  z20 := Tryz.sizeOf20
  v20 := Tryz.zeroValue20
  t37 := Tryz.underlying36
  a37 := Tryz.isAgg36
  z37 := Tryz.sizeOf36
  v37 := Tryz.zeroValue36
  t70 := Tryz.underlying86
  a70 := Tryz.isAgg86
  z70 := Tryz.sizeOf86
  v70 := Tryz.zeroValue86
  t72 := Tryz.underlying88
  a72 := Tryz.isAgg88
  z72 := Tryz.sizeOf88
  v72 := Tryz.zeroValue88
  t75 := Tryz.underlying90
  a75 := Tryz.isAgg90
  z75 := Tryz.sizeOf90
  v75 := Tryz.zeroValue90
  t164 := Tryz.underlying134
  a164 := Tryz.isAgg134
  z164 := Tryz.sizeOf134
  v164 := Tryz.zeroValue134 }
theorem Tryz.Builder_Extra_166 : Builder.Extra Tryz.prog Tryz.lays166_ren := {
  sizeBuilder := by kernel_rfl
  liesBuilder := by kernel_rfl
  t5 := Tryz.underlying5
  a5 := Tryz.isAgg5
  z5 := Tryz.sizeOf5
  v5 := Tryz.zeroValue5
  infoByte := by kernel_rfl
  cellsByte := by kernel_rfl
  sizeByte := by kernel_rfl
  neB5 := by decide }
def Tryz.lays169_ren : Go.Shelf.Ren := ⟨fun | 169 => 43 | n => n, fun | 70 => 86 | 9 => 9 | 0 => 0 | 72 => 88 | 37 => 36 | 127 => 113 | 3 => 3 | 5 => 5 | n => n, fun | n => n⟩
theorem Tryz.lays169 : Go.Proofs.Lays.n169 Tryz.prog Tryz.lays169_ren := {
  mixed := by kernel_rfl
  f169 := Tryz.func43.trans (congrArg some (by kernel_rfl))
  t0 := Tryz.underlying0
  a0 := Tryz.isAgg0
  z0 := Tryz.sizeOf0
  v0 := Tryz.zeroValue0
  t3 := Tryz.underlying3
  a3 := Tryz.isAgg3
  z3 := Tryz.sizeOf3
  v3 := Tryz.zeroValue3
  t9 := Tryz.underlying9
  a9 := Tryz.isAgg9
  z9 := Tryz.sizeOf9
  v9 := Tryz.zeroValue9
  t37 := Tryz.underlying36
  a37 := Tryz.isAgg36
  z37 := Tryz.sizeOf36
  v37 := Tryz.zeroValue36
  t70 := Tryz.underlying86
  a70 := Tryz.isAgg86
  z70 := Tryz.sizeOf86
  v70 := Tryz.zeroValue86
  t72 := Tryz.underlying88
  a72 := Tryz.isAgg88
  z72 := Tryz.sizeOf88
  v72 := Tryz.zeroValue88
  t127 := Tryz.underlying113
  a127 := Tryz.isAgg113
  z127 := Tryz.sizeOf113
  v127 := Tryz.zeroValue113 }
theorem Tryz.Builder_Extra_169 : Builder.Extra Tryz.prog Tryz.lays169_ren := {
  sizeBuilder := by kernel_rfl
  liesBuilder := by kernel_rfl
  t5 := Tryz.underlying5
  a5 := Tryz.isAgg5
  z5 := Tryz.sizeOf5
  v5 := Tryz.zeroValue5
  infoByte := by kernel_rfl
  cellsByte := by kernel_rfl
  sizeByte := by kernel_rfl
  neB5 := by decide }
open Go.RowKit in
theorem Tryz.Builder_WriteString_k (B b : Nat) (bs : List Value) (s : ByteArray) (w : World) (h : Lib.IsBuilderF 88 5 B b bs w) (hlen : bs.length + s.size ≤ 140737488355328) (hBw : B ≤ w.heap.size) :
    Calls Tryz.prog 39 #[.pointer (some ⟨b, 0, none⟩), .string s] w fun e w' => e = .returned (.tuple #[.int .i64 s.size, .nilIface]) ∧ (Lib.BuilderAtF 88 5 B b (.pointer (some ⟨b, 0, none⟩)) (bs ++ Lib.strCells s) w' ∧ Below B w w' ∧ Lib.OthersKept 5 (some b) w w') := Any.Builder_WriteString_k Tryz.lays166 Tryz.Builder_Extra_166 B b bs s w h hlen hBw
open Go.RowKit in
theorem Tryz.Builder_String_any_k (B b : Nat) (l : List UInt8) (w : World) (h : Lib.IsBuilderF 88 5 B b (Lib.byteCells l) w) (hBw : B ≤ w.heap.size) :
    Calls Tryz.prog 43 #[.pointer (some ⟨b, 0, none⟩)] w fun e w' => e = .returned (.string ⟨l.toArray⟩) ∧ (Lib.IsBuilderF 88 5 B b (Lib.byteCells l) w' ∧ Below B w w' ∧ Lib.OthersKept 5 (some b) w w') := Any.Builder_String_any_k Tryz.lays169 Tryz.Builder_Extra_169 B b l w h hBw
def Tryz.lays168_ren : Go.Shelf.Ren := ⟨fun | 168 => 40 | 240 => 65 | 242 => 66 | 276 => 102 | 278 => 103 | n => n, fun | 70 => 86 | 21 => 21 | 3 => 3 | 75 => 90 | 0 => 0 | 72 => 88 | 37 => 36 | 4 => 4 | 164 => 134 | 51 => 118 | 5 => 5 | 46 => 111 | 80 => 95 | 9 => 9 | 20 => 20 | n => n, fun | n => n⟩
theorem Tryz.lays168 : Go.Proofs.Lays.n168 Tryz.prog Tryz.lays168_ren := {
  mixed := by kernel_rfl
  f168 := Tryz.func40.trans (congrArg some (by kernel_rfl))
  f240 := Tryz.func65.trans (congrArg some (by kernel_rfl))
  f242 := Tryz.func66.trans (congrArg some (by kernel_rfl))
  f276 := Tryz.func102.trans (congrArg some (by kernel_rfl))
  f278 := Tryz.func103.trans (congrArg some (by kernel_rfl))
  t0 := Tryz.underlying0
  a0 := Tryz.isAgg0
  z0 := Tryz.sizeOf0
  v0 := Tryz.zeroValue0
  t3 := Tryz.underlying3
  a3 := Tryz.isAgg3
  z3 := Tryz.sizeOf3
  v3 := Tryz.zeroValue3
  t4 := Tryz.underlying4
  a4 := Tryz.isAgg4
  z4 := Tryz.sizeOf4
  v4 := Tryz.zeroValue4
  t5 := Tryz.underlying5
  a5 := Tryz.isAgg5
  z5 := Tryz.sizeOf5
  v5 := Tryz.zeroValue5
  t9 := Tryz.underlying9
  a9 := Tryz.isAgg9
  z9 := Tryz.sizeOf9
  v9 := Tryz.zeroValue9
  t20 := Tryz.underlying20
  a20 := Tryz.isAgg20
  z20 := Tryz.sizeOf20
  v20 := Tryz.zeroValue20
  t21 := Tryz.underlying21
  a21 := Tryz.isAgg21
  z21 := Tryz.sizeOf21
  v21 := Tryz.zeroValue21
  t37 := Tryz.underlying36
  a37 := Tryz.isAgg36
  z37 := Tryz.sizeOf36
  v37 := Tryz.zeroValue36
  t46 := Tryz.underlying111
  a46 := Tryz.isAgg111
  z46 := Tryz.sizeOf111
  v46 := Tryz.zeroValue111
  t51 := Tryz.underlying118
  a51 := Tryz.isAgg118
  z51 := Tryz.sizeOf118
  v51 := Tryz.zeroValue118
  t70 := Tryz.underlying86
  a70 := Tryz.isAgg86
  z70 := Tryz.sizeOf86
  v70 := Tryz.zeroValue86
  t72 := Tryz.underlying88
  a72 := Tryz.isAgg88
  z72 := Tryz.sizeOf88
  v72 := Tryz.zeroValue88
  t75 := Tryz.underlying90
  a75 := Tryz.isAgg90
  z75 := Tryz.sizeOf90
  v75 := Tryz.zeroValue90
  t164 := Tryz.underlying134
  a164 := Tryz.isAgg134
  z164 := Tryz.sizeOf134
  v164 := Tryz.zeroValue134 }
theorem Tryz.Builder_Extra_168 : Builder.Extra Tryz.prog Tryz.lays168_ren := {
  sizeBuilder := by kernel_rfl
  liesBuilder := by kernel_rfl
  t5 := Tryz.underlying5
  a5 := Tryz.isAgg5
  z5 := Tryz.sizeOf5
  v5 := Tryz.zeroValue5
  infoByte := by kernel_rfl
  cellsByte := by kernel_rfl
  sizeByte := by kernel_rfl
  neB5 := by decide }
open Go.RowKit in
theorem Tryz.Builder_WriteRune_k (B b : Nat) (bs : List Value) (r : Int) (hr0 : -2147483648 ≤ r) (hr1 : r ≤ 2147483647) (w : World) (h : Lib.IsBuilderF 88 5 B b bs w) (hlen : bs.length + 4 ≤ 140737488355328) (hBw : B ≤ w.heap.size) :
    Calls Tryz.prog 40 #[.pointer (some ⟨b, 0, none⟩), .int .i32 r] w fun e w' => e = .returned (.tuple #[.int .i64 (Lib.runeCells r).length, .nilIface]) ∧ (Lib.BuilderAtF 88 5 B b (.pointer (some ⟨b, 0, none⟩)) (bs ++ Lib.runeCells r) w' ∧ Below B w w' ∧ Lib.OthersKept 5 (some b) w w') := Any.Builder_WriteRune_k Tryz.lays168 Tryz.Builder_Extra_168 B b bs r hr0 hr1 w h hlen hBw
end Go.Proofs
namespace Go.Proofs.YtjlpecapebhgjaaGreatDoor.C
open Go.RowKit
set_option linter.unusedSimpArgs false
set_option linter.unusedVariables false

def upZ (r : Int) : Int := if r = 962 then 931 else if r = 383 then 83 else if r = 255 then 376 else r - qaa r
def qda (r : Int) : Int := if r = 376 then 255 else r + qdj r
set_option maxHeartbeats 1000000 in
theorem zxd (r : Int) (h0 : -2147483648 ≤ r) (h1 : r ≤ 2147483647) (w : World) :
    Calls Tryz.prog 42 #[.int .i32 r] w fun e w' => e = .returned (.int .i32 (upZ r)) ∧ w' = w := by
  have HC : Hid _ := qea r
  have hb : -2147483648 ≤ r - qaa r ∧ r - qaa r ≤ 2147483647 := by
    have := HC.out
    omega
  go_enter Tryz.func42, Tryz.ntmps42
  go_wp2_with (go_at_call 68; refine (zcj _ _).mono ?_; rintro e w' ⟨rfl, rfl⟩)
  all_goals go_ret
  all_goals refine ⟨qcg ?_, rfl⟩
  all_goals (unfold upZ; simp at *; first | omega | simp [*])

set_option maxHeartbeats 1000000 in
theorem zmi (r : Int) (h0 : -2147483648 ≤ r) (h1 : r ≤ 2147483647) (w : World) :
    Calls Tryz.prog 41 #[.int .i32 r] w fun e w' => e = .returned (.int .i32 (qda r)) ∧ w' = w := by
  have hb : -2147483648 ≤ r + qdj r ∧ r + qdj r ≤ 2147483647 := by
    rw [qpg r h0 h1]
    have := qfi r
    unfold SmallAt at this
    omega
  go_enter Tryz.func41, Tryz.ntmps41
  go_wp2_with (go_at_call 67; refine (zae _ _).mono ?_; rintro e w' ⟨rfl, rfl⟩)
  all_goals go_ret
  all_goals refine ⟨qcg ?_, rfl⟩
  all_goals (unfold qda; simp at *; first | omega | simp [*])

def qjc (r : Int) : List Int := if r = 223 then [115, 115] else [qda (upZ r)]
def fold (l : List UInt8) : List UInt8 := encs ((runes l).flatMap qjc)

theorem zxe (r : Int) (h0 : -2147483648 ≤ r) (h1 : r ≤ 2147483647) : -2147483648 ≤ upZ r ∧ upZ r ≤ 2147483647 := by
  have := qea r
  unfold upZ
  repeat' split
  all_goals omega
theorem zmj (r : Int) (h0 : -2147483648 ≤ r) (h1 : r ≤ 2147483647) : -2147483648 ≤ qda r ∧ qda r ≤ 2147483647 := by
  have := qfi r
  unfold SmallAt at this
  unfold qda
  rw [qpg r h0 h1]
  split <;> omega

/-- One step of a text that is gone through character by character. -/
theorem qph (s : ByteArray) (pos : Nat) (hp : pos < s.size) (F : Int → List Int) :
    encs ((runes (s.data.toList.drop pos)).flatMap F) = encs (F (Utf8.decode s pos).1) ++ encs ((runes (s.data.toList.drop (pos + (Utf8.decode s pos).2))).flatMap F) := by
  have hne : s.data.toList.drop pos ≠ [] := by
    intro h
    have := congrArg List.length h
    rw [List.length_drop, ← Lib.size_eq] at this
    simp at this
    omega
  rw [runes_step _ hne, Lib.decodeL_drop, List.drop_drop, List.flatMap_cons, encs_app]
theorem qmj (s : ByteArray) (pos : Nat) (hp : ¬ pos < s.size) (F : Int → List Int) : encs ((runes (s.data.toList.drop pos)).flatMap F) = [] := by
  have : s.data.toList.drop pos = [] := List.drop_eq_nil_of_le (by rw [← Lib.size_eq]; omega)
  rw [this]
  rfl
theorem qpi (s : ByteArray) (pos : Nat) (h : pos < s.size) : 1 ≤ (Utf8.decode s pos).2 := by
  by_cases ha : (s[pos]'h).toNat < 128
  · rw [decode_ascii s pos h ha]
    exact Nat.le_refl _
  · exact (decode_high s pos h (by omega)).2

set_option maxHeartbeats 4000000 in
set_option maxRecDepth 1000000 in
theorem fold_any (s : ByteArray) (w : World) (hs : s.size ≤ 35184372088832) :
    Calls Tryz.prog 23 #[.string s] w fun e w' => e = .returned (.string ⟨(fold s.data.toList).toArray⟩) ∧ Below w.heap.size w w' := by
  go_enter Tryz.func23, Tryz.ntmps23
  go_wp2
  go_loopw [] (fun wr => ∃ (pos : Nat) (acc : List UInt8), Lib.IsBuilderF 88 5 w.heap.size w.heap.size (Lib.byteCells acc) wr ∧ wr.heap[w.heap.size + 1]? = some (.stringIter s pos) ∧ Below w.heap.size w wr ∧ acc ++ encs ((runes (s.data.toList.drop pos)).flatMap qjc) = fold s.data.toList ∧ acc.length ≤ 4 * pos) (fun wr => s.size - wr.iterPos (w.heap.size + 1))
  case atStart =>
    refine ⟨0, [], (Lib.IsBuilderF.of (Lib.fresh_isBuilder 88 5 w)).alloc _, ?_, ((Below.refl _ w).alloc (Nat.le_refl _) _).alloc (by simp) _, rfl, by simp⟩
    have := World.iter_heap (w.alloc (.cells #[.pointer none, .slice none 0 0] 88)) s 0
    simpa using this
  case round =>
    obtain ⟨pos, acc, hI, hit, hbw, hacc, hal⟩ := hrel
    have hsz : w.heap.size + 1 < wr.heap.size := (Array.getElem?_eq_some_iff.1 hit).1
    by_cases hp : pos < s.size
    · have hnx : ∀ ty, (Instr.next (.pointer (some ⟨w.heap.size + 1, 0, none⟩)) true ty).run Tryz.prog wr = _ := fun ty => Lib.run_next_any_at wr (w.heap.size + 1) s pos ty hit hp
      have hwd := qpi s pos hp
      have hd1 := decode_le s pos
      have hI2 := hI.iterAt hit (pos + (Utf8.decode s pos).2)
      have hit2 := Lib.iterAt_heap wr (w.heap.size + 1) s pos (pos + (Utf8.decode s pos).2) hit
      have hbw2 := Lib.below_iterAt hbw (k := w.heap.size + 1) (by omega) s (pos + (Utf8.decode s pos).2)
      have hsz2 : w.heap.size ≤ (wr.iterAt (w.heap.size + 1) s (pos + (Utf8.decode s pos).2)).heap.size := by rw [Lib.iterAt_size]; omega
      have HS : Hid _ := qph s pos hp qjc
      have HA : Hid _ := hacc
      clear hacc
      by_cases h223 : (Utf8.decode s pos).1 = 223
      · go_wp2_with (go_at_call 39; refine (Tryz.Builder_WriteString_k w.heap.size w.heap.size _ ⟨#[115, 115]⟩ _ hI2 (by rw [Lib.byteCells_length]; show acc.length + 2 ≤ _; omega) hsz2).mono ?_)
        rintro e W1 ⟨rfl, h1, b1, k1⟩
        go_wp2
        go_roundw
        case rel =>
          refine ⟨pos + (Utf8.decode s pos).2, acc ++ [115, 115], ?_, k1.iter hit2 (by omega), hbw2.trans b1, ?_, by simp; omega⟩
          · rw [Lib.byteCells_append]; exact Or.inr h1
          · rw [← HA.out, HS.out, h223]; simp [qjc]; rfl
        case measure =>
          simp only [World.iterPos, k1.iter hit2 (by omega), hit]
          omega
      · have hub := zxe ((Utf8.decode s pos).1 : Int) (by omega) (by omega)
        have hdb := zmj (upZ ((Utf8.decode s pos).1 : Int)) hub.1 hub.2
        go_wp2_with (first | (go_at_call 42; refine (zxd _ (by omega) (by omega) _).mono ?_; rintro e w' ⟨rfl, rfl⟩) | (go_at_call 41; refine (zmi _ (by omega) (by omega) _).mono ?_; rintro e w' ⟨rfl, rfl⟩) | (go_at_call 40; refine (Tryz.Builder_WriteRune_k w.heap.size w.heap.size _ _ (by omega) (by omega) _ hI2 (by rw [Lib.byteCells_length]; omega) hsz2).mono ?_))
        rintro e W1 ⟨rfl, h1, b1, k1⟩
        go_wp2
        go_roundw
        case rel =>
          have hl4 := encodeRune_len (qda (upZ ((Utf8.decode s pos).1 : Int)))
          refine ⟨pos + (Utf8.decode s pos).2, acc ++ Lib.encodeRune (qda (upZ (Utf8.decode s pos).1)), ?_, k1.iter hit2 (by omega), hbw2.trans b1, ?_, by simp; omega⟩
          · rw [Lib.byteCells_append, Lib.byteCells_encodeRune]; exact Or.inr h1
          · rw [← HA.out, HS.out]; have : ¬ ((Utf8.decode s pos).1 : Int) = 223 := by omega
            simp [qjc, this, encs]
        case measure =>
          simp only [World.iterPos, k1.iter hit2 (by omega), hit]
          omega
    · have hnx : ∀ ty, (Instr.next (.pointer (some ⟨w.heap.size + 1, 0, none⟩)) true ty).run Tryz.prog wr = _ := fun ty => Lib.run_next_end_at wr (w.heap.size + 1) s pos ty hit hp
      rw [qmj s pos hp, List.append_nil] at hacc
      go_wp2_with (go_at_call 43; refine (Tryz.Builder_String_any_k w.heap.size w.heap.size acc _ hI (by omega)).mono ?_)
      rintro e W1 ⟨rfl, _, b1, _⟩
      go_wp2
      go_ret
      subst hacc
      exact ⟨rfl, hbw.trans b1⟩
theorem zgf (r : Int) : (encs (qjc r)).length ≤ 4 := by
  unfold qjc
  split
  · decide
  · rw [show encs [qda (upZ r)] = Lib.encodeRune (qda (upZ r)) from by simp [encs]]
    exact (encodeRune_len _).2
theorem zda (s : ByteArray) : ∀ (n pos : Nat), s.size - pos ≤ n → (encs ((runes (s.data.toList.drop pos)).flatMap qjc)).length ≤ 4 * n
  | 0, pos, h => by rw [qmj s pos (by omega)]; simp
  | n + 1, pos, h => by
    by_cases hp : pos < s.size
    · rw [qph s pos hp, List.length_append]
      have h1 := zgf ((Utf8.decode s pos).1 : Int)
      have h2 := qpi s pos hp
      have h3 := zda s n (pos + (Utf8.decode s pos).2) (by omega)
      omega
    · rw [qmj s pos hp]; simp
theorem fold_len (l : List UInt8) : (fold l).length ≤ 4 * l.length := by
  have h := zda ⟨l.toArray⟩ l.length 0 (by simp [ByteArray.size])
  simpa [fold] using h
end Go.Proofs.YtjlpecapebhgjaaGreatDoor.C
namespace Go.Proofs.YtjlpecapebhgjaaGreatDoor.G
open Go.RowKit
set_option linter.unusedVariables false
set_option linter.unusedSimpArgs false
set_option maxRecDepth 100000
theorem TeA_is1_3 : Is1 Tryz.prog 3 := ⟨⟨_, Tryz.underlying3, rfl⟩, by kernel_rfl⟩
theorem TeA_is1_9 : Is1 Tryz.prog 9 := ⟨⟨_, Tryz.underlying9, rfl⟩, by kernel_rfl⟩
theorem TeA_fld_38_0 : FieldAt Tryz.prog 38 0 0 := ⟨_, _, Tryz.underlying38, rfl, rfl, by kernel_rfl⟩
theorem TeA_fld_38_3 : FieldAt Tryz.prog 38 3 8 := ⟨_, _, Tryz.underlying38, rfl, rfl, by kernel_rfl⟩
theorem TeA_fld_69_1 : FieldAt Tryz.prog 69 1 1 := ⟨_, _, Tryz.underlying69, rfl, rfl, by kernel_rfl⟩
theorem TeA_isS_38 : IsS Tryz.prog 38 11 := ⟨⟨_, Tryz.underlying38⟩, by kernel_rfl⟩
def isK (k : Int) : Bool := (k == 1) || (k == 2) || (k == 3)
/-- A folded text as a datum. -/
def yh (s : ByteArray) : ByteArray := ⟨(C.fold s.data.toList).toArray⟩
def jw (s : ByteArray) : Dt := .mk ⟨5, 0, ⟨Q6.zero, none, 0, none, 0, none, 0, none, 0⟩, yh s, none, 0, [], none, 0⟩ []
def qpj (t : Tr) : Tr := .mk 5 0 Q6.zero (yh t.s) [] []
theorem zna (s : ByteArray) : (jw s).tr = .mk 5 0 Q6.zero (yh s) [] [] := by unfold jw; rw [Dt.tr_mk]; rfl
theorem zzi (t : Dt) : t.tr.s = t.d.s := by cases t; rw [Dt.tr_mk]; rfl
theorem znb (w : World) (s : ByteArray) (h : (yh s).size ≤ 9223372036854775807) : (jw s).rd w :=
 Dt.rd_iff.2 ⟨⟨⟨Sc.none w, Sc.none w, Sc.none w, Sc.none w⟩, qcd, ⟨fun h => absurd rfl h⟩, Nat.le_refl _, by show (0 : Nat) ≤ _; omega, by show (-9223372036854775808 : Int) ≤ 5; omega, by show (5 : Int) ≤ 9223372036854775807; omega, by show (-9223372036854775808 : Int) ≤ 0; omega, by show (0 : Int) ≤ 9223372036854775807; omega, h⟩, Nat.le_refl _, by show (0 : Nat) ≤ _; omega, fun h => absurd rfl h, fun t h => by cases h⟩
theorem znc (p : Nat → Prop) (s : ByteArray) : (jw s).at_ p :=
 Dt.at_iff.2 ⟨⟨fun h => absurd rfl h, fun h => absurd rfl h, fun h => absurd rfl h, fun h => absurd rfl h, fun h => absurd rfl h⟩, fun h => absurd rfl h, fun t h => by cases h⟩
/-- What a kind's marks are: how they are made, and of which keys. -/
structure Marks (kind : Int) (mk : Tr → Tr) (ok : Tr → Bool) : Prop where
 kd : isK kind = true
 run : ∀ {w : World} {t : Dt}, t.rd w → t.tr.bulk ≤ 4000000 → ok t.tr = true → Calls Tryz.prog 48 #[.int .i64 kind, .agg (t.d.cells t.ts.length).toArray] w fun e w' => ∃ m : Dt, e = .returned (.tuple #[.agg (m.d.cells m.ts.length).toArray, .int .i64 0]) ∧ (m.rd w' ∧ m.tr = mk t.tr ∧ MadeOf t m w) ∧ Below w.heap.size w w'
theorem zgg (t : Dt) : t.d.s.size ≤ t.tr.bulk := by
 cases t; rw [Dt.tr_mk, km]; simp only [Dt.d]; omega
theorem qna {w : World} {k : Int} : Calls Tryz.prog 25 #[.int .i64 k] w fun e w' => e = .returned (.bool (isK k)) ∧ Below w.heap.size w w' := by
 have M : Mg w w ([]) := Mg.start w
 refine qs (l := [(0, .int .i64 k)]) Tryz.func25 rfl Tryz.ntmps25 rfl rfl ?_
 intro Q hret hnorm hP a H
 refine wsk fun K1 hK1 => wrl (sda H λa H↦?_)
 refine qa (hK1 _ _ (wsk fun K2 hK2 => wrl (sdm H λa H↦?_)))
 rcases tf ((k == 1)) with hb3 | hb3
 ·
  have hb3' := eq_of_beq hb3
  refine sdc H qm hb3 λa H↦?_
  refine sdm H λa H↦?_
  iterate 2 refine zg H rfl rfl rfl λa H↦?_
  refine sdk (v := .bool true) H λa H↦?_
  refine sdm H λa H↦?_
  iterate 2 refine zg H rfl rfl rfl λa H↦?_
  refine sdk (v := .bool true) H λa H↦?_
  refine sda H λa H↦?_
  refine qa (hK2 _ _ (wp_ret (hret _ _ (en1 H rfl (qj rfl) ?_))))
  exact ⟨by unfold isK; simp_all, M.bel⟩
 ·
  have hb3' := ne_of_beq_false hb3
  refine sdc H qm hb3 λa H↦?_
  iterate 2 refine sdm H λa H↦?_
  rcases tf ((k == 2)) with hb4 | hb4
  ·
   have hb4' := eq_of_beq hb4
   refine sdc H qm hb4 λa H↦?_
   refine sdk (v := .bool true) H λa H↦?_
   refine sdm H λa H↦?_
   iterate 2 refine zg H rfl rfl rfl λa H↦?_
   refine sdk (v := .bool true) H λa H↦?_
   refine sda H λa H↦?_
   refine qa (hK2 _ _ (wp_ret (hret _ _ (en1 H rfl (qj rfl) ?_))))
   exact ⟨by unfold isK; simp_all, M.bel⟩
  ·
   have hb4' := ne_of_beq_false hb4
   refine sdc H qm hb4 λa H↦?_
   refine sdk (v := .bool false) H λa H↦?_
   iterate 2 refine sdm H λa H↦?_
   rcases tf ((k == 3)) with hb5 | hb5
   ·
    have hb5' := eq_of_beq hb5
    refine sdc H qm hb5 λa H↦?_
    refine sdk (v := .bool true) H λa H↦?_
    refine sda H λa H↦?_
    refine qa (hK2 _ _ (wp_ret (hret _ _ (en1 H rfl (qj rfl) ?_))))
    exact ⟨by unfold isK; simp_all, M.bel⟩
   ·
    have hb5' := ne_of_beq_false hb5
    refine sdc H qm hb5 λa H↦?_
    refine sdk (v := .bool false) H λa H↦?_
    refine sda H λa H↦?_
    refine qa (hK2 _ _ (wp_ret (hret _ _ (en1 H rfl (qj rfl) ?_))))
    exact ⟨by unfold isK; simp_all, M.bel⟩
theorem vh {w : World} {h z : Int} : Calls Tryz.prog 27 #[.agg #[.int .u64 h, .int .i64 z]] w fun e w' => e = .returned (.bool (decide (0 ≤ z))) ∧ Below w.heap.size w w' := by
 have M : Mg w w ([]) := Mg.start w
 refine qs (l := [(0, .agg #[.int .u64 h, .int .i64 z])]) Tryz.func27 rfl Tryz.ntmps27 rfl rfl ?_
 intro Q hret hnorm hP a H
 refine wsk fun K1 hK1 => wrl (zx (vs := [.int .u64 h, .int .i64 z]) (t := 69) H M rfl rfl rfl pg (qr rfl rfl) (by decide) ?_)
 intro g2 w3 M a H
 refine sda H λa H↦?_
 refine qa (hK1 _ _ (wsk fun K4 hK4 => wrl (sdo (v := .pointer (some ⟨g2, 1, none⟩)) H (qb TeA_fld_69_1 rfl rfl) λa H↦?_)))
 refine sdo H (qk M TeA_is1_3 rfl 0 rfl rfl) λa H↦?_
 refine sdo (v := .bool (decide (0 ≤ z))) H (qg rfl rfl kp) λa H↦?_
 refine sda H λa H↦?_
 refine qa (hK4 _ _ (wp_ret (hret _ _ (en1 H rfl (qj rfl) ?_))))
 exact ⟨rfl, M.bel⟩
theorem zzf {w : World} {t : Dt} (hk : t.d.k = 5) (hs : t.d.s.size ≤ 4000000) : Calls Tryz.prog 73 #[.agg (t.d.cells t.ts.length).toArray] w fun e w' => e = .returned (.tuple #[.agg ((jw t.d.s).d.cells (jw t.d.s).ts.length).toArray, .int .i64 0]) ∧ Below w.heap.size w w' := by
 have M : Mg w w ([]) := Mg.start w
 refine qs (l := [(0, .agg (t.d.cells t.ts.length).toArray)]) Tryz.func73 rfl Tryz.ntmps73 rfl rfl ?_
 intro Q hret hnorm hP a H
 refine wsk fun K1 hK1 => wrl (zx (vs := (t.d.cells t.ts.length)) (t := 38) H M rfl rfl rfl pg (qr rfl rfl) (by decide) ?_)
 intro g2 w3 M a H
 refine zx (vs := (zl.d.cells zl.ts.length)) (t := 38) H M rfl rfl rfl pg (ql (z := .agg (zl.d.cells zl.ts.length).toArray) (by kernel_rfl) rfl) (by decide) ?_
 intro g4 w5 M a H
 refine sda H λa H↦?_
 refine qa (hK1 _ _ (wsk fun K6 hK6 => wsk fun K7 hK7 => wrl (sdo (v := .pointer (some ⟨g2, 0, none⟩)) H (qb TeA_fld_38_0 rfl rfl) λa H↦?_)))
 refine sdo H (qk M TeA_is1_3 rfl 1 rfl rfl) λa H↦?_
 refine sdo (v := .bool false) H (qg rfl rfl (fun w => (jo w).trans (by rw [show ((t.d.k != 5)) = false from (bne_eq_false_iff_eq.2 hk)]))) λa H↦?_
 refine qa (hK7 _ _ (wp_cond_false (H.ev rfl) ?_))
 refine wp_skip (hK6 _ _ (wsk fun K8 hK8 => wrl (sdo (v := .pointer (some ⟨g2, 8, none⟩)) H (qb TeA_fld_38_3 rfl rfl) λa H↦?_)))
 refine sdo H (qk M TeA_is1_9 rfl 1 rfl rfl) λa H↦?_
 refine gcl H M (ef rfl rfl) (C.fold_any t.d.s _ (by omega)) fun w9 hbf M a H => ?_
 refine sdo (v := .agg #[.int .i64 5, .int .i64 0, .bool false, .slice none 0 0, .slice none 0 0, .bool false, .slice none 0 0, .slice none 0 0, .string (yh t.d.s), .slice none 0 0, .slice none 0 0]) H (zp rfl (fun w => by kernel_rfl)) λa H↦?_
 refine zr (us := [.int .i64 5, .int .i64 0, .bool false, .slice none 0 0, .slice none 0 0, .bool false, .slice none 0 0, .slice none 0 0, .string (yh t.d.s), .slice none 0 0, .slice none 0 0]) (L' := (.obj g4 (.cells #[.int .i64 5, .int .i64 0, .bool false, .slice none 0 0, .slice none 0 0, .bool false, .slice none 0 0, .slice none 0 0, .string (yh t.d.s), .slice none 0 0, .slice none 0 0] 38) :: .obj g2 (.cells (t.d.cells t.ts.length).toArray 38) :: [])) H M rfl rfl (za rfl rfl rfl (by kernel_rfl) M 0 rfl rfl rfl) 0 rfl rfl rfl ?_
 intro w10 M
 refine sda H λa H↦?_
 refine qa (hK8 _ _ (wp_ret (hret _ _ (en2 H rfl (vr M TeA_isS_38 rfl 0 rfl (cs := [.int .i64 5, .int .i64 0, .bool false, .slice none 0 0, .slice none 0 0, .bool false, .slice none 0 0, .slice none 0 0, .string (yh t.d.s), .slice none 0 0, .slice none 0 0]) rfl rfl) (qj rfl) ?_))))
 exact ⟨rfl, M.bel⟩
theorem zgh {w : World} {t : Dt} : Calls Tryz.prog 48 #[.int .i64 1, .agg (t.d.cells t.ts.length).toArray] w fun e w' => e = .returned (.tuple #[.agg (t.d.cells t.ts.length).toArray, .int .i64 0]) ∧ Below w.heap.size w w' := by
 have M : Mg w w ([]) := Mg.start w
 refine qs (l := [(0, .int .i64 1), (1, .agg (t.d.cells t.ts.length).toArray)]) Tryz.func48 rfl Tryz.ntmps48 rfl rfl ?_
 intro Q hret hnorm hP a H
 refine wsk fun K1 hK1 => wrl (zx (vs := (t.d.cells t.ts.length)) (t := 38) H M rfl rfl rfl pg (qr rfl rfl) (by decide) ?_)
 intro g2 w3 M a H
 refine zx (vs := (zl.d.cells zl.ts.length)) (t := 38) H M rfl rfl rfl pg (ql (z := .agg (zl.d.cells zl.ts.length).toArray) (by kernel_rfl) rfl) (by decide) ?_
 intro g4 w5 M a H
 refine sda H λa H↦?_
 refine qa (hK1 _ _ (wsk fun K6 hK6 => wsk fun K7 hK7 => wrl (sdm H λa H↦?_)))
 refine qa (hK7 _ _ (wp_block (wsk fun K8 hK8 => wrl (sdo (v := .bool false) H (qg rfl rfl (fun w => by kernel_rfl)) λa H↦?_))))
 refine sda H λa H↦?_
 refine qa (hK8 _ _ (wp_cond_false (H.ev rfl) ?_))
 refine wsk fun K9 hK9 => wrl (sdo (v := .bool false) H (qg rfl rfl (fun w => by kernel_rfl)) λa H↦?_)
 refine sda H λa H↦?_
 refine qa (hK9 _ _ (wp_cond_false (H.ev rfl) ?_))
 refine wp_skip (hK6 _ _ (wsk fun K10 hK10 => wrl (sdo H (qw M TeA_isS_38 rfl 1 rfl (cs := (t.d.cells t.ts.length)) rfl rfl) λa H↦?_)))
 refine zr (us := (t.d.cells t.ts.length)) (L' := (.obj g4 (.cells (t.d.cells t.ts.length).toArray 38) :: .obj g2 (.cells (t.d.cells t.ts.length).toArray 38) :: [])) H M rfl rfl (za rfl rfl rfl (by kernel_rfl) M 0 rfl rfl rfl) 0 rfl rfl rfl ?_
 intro w11 M
 refine sda H λa H↦?_
 refine qa (hK10 _ _ (wp_ret (hret _ _ (en2 H rfl (vr M TeA_isS_38 rfl 0 rfl (cs := [.int .i64 t.d.k, .int .i64 t.d.n, .bool t.d.y.q.b1, .slice t.d.y.o1 t.d.y.q.t1.length t.d.y.c1, .slice t.d.y.o2 t.d.y.q.q1.length t.d.y.c2, .bool t.d.y.q.b2, .slice t.d.y.o3 t.d.y.q.t2.length t.d.y.c3, .slice t.d.y.o4 t.d.y.q.q2.length t.d.y.c4, .string t.d.s, .slice t.d.ro t.d.rl.length t.d.rc, .slice t.d.lo t.ts.length t.d.lc]) rfl rfl) (qj rfl) ?_))))
 exact ⟨rfl, M.bel⟩
theorem znd {w : World} {t : Dt} (hk : t.d.k = 5) (hs : t.d.s.size ≤ 4000000) : Calls Tryz.prog 48 #[.int .i64 2, .agg (t.d.cells t.ts.length).toArray] w fun e w' => e = .returned (.tuple #[.agg ((jw t.d.s).d.cells (jw t.d.s).ts.length).toArray, .int .i64 0]) ∧ Below w.heap.size w w' := by
 have M : Mg w w ([]) := Mg.start w
 refine qs (l := [(0, .int .i64 2), (1, .agg (t.d.cells t.ts.length).toArray)]) Tryz.func48 rfl Tryz.ntmps48 rfl rfl ?_
 intro Q hret hnorm hP a H
 refine wsk fun K1 hK1 => wrl (zx (vs := (t.d.cells t.ts.length)) (t := 38) H M rfl rfl rfl pg (qr rfl rfl) (by decide) ?_)
 intro g2 w3 M a H
 refine zx (vs := (zl.d.cells zl.ts.length)) (t := 38) H M rfl rfl rfl pg (ql (z := .agg (zl.d.cells zl.ts.length).toArray) (by kernel_rfl) rfl) (by decide) ?_
 intro g4 w5 M a H
 refine sda H λa H↦?_
 refine qa (hK1 _ _ (wsk fun K6 hK6 => wsk fun K7 hK7 => wrl (sdm H λa H↦?_)))
 refine qa (hK7 _ _ (wp_block (wsk fun K8 hK8 => wrl (sdo (v := .bool true) H (qg rfl rfl (fun w => by kernel_rfl)) λa H↦?_))))
 refine sda H λa H↦?_
 refine qa (hK8 _ _ (wp_cond_true (H.ev rfl) ?_))
 refine wsk fun K9 hK9 => wrl (sdo H (qw M TeA_isS_38 rfl 1 rfl (cs := (t.d.cells t.ts.length)) rfl rfl) λa H↦?_)
 refine gcl H M (ef rfl rfl) (zzf hk hs) fun w10 hbm M a H => ?_
 iterate 2 refine sdo H (zd (vs := [.agg ((jw t.d.s).d.cells (jw t.d.s).ts.length).toArray, .int .i64 0]) rfl rfl) λa H↦?_
 refine zr (us := ((jw t.d.s).d.cells (jw t.d.s).ts.length)) (L' := (.obj g4 (.cells ((jw t.d.s).d.cells (jw t.d.s).ts.length).toArray 38) :: .obj g2 (.cells (t.d.cells t.ts.length).toArray 38) :: [])) H M rfl rfl (za rfl rfl rfl (by kernel_rfl) M 0 rfl rfl rfl) 0 rfl rfl rfl ?_
 intro w11 M
 refine sda H λa H↦?_
 refine qa (hK9 _ _ (wp_ret (hret _ _ (en2 H rfl (vr M TeA_isS_38 rfl 0 rfl (cs := [.int .i64 ((jw t.d.s).d.k), .int .i64 ((jw t.d.s).d.n), .bool ((jw t.d.s).d.y.q.b1), .slice ((jw t.d.s).d.y.o1) ((jw t.d.s).d.y.q.t1.length) ((jw t.d.s).d.y.c1), .slice ((jw t.d.s).d.y.o2) ((jw t.d.s).d.y.q.q1.length) ((jw t.d.s).d.y.c2), .bool ((jw t.d.s).d.y.q.b2), .slice ((jw t.d.s).d.y.o3) ((jw t.d.s).d.y.q.t2.length) ((jw t.d.s).d.y.c3), .slice ((jw t.d.s).d.y.o4) ((jw t.d.s).d.y.q.q2.length) ((jw t.d.s).d.y.c4), .string ((jw t.d.s).d.s), .slice ((jw t.d.s).d.ro) ((jw t.d.s).d.rl.length) ((jw t.d.s).d.rc), .slice ((jw t.d.s).d.lo) ((jw t.d.s).ts.length) ((jw t.d.s).d.lc)]) rfl rfl) (qj rfl) ?_))))
 exact ⟨rfl, M.bel⟩
theorem qeb : Marks 1 id (fun _ => true) := ⟨rfl, fun ht _ _ => zgh.mono fun e w' ⟨h, hb⟩ => ⟨_, h, ⟨Dt.keep hb _ ht, rfl, .inl rfl⟩, hb⟩⟩
def isS (t : Tr) : Bool := t.k == 5
theorem zgi (s : ByteArray) (h : s.size ≤ 4000000) : (yh s).size ≤ 9223372036854775807 := by
 have := C.fold_len s.data.toList
 have h2 : (yh s).size = (C.fold s.data.toList).length := rfl
 have h3 : s.data.toList.length = s.size := (Lib.size_eq s).symm
 omega
theorem zne : Marks 2 qpj isS := ⟨rfl, fun {w t} ht hb hs => by
  have hk : t.d.k = 5 := by unfold isS at hs; rw [zza] at hs; exact beq_iff_eq.1 hs
  have hz : t.d.s.size ≤ 4000000 := Nat.le_trans (zgg t) hb
  exact (znd hk hz).mono fun e w' ⟨h, hb⟩ => ⟨_, h, ⟨znb _ _ (zgi _ hz), by rw [zna]; unfold qpj; rw [zzi], .inr (.inl (znc _ _))⟩, hb⟩⟩
theorem TeB_is1_24 : Is1 Tryz.prog 24 := ⟨⟨_, Tryz.underlying24, rfl⟩, by kernel_rfl⟩
theorem TeB_is1_3 : Is1 Tryz.prog 3 := ⟨⟨_, Tryz.underlying3, rfl⟩, by kernel_rfl⟩
theorem TeB_is1_64 : Is1 Tryz.prog 64 := ⟨⟨_, Tryz.underlying64, rfl⟩, by kernel_rfl⟩
theorem TeB_fld_66_0 : FieldAt Tryz.prog 66 0 0 := ⟨_, _, Tryz.underlying66, rfl, rfl, by kernel_rfl⟩
theorem TeB_fld_66_1 : FieldAt Tryz.prog 66 1 1 := ⟨_, _, Tryz.underlying66, rfl, rfl, by kernel_rfl⟩
theorem TeB_fld_74_1 : FieldAt Tryz.prog 74 1 1 := ⟨_, _, Tryz.underlying74, rfl, rfl, by kernel_rfl⟩
theorem TeB_isS_38 : IsS Tryz.prog 38 11 := ⟨⟨_, Tryz.underlying38⟩, by kernel_rfl⟩
theorem TeB_isS_69 : IsS Tryz.prog 69 2 := ⟨⟨_, Tryz.underlying69⟩, by kernel_rfl⟩
theorem TeB_isS_74 : IsS Tryz.prog 74 23 := ⟨⟨_, Tryz.underlying74⟩, by kernel_rfl⟩
theorem zaf {w : World} {so : Option Addr} {ca : Nat} {es : List Et} (hR : Rc w so (zk Et.c es)) (hl : es.length ≤ 1000000000) {f : FuncId} {cs : List Value} {p : Et → Bool} (hF : AskE Tryz.prog f cs w es p) : Calls Tryz.prog 50 #[.slice so es.length ca, .func (.func f) #[] cs.toArray] w fun e w' => e = .returned (.int .i64 (yj p es)) ∧ Below w.heap.size w w' := by
 have M : Mg w w ([]) := Mg.start w
 refine qs (l := [(0, .slice so es.length ca), (1, .func (.func f) #[] cs.toArray)]) Tryz.func50 rfl Tryz.ntmps50 rfl rfl ?_
 intro Q hret hnorm hP a H
 refine wsk fun K1 hK1 => wrl (sda H λa H↦?_)
 refine qa (hK1 _ _ (wsk fun K2 hK2 => wsk fun K3 hK3 => wrl (sdm H λa H↦?_)))
 refine sdo H (qy Tryz.underlying75 rfl) λa H↦?_
 refine sdm H λa H↦?_
 refine qa (hK3 _ _ (wp_block (jp (fun m_ a w1 => ∃ (i : Nat), m_ = 1 + (es.length - i) ∧ (i ≤ es.length ∧ ∀ j u, j < i → es[j]? = some u → p u = false) ∧ Sl a 19 [(0, .slice so es.length ca), (1, .func (.func f) #[] cs.toArray), (6, .slice so es.length ca), (7, .int .i64 (((es.length : Nat) : Int))), (8, .int .i64 (((i : Nat) : Int)))] ∧ Mg w w1 ([])) _ ⟨0, rfl, ⟨Nat.zero_le _, fun j u h => absurd h (Nat.not_lt_zero _)⟩, H.keep _ ⟨rfl, rfl, rfl, rfl, rfl, trivial⟩, M⟩ ?_)))
 clear M H
 rintro m_ a w4 ⟨i, rfl, hinv6, H, M⟩ K5 hK5
 obtain ⟨hi0, hin9⟩ := hinv6
 refine wsk fun K7 hK7 => wrl ?_
 rcases tf (decide (((i : Nat) : Int) < ((es.length : Nat) : Int))) with hb8 | hb8
 ·
  have hb8' := of_decide_eq_true hb8
  refine sdc H zq hb8 λa H↦?_
  refine qa (hK7 _ _ (wsk fun K9 hK9 => wp_cond_true (H.ev rfl) ?_))
  refine wp_skip (hK9 _ _ (wsk fun K10 hK10 => wp_block (wsk fun K11 hK11 => wrl (sdm H λa H↦?_))))
  refine sda H λa H↦?_
  refine qa (hK11 _ _ (wsk fun K12 hK12 => ?_))
  obtain ⟨e, be, oe, ie, me, le, He⟩ := zzc hR (i := i) (by omega)
  refine wrl ?_
  iterate 3 refine sdm H λa H↦?_
  refine sdo (v := .pointer (some ⟨be, oe + i * 23, none⟩)) H (zu (k := i) Tryz.underlying75 (by kernel_rfl) rfl rfl rfl le (by omega)) λa H↦?_
  refine sdo H (jv M He TeB_isS_74 rfl rfl) λa H↦?_
  rcases tf (p e) with hb13 | hb13
  ·
   refine kw H rfl rfl rfl (qbh rfl rfl hF.inv) ((hb13 ▸ hF.run e _ me M.bel)) ?_
   rintro _ w15 ⟨rfl, hb14⟩
   replace M := M.call hb14
   refine ⟨_, rfl, ?_⟩
   intro a H
   refine qa (hK12 _ _ (wp_cond_true (H.ev rfl) ?_))
   refine wsk fun K16 hK16 => wrl (sdm H λa H↦?_)
   refine sda H λa H↦?_
   refine qa (hK16 _ _ (wp_ret (hret _ _ (en1 H rfl (qj rfl) ?_))))
   exact ⟨by rw [qve hin9 ie hb13], M.bel⟩
  ·
   refine kw H rfl rfl rfl (qbh rfl rfl hF.inv) ((hb13 ▸ hF.run e _ me M.bel)) ?_
   rintro _ w18 ⟨rfl, hb17⟩
   replace M := M.call hb17
   refine ⟨_, rfl, ?_⟩
   intro a H
   refine qa (hK12 _ _ (wp_cond_false (H.ev rfl) ?_))
   refine wp_skip (hK10 _ _ (wrl (sdo (v := .int .i64 (((i + 1 : Nat) : Int))) H (qg rfl rfl (fun w => (vg (yy (by omega) (by omega)) w).trans (by rw [show (((i : Nat) : Int) + 1 : Int) = ((i + 1 : Nat) : Int) from by omega]))) λa H↦?_)))
   refine sdm H λa H↦?_
   refine qa ?_
   replace M := M.sub (.refl _)
   refine hK5 _ _ _ (by omega) ⟨i + 1, rfl, ⟨by omega, fun j u hj hu => if h9 : j < i then hin9 j u h9 hu else by have h8 : j = i := (by omega); subst h8; rw [ie] at hu; rw [← Option.some.inj hu]; exact hb13⟩, H.keep _ ⟨rfl, rfl, rfl, rfl, rfl, trivial⟩, M⟩
 ·
  have hb8' := of_decide_eq_false hb8
  refine sdc H zq hb8 λa H↦?_
  refine qa (hK7 _ _ (wsk fun K19 hK19 => wp_cond_false (H.ev rfl) ?_))
  refine wp_exit (hK2 _ _ (wsk fun K20 hK20 => wrl (sda H λa H↦?_)))
  refine qa (hK20 _ _ (wp_ret (hret _ _ (en1 H rfl (qj rfl) ?_))))
  exact ⟨by rw [qpc (fun j u hj => hin9 j u (by omega))], M.bel⟩
theorem zxf {kind : Int} {mk : Tr → Tr} {ok : Tr → Bool} (hK : Marks kind mk ok) {w : World} {g3 g8 g m count last : Nat} (h3 : w.heap[g3]? = some (.cells #[.pointer (some ⟨g, 0, none⟩)] 24)) (hg : w.heap[g]? = some (.cells #[.int .i64 kind, .map (some m), .int .i64 (((count : Nat) : Int)), .int .i64 (((last : Nat) : Int))] 66)) {u : Dt} (h8 : Here w g8 0 (u.d.cells u.ts.length)) (hu : u.rd w) {e : Et} (hek : e.k.rd w) (heb : e.k.tr.bulk ≤ 4000000) (hok : ok e.k.tr = true) (hT : Tabs8 w) : Calls Tryz.prog 51 #[.agg (ji e.p e.k e.v).toArray, .pointer (some ⟨g3, 0, none⟩), .pointer (some ⟨g8, 0, none⟩)] w fun r w' => r = .returned (.bool (ki u.tr (mk e.k.tr))) ∧ Below w.heap.size w w' := by
 have M : Mg w w ([]) := Mg.start w
 refine qs (l := [(0, .agg (ji e.p e.k e.v).toArray), (1, .pointer (some ⟨g3, 0, none⟩)), (2, .pointer (some ⟨g8, 0, none⟩))]) Tryz.func51 rfl Tryz.ntmps51 rfl rfl ?_
 intro Q hret hnorm hP a H
 refine wsk fun K1 hK1 => wrl (zx (vs := (ji e.p e.k e.v)) (t := 74) H M rfl rfl rfl pg (qr rfl rfl) (by decide) ?_)
 intro g2 w3 M a H
 refine sda H λa H↦?_
 refine qa (hK1 _ _ (wsk fun K4 hK4 => ?_))
 have hJ5 : ∀ a w1, (∃ (m9 : Dt) (hmt9 : m9.tr = mk e.k.tr) (hm9 : m9.rd w1) (g9 : Nat), Sl a 20 [(0, .agg (ji e.p e.k e.v).toArray), (2, .pointer (some ⟨g8, 0, none⟩)), (4, .bool false), (5, .pointer (some ⟨g9, 0, none⟩)), (6, .int .i64 0)] ∧ Mg w w1 (.obj g9 (.cells (m9.d.cells m9.ts.length).toArray 38) :: .obj g2 (.cells (ji e.p e.k e.v).toArray 74) :: [])) → K4 a w1 := by
  clear H M
  rintro a w6 ⟨m9, hmt9, hm9, g9, H, M⟩
  refine hK4 _ _ (wsk fun K7 hK7 => wrl (sdo H (jv M h8 TeB_isS_38 rfl rfl) λa H↦?_))
  refine sdo H (qw M TeB_isS_38 rfl 0 rfl (cs := (m9.d.cells m9.ts.length)) rfl rfl) λa H↦?_
  refine gcl H M (ef rfl rfl) (qhd (Dt.keep M.bel _ hu) hm9 (hT.below M.bel)) fun w8 hbq M a H => ?_
  refine sda H λa H↦?_
  refine qa (hK7 _ _ (wp_ret (hret _ _ (en1 H rfl (qj rfl) ?_))))
  exact ⟨by rw [hmt9], M.bel⟩
 refine jh (S := fun w1 => Mg w w1 (.obj g2 (.cells (ji e.p e.k e.v).toArray 74) :: [])) (by kernel_rfl) ?_
 replace M := M.drew
 refine qe H 0 rfl rfl rfl rfl hP (M.sub (cc (List.nil_sublist _))) (fun w1 M => yq M h3 TeB_is1_24 rfl rfl) λa H↦?_
 refine qe H 1 rfl rfl rfl rfl hP (M.sub (cc (List.nil_sublist _))) (fun w1 M => zf rfl) λa H↦?_
 refine qe (v := .pointer (some ⟨g, 0, none⟩)) H 2 rfl rfl rfl rfl hP (M.sub (cc (List.nil_sublist _))) (fun w1 M => qb TeB_fld_66_0 rfl rfl) λa H↦?_
 refine qe H 3 rfl rfl rfl rfl hP (M.sub (cc (List.nil_sublist _))) (fun w1 M => yq M hg TeB_is1_3 rfl rfl) λa H↦?_
 refine qe (v := .pointer (some ⟨g2, 1, none⟩)) H 4 rfl rfl rfl rfl hP (M.sub (cc (List.nil_sublist _))) (fun w1 M => qb TeB_fld_74_1 rfl rfl) λa H↦?_
 refine qe H 5 rfl rfl rfl rfl hP (M.sub (cc (List.nil_sublist _))) (fun w1 M => qw M TeB_isS_38 rfl 0 rfl (cs := (e.k.d.cells e.k.ts.length)) rfl rfl) λa H↦?_
 refine jn (rs := [6, 10]) (by kernel_rfl) (by simp) ⟨?_, ?_, trivial⟩
 ·
  have hM0_ := M
  refine qn H 6 rfl rfl rfl rfl (qi rfl rfl (fun w => by kernel_rfl)) (hK.run (Dt.keep M.bel _ hek) heb hok) ?_
  rintro _ w14 ⟨m9, rfl, ⟨hmr10, hmt11, hmo12⟩, hb13⟩
  replace M := M.call hb13
  refine ⟨_, rfl, (M.sub (cc (List.nil_sublist _))), ?_⟩
  intro a H
  refine qe H 7 rfl rfl rfl rfl hP (M.sub (cc (List.nil_sublist _))) (fun w1 M => qp rfl) λa H↦?_
  refine qe (v := .agg (m9.d.cells m9.ts.length).toArray) H 8 rfl rfl rfl rfl hP (M.sub (cc (List.nil_sublist _))) (fun w1 M => zd (vs := [.agg (m9.d.cells m9.ts.length).toArray, .int .i64 0]) rfl rfl) λa H↦?_
  refine qe (v := .int .i64 0) H 9 rfl rfl rfl rfl hP (M.sub (cc (List.nil_sublist _))) (fun w1 M => zd (vs := [.agg (m9.d.cells m9.ts.length).toArray, .int .i64 0]) rfl rfl) λa H↦?_
  refine qh (by kernel_rfl) (qsa (vs := (zl.d.cells zl.ts.length)) (t := 38) H M 10 rfl rfl rfl rfl pg (ql (z := .agg (zl.d.cells zl.ts.length).toArray) (by kernel_rfl) rfl) (by decide) ?_)
  intro g15 w16 M hg17 hb18
  have hn9 := Dt.at_mono (q := (· ≠ g15)) (fun b hb => by intro e; omega) _ (Dt.at_lt _ hmr10)
  replace hmr10 := Dt.keep hb18 _ hmr10
  refine ⟨(M.sub (cn (cc (List.nil_sublist _)))), ?_⟩
  intro a H
  refine qh (by kernel_rfl) (ul (us := (m9.d.cells m9.ts.length)) (L' := (.obj g15 (.cells (m9.d.cells m9.ts.length).toArray 38) :: .obj g2 (.cells (ji e.p e.k e.v).toArray 74) :: [])) H M 11 rfl rfl rfl (za rfl rfl rfl (by kernel_rfl) M 0 rfl rfl rfl) 0 rfl rfl rfl ?_)
  intro w19 M hK20
  replace hmr10 := Dt.kept hK20 _ hmr10 hn9
  refine ⟨(M.sub (cn (cc (List.nil_sublist _)))), ?_⟩
  refine qe H 12 rfl rfl rfl rfl hP (M.sub (cn (cc (List.nil_sublist _)))) (fun w1 M => jf rfl) λa H↦?_
  refine ze (by kernel_rfl) ?_
  exact hJ5 _ _ ⟨m9, hmt11, hmr10, g15, H.keep _ ⟨rfl, rfl, rfl, rfl, rfl, trivial⟩, M⟩
 ·
  refine qsa (vs := (zl.d.cells zl.ts.length)) (t := 38) H M 10 rfl rfl rfl rfl pg (ql (z := .agg (zl.d.cells zl.ts.length).toArray) (by kernel_rfl) rfl) (by decide) ?_
  intro g21 w22 M hg23 hb24
  refine ⟨(M.sub (cn (cc (List.nil_sublist _)))), ?_⟩
  intro a H
  have hM0_ := M
  refine qh (by kernel_rfl) (qn H 6 rfl rfl rfl rfl (qi rfl rfl (fun w => by kernel_rfl)) (hK.run (Dt.keep M.bel _ hek) heb hok) ?_)
  rintro _ w30 ⟨m25, rfl, ⟨hmr26, hmt27, hmo28⟩, hb29⟩
  have hn9 := qlj hM0_ 0 (vs := (zl.d.cells zl.ts.length)) rfl rfl hek hmo28 hb29 hmr26
  replace M := M.call hb29
  refine ⟨_, rfl, (M.sub (cn (cc (List.nil_sublist _)))), ?_⟩
  intro a H
  refine qe H 7 rfl rfl rfl rfl hP (M.sub (cn (cc (List.nil_sublist _)))) (fun w1 M => qp rfl) λa H↦?_
  refine qe (v := .agg (m25.d.cells m25.ts.length).toArray) H 8 rfl rfl rfl rfl hP (M.sub (cn (cc (List.nil_sublist _)))) (fun w1 M => zd (vs := [.agg (m25.d.cells m25.ts.length).toArray, .int .i64 0]) rfl rfl) λa H↦?_
  refine qe (v := .int .i64 0) H 9 rfl rfl rfl rfl hP (M.sub (cn (cc (List.nil_sublist _)))) (fun w1 M => zd (vs := [.agg (m25.d.cells m25.ts.length).toArray, .int .i64 0]) rfl rfl) λa H↦?_
  refine qh (by kernel_rfl) (ul (us := (m25.d.cells m25.ts.length)) (L' := (.obj g21 (.cells (m25.d.cells m25.ts.length).toArray 38) :: .obj g2 (.cells (ji e.p e.k e.v).toArray 74) :: [])) H M 11 rfl rfl rfl (za rfl rfl rfl (by kernel_rfl) M 0 rfl rfl rfl) 0 rfl rfl rfl ?_)
  intro w31 M hK32
  replace hmr26 := Dt.kept hK32 _ hmr26 hn9
  refine ⟨(M.sub (cn (cc (List.nil_sublist _)))), ?_⟩
  refine qe H 12 rfl rfl rfl rfl hP (M.sub (cn (cc (List.nil_sublist _)))) (fun w1 M => jf rfl) λa H↦?_
  refine ze (by kernel_rfl) ?_
  exact hJ5 _ _ ⟨m25, hmt27, hmr26, g21, H.keep _ ⟨rfl, rfl, rfl, rfl, rfl, trivial⟩, M⟩
/-- A table as it lies in memory. -/
structure Tab (w : World) (ok : Tr → Bool) (g : Nat) (kind : Int) (m count last ck : Nat) (bs : List Bk) : Prop where
 obj : w.heap[g]? = some (.cells #[.int .i64 kind, .map (some m), .int .i64 (((count : Nat) : Int)), .int .i64 (((last : Nat) : Int))] 66)
 map : w.heap[m]? = some (zi (bs.map Bk.en) ck)
 row : ∀ x ∈ bs, Rc w x.so (zk Et.c x.es)
 key : ∀ x ∈ bs, ∀ e ∈ x.es, e.k.rd w ∧ e.k.tr.bulk ≤ 4000000 ∧ ok e.k.tr = true ∧ e.v.rd w ∧ e.v.tr.bulk ≤ 4000000
 len : ∀ x ∈ bs, x.es.length ≤ 1000000
theorem Tab.below {w w' : World} {ok : Tr → Bool} {g : Nat} {kind : Int} {m count last ck : Nat} {bs : List Bk} (h : Tab w ok g kind m count last ck bs) (hb : Below w.heap.size w w') : Tab w' ok g kind m count last ck bs :=
 ⟨xw h.obj hb, xw h.map hb, fun x hx => (h.row x hx).below hb, fun x hx e he => have k := h.key x hx e he; ⟨Dt.keep hb _ k.1, k.2.1, k.2.2.1, Dt.keep hb _ k.2.2.2.1, k.2.2.2.2⟩, h.len⟩
theorem qwc {w0 w : World} {L : List Ck} {ok : Tr → Bool} {g : Nat} {kind : Int} {m count last ck : Nat} {bs : List Bk} (hb : Tab w0 ok g kind m count last ck bs) (M : Mg w0 w L) (z : Int) : ∃ so ca es, es = xe bs z ∧ Rc w0 so (zk Et.c es) ∧ (∀ e ∈ es, e.k.rd w0 ∧ e.k.tr.bulk ≤ 4000000 ∧ ok e.k.tr = true ∧ e.v.rd w0 ∧ e.v.tr.bulk ≤ 4000000) ∧ es.length ≤ 1000000 ∧ ∀ {l : List (Nat × Value)} {dst : Option Tmp} {ty : TypeId} {pos : String} {after : Array Edge} {guard : Option (Nat × Bool)} {x y : Operand}, ev l x = some (.map (some m)) → ev l y = some (.int .u64 z) → Does Tryz.prog l ⟨dst, .lookup 64 x y false, ty, pos, after, guard⟩ w (.slice so es.length ca) w := by
 cases h : bs.find? (fun x => decide (x.h = z)) with
 | none => exact ⟨none, 0, [], by unfold xe; rw [h], fun k => absurd rfl k, (fun e he => by cases he), (by simp), fun hx hy => zxc (xw hb.map M.bel) Tryz.underlying64 Tryz.underlying67 (zv := .slice none 0 0) (by kernel_rfl) hx hy (by rw [qff, h]; rfl) rfl⟩
 | some x =>
  have hx := List.mem_of_find?_eq_some h
  exact ⟨x.so, x.ca, x.es, by unfold xe; rw [h], hb.row x hx, hb.key x hx, hb.len x hx, fun hx hy => zxb (xw hb.map M.bel) Tryz.underlying64 Tryz.underlying67 hx hy (by rw [qff, h]; rfl) rfl⟩
theorem zsh {w : World} {t : Dt} (ht : t.rd w) (hT : Tabs8 w) : Calls Tryz.prog 47 #[.agg (t.d.cells t.ts.length).toArray] w fun e w' => e = .returned (.bool (!qz qx t.tr)) ∧ Below w.heap.size w w' := by
 have M : Mg w w ([]) := Mg.start w
 refine qs (l := [(0, .agg (t.d.cells t.ts.length).toArray)]) Tryz.func47 rfl Tryz.ntmps47 rfl rfl ?_
 intro Q hret hnorm hP a H
 refine wsk fun K1 hK1 => wrl (zx (vs := (t.d.cells t.ts.length)) (t := 38) H M rfl rfl rfl pg (qr rfl rfl) (by decide) ?_)
 intro g2 w3 M a H
 refine sda H λa H↦?_
 refine qa (hK1 _ _ (wsk fun K4 hK4 => wrl (sdo H (qw M TeB_isS_38 rfl 0 rfl (cs := (t.d.cells t.ts.length)) rfl rfl) λa H↦?_)))
 rcases tf (qz qx t.tr) with hb5 | hb5
 ·
  refine gcl H M (ef rfl rfl) ((hb5 ▸ sound_any (t := t) (Dt.keep M.bel _ ht) (hT.below M.bel))) fun w7 hb6 M a H => ?_
  refine sdo (v := .bool false) H (je rfl jl) λa H↦?_
  refine sda H λa H↦?_
  refine qa (hK4 _ _ (wp_ret (hret _ _ (en1 H rfl (qj rfl) ?_))))
  exact ⟨by simp_all, M.bel⟩
 ·
  refine gcl H M (ef rfl rfl) ((hb5 ▸ sound_any (t := t) (Dt.keep M.bel _ ht) (hT.below M.bel))) fun w9 hb8 M a H => ?_
  refine sdo (v := .bool true) H (je rfl jl) λa H↦?_
  refine sda H λa H↦?_
  refine qa (hK4 _ _ (wp_ret (hret _ _ (en1 H rfl (qj rfl) ?_))))
  exact ⟨by simp_all, M.bel⟩
theorem znf {w : World} {ts : List Dt} (hD : ∀ t ∈ ts, t.rd w) (hT : Tabs8 w) : Asks Tryz.prog 47 [] w ts (fun t => !qz qx t.tr) := ⟨fun us w => by kernel_rfl, fun t w1 ht hb => zsh (Dt.keep hb _ (hD t ht)) (hT.below hb)⟩
theorem ym {kind : Int} {mk : Tr → Tr} {ok : Tr → Bool} (hK : Marks kind mk ok) {w : World} {g m count last ck : Nat} {bs : List Bk} (hB : Tab w ok g kind m count last ck bs) {t : Dt} (ht : t.rd w) (htb : t.tr.bulk ≤ 4000000) (hT : Tabs8 w) {so : Option Addr} {ca : Nat} {ts : List Dt} (hR : Rt w so ts) (hD : ∀ t ∈ ts, t.rd w) (hl : ts.length ≤ 1000000000) (hs : qz qx t.tr = true) (hu : (ts.any fun t => !qz qx t.tr) = false) (hok : ok t.tr = true) : Calls Tryz.prog 26 #[.pointer (some ⟨g, 0, none⟩), .agg (t.d.cells t.ts.length).toArray, .slice so ts.length ca] w fun e w' => e = .returned (.tuple #[.agg #[.int .u64 (zm (mk t.tr)), .int .i64 (yj (fun e => ki (mk t.tr) (mk e.k.tr)) (xe bs (zm (mk t.tr))))], .int .i64 0]) ∧ Below w.heap.size w w' := by
 have M : Mg w w ([]) := Mg.start w
 refine qs (l := [(0, .pointer (some ⟨g, 0, none⟩)), (1, .agg (t.d.cells t.ts.length).toArray), (2, .slice so ts.length ca)]) Tryz.func26 rfl Tryz.ntmps26 rfl rfl ?_
 intro Q hret hnorm hP a H
 refine wsk fun K1 hK1 => wrl (zx (vs := [.pointer (some ⟨g, 0, none⟩)]) (t := 24) H M rfl rfl rfl pg (qr rfl rfl) (by decide) ?_)
 intro g2 w3 M a H
 refine zx (vs := (t.d.cells t.ts.length)) (t := 38) H M rfl rfl rfl pg (qr rfl rfl) (by decide) ?_
 intro g4 w5 M a H
 refine zx (vs := [.int .u64 0, .int .i64 0]) (t := 69) H M rfl rfl rfl pg (ql (z := .agg #[.int .u64 0, .int .i64 0]) (by kernel_rfl) rfl) (by decide) ?_
 intro g6 w7 M a H
 refine sda H λa H↦?_
 refine qa (hK1 _ _ (wsk fun K8 hK8 => wp_block (wsk fun K9 hK9 => wrl (sdo H (qk M TeB_is1_24 rfl 2 rfl rfl) λa H↦?_))))
 refine sdo (v := .bool false) H (qg rfl rfl (qbc Tryz.underlying24)) λa H↦?_
 refine sdm H λa H↦?_
 refine sdo H (qk M TeB_is1_24 rfl 2 rfl rfl) λa H↦?_
 refine sdo H (zf rfl) λa H↦?_
 refine sdo (v := .pointer (some ⟨g, 0, none⟩)) H (qb TeB_fld_66_0 rfl rfl) λa H↦?_
 refine sdo H (yq M hB.obj TeB_is1_3 rfl rfl) λa H↦?_
 refine gcl H M (ef rfl rfl) ((hK.kd ▸ qna)) fun w10 hbk M a H => ?_
 refine sdo (v := .bool false) H (je rfl jl) λa H↦?_
 refine sdk (v := .bool false) H λa H↦?_
 refine sda H λa H↦?_
 refine qa (hK9 _ _ (wp_cond_false (H.ev rfl) ?_))
 refine wsk fun K11 hK11 => wrl (sdo H (qw M TeB_isS_38 rfl 1 rfl (cs := (t.d.cells t.ts.length)) rfl rfl) λa H↦?_)
 refine gcl H M (ef rfl rfl) ((hs ▸ sound_any (t := t) (Dt.keep M.bel _ ht) (hT.below M.bel))) fun w12 hbs M a H => ?_
 refine sdo (v := .bool false) H (je rfl jl) λa H↦?_
 iterate 2 refine sdm H λa H↦?_
 refine gcl H M (ef rfl rfl) ((hu ▸ qsc (cs := []) (hR.below M.bel) (fun t ht => Dt.keep M.bel _ (hD t ht)) hl (znf (fun t ht => Dt.keep M.bel _ (hD t ht)) (hT.below M.bel)))) fun w13 hbc M a H => ?_
 refine sdk (v := .bool false) H λa H↦?_
 refine sda H λa H↦?_
 refine qa (hK11 _ _ (wp_cond_false (H.ev rfl) ?_))
 refine wp_skip (hK8 _ _ (wsk fun K14 hK14 => ?_))
 have hJ15 : ∀ a w1, (∃ (m9 : Dt) (hmt9 : m9.tr = mk t.tr) (hm9 : m9.rd w1) (g9 : Nat), Sl a 59 [(0, .pointer (some ⟨g, 0, none⟩)), (1, .agg (t.d.cells t.ts.length).toArray), (2, .slice so ts.length ca), (3, .pointer (some ⟨g2, 0, none⟩)), (4, .pointer (some ⟨g4, 0, none⟩)), (6, .pointer (some ⟨g6, 0, none⟩)), (7, .int .i64 0), (8, .pointer (some ⟨g9, 0, none⟩)), (9, .int .i64 0), (12, .bool false), (13, .pointer (some ⟨g, 0, none⟩)), (14, .bool false), (15, .bool false), (16, .pointer (some ⟨g, 0, none⟩)), (17, .pointer (some ⟨g, 0, none⟩)), (18, .pointer (some ⟨g, 0, none⟩)), (19, .int .i64 kind), (20, .bool true), (21, .bool false), (22, .bool false), (24, .bool false), (25, .agg (t.d.cells t.ts.length).toArray), (26, .bool true), (27, .bool false), (28, .bool false), (29, .slice so ts.length ca), (30, .bool false), (31, .bool false)] ∧ Mg w w1 (.obj g9 (.cells (m9.d.cells m9.ts.length).toArray 38) :: .obj g6 (.cells #[.int .u64 0, .int .i64 0] 69) :: .obj g4 (.cells (t.d.cells t.ts.length).toArray 38) :: .obj g2 (.cells #[.pointer (some ⟨g, 0, none⟩)] 24) :: [])) → K14 a w1 := by
  clear H M
  rintro a w16 ⟨m9, hmt9, hm9, g9, H, M⟩
  refine hK14 _ _ (wsk fun K17 hK17 => wsk fun K18 hK18 => wrl (sdm H λa H↦?_))
  refine sdo (v := .bool false) H (qg rfl rfl (fun w => by kernel_rfl)) λa H↦?_
  refine qa (hK18 _ _ (wp_cond_false (H.ev rfl) ?_))
  refine wp_skip (hK17 _ _ (wsk fun K19 hK19 => wrl (sdo H (qw M TeB_isS_38 rfl 0 rfl (cs := (m9.d.cells m9.ts.length)) rfl rfl) λa H↦?_)))
  refine sct H (ef rfl rfl) (zmh hm9 (hT.below M.bel)) ?_
  rintro _ w20 ⟨rfl, hbh⟩
  replace hm9 := Dt.keep hbh _ hm9
  replace M := M.call hbh
  refine ⟨_, rfl, ?_⟩
  intro a H
  refine sda H λa H↦?_
  refine qa (hK19 _ _ (wsk fun K21 hK21 => wrl (sdo H (qk M TeB_is1_24 rfl 3 rfl rfl) λa H↦?_)))
  refine sdo H (zf rfl) λa H↦?_
  refine sdo (v := .pointer (some ⟨g, 1, none⟩)) H (qb TeB_fld_66_1 rfl rfl) λa H↦?_
  refine sdo H (yq M hB.obj TeB_is1_64 rfl rfl) λa H↦?_
  refine sdm H λa H↦?_
  obtain ⟨so9, ca9, es9, he9, hr9, hk9, hn9, hL9⟩ := qwc hB M (zm m9.tr)
  refine sdo (v := .slice so9 es9.length ca9) H (hL9 rfl rfl) λa H↦?_
  refine sdo (v := .func (.func 51) #[] [.pointer (some ⟨g2, 0, none⟩), .pointer (some ⟨g9, 0, none⟩)].toArray) H (qni rfl) λa H↦?_
  refine gcl H M (ef rfl rfl) (zaf (cs := [.pointer (some ⟨g2, 0, none⟩), .pointer (some ⟨g9, 0, none⟩)]) (p := fun e => ki m9.tr (mk e.k.tr)) (hr9.below M.bel) (by omega) ⟨fun us w => by kernel_rfl, fun e w1 he hb => zxf hK (xw (M.obj 3 rfl) hb) (xw (xw hB.obj M.bel) hb) ((M.here 0 (cs := m9.d.cells m9.ts.length) rfl).below hb) (Dt.keep hb _ hm9) (Dt.keep hb _ (Dt.keep M.bel _ (hk9 e he).1)) (hk9 e he).2.1 (hk9 e he).2.2.1 ((hT.below M.bel).below hb)⟩) fun w22 hbi M a H => ?_
  refine sda H λa H↦?_
  refine qa (hK21 _ _ (wsk fun K23 hK23 => wrl ?_))
  iterate 2 refine sdm H λa H↦?_
  refine sdo (v := .agg #[.int .u64 (zm m9.tr), .int .i64 (yj (fun e => ki m9.tr (mk e.k.tr)) es9)]) H (zp rfl (fun w => by kernel_rfl)) λa H↦?_
  refine zr (us := [.int .u64 (zm m9.tr), .int .i64 (yj (fun e => ki m9.tr (mk e.k.tr)) es9)]) (L' := (.obj g9 (.cells (m9.d.cells m9.ts.length).toArray 38) :: .obj g6 (.cells #[.int .u64 (zm m9.tr), .int .i64 (yj (fun e => ki m9.tr (mk e.k.tr)) es9)] 69) :: .obj g4 (.cells (t.d.cells t.ts.length).toArray 38) :: .obj g2 (.cells #[.pointer (some ⟨g, 0, none⟩)] 24) :: [])) H M rfl rfl (za rfl rfl rfl (by kernel_rfl) M 1 rfl rfl rfl) 1 rfl rfl rfl ?_
  intro w24 M
  refine sda H λa H↦?_
  refine qa (hK23 _ _ (wp_ret (hret _ _ (en2 H rfl (vr M TeB_isS_69 rfl 1 rfl (cs := [.int .u64 (zm m9.tr), .int .i64 (yj (fun e => ki m9.tr (mk e.k.tr)) es9)]) rfl rfl) (qj rfl) ?_))))
  exact ⟨by rw [he9, hmt9], M.bel⟩
 refine jh (S := fun w1 => Mg w w1 (.obj g4 (.cells (t.d.cells t.ts.length).toArray 38) :: .obj g2 (.cells #[.pointer (some ⟨g, 0, none⟩)] 24) :: [])) (by kernel_rfl) ?_
 replace M := M.drew
 refine qe H 0 rfl rfl rfl rfl hP (M.sub (cn (cc (cc (List.nil_sublist _))))) (fun w1 M => qk M TeB_is1_24 rfl 1 rfl rfl) λa H↦?_
 refine qe H 1 rfl rfl rfl rfl hP (M.sub (cn (cc (cc (List.nil_sublist _))))) (fun w1 M => zf rfl) λa H↦?_
 refine qe (v := .pointer (some ⟨g, 0, none⟩)) H 2 rfl rfl rfl rfl hP (M.sub (cn (cc (cc (List.nil_sublist _))))) (fun w1 M => qb TeB_fld_66_0 rfl rfl) λa H↦?_
 refine qe H 3 rfl rfl rfl rfl hP (M.sub (cn (cc (cc (List.nil_sublist _))))) (fun w1 M => yq M hB.obj TeB_is1_3 rfl rfl) λa H↦?_
 refine qe H 4 rfl rfl rfl rfl hP (M.sub (cn (cc (cc (List.nil_sublist _))))) (fun w1 M => qw M TeB_isS_38 rfl 0 rfl (cs := (t.d.cells t.ts.length)) rfl rfl) λa H↦?_
 refine jn (rs := [5, 9]) (by kernel_rfl) (by simp) ⟨?_, ?_, trivial⟩
 ·
  have hM0_ := M
  refine qn H 5 rfl rfl rfl rfl (qi rfl rfl (fun w => by kernel_rfl)) (hK.run (Dt.keep M.bel _ ht) htb hok) ?_
  rintro _ w30 ⟨m25, rfl, ⟨hmr26, hmt27, hmo28⟩, hb29⟩
  replace M := M.call hb29
  refine ⟨_, rfl, (M.sub (cn (cc (cc (List.nil_sublist _))))), ?_⟩
  intro a H
  refine qe H 6 rfl rfl rfl rfl hP (M.sub (cn (cc (cc (List.nil_sublist _))))) (fun w1 M => qp rfl) λa H↦?_
  refine qe (v := .agg (m25.d.cells m25.ts.length).toArray) H 7 rfl rfl rfl rfl hP (M.sub (cn (cc (cc (List.nil_sublist _))))) (fun w1 M => zd (vs := [.agg (m25.d.cells m25.ts.length).toArray, .int .i64 0]) rfl rfl) λa H↦?_
  refine qe (v := .int .i64 0) H 8 rfl rfl rfl rfl hP (M.sub (cn (cc (cc (List.nil_sublist _))))) (fun w1 M => zd (vs := [.agg (m25.d.cells m25.ts.length).toArray, .int .i64 0]) rfl rfl) λa H↦?_
  refine qh (by kernel_rfl) (qsa (vs := (zl.d.cells zl.ts.length)) (t := 38) H M 9 rfl rfl rfl rfl pg (ql (z := .agg (zl.d.cells zl.ts.length).toArray) (by kernel_rfl) rfl) (by decide) ?_)
  intro g31 w32 M hg33 hb34
  have hn9 := Dt.at_mono (q := (· ≠ g31)) (fun b hb => by intro e; omega) _ (Dt.at_lt _ hmr26)
  replace hmr26 := Dt.keep hb34 _ hmr26
  refine ⟨(M.sub (cn (cn (cc (cc (List.nil_sublist _)))))), ?_⟩
  intro a H
  refine qh (by kernel_rfl) (ul (us := (m25.d.cells m25.ts.length)) (L' := (.obj g31 (.cells (m25.d.cells m25.ts.length).toArray 38) :: .obj g6 (.cells #[.int .u64 0, .int .i64 0] 69) :: .obj g4 (.cells (t.d.cells t.ts.length).toArray 38) :: .obj g2 (.cells #[.pointer (some ⟨g, 0, none⟩)] 24) :: [])) H M 10 rfl rfl rfl (za rfl rfl rfl (by kernel_rfl) M 0 rfl rfl rfl) 0 rfl rfl rfl ?_)
  intro w35 M hK36
  replace hmr26 := Dt.kept hK36 _ hmr26 hn9
  refine ⟨(M.sub (cn (cn (cc (cc (List.nil_sublist _)))))), ?_⟩
  refine qe H 11 rfl rfl rfl rfl hP (M.sub (cn (cn (cc (cc (List.nil_sublist _)))))) (fun w1 M => jf rfl) λa H↦?_
  refine ze (by kernel_rfl) ?_
  exact hJ15 _ _ ⟨m25, hmt27, hmr26, g31, H.keep _ (by repeat' constructor), M⟩
 ·
  refine qsa (vs := (zl.d.cells zl.ts.length)) (t := 38) H M 9 rfl rfl rfl rfl pg (ql (z := .agg (zl.d.cells zl.ts.length).toArray) (by kernel_rfl) rfl) (by decide) ?_
  intro g37 w38 M hg39 hb40
  refine ⟨(M.sub (cn (cn (cc (cc (List.nil_sublist _)))))), ?_⟩
  intro a H
  have hM0_ := M
  refine qh (by kernel_rfl) (qn H 5 rfl rfl rfl rfl (qi rfl rfl (fun w => by kernel_rfl)) (hK.run (Dt.keep M.bel _ ht) htb hok) ?_)
  rintro _ w46 ⟨m41, rfl, ⟨hmr42, hmt43, hmo44⟩, hb45⟩
  have hn9 := qlj hM0_ 0 (vs := (zl.d.cells zl.ts.length)) rfl rfl ht hmo44 hb45 hmr42
  replace M := M.call hb45
  refine ⟨_, rfl, (M.sub (cn (cn (cc (cc (List.nil_sublist _)))))), ?_⟩
  intro a H
  refine qe H 6 rfl rfl rfl rfl hP (M.sub (cn (cn (cc (cc (List.nil_sublist _)))))) (fun w1 M => qp rfl) λa H↦?_
  refine qe (v := .agg (m41.d.cells m41.ts.length).toArray) H 7 rfl rfl rfl rfl hP (M.sub (cn (cn (cc (cc (List.nil_sublist _)))))) (fun w1 M => zd (vs := [.agg (m41.d.cells m41.ts.length).toArray, .int .i64 0]) rfl rfl) λa H↦?_
  refine qe (v := .int .i64 0) H 8 rfl rfl rfl rfl hP (M.sub (cn (cn (cc (cc (List.nil_sublist _)))))) (fun w1 M => zd (vs := [.agg (m41.d.cells m41.ts.length).toArray, .int .i64 0]) rfl rfl) λa H↦?_
  refine qh (by kernel_rfl) (ul (us := (m41.d.cells m41.ts.length)) (L' := (.obj g37 (.cells (m41.d.cells m41.ts.length).toArray 38) :: .obj g6 (.cells #[.int .u64 0, .int .i64 0] 69) :: .obj g4 (.cells (t.d.cells t.ts.length).toArray 38) :: .obj g2 (.cells #[.pointer (some ⟨g, 0, none⟩)] 24) :: [])) H M 10 rfl rfl rfl (za rfl rfl rfl (by kernel_rfl) M 0 rfl rfl rfl) 0 rfl rfl rfl ?_)
  intro w47 M hK48
  replace hmr42 := Dt.kept hK48 _ hmr42 hn9
  refine ⟨(M.sub (cn (cn (cc (cc (List.nil_sublist _)))))), ?_⟩
  refine qe H 11 rfl rfl rfl rfl hP (M.sub (cn (cn (cc (cc (List.nil_sublist _)))))) (fun w1 M => jf rfl) λa H↦?_
  refine ze (by kernel_rfl) ?_
  exact hJ15 _ _ ⟨m41, hmt43, hmr42, g37, H.keep _ (by repeat' constructor), M⟩
theorem TeC_is1_3 : Is1 Tryz.prog 3 := ⟨⟨_, Tryz.underlying3, rfl⟩, by kernel_rfl⟩
theorem TeC_is1_64 : Is1 Tryz.prog 64 := ⟨⟨_, Tryz.underlying64, rfl⟩, by kernel_rfl⟩
theorem TeC_is1_67 : Is1 Tryz.prog 67 := ⟨⟨_, Tryz.underlying67, rfl⟩, by kernel_rfl⟩
theorem TeC_fld_66_1 : FieldAt Tryz.prog 66 1 1 := ⟨_, _, Tryz.underlying66, rfl, rfl, by kernel_rfl⟩
theorem TeC_fld_69_0 : FieldAt Tryz.prog 69 0 0 := ⟨_, _, Tryz.underlying69, rfl, rfl, by kernel_rfl⟩
theorem TeC_fld_69_1 : FieldAt Tryz.prog 69 1 1 := ⟨_, _, Tryz.underlying69, rfl, rfl, by kernel_rfl⟩
theorem TeC_fld_74_2 : FieldAt Tryz.prog 74 2 12 := ⟨_, _, Tryz.underlying74, rfl, rfl, by kernel_rfl⟩
theorem TeC_isS_38 : IsS Tryz.prog 38 11 := ⟨⟨_, Tryz.underlying38⟩, by kernel_rfl⟩
theorem TeC_isS_69 : IsS Tryz.prog 69 2 := ⟨⟨_, Tryz.underlying69⟩, by kernel_rfl⟩
theorem zng {kind : Int} {mk : Tr → Tr} {ok : Tr → Bool} (hK : Marks kind mk ok) {w : World} {g m count last ck : Nat} {bs : List Bk} (hB : Tab w ok g kind m count last ck bs) {t : Dt} (ht : t.rd w) (htb : t.tr.bulk ≤ 4000000) (hT : Tabs8 w) (hs : qz qx t.tr = true) (hok : ok t.tr = true) (hat : yj (fun e => ki (mk t.tr) (mk e.k.tr)) (xe bs (zm (mk t.tr))) = -1) : Calls Tryz.prog 11 #[.pointer (some ⟨g, 0, none⟩), .agg (t.d.cells t.ts.length).toArray] w fun e w' => e = .returned (.tuple #[.agg (zl.d.cells zl.ts.length).toArray, .int .i64 7]) ∧ Below w.heap.size w w' := by
 have M : Mg w w ([]) := Mg.start w
 refine qs (l := [(0, .pointer (some ⟨g, 0, none⟩)), (1, .agg (t.d.cells t.ts.length).toArray)]) Tryz.func11 rfl Tryz.ntmps11 rfl rfl ?_
 intro Q hret hnorm hP a A
 refine wsk fun K1 hK1 => wrl (zx (vs := (t.d.cells t.ts.length)) (t := 38) A M rfl rfl rfl pg (qr rfl rfl) (by decide) ?_)
 intro g2 w3 M a A
 refine zx (vs := (zl.d.cells zl.ts.length)) (t := 38) A M rfl rfl rfl pg (ql (z := .agg (zl.d.cells zl.ts.length).toArray) (by kernel_rfl) rfl) (by decide) ?_
 intro g4 w5 M a A
 refine sda A λa A↦?_
 refine qa (hK1 _ _ (wsk fun K6 hK6 => wrl (sdm A λa A↦?_)))
 refine sdo A (qw M TeC_isS_38 rfl 1 rfl (cs := (t.d.cells t.ts.length)) rfl rfl) λa A↦?_
 refine sct A (ef rfl rfl) (ym hK (hB.below M.bel) (Dt.keep M.bel _ ht) htb (hT.below M.bel) (so := none) (ca := 0) (ts := []) (fun k => absurd rfl k) (fun t h => by cases h) (by decide) hs rfl hok) ?_
 rintro _ w8 ⟨he8, hb7⟩
 rw [hat] at he8
 subst he8
 replace M := M.call hb7
 refine ⟨_, rfl, ?_⟩
 intro a A
 refine sdm A λa A↦?_
 iterate 2 refine sdo A (zd (vs := [.agg #[.int .u64 (zm (mk t.tr)), .int .i64 (-1)], .int .i64 0]) rfl rfl) λa A↦?_
 refine zx (vs := [.int .u64 0, .int .i64 0]) (t := 69) A M rfl rfl rfl pg (ql (z := .agg #[.int .u64 0, .int .i64 0]) (by kernel_rfl) rfl) (by decide) ?_
 intro g9 w10 M a A
 refine zr (us := [.int .u64 (zm (mk t.tr)), .int .i64 (-1)]) (L' := (.obj g9 (.cells #[.int .u64 (zm (mk t.tr)), .int .i64 (-1)] 69) :: .obj g4 (.cells (zl.d.cells zl.ts.length).toArray 38) :: .obj g2 (.cells (t.d.cells t.ts.length).toArray 38) :: [])) A M rfl rfl (za rfl rfl rfl (by kernel_rfl) M 0 rfl rfl rfl) 0 rfl rfl rfl ?_
 intro w11 M
 refine sda A λa A↦?_
 refine qa (hK6 _ _ (wsk fun K12 hK12 => wp_block (wsk fun K13 hK13 => wrl (sdm A λa A↦?_))))
 refine sdo (v := .bool false) A (qg rfl rfl (fun w => by kernel_rfl)) λa A↦?_
 refine sda A λa A↦?_
 refine qa (hK13 _ _ (wp_cond_false (A.ev rfl) ?_))
 refine wsk fun K14 hK14 => wrl (sdo A (qw M TeC_isS_69 rfl 0 rfl (cs := [.int .u64 (zm (mk t.tr)), .int .i64 (-1)]) rfl rfl) λa A↦?_)
 refine gcl A M (ef rfl rfl) (((show decide ((0 : Int) ≤ -1) = false from rfl) ▸ vh)) fun w15 hbt M a A => ?_
 refine sdo (v := .bool true) A (je rfl jl) λa A↦?_
 refine sda A λa A↦?_
 refine qa (hK14 _ _ (wp_cond_true (A.ev rfl) ?_))
 refine wsk fun K16 hK16 => wrl (sdo (v := .agg (zl.d.cells zl.ts.length).toArray) A (zp rfl (fun w => by kernel_rfl)) λa A↦?_)
 refine zr (us := (zl.d.cells zl.ts.length)) (L' := (.obj g9 (.cells #[.int .u64 (zm (mk t.tr)), .int .i64 (-1)] 69) :: .obj g4 (.cells (zl.d.cells zl.ts.length).toArray 38) :: .obj g2 (.cells (t.d.cells t.ts.length).toArray 38) :: [])) A M rfl rfl (za rfl rfl rfl (by kernel_rfl) M 1 rfl rfl rfl) 1 rfl rfl rfl ?_
 intro w17 M
 refine sda A λa A↦?_
 refine qa (hK16 _ _ (wp_ret (hret _ _ (en2 A rfl (vr M TeC_isS_38 rfl 1 rfl (cs := [.int .i64 0, .int .i64 0, .bool false, .slice none 0 0, .slice none 0 0, .bool false, .slice none 0 0, .slice none 0 0, .string (⟨#[]⟩), .slice none 0 0, .slice none 0 0]) rfl rfl) (qj rfl) ?_))))
 exact ⟨rfl, M.bel⟩
theorem Here.part {w : World} {b o : Nat} {cs ds : List Value} (h : Here w b o cs) (j : Nat) (hd : ∀ i v, ds[i]? = some v → cs[j + i]? = some v) : Here w b (o + j) ds := ⟨h.1, fun i v hi => by rw [Nat.add_assoc]; exact h.2 _ v (hd i v hi)⟩
theorem Here.value {w : World} {b o p : Nat} {k v : Dt} (h : Here w b o (ji p k v)) : Here w b (o + 12) (v.d.cells v.ts.length) := h.part 12 fun i u hi => by
 have e : ji p k v = (.int .i64 (p : Int) :: k.d.cells k.ts.length) ++ v.d.cells v.ts.length := rfl
 rw [e, show 12 + i = (Value.int .i64 (p : Int) :: k.d.cells k.ts.length).length + i from rfl, List.getElem?_append_right (by omega), Nat.add_sub_cancel_left]
 exact hi
theorem Here.key {w : World} {b o p : Nat} {k v : Dt} (h : Here w b o (ji p k v)) : Here w b (o + 1) (k.d.cells k.ts.length) := h.part 1 fun i u hi => by
 have e : ji p k v = [.int .i64 (p : Int)] ++ (k.d.cells k.ts.length ++ v.d.cells v.ts.length) := rfl
 rw [e, show 1 + i = [Value.int .i64 (p : Int)].length + i from rfl, List.getElem?_append_right (by omega), Nat.add_sub_cancel_left, List.getElem?_append_left (List.getElem?_eq_some_iff.1 hi).1]
 exact hi
theorem zdb {kind : Int} {mk : Tr → Tr} {ok : Tr → Bool} (hK : Marks kind mk ok) {w : World} {g m count last ck : Nat} {bs : List Bk} (hB : Tab w ok g kind m count last ck bs) {t : Dt} (ht : t.rd w) (htb : t.tr.bulk ≤ 4000000) (hT : Tabs8 w) (hs : qz qx t.tr = true) (hok : ok t.tr = true) {i : Nat} (hat : yj (fun e => ki (mk t.tr) (mk e.k.tr)) (xe bs (zm (mk t.tr))) = ((i : Nat) : Int)) {e : Et} (hie : (xe bs (zm (mk t.tr)))[i]? = some e) : Calls Tryz.prog 11 #[.pointer (some ⟨g, 0, none⟩), .agg (t.d.cells t.ts.length).toArray] w fun r w' => ∃ v2 : Dt, r = .returned (.tuple #[.agg (v2.d.cells v2.ts.length).toArray, .int .i64 0]) ∧ (v2.rd w' ∧ v2.at_ (w.heap.size ≤ ·) ∧ v2.tr = e.v.tr) ∧ Below w.heap.size w w' := by
 have M : Mg w w ([]) := Mg.start w
 refine qs (l := [(0, .pointer (some ⟨g, 0, none⟩)), (1, .agg (t.d.cells t.ts.length).toArray)]) Tryz.func11 rfl Tryz.ntmps11 rfl rfl ?_
 intro Q hret hnorm hP a A
 refine wsk fun K1 hK1 => wrl (zx (vs := (t.d.cells t.ts.length)) (t := 38) A M rfl rfl rfl pg (qr rfl rfl) (by decide) ?_)
 intro g2 w3 M a A
 refine zx (vs := (zl.d.cells zl.ts.length)) (t := 38) A M rfl rfl rfl pg (ql (z := .agg (zl.d.cells zl.ts.length).toArray) (by kernel_rfl) rfl) (by decide) ?_
 intro g4 w5 M a A
 refine sda A λa A↦?_
 refine qa (hK1 _ _ (wsk fun K6 hK6 => wrl (sdm A λa A↦?_)))
 refine sdo A (qw M TeC_isS_38 rfl 1 rfl (cs := (t.d.cells t.ts.length)) rfl rfl) λa A↦?_
 refine sct A (ef rfl rfl) (ym hK (hB.below M.bel) (Dt.keep M.bel _ ht) htb (hT.below M.bel) (so := none) (ca := 0) (ts := []) (fun k => absurd rfl k) (fun t h => by cases h) (by decide) hs rfl hok) ?_
 rintro _ w8 ⟨he8, hb7⟩
 rw [hat] at he8
 subst he8
 replace M := M.call hb7
 refine ⟨_, rfl, ?_⟩
 intro a A
 refine sdm A λa A↦?_
 iterate 2 refine sdo A (zd (vs := [.agg #[.int .u64 (zm (mk t.tr)), .int .i64 (((i : Nat) : Int))], .int .i64 0]) rfl rfl) λa A↦?_
 refine zx (vs := [.int .u64 0, .int .i64 0]) (t := 69) A M rfl rfl rfl pg (ql (z := .agg #[.int .u64 0, .int .i64 0]) (by kernel_rfl) rfl) (by decide) ?_
 intro g9 w10 M a A
 refine zr (us := [.int .u64 (zm (mk t.tr)), .int .i64 (((i : Nat) : Int))]) (L' := (.obj g9 (.cells #[.int .u64 (zm (mk t.tr)), .int .i64 (((i : Nat) : Int))] 69) :: .obj g4 (.cells (zl.d.cells zl.ts.length).toArray 38) :: .obj g2 (.cells (t.d.cells t.ts.length).toArray 38) :: [])) A M rfl rfl (za rfl rfl rfl (by kernel_rfl) M 0 rfl rfl rfl) 0 rfl rfl rfl ?_
 intro w11 M
 refine sda A λa A↦?_
 refine qa (hK6 _ _ (wsk fun K12 hK12 => wp_block (wsk fun K13 hK13 => wrl (sdm A λa A↦?_))))
 refine sdo (v := .bool false) A (qg rfl rfl (fun w => by kernel_rfl)) λa A↦?_
 refine sda A λa A↦?_
 refine qa (hK13 _ _ (wp_cond_false (A.ev rfl) ?_))
 refine wsk fun K14 hK14 => wrl (sdo A (qw M TeC_isS_69 rfl 0 rfl (cs := [.int .u64 (zm (mk t.tr)), .int .i64 (((i : Nat) : Int))]) rfl rfl) λa A↦?_)
 refine gcl A M (ef rfl rfl) (((show decide ((0 : Int) ≤ ((i : Nat) : Int)) = true from decide_eq_true (by omega)) ▸ vh)) fun w15 hbt M a A => ?_
 refine sdo (v := .bool false) A (je rfl jl) λa A↦?_
 refine sda A λa A↦?_
 refine qa (hK14 _ _ (wp_cond_false (A.ev rfl) ?_))
 refine wp_skip (hK12 _ _ (wsk fun K16 hK16 => jh (S := fun w1 => Mg w w1 (.obj g9 (.cells #[.int .u64 (zm (mk t.tr)), .int .i64 (((i : Nat) : Int))] 69) :: [])) (by kernel_rfl) ?_))
 replace M := M.drew
 refine qe A 0 rfl rfl rfl rfl hP (M.sub (cc (cn (cn (List.nil_sublist _))))) (fun w1 M => qp rfl) λa A↦?_
 refine qe A 1 rfl rfl rfl rfl hP (M.sub (cc (cn (cn (List.nil_sublist _))))) (fun w1 M => zf rfl) λa A↦?_
 refine qe (v := .pointer (some ⟨g, 1, none⟩)) A 2 rfl rfl rfl rfl hP (M.sub (cc (cn (cn (List.nil_sublist _))))) (fun w1 M => qb TeC_fld_66_1 rfl rfl) λa A↦?_
 refine qe A 3 rfl rfl rfl rfl hP (M.sub (cc (cn (cn (List.nil_sublist _))))) (fun w1 M => yq M hB.obj TeC_is1_64 rfl rfl) λa A↦?_
 refine qe (v := .pointer (some ⟨g9, 0, none⟩)) A 4 rfl rfl rfl rfl hP (M.sub (cc (cn (cn (List.nil_sublist _))))) (fun w1 M => qb TeC_fld_69_0 rfl rfl) λa A↦?_
 refine qe A 5 rfl rfl rfl rfl hP (M.sub (cc (cn (cn (List.nil_sublist _))))) (fun w1 M => qk M TeC_is1_67 rfl 0 rfl rfl) λa A↦?_
 refine qe (v := .pointer (some ⟨g9, 1, none⟩)) A 7 rfl rfl rfl rfl hP (M.sub (cc (cn (cn (List.nil_sublist _))))) (fun w1 M => qb TeC_fld_69_1 rfl rfl) λa A↦?_
 refine qe A 8 rfl rfl rfl rfl hP (M.sub (cc (cn (cn (List.nil_sublist _))))) (fun w1 M => qk M TeC_is1_3 rfl 0 rfl rfl) λa A↦?_
 obtain ⟨so9, ca9, es9, he9, hr9, hk9, hn9, hL9⟩ := qwc hB M (zm (mk t.tr))
 obtain ⟨e9, be, oe, ie, me, le, He⟩ := zzc hr9 (i := i) (by rw [he9]; exact (List.getElem?_eq_some_iff.1 hie).1)
 obtain rfl : e9 = e := Option.some.inj (ie.symm.trans (he9 ▸ hie))
 have hev := hk9 _ me
 refine qh (by kernel_rfl) (xz (v := .slice so9 es9.length ca9) A 6 rfl rfl rfl rfl (hL9 rfl rfl) (M.sub (cc (cn (cn (List.nil_sublist _))))) ?_)
 intro a A
 refine qe (v := .pointer (some ⟨be, oe + i * 23, none⟩)) A 9 rfl rfl rfl rfl hP (M.sub (cc (cn (cn (List.nil_sublist _))))) (fun w1 M => zu (k := i) Tryz.underlying75 (by kernel_rfl) rfl rfl rfl le (by have := (List.getElem?_eq_some_iff.1 ie).1; omega)) ?_
 intro a A
 refine qe (v := .pointer (some ⟨be, oe + i * 23 + 12, none⟩)) A 10 rfl rfl rfl rfl hP (M.sub (cc (cn (cn (List.nil_sublist _))))) (fun w1 M => qb TeC_fld_74_2 rfl rfl) λa A↦?_
 refine qe A 11 rfl rfl rfl rfl hP (M.sub (cc (cn (cn (List.nil_sublist _))))) (fun w1 M => jv M He.value TeC_isS_38 rfl rfl) λa A↦?_
 have hz22 := M.bel.size
 refine qh (by kernel_rfl) (qn A 12 rfl rfl rfl rfl (qi rfl rfl (fun w => by kernel_rfl)) (ju e9.v (Dt.keep M.bel _ hev.2.2.2.1) (by omega)) ?_)
 rintro _ w23 ⟨c17, rfl, ⟨hcr18, hco20, hct19⟩, hb21⟩
 replace M : Mg w w23 (.obj g9 (.cells #[.int .u64 (zm (mk t.tr)), .int .i64 (((i : Nat) : Int))] 69) :: .obj g4 (.cells (zl.d.cells zl.ts.length).toArray 38) :: .obj g2 (.cells (t.d.cells t.ts.length).toArray 38) :: (made w15.drew w23 ++ [])) := M.freezeAt 3 (qf (by simp) (qf (by simp) (qf (by simp) (jr jx)))) hb21
 have hLc17 := jt hcr18 hco20
 replace hco20 := Dt.at_mono (fun b hb => Nat.le_trans hz22 hb) _ hco20
 refine ⟨_, rfl, (M.sub (cc (cn (cn (List.nil_sublist _))))), ?_⟩
 intro a A
 refine qh (by kernel_rfl) (ut (us := (c17.d.cells c17.ts.length)) (L' := (.obj g9 (.cells #[.int .u64 (zm (mk t.tr)), .int .i64 (((i : Nat) : Int))] 69) :: .obj g4 (.cells (c17.d.cells c17.ts.length).toArray 38) :: .obj g2 (.cells (t.d.cells t.ts.length).toArray 38) :: (made w15.drew w23 ++ []))) A M 13 rfl rfl rfl (za rfl rfl rfl (by kernel_rfl) M 1 rfl rfl rfl) 1 rfl rfl rfl ?_)
 intro w24 M
 refine ⟨(M.sub (cc (cn (cn (List.nil_sublist _))))), ?_⟩
 refine qe A 14 rfl rfl rfl rfl hP (M.sub (cc (cn (cn (List.nil_sublist _))))) (fun w1 M => jf rfl) λa A↦?_
 refine ze (by kernel_rfl) ?_
 refine hK16 _ _ (wp_ret (hret _ _ (en2 A rfl (vr M TeC_isS_38 rfl 1 rfl (cs := [.int .i64 c17.d.k, .int .i64 c17.d.n, .bool c17.d.y.q.b1, .slice c17.d.y.o1 c17.d.y.q.t1.length c17.d.y.c1, .slice c17.d.y.o2 c17.d.y.q.q1.length c17.d.y.c2, .bool c17.d.y.q.b2, .slice c17.d.y.o3 c17.d.y.q.t2.length c17.d.y.c3, .slice c17.d.y.o4 c17.d.y.q.q2.length c17.d.y.c4, .string c17.d.s, .slice c17.d.ro c17.d.rl.length c17.d.rc, .slice c17.d.lo c17.ts.length c17.d.lc]) rfl rfl) (qj rfl) ?_)))
 exact ⟨c17, rfl, ⟨hLc17 _ _ ((M.dropn 3).sub (List.sublist_append_left _ _)), hco20, hct19⟩, M.bel⟩
theorem TeD_is1_3 : Is1 Tryz.prog 3 := ⟨⟨_, Tryz.underlying3, rfl⟩, by kernel_rfl⟩
theorem TeD_is1_64 : Is1 Tryz.prog 64 := ⟨⟨_, Tryz.underlying64, rfl⟩, by kernel_rfl⟩
theorem TeD_is1_67 : Is1 Tryz.prog 67 := ⟨⟨_, Tryz.underlying67, rfl⟩, by kernel_rfl⟩
theorem TeD_fld_66_1 : FieldAt Tryz.prog 66 1 1 := ⟨_, _, Tryz.underlying66, rfl, rfl, by kernel_rfl⟩
theorem TeD_fld_66_2 : FieldAt Tryz.prog 66 2 2 := ⟨_, _, Tryz.underlying66, rfl, rfl, by kernel_rfl⟩
theorem TeD_fld_66_3 : FieldAt Tryz.prog 66 3 3 := ⟨_, _, Tryz.underlying66, rfl, rfl, by kernel_rfl⟩
theorem TeD_fld_69_0 : FieldAt Tryz.prog 69 0 0 := ⟨_, _, Tryz.underlying69, rfl, rfl, by kernel_rfl⟩
theorem TeD_fld_69_1 : FieldAt Tryz.prog 69 1 1 := ⟨_, _, Tryz.underlying69, rfl, rfl, by kernel_rfl⟩
theorem TeD_fld_74_2 : FieldAt Tryz.prog 74 2 12 := ⟨_, _, Tryz.underlying74, rfl, rfl, by kernel_rfl⟩
theorem TeD_isS_38 : IsS Tryz.prog 38 11 := ⟨⟨_, Tryz.underlying38⟩, by kernel_rfl⟩
theorem TeD_isS_69 : IsS Tryz.prog 69 2 := ⟨⟨_, Tryz.underlying69⟩, by kernel_rfl⟩
theorem zsi {w : World} {kind : Int} (hk : isK kind = true) : Calls Tryz.prog 8 #[.int .i64 kind] w fun e w' => ∃ g m, e = .returned (.tuple #[.pointer (some ⟨g, 0, none⟩), .int .i64 0]) ∧ Mg w w' [.obj g (.cells #[.int .i64 kind, .map (some m), .int .i64 0, .int .i64 0] 66), .obj m (zi [] 0)] := by
 have M : Mg w w ([]) := Mg.start w
 refine qs (l := [(0, .int .i64 kind)]) Tryz.func8 rfl Tryz.ntmps8 rfl rfl ?_
 intro Q hret hnorm hP a A
 refine wsk fun K1 hK1 => wrl ?_
 iterate 2 refine sda A λa A↦?_
 refine qa (hK1 _ _ (wsk fun K2 hK2 => wsk fun K3 hK3 => wrl (sdm A λa A↦?_)))
 refine gcl A M (ef rfl rfl) ((hk ▸ qna)) fun w4 hbk M a A => ?_
 refine sdo (v := .bool false) A (je rfl jl) λa A↦?_
 refine qa (hK3 _ _ (wp_cond_false (A.ev rfl) ?_))
 refine wp_skip (hK2 _ _ (wsk fun K5 hK5 => wrl (sdm A λa A↦?_)))
 refine zfi A M rfl rfl rfl rfl ?_
 intro g6 w7 M a A
 refine sdo (v := .agg #[.int .i64 kind, .map (some g6), .int .i64 0, .int .i64 0]) A (zp rfl (fun w => by kernel_rfl)) λa A↦?_
 refine zx (vs := [.int .i64 kind, .map (some g6), .int .i64 0, .int .i64 0]) (t := 66) A M rfl rfl rfl pg (qr rfl rfl) (by decide) ?_
 intro g8 w9 M a A
 iterate 2 refine sda A λa A↦?_
 refine qa (hK5 _ _ (wp_ret (hret _ _ (en2 A rfl (qj rfl) (qj rfl) ?_))))
 replace M := M.b1
 replace M := M.b1
 exact ⟨_, _, rfl, M⟩
theorem ke (p : Nat) (k v : Dt) : (ji p k v).all Value.oneCell' = true := by
 unfold ji
 rw [List.all_cons, List.all_append]
 rw [show (k.d.cells k.ts.length).all Value.oneCell' = true from vv k, show (v.d.cells v.ts.length).all Value.oneCell' = true from vv v]
 rfl
set_option maxHeartbeats 1000000 in
theorem zsj {w0 w : World} {kind h : Int} {g m count last ck : Nat} {es : List En} {X : List Ck} (hX : jk X) (hc : count ≤ 1000000000) (hl : last ≤ 4611686018427387904) (hnew : atK h es = none) {t v : Dt} (ht : ∀ w9, Mg w0 w9 X → t.rd w9) (hv : ∀ w9, Mg w0 w9 X → v.rd w9) (htb : t.tr.bulk ≤ 4000000) (hvb : v.tr.bulk ≤ 4000000) (hM0 : Mg w0 w (.obj g (.cells #[.int .i64 kind, .map (some m), .int .i64 (((count : Nat) : Int)), .int .i64 (((last : Nat) : Int))] 66) :: .obj m (zi es ck) :: X)) : Calls Tryz.prog 29 #[.pointer (some ⟨g, 0, none⟩), .int .u64 h, .agg (t.d.cells t.ts.length).toArray, .agg (v.d.cells v.ts.length).toArray] w fun e w' => e = .returned (.tuple #[]) ∧ ∃ so8 ca8, ∃ k2 v2 : Dt, ∃ F : List Ck, (k2.tr = t.tr ∧ v2.tr = v.tr ∧ Lives F k2 ∧ Lives F v2 ∧ jk F) ∧ Mg w0 w' (.obj g (.cells #[.int .i64 kind, .map (some m), .int .i64 (((count + 1 : Nat) : Int)), .int .i64 (((last + 1 : Nat) : Int))] 66) :: .obj m (zi (es ++ [⟨h, .slice so8 1 ca8, ck⟩]) (ck + 1)) :: .row 74 23 (.slice so8 1 ca8) 1 (ji (last + 1) k2 v2) :: (F ++ X)) := by
 have M : Mg w0 w (.obj g (.cells #[.int .i64 kind, .map (some m), .int .i64 (((count : Nat) : Int)), .int .i64 (((last : Nat) : Int))] 66) :: .obj m (zi es ck) :: X) := hM0
 refine qs (l := [(0, .pointer (some ⟨g, 0, none⟩)), (1, .int .u64 h), (2, .agg (t.d.cells t.ts.length).toArray), (3, .agg (v.d.cells v.ts.length).toArray)]) Tryz.func29 rfl Tryz.ntmps29 rfl rfl ?_
 intro Q hret hnorm hP a A
 refine wsk fun K1 hK1 => wrl (zx (vs := (t.d.cells t.ts.length)) (t := 38) A M rfl rfl rfl pg (qr rfl rfl) (by decide) ?_)
 intro g2 w3 M a A
 refine zx (vs := (v.d.cells v.ts.length)) (t := 38) A M rfl rfl rfl pg (qr rfl rfl) (by decide) ?_
 intro g4 w5 M a A
 refine qa (hK1 _ _ (wsk fun K6 hK6 => wrl (sdm A λa A↦?_)))
 refine sdo A (zf rfl) λa A↦?_
 refine sdo (v := .pointer (some ⟨g, 3, none⟩)) A (qb TeD_fld_66_3 rfl rfl) λa A↦?_
 refine sdo A (qk M TeD_is1_3 rfl 2 rfl rfl) λa A↦?_
 refine sdo (v := .int .i64 (((last + 1 : Nat) : Int))) A (qg rfl rfl (ar_add ((in_i64 (by omega) (by omega)).trans (by omega)))) λa A↦?_
 refine sdo A (zf rfl) λa A↦?_
 refine sdo (v := .pointer (some ⟨g, 3, none⟩)) A (qb TeD_fld_66_3 rfl rfl) λa A↦?_
 refine zr (us := [.int .i64 kind, .map (some m), .int .i64 (((count : Nat) : Int)), .int .i64 (((last + 1 : Nat) : Int))]) (L' := (.obj g4 (.cells (v.d.cells v.ts.length).toArray 38) :: .obj g2 (.cells (t.d.cells t.ts.length).toArray 38) :: .obj g (.cells #[.int .i64 kind, .map (some m), .int .i64 (((count : Nat) : Int)), .int .i64 (((last + 1 : Nat) : Int))] 66) :: .obj m (zi es ck) :: X)) A M rfl rfl (za rfl rfl rfl (by kernel_rfl) M 2 rfl rfl rfl) 2 rfl rfl rfl ?_
 intro w7 M
 refine qa (hK6 _ _ (wsk fun K8 hK8 => wrl (sdm A λa A↦?_)))
 refine sdo A (zf rfl) λa A↦?_
 refine sdo (v := .pointer (some ⟨g, 2, none⟩)) A (qb TeD_fld_66_2 rfl rfl) λa A↦?_
 refine sdo A (qk M TeD_is1_3 rfl 2 rfl rfl) λa A↦?_
 refine sdo (v := .int .i64 (((count + 1 : Nat) : Int))) A (qg rfl rfl (ar_add ((in_i64 (by omega) (by omega)).trans (by omega)))) λa A↦?_
 refine sdo A (zf rfl) λa A↦?_
 refine sdo (v := .pointer (some ⟨g, 2, none⟩)) A (qb TeD_fld_66_2 rfl rfl) λa A↦?_
 refine zr (us := [.int .i64 kind, .map (some m), .int .i64 (((count + 1 : Nat) : Int)), .int .i64 (((last + 1 : Nat) : Int))]) (L' := (.obj g4 (.cells (v.d.cells v.ts.length).toArray 38) :: .obj g2 (.cells (t.d.cells t.ts.length).toArray 38) :: .obj g (.cells #[.int .i64 kind, .map (some m), .int .i64 (((count + 1 : Nat) : Int)), .int .i64 (((last + 1 : Nat) : Int))] 66) :: .obj m (zi es ck) :: X)) A M rfl rfl (za rfl rfl rfl (by kernel_rfl) M 2 rfl rfl rfl) 2 rfl rfl rfl ?_
 intro w9 M
 refine qa (hK8 _ _ (jh (S := fun w1 => Mg w0 w1 (.obj g4 (.cells (v.d.cells v.ts.length).toArray 38) :: .obj g2 (.cells (t.d.cells t.ts.length).toArray 38) :: .obj g (.cells #[.int .i64 kind, .map (some m), .int .i64 (((count + 1 : Nat) : Int)), .int .i64 (((last + 1 : Nat) : Int))] 66) :: [])) (by kernel_rfl) ?_))
 replace M := M.drew
 refine qe A 0 rfl rfl rfl rfl hP (M.sub (cc (cc (cc (cn (List.nil_sublist _)))))) (fun w1 M => qp rfl) λa A↦?_
 refine qe A 1 rfl rfl rfl rfl hP (M.sub (cc (cc (cc (cn (List.nil_sublist _)))))) (fun w1 M => zf rfl) λa A↦?_
 refine qe (v := .pointer (some ⟨g, 1, none⟩)) A 2 rfl rfl rfl rfl hP (M.sub (cc (cc (cc (cn (List.nil_sublist _)))))) (fun w1 M => qb TeD_fld_66_1 rfl rfl) λa A↦?_
 refine qe A 3 rfl rfl rfl rfl hP (M.sub (cc (cc (cc (cn (List.nil_sublist _)))))) (fun w1 M => qk M TeD_is1_64 rfl 2 rfl rfl) λa A↦?_
 refine qe A 4 rfl rfl rfl rfl hP (M.sub (cc (cc (cc (cn (List.nil_sublist _)))))) (fun w1 M => qp rfl) λa A↦?_
 refine qe A 5 rfl rfl rfl rfl hP (M.sub (cc (cc (cc (cn (List.nil_sublist _)))))) (fun w1 M => qp rfl) λa A↦?_
 refine qe A 6 rfl rfl rfl rfl hP (M.sub (cc (cc (cc (cn (List.nil_sublist _)))))) (fun w1 M => zf rfl) λa A↦?_
 refine qe (v := .pointer (some ⟨g, 1, none⟩)) A 7 rfl rfl rfl rfl hP (M.sub (cc (cc (cc (cn (List.nil_sublist _)))))) (fun w1 M => qb TeD_fld_66_1 rfl rfl) λa A↦?_
 refine qe A 8 rfl rfl rfl rfl hP (M.sub (cc (cc (cc (cn (List.nil_sublist _)))))) (fun w1 M => qk M TeD_is1_64 rfl 2 rfl rfl) λa A↦?_
 refine qe A 9 rfl rfl rfl rfl hP (M.sub (cc (cc (cc (cn (List.nil_sublist _)))))) (fun w1 M => qp rfl) λa A↦?_
 refine qe A 11 rfl rfl rfl rfl hP (M.sub (cc (cc (cc (cn (List.nil_sublist _)))))) (fun w1 M => qp rfl) λa A↦?_
 refine qe A 12 rfl rfl rfl rfl hP (M.sub (cc (cc (cc (cn (List.nil_sublist _)))))) (fun w1 M => zf rfl) λa A↦?_
 refine qe (v := .pointer (some ⟨g, 3, none⟩)) A 13 rfl rfl rfl rfl hP (M.sub (cc (cc (cc (cn (List.nil_sublist _)))))) (fun w1 M => qb TeD_fld_66_3 rfl rfl) λa A↦?_
 refine qe A 14 rfl rfl rfl rfl hP (M.sub (cc (cc (cc (cn (List.nil_sublist _)))))) (fun w1 M => qk M TeD_is1_3 rfl 2 rfl rfl) λa A↦?_
 refine qe A 15 rfl rfl rfl rfl hP (M.sub (cc (cc (cc (cn (List.nil_sublist _)))))) (fun w1 M => qw M TeD_isS_38 rfl 1 rfl (cs := (t.d.cells t.ts.length)) rfl rfl) λa A↦?_
 refine qe A 17 rfl rfl rfl rfl hP (M.sub (cc (cc (cc (cn (List.nil_sublist _)))))) (fun w1 M => qw M TeD_isS_38 rfl 0 rfl (cs := (v.d.cells v.ts.length)) rfl rfl) λa A↦?_
 refine jn (rs := [10, 16]) (by kernel_rfl) (by simp) ⟨?_, ?_, trivial⟩
 ·
  refine xz (v := .slice none 0 0) A 10 rfl rfl rfl rfl (qkd M Tryz.underlying64 Tryz.underlying67 (zv := .slice none 0 0) (by kernel_rfl) rfl rfl 3 rfl hnew rfl) (M.sub (cc (cc (cc (cn (List.nil_sublist _)))))) λa A↦?_
  have hz15 := M.bel.size
  refine qh (by kernel_rfl) (qn A 16 rfl rfl rfl rfl (qi rfl rfl (fun w => by kernel_rfl)) (ju t (ht _ ((M.dropn 4).sub (List.Sublist.refl _))) (by omega)) ?_)
  rintro _ w16 ⟨c10, rfl, ⟨hcr11, hco13, hct12⟩, hb14⟩
  replace M : Mg w0 w16 (.obj g4 (.cells (v.d.cells v.ts.length).toArray 38) :: .obj g2 (.cells (t.d.cells t.ts.length).toArray 38) :: .obj g (.cells #[.int .i64 kind, .map (some m), .int .i64 (((count + 1 : Nat) : Int)), .int .i64 (((last + 1 : Nat) : Int))] 66) :: .obj m (zi es ck) :: (made w9.drew w16 ++ X)) := M.freezeAt 4 (qf (by simp) (qf (by simp) (qf (by simp) (qf (by simp) hX)))) hb14
  have hLc10 := jt hcr11 hco13
  replace hco13 := Dt.at_mono (fun b hb => Nat.le_trans hz15 hb) _ hco13
  refine ⟨_, rfl, (M.sub (cc (cc (cc (cn (List.nil_sublist _)))))), ?_⟩
  intro a A
  have hz22 := M.bel.size
  refine qh (by kernel_rfl) (qn A 18 rfl rfl rfl rfl (qi rfl rfl (fun w => by kernel_rfl)) (ju v (hv _ ((M.dropn 4).sub (List.sublist_append_right _ _))) (by omega)) ?_)
  rintro _ w23 ⟨c17, rfl, ⟨hcr18, hco20, hct19⟩, hb21⟩
  replace M : Mg w0 w23 (.obj g4 (.cells (v.d.cells v.ts.length).toArray 38) :: .obj g2 (.cells (t.d.cells t.ts.length).toArray 38) :: .obj g (.cells #[.int .i64 kind, .map (some m), .int .i64 (((count + 1 : Nat) : Int)), .int .i64 (((last + 1 : Nat) : Int))] 66) :: .obj m (zi es ck) :: (made w16 w23 ++ (made w9.drew w16 ++ X))) := M.freezeAt 4 (qf (by simp) (qf (by simp) (qf (by simp) (qf (by simp) (jb ja hX))))) hb21
  have hLc17 := jt hcr18 hco20
  replace hco20 := Dt.at_mono (fun b hb => Nat.le_trans hz22 hb) _ hco20
  refine ⟨_, rfl, (M.sub (cc (cc (cc (cn (List.nil_sublist _)))))), ?_⟩
  intro a A
  refine qe (v := .agg #[.int .i64 (((last + 1 : Nat) : Int)), .int .i64 c10.d.k, .int .i64 c10.d.n, .bool c10.d.y.q.b1, .slice c10.d.y.o1 c10.d.y.q.t1.length c10.d.y.c1, .slice c10.d.y.o2 c10.d.y.q.q1.length c10.d.y.c2, .bool c10.d.y.q.b2, .slice c10.d.y.o3 c10.d.y.q.t2.length c10.d.y.c3, .slice c10.d.y.o4 c10.d.y.q.q2.length c10.d.y.c4, .string c10.d.s, .slice c10.d.ro c10.d.rl.length c10.d.rc, .slice c10.d.lo c10.ts.length c10.d.lc, .int .i64 c17.d.k, .int .i64 c17.d.n, .bool c17.d.y.q.b1, .slice c17.d.y.o1 c17.d.y.q.t1.length c17.d.y.c1, .slice c17.d.y.o2 c17.d.y.q.q1.length c17.d.y.c2, .bool c17.d.y.q.b2, .slice c17.d.y.o3 c17.d.y.q.t2.length c17.d.y.c3, .slice c17.d.y.o4 c17.d.y.q.q2.length c17.d.y.c4, .string c17.d.s, .slice c17.d.ro c17.d.rl.length c17.d.rc, .slice c17.d.lo c17.ts.length c17.d.lc]) A 19 rfl rfl rfl rfl hP (M.sub (cc (cc (cc (cn (List.nil_sublist _)))))) (fun w1 M => zp rfl (fun w => by kernel_rfl)) λa A↦?_
  refine qh (by kernel_rfl) (qih (e := 74) (sz := 23) (m := 1) (vs := (ji (last + 1) c10 c17)) A M 20 rfl rfl rfl rfl (zh rfl (by kernel_rfl)) rfl rfl (.inl (by decide)) ?_)
  intro g24 w25 M
  refine ⟨(M.sub (cn (cc (cc (cc (cn (List.nil_sublist _))))))), ?_⟩
  intro a A
  replace M := M.nilRow (qf (by simp) (qf (by simp) (qf (by simp) (qf (by simp) (qf (by simp) (jb ja (jb ja hX))))))) 74 23
  refine qh (by kernel_rfl) (ya (e := 74) (sz := 23) (k := 0) (q := 0) (m := 1) (xs := []) (news := (ji (last + 1) c10 c17)) (L' := fun v26 => (.row 74 23 (v26) (0 + 1) ([] ++ (ji (last + 1) c10 c17)) :: .row 74 23 (.slice (some ⟨g24, 0, none⟩) 1 1) 1 ((ji (last + 1) c10 c17)) :: .obj g4 (.cells (v.d.cells v.ts.length).toArray 38) :: .obj g2 (.cells (t.d.cells t.ts.length).toArray 38) :: .obj g (.cells #[.int .i64 kind, .map (some m), .int .i64 (((count + 1 : Nat) : Int)), .int .i64 (((last + 1 : Nat) : Int))] 66) :: .obj m (zi es ck) :: (made w16 w23 ++ (made w9.drew w16 ++ X)))) A 21 rfl rfl rfl rfl (vl (z := .agg #[.int .i64 0, .int .i64 0, .int .i64 0, .bool false, .slice none 0 0, .slice none 0 0, .bool false, .slice none 0 0, .slice none 0 0, .string (⟨#[]⟩), .slice none 0 0, .slice none 0 0, .int .i64 0, .int .i64 0, .bool false, .slice none 0 0, .slice none 0 0, .bool false, .slice none 0 0, .slice none 0 0, .string (⟨#[]⟩), .slice none 0 0, .slice none 0 0]) (sz := 23) (by_ := 392) Tryz.underlying75 (by kernel_rfl) rfl rfl rfl M 0 rfl rfl rfl rfl (ka (M.has 1 rfl)) (List.all_eq_true.1 (ke _ _ _)) (by omega)) (fun _ => rfl) ?_)
  intro v26 w27 M
  refine ⟨(M.sub (cn (cn (cc (cc (cc (cn (List.nil_sublist _)))))))), ?_⟩
  intro a A
  refine qh (by kernel_rfl) (kb (L' := (.row 74 23 (v26) (0 + 1) ([] ++ (ji (last + 1) c10 c17)) :: .row 74 23 (.slice (some ⟨g24, 0, none⟩) 1 1) 1 ((ji (last + 1) c10 c17)) :: .obj g4 (.cells (v.d.cells v.ts.length).toArray 38) :: .obj g2 (.cells (t.d.cells t.ts.length).toArray 38) :: .obj g (.cells #[.int .i64 kind, .map (some m), .int .i64 (((count + 1 : Nat) : Int)), .int .i64 (((last + 1 : Nat) : Int))] 66) :: .obj m (zi (es ++ [⟨h, v26, ck⟩]) (ck + 1)) :: (made w16 w23 ++ (made w9.drew w16 ++ X)))) A M 22 rfl rfl rfl (qfe M Tryz.underlying64 Tryz.underlying67 rfl rfl rfl 5 rfl hnew) 5 rfl (xp _ _) rfl ?_)
  intro w28 M
  refine ⟨(M.sub (cn (cn (cc (cc (cc (cn (List.nil_sublist _)))))))), ?_⟩
  refine ze (by kernel_rfl) ?_
  refine hnorm _ _ (qac (v := .tuple #[]) A rfl .nil rfl ?_)
  replace M := M.b5
  replace M := M.b5
  replace M := M.sub (cc (cc (cc (cn (cn (cn (.refl _)))))))
  obtain ⟨so8, ca8, rfl⟩ := xj (M.has 2 rfl)
  rw [Nat.zero_add, List.nil_append] at M
  rw [← List.append_assoc] at M
  exact ⟨rfl, so8, ca8, c10, c17, (made w16 w23 ++ made w9.drew w16), ⟨hct12, hct19, hLc10.app _, hLc17.front _, jb ja ja⟩, M⟩
 ·
  have hz34 := M.bel.size
  refine qn A 16 rfl rfl rfl rfl (qi rfl rfl (fun w => by kernel_rfl)) (ju t (ht _ ((M.dropn 4).sub (List.Sublist.refl _))) (by omega)) ?_
  rintro _ w35 ⟨c29, rfl, ⟨hcr30, hco32, hct31⟩, hb33⟩
  replace M : Mg w0 w35 (.obj g4 (.cells (v.d.cells v.ts.length).toArray 38) :: .obj g2 (.cells (t.d.cells t.ts.length).toArray 38) :: .obj g (.cells #[.int .i64 kind, .map (some m), .int .i64 (((count + 1 : Nat) : Int)), .int .i64 (((last + 1 : Nat) : Int))] 66) :: .obj m (zi es ck) :: (made w9.drew w35 ++ X)) := M.freezeAt 4 (qf (by simp) (qf (by simp) (qf (by simp) (qf (by simp) hX)))) hb33
  have hLc29 := jt hcr30 hco32
  replace hco32 := Dt.at_mono (fun b hb => Nat.le_trans hz34 hb) _ hco32
  refine ⟨_, rfl, (M.sub (cc (cc (cc (cn (List.nil_sublist _)))))), ?_⟩
  intro a A
  refine jn (rs := [10, 18]) (by kernel_rfl) (by simp) ⟨?_, ?_, trivial⟩
  ·
   refine xz (v := .slice none 0 0) A 10 rfl rfl rfl rfl (qkd M Tryz.underlying64 Tryz.underlying67 (zv := .slice none 0 0) (by kernel_rfl) rfl rfl 3 rfl hnew rfl) (M.sub (cc (cc (cc (cn (List.nil_sublist _)))))) λa A↦?_
   have hz41 := M.bel.size
   refine qh (by kernel_rfl) (qn A 18 rfl rfl rfl rfl (qi rfl rfl (fun w => by kernel_rfl)) (ju v (hv _ ((M.dropn 4).sub (List.sublist_append_right _ _))) (by omega)) ?_)
   rintro _ w42 ⟨c36, rfl, ⟨hcr37, hco39, hct38⟩, hb40⟩
   replace M : Mg w0 w42 (.obj g4 (.cells (v.d.cells v.ts.length).toArray 38) :: .obj g2 (.cells (t.d.cells t.ts.length).toArray 38) :: .obj g (.cells #[.int .i64 kind, .map (some m), .int .i64 (((count + 1 : Nat) : Int)), .int .i64 (((last + 1 : Nat) : Int))] 66) :: .obj m (zi es ck) :: (made w35 w42 ++ (made w9.drew w35 ++ X))) := M.freezeAt 4 (qf (by simp) (qf (by simp) (qf (by simp) (qf (by simp) (jb ja hX))))) hb40
   have hLc36 := jt hcr37 hco39
   replace hco39 := Dt.at_mono (fun b hb => Nat.le_trans hz41 hb) _ hco39
   refine ⟨_, rfl, (M.sub (cc (cc (cc (cn (List.nil_sublist _)))))), ?_⟩
   intro a A
   refine qe (v := .agg #[.int .i64 (((last + 1 : Nat) : Int)), .int .i64 c29.d.k, .int .i64 c29.d.n, .bool c29.d.y.q.b1, .slice c29.d.y.o1 c29.d.y.q.t1.length c29.d.y.c1, .slice c29.d.y.o2 c29.d.y.q.q1.length c29.d.y.c2, .bool c29.d.y.q.b2, .slice c29.d.y.o3 c29.d.y.q.t2.length c29.d.y.c3, .slice c29.d.y.o4 c29.d.y.q.q2.length c29.d.y.c4, .string c29.d.s, .slice c29.d.ro c29.d.rl.length c29.d.rc, .slice c29.d.lo c29.ts.length c29.d.lc, .int .i64 c36.d.k, .int .i64 c36.d.n, .bool c36.d.y.q.b1, .slice c36.d.y.o1 c36.d.y.q.t1.length c36.d.y.c1, .slice c36.d.y.o2 c36.d.y.q.q1.length c36.d.y.c2, .bool c36.d.y.q.b2, .slice c36.d.y.o3 c36.d.y.q.t2.length c36.d.y.c3, .slice c36.d.y.o4 c36.d.y.q.q2.length c36.d.y.c4, .string c36.d.s, .slice c36.d.ro c36.d.rl.length c36.d.rc, .slice c36.d.lo c36.ts.length c36.d.lc]) A 19 rfl rfl rfl rfl hP (M.sub (cc (cc (cc (cn (List.nil_sublist _)))))) (fun w1 M => zp rfl (fun w => by kernel_rfl)) λa A↦?_
   refine qh (by kernel_rfl) (qih (e := 74) (sz := 23) (m := 1) (vs := (ji (last + 1) c29 c36)) A M 20 rfl rfl rfl rfl (zh rfl (by kernel_rfl)) rfl rfl (.inl (by decide)) ?_)
   intro g43 w44 M
   refine ⟨(M.sub (cn (cc (cc (cc (cn (List.nil_sublist _))))))), ?_⟩
   intro a A
   replace M := M.nilRow (qf (by simp) (qf (by simp) (qf (by simp) (qf (by simp) (qf (by simp) (jb ja (jb ja hX))))))) 74 23
   refine qh (by kernel_rfl) (ya (e := 74) (sz := 23) (k := 0) (q := 0) (m := 1) (xs := []) (news := (ji (last + 1) c29 c36)) (L' := fun v45 => (.row 74 23 (v45) (0 + 1) ([] ++ (ji (last + 1) c29 c36)) :: .row 74 23 (.slice (some ⟨g43, 0, none⟩) 1 1) 1 ((ji (last + 1) c29 c36)) :: .obj g4 (.cells (v.d.cells v.ts.length).toArray 38) :: .obj g2 (.cells (t.d.cells t.ts.length).toArray 38) :: .obj g (.cells #[.int .i64 kind, .map (some m), .int .i64 (((count + 1 : Nat) : Int)), .int .i64 (((last + 1 : Nat) : Int))] 66) :: .obj m (zi es ck) :: (made w35 w42 ++ (made w9.drew w35 ++ X)))) A 21 rfl rfl rfl rfl (vl (z := .agg #[.int .i64 0, .int .i64 0, .int .i64 0, .bool false, .slice none 0 0, .slice none 0 0, .bool false, .slice none 0 0, .slice none 0 0, .string (⟨#[]⟩), .slice none 0 0, .slice none 0 0, .int .i64 0, .int .i64 0, .bool false, .slice none 0 0, .slice none 0 0, .bool false, .slice none 0 0, .slice none 0 0, .string (⟨#[]⟩), .slice none 0 0, .slice none 0 0]) (sz := 23) (by_ := 392) Tryz.underlying75 (by kernel_rfl) rfl rfl rfl M 0 rfl rfl rfl rfl (ka (M.has 1 rfl)) (List.all_eq_true.1 (ke _ _ _)) (by omega)) (fun _ => rfl) ?_)
   intro v45 w46 M
   refine ⟨(M.sub (cn (cn (cc (cc (cc (cn (List.nil_sublist _)))))))), ?_⟩
   intro a A
   refine qh (by kernel_rfl) (kb (L' := (.row 74 23 (v45) (0 + 1) ([] ++ (ji (last + 1) c29 c36)) :: .row 74 23 (.slice (some ⟨g43, 0, none⟩) 1 1) 1 ((ji (last + 1) c29 c36)) :: .obj g4 (.cells (v.d.cells v.ts.length).toArray 38) :: .obj g2 (.cells (t.d.cells t.ts.length).toArray 38) :: .obj g (.cells #[.int .i64 kind, .map (some m), .int .i64 (((count + 1 : Nat) : Int)), .int .i64 (((last + 1 : Nat) : Int))] 66) :: .obj m (zi (es ++ [⟨h, v45, ck⟩]) (ck + 1)) :: (made w35 w42 ++ (made w9.drew w35 ++ X)))) A M 22 rfl rfl rfl (qfe M Tryz.underlying64 Tryz.underlying67 rfl rfl rfl 5 rfl hnew) 5 rfl (xp _ _) rfl ?_)
   intro w47 M
   refine ⟨(M.sub (cn (cn (cc (cc (cc (cn (List.nil_sublist _)))))))), ?_⟩
   refine ze (by kernel_rfl) ?_
   refine hnorm _ _ (qac (v := .tuple #[]) A rfl .nil rfl ?_)
   replace M := M.b5
   replace M := M.b5
   replace M := M.sub (cc (cc (cc (cn (cn (cn (.refl _)))))))
   obtain ⟨so8, ca8, rfl⟩ := xj (M.has 2 rfl)
   rw [Nat.zero_add, List.nil_append] at M
   rw [← List.append_assoc] at M
   exact ⟨rfl, so8, ca8, c29, c36, (made w35 w42 ++ made w9.drew w35), ⟨hct31, hct38, hLc29.app _, hLc36.front _, jb ja ja⟩, M⟩
  ·
   have hz53 := M.bel.size
   refine qn A 18 rfl rfl rfl rfl (qi rfl rfl (fun w => by kernel_rfl)) (ju v (hv _ ((M.dropn 4).sub (List.sublist_append_right _ _))) (by omega)) ?_
   rintro _ w54 ⟨c48, rfl, ⟨hcr49, hco51, hct50⟩, hb52⟩
   replace M : Mg w0 w54 (.obj g4 (.cells (v.d.cells v.ts.length).toArray 38) :: .obj g2 (.cells (t.d.cells t.ts.length).toArray 38) :: .obj g (.cells #[.int .i64 kind, .map (some m), .int .i64 (((count + 1 : Nat) : Int)), .int .i64 (((last + 1 : Nat) : Int))] 66) :: .obj m (zi es ck) :: (made w35 w54 ++ (made w9.drew w35 ++ X))) := M.freezeAt 4 (qf (by simp) (qf (by simp) (qf (by simp) (qf (by simp) (jb ja hX))))) hb52
   have hLc48 := jt hcr49 hco51
   replace hco51 := Dt.at_mono (fun b hb => Nat.le_trans hz53 hb) _ hco51
   refine ⟨_, rfl, (M.sub (cc (cc (cc (cn (List.nil_sublist _)))))), ?_⟩
   intro a A
   refine qe (v := .agg #[.int .i64 (((last + 1 : Nat) : Int)), .int .i64 c29.d.k, .int .i64 c29.d.n, .bool c29.d.y.q.b1, .slice c29.d.y.o1 c29.d.y.q.t1.length c29.d.y.c1, .slice c29.d.y.o2 c29.d.y.q.q1.length c29.d.y.c2, .bool c29.d.y.q.b2, .slice c29.d.y.o3 c29.d.y.q.t2.length c29.d.y.c3, .slice c29.d.y.o4 c29.d.y.q.q2.length c29.d.y.c4, .string c29.d.s, .slice c29.d.ro c29.d.rl.length c29.d.rc, .slice c29.d.lo c29.ts.length c29.d.lc, .int .i64 c48.d.k, .int .i64 c48.d.n, .bool c48.d.y.q.b1, .slice c48.d.y.o1 c48.d.y.q.t1.length c48.d.y.c1, .slice c48.d.y.o2 c48.d.y.q.q1.length c48.d.y.c2, .bool c48.d.y.q.b2, .slice c48.d.y.o3 c48.d.y.q.t2.length c48.d.y.c3, .slice c48.d.y.o4 c48.d.y.q.q2.length c48.d.y.c4, .string c48.d.s, .slice c48.d.ro c48.d.rl.length c48.d.rc, .slice c48.d.lo c48.ts.length c48.d.lc]) A 19 rfl rfl rfl rfl hP (M.sub (cc (cc (cc (cn (List.nil_sublist _)))))) (fun w1 M => zp rfl (fun w => by kernel_rfl)) λa A↦?_
   refine jn (rs := [10, 20]) (by kernel_rfl) (by simp) ⟨?_, ?_, trivial⟩
   ·
    refine xz (v := .slice none 0 0) A 10 rfl rfl rfl rfl (qkd M Tryz.underlying64 Tryz.underlying67 (zv := .slice none 0 0) (by kernel_rfl) rfl rfl 3 rfl hnew rfl) (M.sub (cc (cc (cc (cn (List.nil_sublist _)))))) λa A↦?_
    refine qh (by kernel_rfl) (qih (e := 74) (sz := 23) (m := 1) (vs := (ji (last + 1) c29 c48)) A M 20 rfl rfl rfl rfl (zh rfl (by kernel_rfl)) rfl rfl (.inl (by decide)) ?_)
    intro g55 w56 M
    refine ⟨(M.sub (cn (cc (cc (cc (cn (List.nil_sublist _))))))), ?_⟩
    intro a A
    replace M := M.nilRow (qf (by simp) (qf (by simp) (qf (by simp) (qf (by simp) (qf (by simp) (jb ja (jb ja hX))))))) 74 23
    refine qh (by kernel_rfl) (ya (e := 74) (sz := 23) (k := 0) (q := 0) (m := 1) (xs := []) (news := (ji (last + 1) c29 c48)) (L' := fun v57 => (.row 74 23 (v57) (0 + 1) ([] ++ (ji (last + 1) c29 c48)) :: .row 74 23 (.slice (some ⟨g55, 0, none⟩) 1 1) 1 ((ji (last + 1) c29 c48)) :: .obj g4 (.cells (v.d.cells v.ts.length).toArray 38) :: .obj g2 (.cells (t.d.cells t.ts.length).toArray 38) :: .obj g (.cells #[.int .i64 kind, .map (some m), .int .i64 (((count + 1 : Nat) : Int)), .int .i64 (((last + 1 : Nat) : Int))] 66) :: .obj m (zi es ck) :: (made w35 w54 ++ (made w9.drew w35 ++ X)))) A 21 rfl rfl rfl rfl (vl (z := .agg #[.int .i64 0, .int .i64 0, .int .i64 0, .bool false, .slice none 0 0, .slice none 0 0, .bool false, .slice none 0 0, .slice none 0 0, .string (⟨#[]⟩), .slice none 0 0, .slice none 0 0, .int .i64 0, .int .i64 0, .bool false, .slice none 0 0, .slice none 0 0, .bool false, .slice none 0 0, .slice none 0 0, .string (⟨#[]⟩), .slice none 0 0, .slice none 0 0]) (sz := 23) (by_ := 392) Tryz.underlying75 (by kernel_rfl) rfl rfl rfl M 0 rfl rfl rfl rfl (ka (M.has 1 rfl)) (List.all_eq_true.1 (ke _ _ _)) (by omega)) (fun _ => rfl) ?_)
    intro v57 w58 M
    refine ⟨(M.sub (cn (cn (cc (cc (cc (cn (List.nil_sublist _)))))))), ?_⟩
    intro a A
    refine qh (by kernel_rfl) (kb (L' := (.row 74 23 (v57) (0 + 1) ([] ++ (ji (last + 1) c29 c48)) :: .row 74 23 (.slice (some ⟨g55, 0, none⟩) 1 1) 1 ((ji (last + 1) c29 c48)) :: .obj g4 (.cells (v.d.cells v.ts.length).toArray 38) :: .obj g2 (.cells (t.d.cells t.ts.length).toArray 38) :: .obj g (.cells #[.int .i64 kind, .map (some m), .int .i64 (((count + 1 : Nat) : Int)), .int .i64 (((last + 1 : Nat) : Int))] 66) :: .obj m (zi (es ++ [⟨h, v57, ck⟩]) (ck + 1)) :: (made w35 w54 ++ (made w9.drew w35 ++ X)))) A M 22 rfl rfl rfl (qfe M Tryz.underlying64 Tryz.underlying67 rfl rfl rfl 5 rfl hnew) 5 rfl (xp _ _) rfl ?_)
    intro w59 M
    refine ⟨(M.sub (cn (cn (cc (cc (cc (cn (List.nil_sublist _)))))))), ?_⟩
    refine ze (by kernel_rfl) ?_
    refine hnorm _ _ (qac (v := .tuple #[]) A rfl .nil rfl ?_)
    replace M := M.b5
    replace M := M.b5
    replace M := M.sub (cc (cc (cc (cn (cn (cn (.refl _)))))))
    obtain ⟨so8, ca8, rfl⟩ := xj (M.has 2 rfl)
    rw [Nat.zero_add, List.nil_append] at M
    rw [← List.append_assoc] at M
    exact ⟨rfl, so8, ca8, c29, c48, (made w35 w54 ++ made w9.drew w35), ⟨hct31, hct50, hLc29.app _, hLc48.front _, jb ja ja⟩, M⟩
   ·
    refine qih (e := 74) (sz := 23) (m := 1) (vs := (ji (last + 1) c29 c48)) A M 20 rfl rfl rfl rfl (zh rfl (by kernel_rfl)) rfl rfl (.inl (by decide)) ?_
    intro g60 w61 M
    refine ⟨(M.sub (cn (cc (cc (cc (cn (List.nil_sublist _))))))), ?_⟩
    intro a A
    refine qh (by kernel_rfl) (xz (v := .slice none 0 0) A 10 rfl rfl rfl rfl (qkd M Tryz.underlying64 Tryz.underlying67 (zv := .slice none 0 0) (by kernel_rfl) rfl rfl 4 rfl hnew rfl) (M.sub (cn (cc (cc (cc (cn (List.nil_sublist _))))))) ?_)
    intro a A
    replace M := M.nilRow (qf (by simp) (qf (by simp) (qf (by simp) (qf (by simp) (qf (by simp) (jb ja (jb ja hX))))))) 74 23
    refine qh (by kernel_rfl) (ya (e := 74) (sz := 23) (k := 0) (q := 0) (m := 1) (xs := []) (news := (ji (last + 1) c29 c48)) (L' := fun v62 => (.row 74 23 (v62) (0 + 1) ([] ++ (ji (last + 1) c29 c48)) :: .row 74 23 (.slice (some ⟨g60, 0, none⟩) 1 1) 1 ((ji (last + 1) c29 c48)) :: .obj g4 (.cells (v.d.cells v.ts.length).toArray 38) :: .obj g2 (.cells (t.d.cells t.ts.length).toArray 38) :: .obj g (.cells #[.int .i64 kind, .map (some m), .int .i64 (((count + 1 : Nat) : Int)), .int .i64 (((last + 1 : Nat) : Int))] 66) :: .obj m (zi es ck) :: (made w35 w54 ++ (made w9.drew w35 ++ X)))) A 21 rfl rfl rfl rfl (vl (z := .agg #[.int .i64 0, .int .i64 0, .int .i64 0, .bool false, .slice none 0 0, .slice none 0 0, .bool false, .slice none 0 0, .slice none 0 0, .string (⟨#[]⟩), .slice none 0 0, .slice none 0 0, .int .i64 0, .int .i64 0, .bool false, .slice none 0 0, .slice none 0 0, .bool false, .slice none 0 0, .slice none 0 0, .string (⟨#[]⟩), .slice none 0 0, .slice none 0 0]) (sz := 23) (by_ := 392) Tryz.underlying75 (by kernel_rfl) rfl rfl rfl M 0 rfl rfl rfl rfl (ka (M.has 1 rfl)) (List.all_eq_true.1 (ke _ _ _)) (by omega)) (fun _ => rfl) ?_)
    intro v62 w63 M
    refine ⟨(M.sub (cn (cn (cc (cc (cc (cn (List.nil_sublist _)))))))), ?_⟩
    intro a A
    refine qh (by kernel_rfl) (kb (L' := (.row 74 23 (v62) (0 + 1) ([] ++ (ji (last + 1) c29 c48)) :: .row 74 23 (.slice (some ⟨g60, 0, none⟩) 1 1) 1 ((ji (last + 1) c29 c48)) :: .obj g4 (.cells (v.d.cells v.ts.length).toArray 38) :: .obj g2 (.cells (t.d.cells t.ts.length).toArray 38) :: .obj g (.cells #[.int .i64 kind, .map (some m), .int .i64 (((count + 1 : Nat) : Int)), .int .i64 (((last + 1 : Nat) : Int))] 66) :: .obj m (zi (es ++ [⟨h, v62, ck⟩]) (ck + 1)) :: (made w35 w54 ++ (made w9.drew w35 ++ X)))) A M 22 rfl rfl rfl (qfe M Tryz.underlying64 Tryz.underlying67 rfl rfl rfl 5 rfl hnew) 5 rfl (xp _ _) rfl ?_)
    intro w64 M
    refine ⟨(M.sub (cn (cn (cc (cc (cc (cn (List.nil_sublist _)))))))), ?_⟩
    refine ze (by kernel_rfl) ?_
    refine hnorm _ _ (qac (v := .tuple #[]) A rfl .nil rfl ?_)
    replace M := M.b5
    replace M := M.b5
    replace M := M.sub (cc (cc (cc (cn (cn (cn (.refl _)))))))
    obtain ⟨so8, ca8, rfl⟩ := xj (M.has 2 rfl)
    rw [Nat.zero_add, List.nil_append] at M
    rw [← List.append_assoc] at M
    exact ⟨rfl, so8, ca8, c29, c48, (made w35 w54 ++ made w9.drew w35), ⟨hct31, hct50, hLc29.app _, hLc48.front _, jb ja ja⟩, M⟩
set_option maxHeartbeats 1000000 in
theorem zta {w0 w : World} {kind h : Int} {g m count last ck : Nat} {es : List En} {X : List Ck} (hX : jk X) (hc : count ≤ 1000000000) (hl : last ≤ 4611686018427387904) {so : Option Addr} {ca : Nat} {xs : List Et} {en : En} (hold : atK h es = some en) (hv9 : en.v = .slice so xs.length ca) (hxl : xs.length ≤ 1000000) {t v : Dt} (ht : ∀ w9, Mg w0 w9 X → t.rd w9) (hv : ∀ w9, Mg w0 w9 X → v.rd w9) (htb : t.tr.bulk ≤ 4000000) (hvb : v.tr.bulk ≤ 4000000) (hM0 : Mg w0 w (.obj g (.cells #[.int .i64 kind, .map (some m), .int .i64 (((count : Nat) : Int)), .int .i64 (((last : Nat) : Int))] 66) :: .obj m (zi es ck) :: .row 74 23 (.slice so xs.length ca) xs.length (zk Et.c xs) :: X)) : Calls Tryz.prog 29 #[.pointer (some ⟨g, 0, none⟩), .int .u64 h, .agg (t.d.cells t.ts.length).toArray, .agg (v.d.cells v.ts.length).toArray] w fun e w' => e = .returned (.tuple #[]) ∧ ∃ so8 ca8, ∃ k2 v2 : Dt, ∃ F : List Ck, (k2.tr = t.tr ∧ v2.tr = v.tr ∧ Lives F k2 ∧ Lives F v2 ∧ jk F) ∧ Mg w0 w' (.obj g (.cells #[.int .i64 kind, .map (some m), .int .i64 (((count + 1 : Nat) : Int)), .int .i64 (((last + 1 : Nat) : Int))] 66) :: .obj m (zi (un h (.slice so8 (xs.length + 1) ca8) es) ck) :: .row 74 23 (.slice so8 ((xs.length + 1)) ca8) ((xs.length + 1)) (zk Et.c (xs ++ [⟨last + 1, k2, v2⟩])) :: (F ++ X)) := by
 have M : Mg w0 w (.obj g (.cells #[.int .i64 kind, .map (some m), .int .i64 (((count : Nat) : Int)), .int .i64 (((last : Nat) : Int))] 66) :: .obj m (zi es ck) :: .row 74 23 (.slice so xs.length ca) xs.length (zk Et.c xs) :: X) := hM0
 refine qs (l := [(0, .pointer (some ⟨g, 0, none⟩)), (1, .int .u64 h), (2, .agg (t.d.cells t.ts.length).toArray), (3, .agg (v.d.cells v.ts.length).toArray)]) Tryz.func29 rfl Tryz.ntmps29 rfl rfl ?_
 intro Q hret hnorm hP a A
 refine wsk fun K1 hK1 => wrl (zx (vs := (t.d.cells t.ts.length)) (t := 38) A M rfl rfl rfl pg (qr rfl rfl) (by decide) ?_)
 intro g2 w3 M a A
 refine zx (vs := (v.d.cells v.ts.length)) (t := 38) A M rfl rfl rfl pg (qr rfl rfl) (by decide) ?_
 intro g4 w5 M a A
 refine qa (hK1 _ _ (wsk fun K6 hK6 => wrl (sdm A λa A↦?_)))
 refine sdo A (zf rfl) λa A↦?_
 refine sdo (v := .pointer (some ⟨g, 3, none⟩)) A (qb TeD_fld_66_3 rfl rfl) λa A↦?_
 refine sdo A (qk M TeD_is1_3 rfl 2 rfl rfl) λa A↦?_
 refine sdo (v := .int .i64 (((last + 1 : Nat) : Int))) A (qg rfl rfl (ar_add ((in_i64 (by omega) (by omega)).trans (by omega)))) λa A↦?_
 refine sdo A (zf rfl) λa A↦?_
 refine sdo (v := .pointer (some ⟨g, 3, none⟩)) A (qb TeD_fld_66_3 rfl rfl) λa A↦?_
 refine zr (us := [.int .i64 kind, .map (some m), .int .i64 (((count : Nat) : Int)), .int .i64 (((last + 1 : Nat) : Int))]) (L' := (.obj g4 (.cells (v.d.cells v.ts.length).toArray 38) :: .obj g2 (.cells (t.d.cells t.ts.length).toArray 38) :: .obj g (.cells #[.int .i64 kind, .map (some m), .int .i64 (((count : Nat) : Int)), .int .i64 (((last + 1 : Nat) : Int))] 66) :: .obj m (zi es ck) :: .row 74 23 (.slice so xs.length ca) xs.length (zk Et.c xs) :: X)) A M rfl rfl (za rfl rfl rfl (by kernel_rfl) M 2 rfl rfl rfl) 2 rfl rfl rfl ?_
 intro w7 M
 refine qa (hK6 _ _ (wsk fun K8 hK8 => wrl (sdm A λa A↦?_)))
 refine sdo A (zf rfl) λa A↦?_
 refine sdo (v := .pointer (some ⟨g, 2, none⟩)) A (qb TeD_fld_66_2 rfl rfl) λa A↦?_
 refine sdo A (qk M TeD_is1_3 rfl 2 rfl rfl) λa A↦?_
 refine sdo (v := .int .i64 (((count + 1 : Nat) : Int))) A (qg rfl rfl (ar_add ((in_i64 (by omega) (by omega)).trans (by omega)))) λa A↦?_
 refine sdo A (zf rfl) λa A↦?_
 refine sdo (v := .pointer (some ⟨g, 2, none⟩)) A (qb TeD_fld_66_2 rfl rfl) λa A↦?_
 refine zr (us := [.int .i64 kind, .map (some m), .int .i64 (((count + 1 : Nat) : Int)), .int .i64 (((last + 1 : Nat) : Int))]) (L' := (.obj g4 (.cells (v.d.cells v.ts.length).toArray 38) :: .obj g2 (.cells (t.d.cells t.ts.length).toArray 38) :: .obj g (.cells #[.int .i64 kind, .map (some m), .int .i64 (((count + 1 : Nat) : Int)), .int .i64 (((last + 1 : Nat) : Int))] 66) :: .obj m (zi es ck) :: .row 74 23 (.slice so xs.length ca) xs.length (zk Et.c xs) :: X)) A M rfl rfl (za rfl rfl rfl (by kernel_rfl) M 2 rfl rfl rfl) 2 rfl rfl rfl ?_
 intro w9 M
 refine qa (hK8 _ _ (jh (S := fun w1 => Mg w0 w1 (.obj g4 (.cells (v.d.cells v.ts.length).toArray 38) :: .obj g2 (.cells (t.d.cells t.ts.length).toArray 38) :: .obj g (.cells #[.int .i64 kind, .map (some m), .int .i64 (((count + 1 : Nat) : Int)), .int .i64 (((last + 1 : Nat) : Int))] 66) :: [])) (by kernel_rfl) ?_))
 replace M := M.drew
 refine qe A 0 rfl rfl rfl rfl hP (M.sub (cc (cc (cc (cn (cn (List.nil_sublist _))))))) (fun w1 M => qp rfl) λa A↦?_
 refine qe A 1 rfl rfl rfl rfl hP (M.sub (cc (cc (cc (cn (cn (List.nil_sublist _))))))) (fun w1 M => zf rfl) λa A↦?_
 refine qe (v := .pointer (some ⟨g, 1, none⟩)) A 2 rfl rfl rfl rfl hP (M.sub (cc (cc (cc (cn (cn (List.nil_sublist _))))))) (fun w1 M => qb TeD_fld_66_1 rfl rfl) λa A↦?_
 refine qe A 3 rfl rfl rfl rfl hP (M.sub (cc (cc (cc (cn (cn (List.nil_sublist _))))))) (fun w1 M => qk M TeD_is1_64 rfl 2 rfl rfl) λa A↦?_
 refine qe A 4 rfl rfl rfl rfl hP (M.sub (cc (cc (cc (cn (cn (List.nil_sublist _))))))) (fun w1 M => qp rfl) λa A↦?_
 refine qe A 5 rfl rfl rfl rfl hP (M.sub (cc (cc (cc (cn (cn (List.nil_sublist _))))))) (fun w1 M => qp rfl) λa A↦?_
 refine qe A 6 rfl rfl rfl rfl hP (M.sub (cc (cc (cc (cn (cn (List.nil_sublist _))))))) (fun w1 M => zf rfl) λa A↦?_
 refine qe (v := .pointer (some ⟨g, 1, none⟩)) A 7 rfl rfl rfl rfl hP (M.sub (cc (cc (cc (cn (cn (List.nil_sublist _))))))) (fun w1 M => qb TeD_fld_66_1 rfl rfl) λa A↦?_
 refine qe A 8 rfl rfl rfl rfl hP (M.sub (cc (cc (cc (cn (cn (List.nil_sublist _))))))) (fun w1 M => qk M TeD_is1_64 rfl 2 rfl rfl) λa A↦?_
 refine qe A 9 rfl rfl rfl rfl hP (M.sub (cc (cc (cc (cn (cn (List.nil_sublist _))))))) (fun w1 M => qp rfl) λa A↦?_
 refine qe A 11 rfl rfl rfl rfl hP (M.sub (cc (cc (cc (cn (cn (List.nil_sublist _))))))) (fun w1 M => qp rfl) λa A↦?_
 refine qe A 12 rfl rfl rfl rfl hP (M.sub (cc (cc (cc (cn (cn (List.nil_sublist _))))))) (fun w1 M => zf rfl) λa A↦?_
 refine qe (v := .pointer (some ⟨g, 3, none⟩)) A 13 rfl rfl rfl rfl hP (M.sub (cc (cc (cc (cn (cn (List.nil_sublist _))))))) (fun w1 M => qb TeD_fld_66_3 rfl rfl) λa A↦?_
 refine qe A 14 rfl rfl rfl rfl hP (M.sub (cc (cc (cc (cn (cn (List.nil_sublist _))))))) (fun w1 M => qk M TeD_is1_3 rfl 2 rfl rfl) λa A↦?_
 refine qe A 15 rfl rfl rfl rfl hP (M.sub (cc (cc (cc (cn (cn (List.nil_sublist _))))))) (fun w1 M => qw M TeD_isS_38 rfl 1 rfl (cs := (t.d.cells t.ts.length)) rfl rfl) λa A↦?_
 refine qe A 17 rfl rfl rfl rfl hP (M.sub (cc (cc (cc (cn (cn (List.nil_sublist _))))))) (fun w1 M => qw M TeD_isS_38 rfl 0 rfl (cs := (v.d.cells v.ts.length)) rfl rfl) λa A↦?_
 refine jn (rs := [10, 16]) (by kernel_rfl) (by simp) ⟨?_, ?_, trivial⟩
 ·
  refine xz (v := .slice so xs.length ca) A 10 rfl rfl rfl rfl (ug M Tryz.underlying64 Tryz.underlying67 rfl rfl 3 rfl hold hv9.symm) (M.sub (cc (cc (cc (cn (cn (List.nil_sublist _))))))) λa A↦?_
  have hz15 := M.bel.size
  refine qh (by kernel_rfl) (qn A 16 rfl rfl rfl rfl (qi rfl rfl (fun w => by kernel_rfl)) (ju t (ht _ ((M.dropn 5).sub (List.Sublist.refl _))) (by omega)) ?_)
  rintro _ w16 ⟨c10, rfl, ⟨hcr11, hco13, hct12⟩, hb14⟩
  replace M : Mg w0 w16 (.obj g4 (.cells (v.d.cells v.ts.length).toArray 38) :: .obj g2 (.cells (t.d.cells t.ts.length).toArray 38) :: .obj g (.cells #[.int .i64 kind, .map (some m), .int .i64 (((count + 1 : Nat) : Int)), .int .i64 (((last + 1 : Nat) : Int))] 66) :: .obj m (zi es ck) :: .row 74 23 (.slice so xs.length ca) xs.length (zk Et.c xs) :: (made w9.drew w16 ++ X)) := M.freezeAt 5 (qf (by simp) (qf (by simp) (qf (by simp) (qf (by simp) (qf (by simp) hX))))) hb14
  have hLc10 := jt hcr11 hco13
  replace hco13 := Dt.at_mono (fun b hb => Nat.le_trans hz15 hb) _ hco13
  refine ⟨_, rfl, (M.sub (cc (cc (cc (cn (cn (List.nil_sublist _))))))), ?_⟩
  intro a A
  have hz22 := M.bel.size
  refine qh (by kernel_rfl) (qn A 18 rfl rfl rfl rfl (qi rfl rfl (fun w => by kernel_rfl)) (ju v (hv _ ((M.dropn 5).sub (List.sublist_append_right _ _))) (by omega)) ?_)
  rintro _ w23 ⟨c17, rfl, ⟨hcr18, hco20, hct19⟩, hb21⟩
  replace M : Mg w0 w23 (.obj g4 (.cells (v.d.cells v.ts.length).toArray 38) :: .obj g2 (.cells (t.d.cells t.ts.length).toArray 38) :: .obj g (.cells #[.int .i64 kind, .map (some m), .int .i64 (((count + 1 : Nat) : Int)), .int .i64 (((last + 1 : Nat) : Int))] 66) :: .obj m (zi es ck) :: .row 74 23 (.slice so xs.length ca) xs.length (zk Et.c xs) :: (made w16 w23 ++ (made w9.drew w16 ++ X))) := M.freezeAt 5 (qf (by simp) (qf (by simp) (qf (by simp) (qf (by simp) (qf (by simp) (jb ja hX)))))) hb21
  have hLc17 := jt hcr18 hco20
  replace hco20 := Dt.at_mono (fun b hb => Nat.le_trans hz22 hb) _ hco20
  refine ⟨_, rfl, (M.sub (cc (cc (cc (cn (cn (List.nil_sublist _))))))), ?_⟩
  intro a A
  refine qe (v := .agg (ji (last + 1) c10 c17).toArray) A 19 rfl rfl rfl rfl hP (M.sub (cc (cc (cc (cn (cn (List.nil_sublist _))))))) (fun w1 M => zp rfl (fun w => by kernel_rfl)) λa A↦?_
  refine qh (by kernel_rfl) (qih (e := 74) (sz := 23) (m := 1) (vs := (ji (last + 1) c10 c17)) A M 20 rfl rfl rfl rfl (zh rfl (by kernel_rfl)) rfl rfl (.inl (by decide)) ?_)
  intro g24 w25 M
  refine ⟨(M.sub (cn (cc (cc (cc (cn (cn (List.nil_sublist _)))))))), ?_⟩
  intro a A
  refine qh (by kernel_rfl) (ya (e := 74) (sz := 23) (k := 5) (q := xs.length) (m := 1) (xs := zk Et.c xs) (news := (ji (last + 1) c10 c17)) (L' := fun v26 => (.row 74 23 (.slice (some ⟨g24, 0, none⟩) 1 1) 1 ((ji (last + 1) c10 c17)) :: .obj g4 (.cells (v.d.cells v.ts.length).toArray 38) :: .obj g2 (.cells (t.d.cells t.ts.length).toArray 38) :: .obj g (.cells #[.int .i64 kind, .map (some m), .int .i64 (((count + 1 : Nat) : Int)), .int .i64 (((last + 1 : Nat) : Int))] 66) :: .obj m (zi es ck) :: .row 74 23 (v26) (xs.length + 1) (zk Et.c xs ++ (ji (last + 1) c10 c17)) :: (made w16 w23 ++ (made w9.drew w16 ++ X)))) A 21 rfl rfl rfl rfl (vl (z := .agg #[.int .i64 0, .int .i64 0, .int .i64 0, .bool false, .slice none 0 0, .slice none 0 0, .bool false, .slice none 0 0, .slice none 0 0, .string (⟨#[]⟩), .slice none 0 0, .slice none 0 0, .int .i64 0, .int .i64 0, .bool false, .slice none 0 0, .slice none 0 0, .bool false, .slice none 0 0, .slice none 0 0, .string (⟨#[]⟩), .slice none 0 0, .slice none 0 0]) (sz := 23) (by_ := 392) Tryz.underlying75 (by kernel_rfl) rfl rfl rfl M 5 rfl rfl rfl rfl (ka (M.has 0 rfl)) (List.all_eq_true.1 (ke _ _ _)) (by omega)) (fun _ => rfl) ?_)
  intro v26 w27 M
  refine ⟨(M.sub (cn (cc (cc (cc (cn (cn (List.nil_sublist _)))))))), ?_⟩
  intro a A
  refine qh (by kernel_rfl) (kb (L' := (.row 74 23 (.slice (some ⟨g24, 0, none⟩) 1 1) 1 ((ji (last + 1) c10 c17)) :: .obj g4 (.cells (v.d.cells v.ts.length).toArray 38) :: .obj g2 (.cells (t.d.cells t.ts.length).toArray 38) :: .obj g (.cells #[.int .i64 kind, .map (some m), .int .i64 (((count + 1 : Nat) : Int)), .int .i64 (((last + 1 : Nat) : Int))] 66) :: .obj m (zi (un h (v26) es) ck) :: .row 74 23 (v26) (xs.length + 1) (zk Et.c xs ++ (ji (last + 1) c10 c17)) :: (made w16 w23 ++ (made w9.drew w16 ++ X)))) A M 22 rfl rfl rfl (qbb M Tryz.underlying64 Tryz.underlying67 rfl rfl rfl 4 rfl hold) 4 rfl (xp _ _) rfl ?_)
  intro w28 M
  refine ⟨(M.sub (cn (cc (cc (cc (cn (cn (List.nil_sublist _)))))))), ?_⟩
  refine ze (by kernel_rfl) ?_
  refine hnorm _ _ (qac (v := .tuple #[]) A rfl .nil rfl ?_)
  replace M := M.b5
  replace M := M.b5
  replace M := M.b5
  replace M := M.sub (cc (cc (cc (cn (cn (cn (.refl _)))))))
  obtain ⟨so8, ca8, rfl⟩ := xj (M.has 2 rfl)
  rw [show zk Et.c xs ++ ji (last + 1) c10 c17 = zk Et.c (xs ++ [⟨last + 1, c10, c17⟩]) from by rw [xr, yb]; rfl] at M
  rw [← List.append_assoc] at M
  exact ⟨rfl, so8, ca8, c10, c17, (made w16 w23 ++ made w9.drew w16), ⟨hct12, hct19, hLc10.app _, hLc17.front _, jb ja ja⟩, M⟩
 ·
  have hz34 := M.bel.size
  refine qn A 16 rfl rfl rfl rfl (qi rfl rfl (fun w => by kernel_rfl)) (ju t (ht _ ((M.dropn 5).sub (List.Sublist.refl _))) (by omega)) ?_
  rintro _ w35 ⟨c29, rfl, ⟨hcr30, hco32, hct31⟩, hb33⟩
  replace M : Mg w0 w35 (.obj g4 (.cells (v.d.cells v.ts.length).toArray 38) :: .obj g2 (.cells (t.d.cells t.ts.length).toArray 38) :: .obj g (.cells #[.int .i64 kind, .map (some m), .int .i64 (((count + 1 : Nat) : Int)), .int .i64 (((last + 1 : Nat) : Int))] 66) :: .obj m (zi es ck) :: .row 74 23 (.slice so xs.length ca) xs.length (zk Et.c xs) :: (made w9.drew w35 ++ X)) := M.freezeAt 5 (qf (by simp) (qf (by simp) (qf (by simp) (qf (by simp) (qf (by simp) hX))))) hb33
  have hLc29 := jt hcr30 hco32
  replace hco32 := Dt.at_mono (fun b hb => Nat.le_trans hz34 hb) _ hco32
  refine ⟨_, rfl, (M.sub (cc (cc (cc (cn (cn (List.nil_sublist _))))))), ?_⟩
  intro a A
  refine jn (rs := [10, 18]) (by kernel_rfl) (by simp) ⟨?_, ?_, trivial⟩
  ·
   refine xz (v := .slice so xs.length ca) A 10 rfl rfl rfl rfl (ug M Tryz.underlying64 Tryz.underlying67 rfl rfl 3 rfl hold hv9.symm) (M.sub (cc (cc (cc (cn (cn (List.nil_sublist _))))))) λa A↦?_
   have hz41 := M.bel.size
   refine qh (by kernel_rfl) (qn A 18 rfl rfl rfl rfl (qi rfl rfl (fun w => by kernel_rfl)) (ju v (hv _ ((M.dropn 5).sub (List.sublist_append_right _ _))) (by omega)) ?_)
   rintro _ w42 ⟨c36, rfl, ⟨hcr37, hco39, hct38⟩, hb40⟩
   replace M : Mg w0 w42 (.obj g4 (.cells (v.d.cells v.ts.length).toArray 38) :: .obj g2 (.cells (t.d.cells t.ts.length).toArray 38) :: .obj g (.cells #[.int .i64 kind, .map (some m), .int .i64 (((count + 1 : Nat) : Int)), .int .i64 (((last + 1 : Nat) : Int))] 66) :: .obj m (zi es ck) :: .row 74 23 (.slice so xs.length ca) xs.length (zk Et.c xs) :: (made w35 w42 ++ (made w9.drew w35 ++ X))) := M.freezeAt 5 (qf (by simp) (qf (by simp) (qf (by simp) (qf (by simp) (qf (by simp) (jb ja hX)))))) hb40
   have hLc36 := jt hcr37 hco39
   replace hco39 := Dt.at_mono (fun b hb => Nat.le_trans hz41 hb) _ hco39
   refine ⟨_, rfl, (M.sub (cc (cc (cc (cn (cn (List.nil_sublist _))))))), ?_⟩
   intro a A
   refine qe (v := .agg (ji (last + 1) c29 c36).toArray) A 19 rfl rfl rfl rfl hP (M.sub (cc (cc (cc (cn (cn (List.nil_sublist _))))))) (fun w1 M => zp rfl (fun w => by kernel_rfl)) λa A↦?_
   refine qh (by kernel_rfl) (qih (e := 74) (sz := 23) (m := 1) (vs := (ji (last + 1) c29 c36)) A M 20 rfl rfl rfl rfl (zh rfl (by kernel_rfl)) rfl rfl (.inl (by decide)) ?_)
   intro g43 w44 M
   refine ⟨(M.sub (cn (cc (cc (cc (cn (cn (List.nil_sublist _)))))))), ?_⟩
   intro a A
   refine qh (by kernel_rfl) (ya (e := 74) (sz := 23) (k := 5) (q := xs.length) (m := 1) (xs := zk Et.c xs) (news := (ji (last + 1) c29 c36)) (L' := fun v45 => (.row 74 23 (.slice (some ⟨g43, 0, none⟩) 1 1) 1 ((ji (last + 1) c29 c36)) :: .obj g4 (.cells (v.d.cells v.ts.length).toArray 38) :: .obj g2 (.cells (t.d.cells t.ts.length).toArray 38) :: .obj g (.cells #[.int .i64 kind, .map (some m), .int .i64 (((count + 1 : Nat) : Int)), .int .i64 (((last + 1 : Nat) : Int))] 66) :: .obj m (zi es ck) :: .row 74 23 (v45) (xs.length + 1) (zk Et.c xs ++ (ji (last + 1) c29 c36)) :: (made w35 w42 ++ (made w9.drew w35 ++ X)))) A 21 rfl rfl rfl rfl (vl (z := .agg #[.int .i64 0, .int .i64 0, .int .i64 0, .bool false, .slice none 0 0, .slice none 0 0, .bool false, .slice none 0 0, .slice none 0 0, .string (⟨#[]⟩), .slice none 0 0, .slice none 0 0, .int .i64 0, .int .i64 0, .bool false, .slice none 0 0, .slice none 0 0, .bool false, .slice none 0 0, .slice none 0 0, .string (⟨#[]⟩), .slice none 0 0, .slice none 0 0]) (sz := 23) (by_ := 392) Tryz.underlying75 (by kernel_rfl) rfl rfl rfl M 5 rfl rfl rfl rfl (ka (M.has 0 rfl)) (List.all_eq_true.1 (ke _ _ _)) (by omega)) (fun _ => rfl) ?_)
   intro v45 w46 M
   refine ⟨(M.sub (cn (cc (cc (cc (cn (cn (List.nil_sublist _)))))))), ?_⟩
   intro a A
   refine qh (by kernel_rfl) (kb (L' := (.row 74 23 (.slice (some ⟨g43, 0, none⟩) 1 1) 1 ((ji (last + 1) c29 c36)) :: .obj g4 (.cells (v.d.cells v.ts.length).toArray 38) :: .obj g2 (.cells (t.d.cells t.ts.length).toArray 38) :: .obj g (.cells #[.int .i64 kind, .map (some m), .int .i64 (((count + 1 : Nat) : Int)), .int .i64 (((last + 1 : Nat) : Int))] 66) :: .obj m (zi (un h (v45) es) ck) :: .row 74 23 (v45) (xs.length + 1) (zk Et.c xs ++ (ji (last + 1) c29 c36)) :: (made w35 w42 ++ (made w9.drew w35 ++ X)))) A M 22 rfl rfl rfl (qbb M Tryz.underlying64 Tryz.underlying67 rfl rfl rfl 4 rfl hold) 4 rfl (xp _ _) rfl ?_)
   intro w47 M
   refine ⟨(M.sub (cn (cc (cc (cc (cn (cn (List.nil_sublist _)))))))), ?_⟩
   refine ze (by kernel_rfl) ?_
   refine hnorm _ _ (qac (v := .tuple #[]) A rfl .nil rfl ?_)
   replace M := M.b5
   replace M := M.b5
   replace M := M.b5
   replace M := M.sub (cc (cc (cc (cn (cn (cn (.refl _)))))))
   obtain ⟨so8, ca8, rfl⟩ := xj (M.has 2 rfl)
   rw [show zk Et.c xs ++ ji (last + 1) c29 c36 = zk Et.c (xs ++ [⟨last + 1, c29, c36⟩]) from by rw [xr, yb]; rfl] at M
   rw [← List.append_assoc] at M
   exact ⟨rfl, so8, ca8, c29, c36, (made w35 w42 ++ made w9.drew w35), ⟨hct31, hct38, hLc29.app _, hLc36.front _, jb ja ja⟩, M⟩
  ·
   have hz53 := M.bel.size
   refine qn A 18 rfl rfl rfl rfl (qi rfl rfl (fun w => by kernel_rfl)) (ju v (hv _ ((M.dropn 5).sub (List.sublist_append_right _ _))) (by omega)) ?_
   rintro _ w54 ⟨c48, rfl, ⟨hcr49, hco51, hct50⟩, hb52⟩
   replace M : Mg w0 w54 (.obj g4 (.cells (v.d.cells v.ts.length).toArray 38) :: .obj g2 (.cells (t.d.cells t.ts.length).toArray 38) :: .obj g (.cells #[.int .i64 kind, .map (some m), .int .i64 (((count + 1 : Nat) : Int)), .int .i64 (((last + 1 : Nat) : Int))] 66) :: .obj m (zi es ck) :: .row 74 23 (.slice so xs.length ca) xs.length (zk Et.c xs) :: (made w35 w54 ++ (made w9.drew w35 ++ X))) := M.freezeAt 5 (qf (by simp) (qf (by simp) (qf (by simp) (qf (by simp) (qf (by simp) (jb ja hX)))))) hb52
   have hLc48 := jt hcr49 hco51
   replace hco51 := Dt.at_mono (fun b hb => Nat.le_trans hz53 hb) _ hco51
   refine ⟨_, rfl, (M.sub (cc (cc (cc (cn (cn (List.nil_sublist _))))))), ?_⟩
   intro a A
   refine qe (v := .agg (ji (last + 1) c29 c48).toArray) A 19 rfl rfl rfl rfl hP (M.sub (cc (cc (cc (cn (cn (List.nil_sublist _))))))) (fun w1 M => zp rfl (fun w => by kernel_rfl)) λa A↦?_
   refine jn (rs := [10, 20]) (by kernel_rfl) (by simp) ⟨?_, ?_, trivial⟩
   ·
    refine xz (v := .slice so xs.length ca) A 10 rfl rfl rfl rfl (ug M Tryz.underlying64 Tryz.underlying67 rfl rfl 3 rfl hold hv9.symm) (M.sub (cc (cc (cc (cn (cn (List.nil_sublist _))))))) λa A↦?_
    refine qh (by kernel_rfl) (qih (e := 74) (sz := 23) (m := 1) (vs := (ji (last + 1) c29 c48)) A M 20 rfl rfl rfl rfl (zh rfl (by kernel_rfl)) rfl rfl (.inl (by decide)) ?_)
    intro g55 w56 M
    refine ⟨(M.sub (cn (cc (cc (cc (cn (cn (List.nil_sublist _)))))))), ?_⟩
    intro a A
    refine qh (by kernel_rfl) (ya (e := 74) (sz := 23) (k := 5) (q := xs.length) (m := 1) (xs := zk Et.c xs) (news := (ji (last + 1) c29 c48)) (L' := fun v57 => (.row 74 23 (.slice (some ⟨g55, 0, none⟩) 1 1) 1 ((ji (last + 1) c29 c48)) :: .obj g4 (.cells (v.d.cells v.ts.length).toArray 38) :: .obj g2 (.cells (t.d.cells t.ts.length).toArray 38) :: .obj g (.cells #[.int .i64 kind, .map (some m), .int .i64 (((count + 1 : Nat) : Int)), .int .i64 (((last + 1 : Nat) : Int))] 66) :: .obj m (zi es ck) :: .row 74 23 (v57) (xs.length + 1) (zk Et.c xs ++ (ji (last + 1) c29 c48)) :: (made w35 w54 ++ (made w9.drew w35 ++ X)))) A 21 rfl rfl rfl rfl (vl (z := .agg #[.int .i64 0, .int .i64 0, .int .i64 0, .bool false, .slice none 0 0, .slice none 0 0, .bool false, .slice none 0 0, .slice none 0 0, .string (⟨#[]⟩), .slice none 0 0, .slice none 0 0, .int .i64 0, .int .i64 0, .bool false, .slice none 0 0, .slice none 0 0, .bool false, .slice none 0 0, .slice none 0 0, .string (⟨#[]⟩), .slice none 0 0, .slice none 0 0]) (sz := 23) (by_ := 392) Tryz.underlying75 (by kernel_rfl) rfl rfl rfl M 5 rfl rfl rfl rfl (ka (M.has 0 rfl)) (List.all_eq_true.1 (ke _ _ _)) (by omega)) (fun _ => rfl) ?_)
    intro v57 w58 M
    refine ⟨(M.sub (cn (cc (cc (cc (cn (cn (List.nil_sublist _)))))))), ?_⟩
    intro a A
    refine qh (by kernel_rfl) (kb (L' := (.row 74 23 (.slice (some ⟨g55, 0, none⟩) 1 1) 1 ((ji (last + 1) c29 c48)) :: .obj g4 (.cells (v.d.cells v.ts.length).toArray 38) :: .obj g2 (.cells (t.d.cells t.ts.length).toArray 38) :: .obj g (.cells #[.int .i64 kind, .map (some m), .int .i64 (((count + 1 : Nat) : Int)), .int .i64 (((last + 1 : Nat) : Int))] 66) :: .obj m (zi (un h (v57) es) ck) :: .row 74 23 (v57) (xs.length + 1) (zk Et.c xs ++ (ji (last + 1) c29 c48)) :: (made w35 w54 ++ (made w9.drew w35 ++ X)))) A M 22 rfl rfl rfl (qbb M Tryz.underlying64 Tryz.underlying67 rfl rfl rfl 4 rfl hold) 4 rfl (xp _ _) rfl ?_)
    intro w59 M
    refine ⟨(M.sub (cn (cc (cc (cc (cn (cn (List.nil_sublist _)))))))), ?_⟩
    refine ze (by kernel_rfl) ?_
    refine hnorm _ _ (qac (v := .tuple #[]) A rfl .nil rfl ?_)
    replace M := M.b5
    replace M := M.b5
    replace M := M.b5
    replace M := M.sub (cc (cc (cc (cn (cn (cn (.refl _)))))))
    obtain ⟨so8, ca8, rfl⟩ := xj (M.has 2 rfl)
    rw [show zk Et.c xs ++ ji (last + 1) c29 c48 = zk Et.c (xs ++ [⟨last + 1, c29, c48⟩]) from by rw [xr, yb]; rfl] at M
    rw [← List.append_assoc] at M
    exact ⟨rfl, so8, ca8, c29, c48, (made w35 w54 ++ made w9.drew w35), ⟨hct31, hct50, hLc29.app _, hLc48.front _, jb ja ja⟩, M⟩
   ·
    refine qih (e := 74) (sz := 23) (m := 1) (vs := (ji (last + 1) c29 c48)) A M 20 rfl rfl rfl rfl (zh rfl (by kernel_rfl)) rfl rfl (.inl (by decide)) ?_
    intro g60 w61 M
    refine ⟨(M.sub (cn (cc (cc (cc (cn (cn (List.nil_sublist _)))))))), ?_⟩
    intro a A
    refine qh (by kernel_rfl) (xz (v := .slice so xs.length ca) A 10 rfl rfl rfl rfl (ug M Tryz.underlying64 Tryz.underlying67 rfl rfl 4 rfl hold hv9.symm) (M.sub (cn (cc (cc (cc (cn (cn (List.nil_sublist _)))))))) ?_)
    intro a A
    refine qh (by kernel_rfl) (ya (e := 74) (sz := 23) (k := 5) (q := xs.length) (m := 1) (xs := zk Et.c xs) (news := (ji (last + 1) c29 c48)) (L' := fun v62 => (.row 74 23 (.slice (some ⟨g60, 0, none⟩) 1 1) 1 ((ji (last + 1) c29 c48)) :: .obj g4 (.cells (v.d.cells v.ts.length).toArray 38) :: .obj g2 (.cells (t.d.cells t.ts.length).toArray 38) :: .obj g (.cells #[.int .i64 kind, .map (some m), .int .i64 (((count + 1 : Nat) : Int)), .int .i64 (((last + 1 : Nat) : Int))] 66) :: .obj m (zi es ck) :: .row 74 23 (v62) (xs.length + 1) (zk Et.c xs ++ (ji (last + 1) c29 c48)) :: (made w35 w54 ++ (made w9.drew w35 ++ X)))) A 21 rfl rfl rfl rfl (vl (z := .agg #[.int .i64 0, .int .i64 0, .int .i64 0, .bool false, .slice none 0 0, .slice none 0 0, .bool false, .slice none 0 0, .slice none 0 0, .string (⟨#[]⟩), .slice none 0 0, .slice none 0 0, .int .i64 0, .int .i64 0, .bool false, .slice none 0 0, .slice none 0 0, .bool false, .slice none 0 0, .slice none 0 0, .string (⟨#[]⟩), .slice none 0 0, .slice none 0 0]) (sz := 23) (by_ := 392) Tryz.underlying75 (by kernel_rfl) rfl rfl rfl M 5 rfl rfl rfl rfl (ka (M.has 0 rfl)) (List.all_eq_true.1 (ke _ _ _)) (by omega)) (fun _ => rfl) ?_)
    intro v62 w63 M
    refine ⟨(M.sub (cn (cc (cc (cc (cn (cn (List.nil_sublist _)))))))), ?_⟩
    intro a A
    refine qh (by kernel_rfl) (kb (L' := (.row 74 23 (.slice (some ⟨g60, 0, none⟩) 1 1) 1 ((ji (last + 1) c29 c48)) :: .obj g4 (.cells (v.d.cells v.ts.length).toArray 38) :: .obj g2 (.cells (t.d.cells t.ts.length).toArray 38) :: .obj g (.cells #[.int .i64 kind, .map (some m), .int .i64 (((count + 1 : Nat) : Int)), .int .i64 (((last + 1 : Nat) : Int))] 66) :: .obj m (zi (un h (v62) es) ck) :: .row 74 23 (v62) (xs.length + 1) (zk Et.c xs ++ (ji (last + 1) c29 c48)) :: (made w35 w54 ++ (made w9.drew w35 ++ X)))) A M 22 rfl rfl rfl (qbb M Tryz.underlying64 Tryz.underlying67 rfl rfl rfl 4 rfl hold) 4 rfl (xp _ _) rfl ?_)
    intro w64 M
    refine ⟨(M.sub (cn (cc (cc (cc (cn (cn (List.nil_sublist _)))))))), ?_⟩
    refine ze (by kernel_rfl) ?_
    refine hnorm _ _ (qac (v := .tuple #[]) A rfl .nil rfl ?_)
    replace M := M.b5
    replace M := M.b5
    replace M := M.b5
    replace M := M.sub (cc (cc (cc (cn (cn (cn (.refl _)))))))
    obtain ⟨so8, ca8, rfl⟩ := xj (M.has 2 rfl)
    rw [show zk Et.c xs ++ ji (last + 1) c29 c48 = zk Et.c (xs ++ [⟨last + 1, c29, c48⟩]) from by rw [xr, yb]; rfl] at M
    rw [← List.append_assoc] at M
    exact ⟨rfl, so8, ca8, c29, c48, (made w35 w54 ++ made w9.drew w35), ⟨hct31, hct50, hLc29.app _, hLc48.front _, jb ja ja⟩, M⟩
theorem qjd : ∀ (a b l : List Value) (o : Nat), over l o (a ++ b) = over (over l o a) (o + a.length) b
 | [], b, l, o => rfl
 | x :: a, b, l, o => by
  rw [List.cons_append, over, over, qjd a b, List.length_cons, Nat.add_assoc, Nat.add_comm 1]
theorem qqa : ∀ (a l : List Value) (o : Nat), (∀ j v, a[j]? = some v → l[o + j]? = some v) → over l o a = l
 | [], _, _, _ => rfl
 | x :: a, l, o, h => by
  have h0 : l[o]? = some x := h 0 x rfl
  have e : l.set o x = l := by
   apply List.ext_getElem?
   intro i
   by_cases hi : o = i
   ·
    subst hi; rw [List.getElem?_set_self (List.getElem?_eq_some_iff.1 h0).1]; exact h0.symm
   ·
    rw [List.getElem?_set_ne hi]
  rw [over, e]
  exact qqa a l (o + 1) fun j v hj => by rw [Nat.add_assoc, Nat.add_comm 1]; exact h (j + 1) v hj
theorem znh {es : List Et} {i : Nat} {e : Et} (h : es[i]? = some e) (v : Dt) : over (zk Et.c es) (i * 23 + 12) (v.d.cells v.ts.length) = zk Et.c (es.set i ⟨e.p, e.k, v⟩) := by
 rw [← zxa ⟨e.p, e.k, v⟩ (List.getElem?_eq_some_iff.1 h).1]
 rw [show Et.c ⟨e.p, e.k, v⟩ = (.int .i64 (e.p : Int) :: e.k.d.cells e.k.ts.length) ++ v.d.cells v.ts.length from rfl, qjd, qqa (.int .i64 (e.p : Int) :: e.k.d.cells e.k.ts.length)]
 ·
  rfl
 ·
  intro j u hj
  have hlt : j < 12 := by have := (List.getElem?_eq_some_iff.1 hj).1; exact this
  have h1 := zce h
  have h2 : e.c[j]? = some u := by
   rw [show e.c = (.int .i64 (e.p : Int) :: e.k.d.cells e.k.ts.length) ++ e.v.d.cells e.v.ts.length from rfl, List.getElem?_append_left (List.getElem?_eq_some_iff.1 hj).1]
   exact hj
  rw [← h1, List.getElem?_take, if_pos (by omega), List.getElem?_drop] at h2
  exact h2
theorem qwd {kind : Int} {mk : Tr → Tr} {ok : Tr → Bool} (hK : Marks kind mk ok) {w0 w : World} {g m count last ck : Nat} {bs : List Bk} {X : List Ck}  (hX : jk X) (hT : Tabs8 w0) (hB : ∀ w9, Mg w0 w9 (.obj g (.cells #[.int .i64 kind, .map (some m), .int .i64 (((count : Nat) : Int)), .int .i64 (((last : Nat) : Int))] 66) :: .obj m (zi (bs.map Bk.en) ck) :: X) → Tab w9 ok g kind m count last ck bs) {t v : Dt} (ht : ∀ w9, Mg w0 w9 X → t.rd w9) (hv : ∀ w9, Mg w0 w9 X → v.rd w9) (htb : t.tr.bulk ≤ 4000000) (hvb : v.tr.bulk ≤ 4000000) (hM0 : Mg w0 w (.obj g (.cells #[.int .i64 kind, .map (some m), .int .i64 (((count : Nat) : Int)), .int .i64 (((last : Nat) : Int))] 66) :: .obj m (zi (bs.map Bk.en) ck) :: X)) (hs : qz qx t.tr = true) (hsv : qz qx v.tr = true) (hok : ok t.tr = true) (hat : yj (fun e => ki (mk t.tr) (mk e.k.tr)) (xe bs (zm (mk t.tr))) = -1) (hc : 4096 ≤ count) (hc2 : count ≤ 1000000000) : Calls Tryz.prog 9 #[.pointer (some ⟨g, 0, none⟩), .agg (t.d.cells t.ts.length).toArray, .agg (v.d.cells v.ts.length).toArray] w fun e w' => e = .returned (.int .i64 9) ∧ Mg w0 w' (.obj g (.cells #[.int .i64 kind, .map (some m), .int .i64 (((count : Nat) : Int)), .int .i64 (((last : Nat) : Int))] 66) :: .obj m (zi (bs.map Bk.en) ck) :: X) := by
 have M : Mg w0 w (.obj g (.cells #[.int .i64 kind, .map (some m), .int .i64 (((count : Nat) : Int)), .int .i64 (((last : Nat) : Int))] 66) :: .obj m (zi (bs.map Bk.en) ck) :: X) := hM0
 refine qs (l := [(0, .pointer (some ⟨g, 0, none⟩)), (1, .agg (t.d.cells t.ts.length).toArray), (2, .agg (v.d.cells v.ts.length).toArray)]) Tryz.func9 rfl Tryz.ntmps9 rfl rfl ?_
 intro Q hret hnorm hP a A
 refine wsk fun K1 hK1 => wrl (zx (vs := (t.d.cells t.ts.length)) (t := 38) A M rfl rfl rfl pg (qr rfl rfl) (by decide) ?_)
 intro g2 w3 M a A
 refine zx (vs := (v.d.cells v.ts.length)) (t := 38) A M rfl rfl rfl pg (qr rfl rfl) (by decide) ?_
 intro g4 w5 M a A
 refine sda A λa A↦?_
 refine qa (hK1 _ _ (wsk fun K6 hK6 => wrl (sdm A λa A↦?_)))
 refine sdo A (qw M TeD_isS_38 rfl 1 rfl (cs := (t.d.cells t.ts.length)) rfl rfl) λa A↦?_
 refine sdo A (qw M TeD_isS_38 rfl 0 rfl (cs := (v.d.cells v.ts.length)) rfl rfl) λa A↦?_
 refine ui (e := 38) (sz := 11) (m := 1) (vs := cellsOf [v]) A M rfl rfl rfl (zh rfl (by kernel_rfl)) rfl rfl (.inl (by decide)) ?_
 intro g7 w8 M a A
 refine sct A (ef rfl rfl) (ym hK (hB _ (M.dropn 3)) (ht _ (M.dropn 5)) htb (hT.below M.bel) (ts := [v]) (qdh (ts := [v]) (M.has 0 rfl)).1 (fun u hu => by rw [List.mem_singleton.1 hu]; exact hv _ (M.dropn 5)) (by simp) hs (show ([v].any fun t => !qz qx t.tr) = false from by simp [hsv]) hok) ?_
 rintro _ w10 ⟨he8, hb9⟩
 rw [hat] at he8
 subst he8
 replace M := M.call hb9
 refine ⟨_, rfl, ?_⟩
 intro a A
 refine sdm A λa A↦?_
 iterate 2 refine sdo A (zd (vs := [.agg #[.int .u64 (zm (mk t.tr)), .int .i64 (-1)], .int .i64 0]) rfl rfl) λa A↦?_
 refine zx (vs := [.int .u64 0, .int .i64 0]) (t := 69) A M rfl rfl rfl pg (ql (z := .agg #[.int .u64 0, .int .i64 0]) (by kernel_rfl) rfl) (by decide) ?_
 intro g11 w12 M a A
 refine zr (us := [.int .u64 (zm (mk t.tr)), .int .i64 (-1)]) (L' := (.obj g11 (.cells #[.int .u64 (zm (mk t.tr)), .int .i64 (-1)] 69) :: .row 38 11 (.slice (some ⟨g7, 0, none⟩) 1 1) 1 (cellsOf [v]) :: .obj g4 (.cells (v.d.cells v.ts.length).toArray 38) :: .obj g2 (.cells (t.d.cells t.ts.length).toArray 38) :: .obj g (.cells #[.int .i64 kind, .map (some m), .int .i64 (((count : Nat) : Int)), .int .i64 (((last : Nat) : Int))] 66) :: .obj m (zi (bs.map Bk.en) ck) :: X)) A M rfl rfl (za rfl rfl rfl (by kernel_rfl) M 0 rfl rfl rfl) 0 rfl rfl rfl ?_
 intro w13 M
 refine sda A λa A↦?_
 refine qa (hK6 _ _ (wsk fun K14 hK14 => wp_block (wsk fun K15 hK15 => wrl (sdm A λa A↦?_))))
 refine sdo (v := .bool false) A (qg rfl rfl (fun w => by kernel_rfl)) λa A↦?_
 refine sda A λa A↦?_
 refine qa (hK15 _ _ (wp_cond_false (A.ev rfl) ?_))
 refine wsk fun K16 hK16 => wrl (sdo A (qw M TeD_isS_69 rfl 0 rfl (cs := [.int .u64 (zm (mk t.tr)), .int .i64 (-1)]) rfl rfl) λa A↦?_)
 refine gcl A M (ef rfl rfl) (((show decide ((0 : Int) ≤ -1) = false from rfl) ▸ vh)) fun w17 hbt M a A => ?_
 refine sda A λa A↦?_
 refine qa (hK16 _ _ (wp_cond_false (A.ev rfl) ?_))
 refine wsk fun K18 hK18 => wrl (sdm A λa A↦?_)
 refine sdo A (zf rfl) λa A↦?_
 refine sdo (v := .pointer (some ⟨g, 2, none⟩)) A (qb TeD_fld_66_2 rfl rfl) λa A↦?_
 refine sdo A (qk M TeD_is1_3 rfl 4 rfl rfl) λa A↦?_
 refine sdo (v := .bool true) A (qg rfl rfl (fun w => (kp w).trans (by rw [show (decide (4096 ≤ ((count : Nat) : Int))) = true from (decide_eq_true (by omega))]))) λa A↦?_
 refine sda A λa A↦?_
 refine qa (hK18 _ _ (wp_cond_true (A.ev rfl) ?_))
 refine wsk fun K19 hK19 => wrl (sda A λa A↦?_)
 refine qa (hK19 _ _ (wp_ret (hret _ _ (en1 A rfl (qj rfl) ?_))))
 replace M := M.b5
 replace M := M.b5
 replace M := M.sub (cc (cc (cn (cn (cn (cn (.refl _)))))))
 exact ⟨rfl, M⟩
theorem zdc {kind : Int} {mk : Tr → Tr} {ok : Tr → Bool} (hK : Marks kind mk ok) {w0 w : World} {g m count last ck : Nat} {bs : List Bk} {X : List Ck}  (hX : jk X) (hT : Tabs8 w0) (hB : ∀ w9, Mg w0 w9 (.obj g (.cells #[.int .i64 kind, .map (some m), .int .i64 (((count : Nat) : Int)), .int .i64 (((last : Nat) : Int))] 66) :: .obj m (zi (bs.map Bk.en) ck) :: X) → Tab w9 ok g kind m count last ck bs) {t v : Dt} (ht : ∀ w9, Mg w0 w9 X → t.rd w9) (hv : ∀ w9, Mg w0 w9 X → v.rd w9) (htb : t.tr.bulk ≤ 4000000) (hvb : v.tr.bulk ≤ 4000000) (hM0 : Mg w0 w (.obj g (.cells #[.int .i64 kind, .map (some m), .int .i64 (((count : Nat) : Int)), .int .i64 (((last : Nat) : Int))] 66) :: .obj m (zi (bs.map Bk.en) ck) :: X)) (hs : qz qx t.tr = true) (hsv : qz qx v.tr = true) (hok : ok t.tr = true) (hat : yj (fun e => ki (mk t.tr) (mk e.k.tr)) (xe bs (zm (mk t.tr))) = -1) (hc : count < 4096) (hl : last ≤ 4611686018427387904) (hnew : atK (zm (mk t.tr)) (bs.map Bk.en) = none) : Calls Tryz.prog 9 #[.pointer (some ⟨g, 0, none⟩), .agg (t.d.cells t.ts.length).toArray, .agg (v.d.cells v.ts.length).toArray] w fun e w' => e = .returned (.int .i64 0) ∧ ∃ so8 ca8, ∃ k2 v2 : Dt, ∃ F : List Ck, (k2.tr = t.tr ∧ v2.tr = v.tr ∧ Lives F k2 ∧ Lives F v2 ∧ jk F) ∧ Mg w0 w' (.obj g (.cells #[.int .i64 kind, .map (some m), .int .i64 (((count + 1 : Nat) : Int)), .int .i64 (((last + 1 : Nat) : Int))] 66) :: .obj m (zi (bs.map Bk.en ++ [⟨zm (mk t.tr), .slice so8 1 ca8, ck⟩]) (ck + 1)) :: .row 74 23 (.slice so8 1 ca8) 1 (ji (last + 1) k2 v2) :: (F ++ X)) := by
 have M : Mg w0 w (.obj g (.cells #[.int .i64 kind, .map (some m), .int .i64 (((count : Nat) : Int)), .int .i64 (((last : Nat) : Int))] 66) :: .obj m (zi (bs.map Bk.en) ck) :: X) := hM0
 refine qs (l := [(0, .pointer (some ⟨g, 0, none⟩)), (1, .agg (t.d.cells t.ts.length).toArray), (2, .agg (v.d.cells v.ts.length).toArray)]) Tryz.func9 rfl Tryz.ntmps9 rfl rfl ?_
 intro Q hret hnorm hP a A
 refine wsk fun K1 hK1 => wrl (zx (vs := (t.d.cells t.ts.length)) (t := 38) A M rfl rfl rfl pg (qr rfl rfl) (by decide) ?_)
 intro g2 w3 M a A
 refine zx (vs := (v.d.cells v.ts.length)) (t := 38) A M rfl rfl rfl pg (qr rfl rfl) (by decide) ?_
 intro g4 w5 M a A
 refine sda A λa A↦?_
 refine qa (hK1 _ _ (wsk fun K6 hK6 => wrl (sdm A λa A↦?_)))
 refine sdo A (qw M TeD_isS_38 rfl 1 rfl (cs := (t.d.cells t.ts.length)) rfl rfl) λa A↦?_
 refine sdo A (qw M TeD_isS_38 rfl 0 rfl (cs := (v.d.cells v.ts.length)) rfl rfl) λa A↦?_
 refine ui (e := 38) (sz := 11) (m := 1) (vs := cellsOf [v]) A M rfl rfl rfl (zh rfl (by kernel_rfl)) rfl rfl (.inl (by decide)) ?_
 intro g7 w8 M a A
 refine sct A (ef rfl rfl) (ym hK (hB _ (M.dropn 3)) (ht _ (M.dropn 5)) htb (hT.below M.bel) (ts := [v]) (qdh (ts := [v]) (M.has 0 rfl)).1 (fun u hu => by rw [List.mem_singleton.1 hu]; exact hv _ (M.dropn 5)) (by simp) hs (show ([v].any fun t => !qz qx t.tr) = false from by simp [hsv]) hok) ?_
 rintro _ w10 ⟨he8, hb9⟩
 rw [hat] at he8
 subst he8
 replace M := M.call hb9
 refine ⟨_, rfl, ?_⟩
 intro a A
 refine sdm A λa A↦?_
 iterate 2 refine sdo A (zd (vs := [.agg #[.int .u64 (zm (mk t.tr)), .int .i64 (-1)], .int .i64 0]) rfl rfl) λa A↦?_
 refine zx (vs := [.int .u64 0, .int .i64 0]) (t := 69) A M rfl rfl rfl pg (ql (z := .agg #[.int .u64 0, .int .i64 0]) (by kernel_rfl) rfl) (by decide) ?_
 intro g11 w12 M a A
 refine zr (us := [.int .u64 (zm (mk t.tr)), .int .i64 (-1)]) (L' := (.obj g11 (.cells #[.int .u64 (zm (mk t.tr)), .int .i64 (-1)] 69) :: .row 38 11 (.slice (some ⟨g7, 0, none⟩) 1 1) 1 (cellsOf [v]) :: .obj g4 (.cells (v.d.cells v.ts.length).toArray 38) :: .obj g2 (.cells (t.d.cells t.ts.length).toArray 38) :: .obj g (.cells #[.int .i64 kind, .map (some m), .int .i64 (((count : Nat) : Int)), .int .i64 (((last : Nat) : Int))] 66) :: .obj m (zi (bs.map Bk.en) ck) :: X)) A M rfl rfl (za rfl rfl rfl (by kernel_rfl) M 0 rfl rfl rfl) 0 rfl rfl rfl ?_
 intro w13 M
 refine sda A λa A↦?_
 refine qa (hK6 _ _ (wsk fun K14 hK14 => wp_block (wsk fun K15 hK15 => wrl (sdm A λa A↦?_))))
 refine sdo (v := .bool false) A (qg rfl rfl (fun w => by kernel_rfl)) λa A↦?_
 refine sda A λa A↦?_
 refine qa (hK15 _ _ (wp_cond_false (A.ev rfl) ?_))
 refine wsk fun K16 hK16 => wrl (sdo A (qw M TeD_isS_69 rfl 0 rfl (cs := [.int .u64 (zm (mk t.tr)), .int .i64 (-1)]) rfl rfl) λa A↦?_)
 refine gcl A M (ef rfl rfl) (((show decide ((0 : Int) ≤ -1) = false from rfl) ▸ vh)) fun w17 hbt M a A => ?_
 refine sda A λa A↦?_
 refine qa (hK16 _ _ (wp_cond_false (A.ev rfl) ?_))
 refine wsk fun K18 hK18 => wrl (sdm A λa A↦?_)
 refine sdo A (zf rfl) λa A↦?_
 refine sdo (v := .pointer (some ⟨g, 2, none⟩)) A (qb TeD_fld_66_2 rfl rfl) λa A↦?_
 refine sdo A (qk M TeD_is1_3 rfl 4 rfl rfl) λa A↦?_
 refine sdo (v := .bool false) A (qg rfl rfl (fun w => (kp w).trans (by rw [show (decide (4096 ≤ ((count : Nat) : Int))) = false from (decide_eq_false (by omega))]))) λa A↦?_
 refine sda A λa A↦?_
 refine qa (hK18 _ _ (wp_cond_false (A.ev rfl) ?_))
 refine wrl (sdm A λa A↦?_)
 refine sdo (v := .pointer (some ⟨g11, 0, none⟩)) A (qb TeD_fld_69_0 rfl rfl) λa A↦?_
 refine sdo A (qk M TeD_is1_67 rfl 0 rfl rfl) λa A↦?_
 refine sdo A (qw M TeD_isS_38 rfl 3 rfl (cs := (t.d.cells t.ts.length)) rfl rfl) λa A↦?_
 refine sdo A (qw M TeD_isS_38 rfl 2 rfl (cs := (v.d.cells v.ts.length)) rfl rfl) λa A↦?_
 replace M := M.b5
 replace M := M.b5
 refine sct A (ef rfl rfl) (zsj (X := (.obj g11 (.cells #[.int .u64 (zm (mk t.tr)), .int .i64 (-1)] 69) :: .row 38 11 (.slice (some ⟨g7, 0, none⟩) 1 1) 1 (cellsOf [v]) :: .obj g4 (.cells (v.d.cells v.ts.length).toArray 38) :: .obj g2 (.cells (t.d.cells t.ts.length).toArray 38) :: X)) (qf (by simp) (qf (by simp) (qf (by simp) (qf (by simp) hX)))) (by omega) hl hnew (fun w9 h9 => ht w9 (h9.dropn 4)) (fun w9 h9 => hv w9 (h9.dropn 4)) htb hvb M) ?_
 rintro _ w19 ⟨rfl, so8, ca8, k2, v2, F9, hF9, hM9⟩
 replace M : Mg w0 w19 (.obj g (.cells #[.int .i64 kind, .map (some m), .int .i64 (((count + 1 : Nat) : Int)), .int .i64 (((last + 1 : Nat) : Int))] 66) :: .obj m (zi (bs.map Bk.en ++ [⟨zm (mk t.tr), .slice so8 1 ca8, ck⟩]) (ck + 1)) :: .row 74 23 (.slice so8 1 ca8) 1 (ji (last + 1) k2 v2) :: (F9 ++ (.obj g11 (.cells #[.int .u64 (zm (mk t.tr)), .int .i64 (-1)] 69) :: .row 38 11 (.slice (some ⟨g7, 0, none⟩) 1 1) 1 (cellsOf [v]) :: .obj g4 (.cells (v.d.cells v.ts.length).toArray 38) :: .obj g2 (.cells (t.d.cells t.ts.length).toArray 38) :: X))) := hM9
 refine ⟨_, rfl, ?_⟩
 intro a A
 refine qa (hK14 _ _ (wsk fun K20 hK20 => wrl (sda A λa A↦?_)))
 refine qa (hK20 _ _ (wp_ret (hret _ _ (en1 A rfl (qj rfl) ?_))))
 replace M : Mg w0 w19 (.obj g (.cells #[.int .i64 kind, .map (some m), .int .i64 (((count + 1 : Nat) : Int)), .int .i64 (((last + 1 : Nat) : Int))] 66) :: .obj m (zi (bs.map Bk.en ++ [⟨zm (mk t.tr), .slice so8 1 ca8, ck⟩]) (ck + 1)) :: .row 74 23 (.slice so8 1 ca8) 1 (ji (last + 1) k2 v2) :: (F9 ++ X)) := M.sub (.cons_cons _ (.cons_cons _ (.cons_cons _ ((List.Sublist.refl _).append (cn (cn (cn (cn (List.Sublist.refl _)))))))))
 exact ⟨rfl, so8, ca8, k2, v2, F9, hF9, M⟩
theorem ztb {kind : Int} {mk : Tr → Tr} {ok : Tr → Bool} (hK : Marks kind mk ok) {w0 w : World} {g m count last ck : Nat} {bs : List Bk} {X : List Ck} {so : Option Addr} {ca b0 : Nat} {xs : List Et} (hX : jk X) (hT : Tabs8 w0) (hB : ∀ w9, Mg w0 w9 (.obj g (.cells #[.int .i64 kind, .map (some m), .int .i64 (((count : Nat) : Int)), .int .i64 (((last : Nat) : Int))] 66) :: .obj m (zi (bs.map Bk.en) ck) :: .row 74 23 (.slice so xs.length ca) xs.length (zk Et.c xs) :: X) → Tab w9 ok g kind m count last ck bs) {t v : Dt} (ht : ∀ w9, Mg w0 w9 X → t.rd w9) (hv : ∀ w9, Mg w0 w9 X → v.rd w9) (htb : t.tr.bulk ≤ 4000000) (hvb : v.tr.bulk ≤ 4000000) (hM0 : Mg w0 w (.obj g (.cells #[.int .i64 kind, .map (some m), .int .i64 (((count : Nat) : Int)), .int .i64 (((last : Nat) : Int))] 66) :: .obj m (zi (bs.map Bk.en) ck) :: .row 74 23 (.slice so xs.length ca) xs.length (zk Et.c xs) :: X)) (hs : qz qx t.tr = true) (hsv : qz qx v.tr = true) (hok : ok t.tr = true) (hat : yj (fun e => ki (mk t.tr) (mk e.k.tr)) (xe bs (zm (mk t.tr))) = -1) (hc : count < 4096) (hl : last ≤ 4611686018427387904) (hold : atK (zm (mk t.tr)) (bs.map Bk.en) = some ⟨zm (mk t.tr), .slice so xs.length ca, b0⟩) (hxl : xs.length ≤ 1000000) : Calls Tryz.prog 9 #[.pointer (some ⟨g, 0, none⟩), .agg (t.d.cells t.ts.length).toArray, .agg (v.d.cells v.ts.length).toArray] w fun e w' => e = .returned (.int .i64 0) ∧ ∃ so8 ca8, ∃ k2 v2 : Dt, ∃ F : List Ck, (k2.tr = t.tr ∧ v2.tr = v.tr ∧ Lives F k2 ∧ Lives F v2 ∧ jk F) ∧ Mg w0 w' (.obj g (.cells #[.int .i64 kind, .map (some m), .int .i64 (((count + 1 : Nat) : Int)), .int .i64 (((last + 1 : Nat) : Int))] 66) :: .obj m (zi (un (zm (mk t.tr)) (.slice so8 (xs.length + 1) ca8) (bs.map Bk.en)) ck) :: .row 74 23 (.slice so8 ((xs.length + 1)) ca8) ((xs.length + 1)) (zk Et.c (xs ++ [⟨last + 1, k2, v2⟩])) :: (F ++ X)) := by
 have M : Mg w0 w (.obj g (.cells #[.int .i64 kind, .map (some m), .int .i64 (((count : Nat) : Int)), .int .i64 (((last : Nat) : Int))] 66) :: .obj m (zi (bs.map Bk.en) ck) :: .row 74 23 (.slice so xs.length ca) xs.length (zk Et.c xs) :: X) := hM0
 refine qs (l := [(0, .pointer (some ⟨g, 0, none⟩)), (1, .agg (t.d.cells t.ts.length).toArray), (2, .agg (v.d.cells v.ts.length).toArray)]) Tryz.func9 rfl Tryz.ntmps9 rfl rfl ?_
 intro Q hret hnorm hP a A
 refine wsk fun K1 hK1 => wrl (zx (vs := (t.d.cells t.ts.length)) (t := 38) A M rfl rfl rfl pg (qr rfl rfl) (by decide) ?_)
 intro g2 w3 M a A
 refine zx (vs := (v.d.cells v.ts.length)) (t := 38) A M rfl rfl rfl pg (qr rfl rfl) (by decide) ?_
 intro g4 w5 M a A
 refine sda A λa A↦?_
 refine qa (hK1 _ _ (wsk fun K6 hK6 => wrl (sdm A λa A↦?_)))
 refine sdo A (qw M TeD_isS_38 rfl 1 rfl (cs := (t.d.cells t.ts.length)) rfl rfl) λa A↦?_
 refine sdo A (qw M TeD_isS_38 rfl 0 rfl (cs := (v.d.cells v.ts.length)) rfl rfl) λa A↦?_
 refine ui (e := 38) (sz := 11) (m := 1) (vs := cellsOf [v]) A M rfl rfl rfl (zh rfl (by kernel_rfl)) rfl rfl (.inl (by decide)) ?_
 intro g7 w8 M a A
 refine sct A (ef rfl rfl) (ym hK (hB _ (M.dropn 3)) (ht _ (M.dropn 6)) htb (hT.below M.bel) (ts := [v]) (qdh (ts := [v]) (M.has 0 rfl)).1 (fun u hu => by rw [List.mem_singleton.1 hu]; exact hv _ (M.dropn 6)) (by simp) hs (show ([v].any fun t => !qz qx t.tr) = false from by simp [hsv]) hok) ?_
 rintro _ w10 ⟨he8, hb9⟩
 rw [hat] at he8
 subst he8
 replace M := M.call hb9
 refine ⟨_, rfl, ?_⟩
 intro a A
 refine sdm A λa A↦?_
 iterate 2 refine sdo A (zd (vs := [.agg #[.int .u64 (zm (mk t.tr)), .int .i64 (-1)], .int .i64 0]) rfl rfl) λa A↦?_
 refine zx (vs := [.int .u64 0, .int .i64 0]) (t := 69) A M rfl rfl rfl pg (ql (z := .agg #[.int .u64 0, .int .i64 0]) (by kernel_rfl) rfl) (by decide) ?_
 intro g11 w12 M a A
 refine zr (us := [.int .u64 (zm (mk t.tr)), .int .i64 (-1)]) (L' := (.obj g11 (.cells #[.int .u64 (zm (mk t.tr)), .int .i64 (-1)] 69) :: .row 38 11 (.slice (some ⟨g7, 0, none⟩) 1 1) 1 (cellsOf [v]) :: .obj g4 (.cells (v.d.cells v.ts.length).toArray 38) :: .obj g2 (.cells (t.d.cells t.ts.length).toArray 38) :: .obj g (.cells #[.int .i64 kind, .map (some m), .int .i64 (((count : Nat) : Int)), .int .i64 (((last : Nat) : Int))] 66) :: .obj m (zi (bs.map Bk.en) ck) :: .row 74 23 (.slice so xs.length ca) xs.length (zk Et.c xs) :: X)) A M rfl rfl (za rfl rfl rfl (by kernel_rfl) M 0 rfl rfl rfl) 0 rfl rfl rfl ?_
 intro w13 M
 refine sda A λa A↦?_
 refine qa (hK6 _ _ (wsk fun K14 hK14 => wp_block (wsk fun K15 hK15 => wrl (sdm A λa A↦?_))))
 refine sdo (v := .bool false) A (qg rfl rfl (fun w => by kernel_rfl)) λa A↦?_
 refine sda A λa A↦?_
 refine qa (hK15 _ _ (wp_cond_false (A.ev rfl) ?_))
 refine wsk fun K16 hK16 => wrl (sdo A (qw M TeD_isS_69 rfl 0 rfl (cs := [.int .u64 (zm (mk t.tr)), .int .i64 (-1)]) rfl rfl) λa A↦?_)
 refine gcl A M (ef rfl rfl) (((show decide ((0 : Int) ≤ -1) = false from rfl) ▸ vh)) fun w17 hbt M a A => ?_
 refine sda A λa A↦?_
 refine qa (hK16 _ _ (wp_cond_false (A.ev rfl) ?_))
 refine wsk fun K18 hK18 => wrl (sdm A λa A↦?_)
 refine sdo A (zf rfl) λa A↦?_
 refine sdo (v := .pointer (some ⟨g, 2, none⟩)) A (qb TeD_fld_66_2 rfl rfl) λa A↦?_
 refine sdo A (qk M TeD_is1_3 rfl 4 rfl rfl) λa A↦?_
 refine sdo (v := .bool false) A (qg rfl rfl (fun w => (kp w).trans (by rw [show (decide (4096 ≤ ((count : Nat) : Int))) = false from (decide_eq_false (by omega))]))) λa A↦?_
 refine sda A λa A↦?_
 refine qa (hK18 _ _ (wp_cond_false (A.ev rfl) ?_))
 refine wrl (sdm A λa A↦?_)
 refine sdo (v := .pointer (some ⟨g11, 0, none⟩)) A (qb TeD_fld_69_0 rfl rfl) λa A↦?_
 refine sdo A (qk M TeD_is1_67 rfl 0 rfl rfl) λa A↦?_
 refine sdo A (qw M TeD_isS_38 rfl 3 rfl (cs := (t.d.cells t.ts.length)) rfl rfl) λa A↦?_
 refine sdo A (qw M TeD_isS_38 rfl 2 rfl (cs := (v.d.cells v.ts.length)) rfl rfl) λa A↦?_
 replace M := M.b6
 replace M := M.b6
 replace M := M.b6
 refine sct A (ef rfl rfl) (zta (X := (.obj g11 (.cells #[.int .u64 (zm (mk t.tr)), .int .i64 (-1)] 69) :: .row 38 11 (.slice (some ⟨g7, 0, none⟩) 1 1) 1 (cellsOf [v]) :: .obj g4 (.cells (v.d.cells v.ts.length).toArray 38) :: .obj g2 (.cells (t.d.cells t.ts.length).toArray 38) :: X)) (qf (by simp) (qf (by simp) (qf (by simp) (qf (by simp) hX)))) (by omega) hl hold rfl hxl (fun w9 h9 => ht w9 (h9.dropn 4)) (fun w9 h9 => hv w9 (h9.dropn 4)) htb hvb M) ?_
 rintro _ w19 ⟨rfl, so8, ca8, k2, v2, F9, hF9, hM9⟩
 replace M : Mg w0 w19 (.obj g (.cells #[.int .i64 kind, .map (some m), .int .i64 (((count + 1 : Nat) : Int)), .int .i64 (((last + 1 : Nat) : Int))] 66) :: .obj m (zi (un (zm (mk t.tr)) (.slice so8 (xs.length + 1) ca8) (bs.map Bk.en)) ck) :: .row 74 23 (.slice so8 ((xs.length + 1)) ca8) ((xs.length + 1)) (zk Et.c (xs ++ [⟨last + 1, k2, v2⟩])) :: (F9 ++ (.obj g11 (.cells #[.int .u64 (zm (mk t.tr)), .int .i64 (-1)] 69) :: .row 38 11 (.slice (some ⟨g7, 0, none⟩) 1 1) 1 (cellsOf [v]) :: .obj g4 (.cells (v.d.cells v.ts.length).toArray 38) :: .obj g2 (.cells (t.d.cells t.ts.length).toArray 38) :: X))) := hM9
 refine ⟨_, rfl, ?_⟩
 intro a A
 refine qa (hK14 _ _ (wsk fun K20 hK20 => wrl (sda A λa A↦?_)))
 refine qa (hK20 _ _ (wp_ret (hret _ _ (en1 A rfl (qj rfl) ?_))))
 replace M : Mg w0 w19 (.obj g (.cells #[.int .i64 kind, .map (some m), .int .i64 (((count + 1 : Nat) : Int)), .int .i64 (((last + 1 : Nat) : Int))] 66) :: .obj m (zi (un (zm (mk t.tr)) (.slice so8 (xs.length + 1) ca8) (bs.map Bk.en)) ck) :: .row 74 23 (.slice so8 ((xs.length + 1)) ca8) ((xs.length + 1)) (zk Et.c (xs ++ [⟨last + 1, k2, v2⟩])) :: (F9 ++ X)) := M.sub (.cons_cons _ (.cons_cons _ (.cons_cons _ ((List.Sublist.refl _).append (cn (cn (cn (cn (List.Sublist.refl _)))))))))
 exact ⟨rfl, so8, ca8, k2, v2, F9, hF9, M⟩
theorem ztc {kind : Int} {mk : Tr → Tr} {ok : Tr → Bool} (hK : Marks kind mk ok) {w0 w : World} {g m count last ck : Nat} {bs : List Bk} {X : List Ck} {gg ca b0 i : Nat} {xs : List Et} {e : Et} (hX : jk X) (hT : Tabs8 w0) (hB : ∀ w9, Mg w0 w9 (.obj g (.cells #[.int .i64 kind, .map (some m), .int .i64 (((count : Nat) : Int)), .int .i64 (((last : Nat) : Int))] 66) :: .obj m (zi (bs.map Bk.en) ck) :: .row 74 23 (.slice (some ⟨gg, 0, none⟩) xs.length ca) xs.length (zk Et.c xs) :: X) → Tab w9 ok g kind m count last ck bs) {t v : Dt} (ht : ∀ w9, Mg w0 w9 X → t.rd w9) (hv : ∀ w9, Mg w0 w9 X → v.rd w9) (htb : t.tr.bulk ≤ 4000000) (hvb : v.tr.bulk ≤ 4000000) (hM0 : Mg w0 w (.obj g (.cells #[.int .i64 kind, .map (some m), .int .i64 (((count : Nat) : Int)), .int .i64 (((last : Nat) : Int))] 66) :: .obj m (zi (bs.map Bk.en) ck) :: .row 74 23 (.slice (some ⟨gg, 0, none⟩) xs.length ca) xs.length (zk Et.c xs) :: X)) (hs : qz qx t.tr = true) (hsv : qz qx v.tr = true) (hok : ok t.tr = true) (hat : yj (fun e => ki (mk t.tr) (mk e.k.tr)) (xe bs (zm (mk t.tr))) = ((i : Nat) : Int)) (hold : atK (zm (mk t.tr)) (bs.map Bk.en) = some ⟨zm (mk t.tr), .slice (some ⟨gg, 0, none⟩) xs.length ca, b0⟩) (hie : xs[i]? = some e) : Calls Tryz.prog 9 #[.pointer (some ⟨g, 0, none⟩), .agg (t.d.cells t.ts.length).toArray, .agg (v.d.cells v.ts.length).toArray] w fun e_ w' => e_ = .returned (.int .i64 0) ∧ ∃ v2 : Dt, ∃ F : List Ck, (v2.tr = v.tr ∧ Lives F v2 ∧ jk F) ∧ Mg w0 w' (.obj g (.cells #[.int .i64 kind, .map (some m), .int .i64 (((count : Nat) : Int)), .int .i64 (((last : Nat) : Int))] 66) :: .obj m (zi (bs.map Bk.en) ck) :: .row 74 23 (.slice (some ⟨gg, 0, none⟩) xs.length ca) xs.length (zk Et.c (xs.set i ⟨e.p, e.k, v2⟩)) :: (F ++ X)) := by
 have hil := (List.getElem?_eq_some_iff.1 hie).1
 have M : Mg w0 w (.obj g (.cells #[.int .i64 kind, .map (some m), .int .i64 (((count : Nat) : Int)), .int .i64 (((last : Nat) : Int))] 66) :: .obj m (zi (bs.map Bk.en) ck) :: .row 74 23 (.slice (some ⟨gg, 0, none⟩) xs.length ca) xs.length (zk Et.c xs) :: X) := hM0
 refine qs (l := [(0, .pointer (some ⟨g, 0, none⟩)), (1, .agg (t.d.cells t.ts.length).toArray), (2, .agg (v.d.cells v.ts.length).toArray)]) Tryz.func9 rfl Tryz.ntmps9 rfl rfl ?_
 intro Q hret hnorm hP a A
 refine wsk fun K1 hK1 => wrl (zx (vs := (t.d.cells t.ts.length)) (t := 38) A M rfl rfl rfl pg (qr rfl rfl) (by decide) ?_)
 intro g2 w3 M a A
 refine zx (vs := (v.d.cells v.ts.length)) (t := 38) A M rfl rfl rfl pg (qr rfl rfl) (by decide) ?_
 intro g4 w5 M a A
 refine sda A λa A↦?_
 refine qa (hK1 _ _ (wsk fun K6 hK6 => wrl (sdm A λa A↦?_)))
 refine sdo A (qw M TeD_isS_38 rfl 1 rfl (cs := (t.d.cells t.ts.length)) rfl rfl) λa A↦?_
 refine sdo A (qw M TeD_isS_38 rfl 0 rfl (cs := (v.d.cells v.ts.length)) rfl rfl) λa A↦?_
 refine ui (e := 38) (sz := 11) (m := 1) (vs := cellsOf [v]) A M rfl rfl rfl (zh rfl (by kernel_rfl)) rfl rfl (.inl (by decide)) ?_
 intro g7 w8 M a A
 refine sct A (ef rfl rfl) (ym hK (hB _ (M.dropn 3)) (ht _ (M.dropn 6)) htb (hT.below M.bel) (ts := [v]) (qdh (ts := [v]) (M.has 0 rfl)).1 (fun u hu => by rw [List.mem_singleton.1 hu]; exact hv _ (M.dropn 6)) (by simp) hs (show ([v].any fun t => !qz qx t.tr) = false from by simp [hsv]) hok) ?_
 rintro _ w10 ⟨he8, hb9⟩
 rw [hat] at he8
 subst he8
 replace M := M.call hb9
 refine ⟨_, rfl, ?_⟩
 intro a A
 refine sdm A λa A↦?_
 iterate 2 refine sdo A (zd (vs := [.agg #[.int .u64 (zm (mk t.tr)), .int .i64 (((i : Nat) : Int))], .int .i64 0]) rfl rfl) λa A↦?_
 refine zx (vs := [.int .u64 0, .int .i64 0]) (t := 69) A M rfl rfl rfl pg (ql (z := .agg #[.int .u64 0, .int .i64 0]) (by kernel_rfl) rfl) (by decide) ?_
 intro g11 w12 M a A
 refine zr (us := [.int .u64 (zm (mk t.tr)), .int .i64 (((i : Nat) : Int))]) (L' := (.obj g11 (.cells #[.int .u64 (zm (mk t.tr)), .int .i64 (((i : Nat) : Int))] 69) :: .row 38 11 (.slice (some ⟨g7, 0, none⟩) 1 1) 1 (cellsOf [v]) :: .obj g4 (.cells (v.d.cells v.ts.length).toArray 38) :: .obj g2 (.cells (t.d.cells t.ts.length).toArray 38) :: .obj g (.cells #[.int .i64 kind, .map (some m), .int .i64 (((count : Nat) : Int)), .int .i64 (((last : Nat) : Int))] 66) :: .obj m (zi (bs.map Bk.en) ck) :: .row 74 23 (.slice (some ⟨gg, 0, none⟩) xs.length ca) xs.length (zk Et.c xs) :: X)) A M rfl rfl (za rfl rfl rfl (by kernel_rfl) M 0 rfl rfl rfl) 0 rfl rfl rfl ?_
 intro w13 M
 refine sda A λa A↦?_
 refine qa (hK6 _ _ (wsk fun K14 hK14 => wp_block (wsk fun K15 hK15 => wrl (sdm A λa A↦?_))))
 refine sdo (v := .bool false) A (qg rfl rfl (fun w => by kernel_rfl)) λa A↦?_
 refine sda A λa A↦?_
 refine qa (hK15 _ _ (wp_cond_false (A.ev rfl) ?_))
 refine wsk fun K16 hK16 => wrl (sdo A (qw M TeD_isS_69 rfl 0 rfl (cs := [.int .u64 (zm (mk t.tr)), .int .i64 (((i : Nat) : Int))]) rfl rfl) λa A↦?_)
 refine gcl A M (ef rfl rfl) (((show decide ((0 : Int) ≤ ((i : Nat) : Int)) = true from decide_eq_true (by omega)) ▸ vh)) fun w17 hbt M a A => ?_
 refine sda A λa A↦?_
 refine qa (hK16 _ _ (wp_cond_true (A.ev rfl) ?_))
 refine jh (S := fun w1 => Mg w0 w1 (.obj g11 (.cells #[.int .u64 (zm (mk t.tr)), .int .i64 (((i : Nat) : Int))] 69) :: .obj g4 (.cells (v.d.cells v.ts.length).toArray 38) :: .obj g (.cells #[.int .i64 kind, .map (some m), .int .i64 (((count : Nat) : Int)), .int .i64 (((last : Nat) : Int))] 66) :: [])) (by kernel_rfl) ?_
 replace M := M.drew
 refine qe A 0 rfl rfl rfl rfl hP (M.sub (cc (cn (cc (cn (cc (cn (cn (List.nil_sublist _))))))))) (fun w1 M => qp rfl) λa A↦?_
 refine qe A 1 rfl rfl rfl rfl hP (M.sub (cc (cn (cc (cn (cc (cn (cn (List.nil_sublist _))))))))) (fun w1 M => zf rfl) λa A↦?_
 refine qe (v := .pointer (some ⟨g, 1, none⟩)) A 2 rfl rfl rfl rfl hP (M.sub (cc (cn (cc (cn (cc (cn (cn (List.nil_sublist _))))))))) (fun w1 M => qb TeD_fld_66_1 rfl rfl) λa A↦?_
 refine qe A 3 rfl rfl rfl rfl hP (M.sub (cc (cn (cc (cn (cc (cn (cn (List.nil_sublist _))))))))) (fun w1 M => qk M TeD_is1_64 rfl 2 rfl rfl) λa A↦?_
 refine qe (v := .pointer (some ⟨g11, 0, none⟩)) A 4 rfl rfl rfl rfl hP (M.sub (cc (cn (cc (cn (cc (cn (cn (List.nil_sublist _))))))))) (fun w1 M => qb TeD_fld_69_0 rfl rfl) λa A↦?_
 refine qe A 5 rfl rfl rfl rfl hP (M.sub (cc (cn (cc (cn (cc (cn (cn (List.nil_sublist _))))))))) (fun w1 M => qk M TeD_is1_67 rfl 0 rfl rfl) λa A↦?_
 refine qe (v := .pointer (some ⟨g11, 1, none⟩)) A 7 rfl rfl rfl rfl hP (M.sub (cc (cn (cc (cn (cc (cn (cn (List.nil_sublist _))))))))) (fun w1 M => qb TeD_fld_69_1 rfl rfl) λa A↦?_
 refine qe A 8 rfl rfl rfl rfl hP (M.sub (cc (cn (cc (cn (cc (cn (cn (List.nil_sublist _))))))))) (fun w1 M => qk M TeD_is1_3 rfl 0 rfl rfl) λa A↦?_
 refine qe A 9 rfl rfl rfl rfl hP (M.sub (cc (cn (cc (cn (cc (cn (cn (List.nil_sublist _))))))))) (fun w1 M => qw M TeD_isS_38 rfl 1 rfl (cs := (v.d.cells v.ts.length)) rfl rfl) λa A↦?_
 refine jn (rs := [6, 10]) (by kernel_rfl) (by simp) ⟨?_, ?_, trivial⟩
 ·
  refine xz (v := .slice (some ⟨gg, 0, none⟩) xs.length ca) A 6 rfl rfl rfl rfl (ug M Tryz.underlying64 Tryz.underlying67 rfl rfl 5 rfl hold rfl) (M.sub (cc (cn (cc (cn (cc (cn (cn (List.nil_sublist _))))))))) λa A↦?_
  have hz23 := M.bel.size
  refine qh (by kernel_rfl) (qn A 10 rfl rfl rfl rfl (qi rfl rfl (fun w => by kernel_rfl)) (ju v (hv _ (M.dropn 7)) (by omega)) ?_)
  rintro _ w24 ⟨c18, rfl, ⟨hcr19, hco21, hct20⟩, hb22⟩
  replace M : Mg w0 w24 (.obj g11 (.cells #[.int .u64 (zm (mk t.tr)), .int .i64 (((i : Nat) : Int))] 69) :: .row 38 11 (.slice (some ⟨g7, 0, none⟩) 1 1) 1 (cellsOf [v]) :: .obj g4 (.cells (v.d.cells v.ts.length).toArray 38) :: .obj g2 (.cells (t.d.cells t.ts.length).toArray 38) :: .obj g (.cells #[.int .i64 kind, .map (some m), .int .i64 (((count : Nat) : Int)), .int .i64 (((last : Nat) : Int))] 66) :: .obj m (zi (bs.map Bk.en) ck) :: .row 74 23 (.slice (some ⟨gg, 0, none⟩) xs.length ca) xs.length (zk Et.c xs) :: (made w17.drew w24 ++ X)) := M.freezeAt 7 (qf (by simp) (qf (by simp) (qf (by simp) (qf (by simp) (qf (by simp) (qf (by simp) (qf (by simp) hX))))))) hb22
  have hLc18 := jt hcr19 hco21
  replace hco21 := Dt.at_mono (fun b hb => Nat.le_trans hz23 hb) _ hco21
  refine ⟨_, rfl, (M.sub (cc (cn (cc (cn (cc (cn (cn (List.nil_sublist _))))))))), ?_⟩
  intro a A
  refine qe (v := .pointer (some ⟨gg, i * 23, none⟩)) A 11 rfl rfl rfl rfl hP (M.sub (cc (cn (cc (cn (cc (cn (cn (List.nil_sublist _))))))))) (fun w1 M => zt (k := i) Tryz.underlying75 (by kernel_rfl) rfl rfl rfl (by omega)) λa A↦?_
  refine qe (v := .pointer (some ⟨gg, i * 23 + 12, none⟩)) A 12 rfl rfl rfl rfl hP (M.sub (cc (cn (cc (cn (cc (cn (cn (List.nil_sublist _))))))))) (fun w1 M => qb TeD_fld_74_2 rfl rfl) λa A↦?_
  refine qh (by kernel_rfl) (qtg (cs := (c18.d.cells c18.ts.length)) (L' := (.obj g11 (.cells #[.int .u64 (zm (mk t.tr)), .int .i64 (((i : Nat) : Int))] 69) :: .row 38 11 (.slice (some ⟨g7, 0, none⟩) 1 1) 1 (cellsOf [v]) :: .obj g4 (.cells (v.d.cells v.ts.length).toArray 38) :: .obj g2 (.cells (t.d.cells t.ts.length).toArray 38) :: .obj g (.cells #[.int .i64 kind, .map (some m), .int .i64 (((count : Nat) : Int)), .int .i64 (((last : Nat) : Int))] 66) :: .obj m (zi (bs.map Bk.en) ck) :: .row 74 23 (.slice (some ⟨gg, 0, none⟩) xs.length ca) xs.length (over (zk Et.c xs) (i * 23 + 12) (c18.d.cells c18.ts.length)) :: (made w17.drew w24 ++ X))) (us := []) A M 13 rfl rfl rfl (xv rfl rfl rfl (by kernel_rfl) M 6 rfl (by show i * 23 + 12 + 11 ≤ _; omega) (vv c18)) 6 rfl rfl ?_)
  intro w25 M
  replace M : Mg w0 w25 (.obj g11 (.cells #[.int .u64 (zm (mk t.tr)), .int .i64 (((i : Nat) : Int))] 69) :: .row 38 11 (.slice (some ⟨g7, 0, none⟩) 1 1) 1 (cellsOf [v]) :: .obj g4 (.cells (v.d.cells v.ts.length).toArray 38) :: .obj g2 (.cells (t.d.cells t.ts.length).toArray 38) :: .obj g (.cells #[.int .i64 kind, .map (some m), .int .i64 (((count : Nat) : Int)), .int .i64 (((last : Nat) : Int))] 66) :: .obj m (zi (bs.map Bk.en) ck) :: .row 74 23 (.slice (some ⟨gg, 0, none⟩) xs.length ca) xs.length (zk Et.c (xs.set i ⟨e.p, e.k, c18⟩)) :: (made w17.drew w24 ++ X)) := by rw [znh hie] at M; exact M
  refine ⟨(M.sub (cc (cn (cc (cn (cc (cn (cn (List.nil_sublist _))))))))), ?_⟩
  refine ze (by kernel_rfl) ?_
  refine hK14 _ _ (wsk fun K26 hK26 => wrl (sda A λa A↦?_))
  refine qa (hK26 _ _ (wp_ret (hret _ _ (en1 A rfl (qj rfl) ?_))))
  replace M := M.b6
  replace M := M.b6
  replace M := M.b6
  replace M := M.sub (cc (cc (cc (cn (cn (cn (cn (.refl _))))))))
  exact ⟨rfl, c18, _, ⟨hct20, hLc18, ja⟩, M⟩
 ·
  have hz32 := M.bel.size
  refine qn A 10 rfl rfl rfl rfl (qi rfl rfl (fun w => by kernel_rfl)) (ju v (hv _ (M.dropn 7)) (by omega)) ?_
  rintro _ w33 ⟨c27, rfl, ⟨hcr28, hco30, hct29⟩, hb31⟩
  replace M : Mg w0 w33 (.obj g11 (.cells #[.int .u64 (zm (mk t.tr)), .int .i64 (((i : Nat) : Int))] 69) :: .row 38 11 (.slice (some ⟨g7, 0, none⟩) 1 1) 1 (cellsOf [v]) :: .obj g4 (.cells (v.d.cells v.ts.length).toArray 38) :: .obj g2 (.cells (t.d.cells t.ts.length).toArray 38) :: .obj g (.cells #[.int .i64 kind, .map (some m), .int .i64 (((count : Nat) : Int)), .int .i64 (((last : Nat) : Int))] 66) :: .obj m (zi (bs.map Bk.en) ck) :: .row 74 23 (.slice (some ⟨gg, 0, none⟩) xs.length ca) xs.length (zk Et.c xs) :: (made w17.drew w33 ++ X)) := M.freezeAt 7 (qf (by simp) (qf (by simp) (qf (by simp) (qf (by simp) (qf (by simp) (qf (by simp) (qf (by simp) hX))))))) hb31
  have hLc27 := jt hcr28 hco30
  replace hco30 := Dt.at_mono (fun b hb => Nat.le_trans hz32 hb) _ hco30
  refine ⟨_, rfl, (M.sub (cc (cn (cc (cn (cc (cn (cn (List.nil_sublist _))))))))), ?_⟩
  intro a A
  refine qh (by kernel_rfl) (xz (v := .slice (some ⟨gg, 0, none⟩) xs.length ca) A 6 rfl rfl rfl rfl (ug M Tryz.underlying64 Tryz.underlying67 rfl rfl 5 rfl hold rfl) (M.sub (cc (cn (cc (cn (cc (cn (cn (List.nil_sublist _))))))))) ?_)
  intro a A
  refine qe (v := .pointer (some ⟨gg, i * 23, none⟩)) A 11 rfl rfl rfl rfl hP (M.sub (cc (cn (cc (cn (cc (cn (cn (List.nil_sublist _))))))))) (fun w1 M => zt (k := i) Tryz.underlying75 (by kernel_rfl) rfl rfl rfl (by omega)) λa A↦?_
  refine qe (v := .pointer (some ⟨gg, i * 23 + 12, none⟩)) A 12 rfl rfl rfl rfl hP (M.sub (cc (cn (cc (cn (cc (cn (cn (List.nil_sublist _))))))))) (fun w1 M => qb TeD_fld_74_2 rfl rfl) λa A↦?_
  refine qh (by kernel_rfl) (qtg (cs := (c27.d.cells c27.ts.length)) (L' := (.obj g11 (.cells #[.int .u64 (zm (mk t.tr)), .int .i64 (((i : Nat) : Int))] 69) :: .row 38 11 (.slice (some ⟨g7, 0, none⟩) 1 1) 1 (cellsOf [v]) :: .obj g4 (.cells (v.d.cells v.ts.length).toArray 38) :: .obj g2 (.cells (t.d.cells t.ts.length).toArray 38) :: .obj g (.cells #[.int .i64 kind, .map (some m), .int .i64 (((count : Nat) : Int)), .int .i64 (((last : Nat) : Int))] 66) :: .obj m (zi (bs.map Bk.en) ck) :: .row 74 23 (.slice (some ⟨gg, 0, none⟩) xs.length ca) xs.length (over (zk Et.c xs) (i * 23 + 12) (c27.d.cells c27.ts.length)) :: (made w17.drew w33 ++ X))) (us := []) A M 13 rfl rfl rfl (xv rfl rfl rfl (by kernel_rfl) M 6 rfl (by show i * 23 + 12 + 11 ≤ _; omega) (vv c27)) 6 rfl rfl ?_)
  intro w34 M
  replace M : Mg w0 w34 (.obj g11 (.cells #[.int .u64 (zm (mk t.tr)), .int .i64 (((i : Nat) : Int))] 69) :: .row 38 11 (.slice (some ⟨g7, 0, none⟩) 1 1) 1 (cellsOf [v]) :: .obj g4 (.cells (v.d.cells v.ts.length).toArray 38) :: .obj g2 (.cells (t.d.cells t.ts.length).toArray 38) :: .obj g (.cells #[.int .i64 kind, .map (some m), .int .i64 (((count : Nat) : Int)), .int .i64 (((last : Nat) : Int))] 66) :: .obj m (zi (bs.map Bk.en) ck) :: .row 74 23 (.slice (some ⟨gg, 0, none⟩) xs.length ca) xs.length (zk Et.c (xs.set i ⟨e.p, e.k, c27⟩)) :: (made w17.drew w33 ++ X)) := by rw [znh hie] at M; exact M
  refine ⟨(M.sub (cc (cn (cc (cn (cc (cn (cn (List.nil_sublist _))))))))), ?_⟩
  refine ze (by kernel_rfl) ?_
  refine hK14 _ _ (wsk fun K35 hK35 => wrl (sda A λa A↦?_))
  refine qa (hK35 _ _ (wp_ret (hret _ _ (en1 A rfl (qj rfl) ?_))))
  replace M := M.b6
  replace M := M.b6
  replace M := M.b6
  replace M := M.sub (cc (cc (cc (cn (cn (cn (cn (.refl _))))))))
  exact ⟨rfl, c27, _, ⟨hct29, hLc27, ja⟩, M⟩
/-- Two sound and good trees are equal just if they are one. -/
theorem zni {t u : Tr} (h1 : qz qx t = true) (h2 : qz qx u = true) (g1 : t.good) (g2 : u.good) : ki t u = true ↔ t = u := by
  unfold ki
  rw [h1, h2, Bool.and_self, Bool.true_and, decide_eq_true_eq]
  exact ⟨zfc t g1 u g2, fun e => e ▸ zej t⟩
/-- A table's state. -/
structure TS where
  m : Nat
  count : Nat
  last : Nat
  ck : Nat
  bs : List Bk
  T : List Ck
def jc (bs : List Bk) : List Et := bs.flatMap Bk.es
/-- What is so of an entry. -/
structure EtOk (mk : Tr → Tr) (ok : Tr → Bool) (T : List Ck) (last : Nat) (h : Int) (e : Et) : Prop where
  lk : Lives T e.k
  lv : Lives T e.v
  bk : e.k.tr.bulk ≤ 4000000
  bv : e.v.tr.bulk ≤ 4000000
  ok : ok e.k.tr = true
  ms : qz qx (mk e.k.tr) = true
  mg : (mk e.k.tr).good
  hh : zm (mk e.k.tr) = h
  pl : e.p ≤ last
theorem EtOk.mono {mk : Tr → Tr} {ok : Tr → Bool} {T T' : List Ck} {last last' : Nat} {h : Int} {e : Et} (k : EtOk mk ok T last h e) (hs : T.Sublist T') (hl : last ≤ last') : EtOk mk ok T' last' h e := { k with lk := k.lk.sub hs, lv := k.lv.sub hs, pl := Nat.le_trans k.pl hl }
/-- What is so of a table. -/
structure TOk (mk : Tr → Tr) (ok : Tr → Bool) (s : TS) : Prop where
  nb : jk s.T
  ent : ∀ x ∈ s.bs, ∀ e ∈ x.es, EtOk mk ok s.T s.last x.h e
  ne : ∀ x ∈ s.bs, x.es ≠ []
  hd : s.bs.Pairwise fun x y => x.h ≠ y.h
  sd : s.bs.Pairwise fun x y => x.b ≠ y.b
  sl : ∀ x ∈ s.bs, x.b < s.ck
  md : (jc s.bs).Pairwise fun a b => mk a.k.tr ≠ mk b.k.tr
  pd : (jc s.bs).Pairwise fun a b => a.p ≠ b.p
  cn : s.count = (jc s.bs).length
theorem qfj {bs : List Bk} {e : Et} : e ∈ jc bs ↔ ∃ x ∈ bs, e ∈ x.es := List.mem_flatMap
theorem kf (A B : List Bk) (x : Bk) : jc (A ++ x :: B) = jc A ++ (x.es ++ jc B) := by unfold jc; rw [List.flatMap_append, List.flatMap_cons]
theorem znj {bs : List Bk} {x : Bk} (h : x ∈ bs) : x.es.length ≤ (jc bs).length := by
  obtain ⟨A, B, rfl⟩ := List.append_of_mem h
  rw [kf, List.length_append, List.length_append]; omega
theorem TOk.len {mk : Tr → Tr} {ok : Tr → Bool} {s : TS} (h : TOk mk ok s) {x : Bk} (hx : x ∈ s.bs) : x.es.length ≤ s.count := by rw [h.cn]; exact znj hx
/-- The question that is asked of entries. -/
def isM (mk : Tr → Tr) (μ : Tr) (e : Et) : Bool := ki μ (mk e.k.tr)
theorem qta {mk : Tr → Tr} {ok : Tr → Bool} {T : List Ck} {last : Nat} {h : Int} {e : Et} (k : EtOk mk ok T last h e) {μ : Tr} (h1 : qz qx μ = true) (h2 : μ.good) : isM mk μ e = true ↔ μ = mk e.k.tr := zni h1 k.ms h2 k.mg
/-- A mark that is there. -/
theorem qga {mk : Tr → Tr} {ok : Tr → Bool} {s : TS} (h : TOk mk ok s) {μ : Tr} (h1 : qz qx μ = true) (h2 : μ.good) {e : Et} (he : e ∈ jc s.bs) (hm : mk e.k.tr = μ) :
    ∃ A x B, ∃ i : Nat, s.bs = A ++ x :: B ∧ x.h = zm μ ∧ (∀ y ∈ A, y.h ≠ x.h) ∧ x.es[i]? = some e ∧ xe s.bs (zm μ) = x.es ∧ yj (fun e => ki μ (mk e.k.tr)) x.es = ((i : Nat) : Int) := by
  obtain ⟨x, hx, hex⟩ := qfj.1 he
  obtain ⟨A, B, hs⟩ := List.append_of_mem hx
  have hk := h.ent x hx e hex
  have hh : x.h = zm μ := by rw [← hm, hk.hh]
  have hA : ∀ y ∈ A, y.h ≠ x.h := by
    have := h.hd
    rw [hs, List.pairwise_append] at this
    exact fun y hy => this.2.2 y hy x List.mem_cons_self
  obtain ⟨i, hi⟩ := List.mem_iff_getElem?.1 hex
  refine ⟨A, x, B, i, hs, hh, hA, hi, ?_, ?_⟩
  · have hf : s.bs.find? (fun y => decide (y.h = zm μ)) = some x := by
      rw [hs, List.find?_append, List.find?_eq_none.2 (fun y hy => by rw [← hh]; simpa using hA y hy)]
      simp [hh]
    unfold xe; rw [hf]
  · refine qve (fun j u hj hu => ?_) hi ?_
    · have hu1 := List.mem_of_getElem? hu
      have := qta (h.ent x hx u hu1) h1 h2
      unfold isM at this
      refine Bool.eq_false_iff.2 fun e0 => ?_
      have e1 := this.1 e0
      have hp : x.es.Pairwise fun a b => mk a.k.tr ≠ mk b.k.tr := by
        have := h.md
        rw [hs, kf, List.pairwise_append, List.pairwise_append] at this
        exact this.2.1.1
      rw [List.pairwise_iff_getElem] at hp
      obtain ⟨a1, a2⟩ := List.getElem?_eq_some_iff.1 hu
      obtain ⟨b1, b2⟩ := List.getElem?_eq_some_iff.1 hi
      have := hp j i a1 b1 hj
      rw [a2, b2] at this
      exact this (by rw [← e1, hm])
    · have := qta hk h1 h2
      unfold isM at this
      exact this.2 hm.symm
/-- A mark that is not: the hash has no entries .. -/
theorem qid {s : TS} {μ : Tr} (hf : s.bs.find? (fun y => decide (y.h = zm μ)) = none) (p : Et → Bool) : yj p (xe s.bs (zm μ)) = -1 ∧ atK (zm μ) (s.bs.map Bk.en) = none := by
  refine ⟨by unfold xe; rw [hf]; rfl, by rw [qff, hf]; rfl⟩
/-- .. or others. -/
theorem qie {mk : Tr → Tr} {ok : Tr → Bool} {s : TS} (h : TOk mk ok s) {μ : Tr} (h1 : qz qx μ = true) (h2 : μ.good) (hn : ∀ e ∈ jc s.bs, mk e.k.tr ≠ μ) {x : Bk} (hf : s.bs.find? (fun y => decide (y.h = zm μ)) = some x) :
    ∃ A B, s.bs = A ++ x :: B ∧ x.h = zm μ ∧ (∀ y ∈ A, y.h ≠ x.h) ∧ xe s.bs (zm μ) = x.es ∧ yj (fun e => ki μ (mk e.k.tr)) x.es = -1 := by
  obtain ⟨A, B, hs, hh, hA⟩ := zld hf
  have hx := List.mem_of_find?_eq_some hf
  refine ⟨A, B, hs, hh, fun y hy => by rw [hh]; exact hA y hy, by unfold xe; rw [hf], qpc fun j u hj hu => ?_⟩
  have hu1 := List.mem_of_getElem? hu
  have := qta (h.ent x hx u hu1) h1 h2
  unfold isM at this
  exact Bool.eq_false_iff.2 fun e0 => hn u (qfj.2 ⟨x, hx, hu1⟩) (this.1 e0).symm
open Classical
def Et.kv (e : Et) : Tr × Tr := (e.k.tr, e.v.tr)
/-- A table's entries hold these pairs, in this order. -/
def Holds (es : List Et) (A : List (Tr × Tr)) : Prop := ∃ L : List Et, L.Perm es ∧ L.Pairwise (fun a b => a.p < b.p) ∧ A = L.map Et.kv
theorem Holds.perm {es es' : List Et} {A : List (Tr × Tr)} (h : Holds es A) (hp : es.Perm es') : Holds es' A := by
  obtain ⟨L, h1, h2, h3⟩ := h
  exact ⟨L, h1.trans hp, h2, h3⟩
theorem Holds.len {es : List Et} {A : List (Tr × Tr)} (h : Holds es A) : A.length = es.length := by
  obtain ⟨L, h1, h2, rfl⟩ := h
  rw [List.length_map, h1.length_eq]
theorem Holds.nil : Holds [] [] := ⟨[], .refl _, .nil, rfl⟩
theorem Holds.mem {es : List Et} {A : List (Tr × Tr)} (h : Holds es A) {a : Tr × Tr} : a ∈ A ↔ ∃ e ∈ es, e.kv = a := by
  obtain ⟨L, h1, h2, rfl⟩ := h
  rw [List.mem_map]
  exact ⟨fun ⟨e, he, h⟩ => ⟨e, h1.mem_iff.1 he, h⟩, fun ⟨e, he, h⟩ => ⟨e, h1.mem_iff.2 he, h⟩⟩
theorem zgj {es : List Et} {A : List (Tr × Tr)} (h : Holds es A) {n : Et} (hn : ∀ e ∈ es, e.p < n.p) : Holds (es ++ [n]) (A ++ [n.kv]) := by
  obtain ⟨L, h1, h2, rfl⟩ := h
  refine ⟨L ++ [n], h1.append_right _, List.pairwise_append.2 ⟨h2, by simp, fun a ha b hb => ?_⟩, by simp⟩
  rw [List.mem_singleton.1 hb]
  exact hn a (h1.mem_iff.1 ha)
section
variable {mk : Tr → Tr} {P Q : List Et} {e : Et} (hp : (P ++ e :: Q).Pairwise fun a b => a.p ≠ b.p) (hm : (P ++ e :: Q).Pairwise fun a b => mk a.k.tr ≠ mk b.k.tr)
include hp in
theorem zvf : ∀ d ∈ P ++ Q, d.p ≠ e.p := by
  rw [List.pairwise_append] at hp
  obtain ⟨h1, h2, h3⟩ := hp
  rw [List.pairwise_cons] at h2
  intro d hd
  rcases List.mem_append.1 hd with k | k
  · exact h3 d k e List.mem_cons_self
  · exact (h2.1 d k).symm
include hm in
theorem zvg : ∀ d ∈ P ++ Q, mk d.k.tr ≠ mk e.k.tr := by
  rw [List.pairwise_append] at hm
  obtain ⟨h1, h2, h3⟩ := hm
  rw [List.pairwise_cons] at h2
  intro d hd
  rcases List.mem_append.1 hd with k | k
  · exact h3 d k e List.mem_cons_self
  · exact (h2.1 d k).symm
include hp hm in
/-- An entry's value is changed. -/
theorem zha {A : List (Tr × Tr)} (h : Holds (P ++ e :: Q) A) (v : Dt) : Holds (P ++ ⟨e.p, e.k, v⟩ :: Q) (A.map fun a => if mk a.1 = mk e.k.tr then (a.1, v.tr) else a) := by
  obtain ⟨L, h1, h2, rfl⟩ := h
  have a1 := zvf hp
  have a2 := zvg hm
  let f : Et → Et := fun d => if d.p = e.p then ⟨e.p, e.k, v⟩ else d
  have fp : ∀ d, (f d).p = d.p := fun d => by
    show (if d.p = e.p then (⟨e.p, e.k, v⟩ : Et) else d).p = d.p
    split
    · rename_i h; exact h.symm
    · rfl
  have keep : ∀ (M : List Et), (∀ d ∈ M, d.p ≠ e.p) → M.map f = M := fun M hM => by
    rw [List.map_congr_left (f := f) (g := id) (fun d hd => if_neg (hM d hd)), List.map_id]
  refine ⟨L.map f, (h1.map f).trans ?_, ?_, ?_⟩
  · rw [List.map_append, List.map_cons, keep P (fun d hd => a1 d (List.mem_append_left _ hd)), keep Q (fun d hd => a1 d (List.mem_append_right _ hd)), show f e = ⟨e.p, e.k, v⟩ from if_pos rfl]
  · rw [List.pairwise_map]
    exact h2.imp fun h => by rw [fp, fp]; exact h
  · rw [List.map_map, List.map_map]
    refine List.map_congr_left fun d hd => ?_
    show (if mk d.k.tr = mk e.k.tr then (d.k.tr, v.tr) else d.kv) = (f d).kv
    have hd' := h1.mem_iff.1 hd
    by_cases hde : d = e
    · subst hde
      rw [if_pos rfl, show f d = ⟨d.p, d.k, v⟩ from if_pos rfl]; rfl
    · have hd2 : d ∈ P ++ Q := by
        rcases List.mem_append.1 hd' with k | k
        · exact List.mem_append_left _ k
        · rcases List.mem_cons.1 k with k | k
          · exact absurd k hde
          · exact List.mem_append_right _ k
      rw [if_neg (a2 d hd2), show f d = d from if_neg (a1 d hd2)]
include hp hm in
/-- An entry goes. -/
theorem zhb {A : List (Tr × Tr)} (h : Holds (P ++ e :: Q) A) : Holds (P ++ Q) (A.filter fun a => decide (mk a.1 ≠ mk e.k.tr)) := by
  obtain ⟨L, h1, h2, rfl⟩ := h
  have a1 := zvf hp
  have a2 := zvg hm
  have key : ∀ d ∈ P ++ e :: Q, decide (mk d.k.tr ≠ mk e.k.tr) = decide (d.p ≠ e.p) := fun d hd' => by
    by_cases hde : d = e
    · subst hde; simp
    · have hd2 : d ∈ P ++ Q := by
        rcases List.mem_append.1 hd' with k | k
        · exact List.mem_append_left _ k
        · rcases List.mem_cons.1 k with k | k
          · exact absurd k hde
          · exact List.mem_append_right _ k
      rw [decide_eq_true (a2 d hd2), decide_eq_true (a1 d hd2)]
  refine ⟨L.filter fun d => decide (d.p ≠ e.p), (h1.filter _).trans ?_, h2.filter _, ?_⟩
  · rw [List.filter_append, List.filter_cons, if_neg (by simp), List.filter_eq_self.2 (fun d hd => decide_eq_true (a1 d (List.mem_append_left _ hd))), List.filter_eq_self.2 (fun d hd => decide_eq_true (a1 d (List.mem_append_right _ hd)))]
  · rw [List.filter_map]
    congr 1
    exact List.filter_congr fun d hd => key d (h1.mem_iff.1 hd)
end
theorem zhc {α : Type} {l : List α} {i : Nat} {e : α} (h : l[i]? = some e) : ∃ P Q, l = P ++ e :: Q ∧ P.length = i ∧ ∀ e', l.set i e' = P ++ e' :: Q := by
  obtain ⟨hi, rfl⟩ := List.getElem?_eq_some_iff.1 h
  refine ⟨l.take i, l.drop (i + 1), ?_, ?_, fun e' => ?_⟩
  · rw [← List.drop_eq_getElem_cons hi, List.take_append_drop]
  · rw [List.length_take]; omega
  · rw [List.set_eq_take_append_cons_drop, if_pos hi]
theorem qbf {α β : Type} {f : α → β} {l l' : List α} (h : l.Pairwise fun a b => f a ≠ f b) (e : l'.map f = l.map f) : l'.Pairwise fun a b => f a ≠ f b := by
  have h1 : (l.map f).Pairwise (· ≠ ·) := List.pairwise_map.2 h
  rw [← e] at h1
  exact List.pairwise_map.1 h1
theorem zdd {α β : Type} {f : α → β} {l l' : List α} {n : α} (h : l.Pairwise fun a b => f a ≠ f b) (hn : ∀ a ∈ l, f a ≠ f n) (hp : l'.Perm (l ++ [n])) : l'.Pairwise fun a b => f a ≠ f b := by
  refine (hp.pairwise_iff (fun h => h.symm)).2 (List.pairwise_append.2 ⟨h, by simp, fun a ha b hb => ?_⟩)
  rw [List.mem_singleton.1 hb]; exact hn a ha
/-- A pair's value is set. -/
noncomputable def qnb (mk : Tr → Tr) (t v : Tr) (A : List (Tr × Tr)) : List (Tr × Tr) := if ∃ a ∈ A, mk a.1 = mk t then A.map fun a => if mk a.1 = mk t then (a.1, v) else a else A ++ [(t, v)]
/-- A pair goes. -/
noncomputable def qwe (mk : Tr → Tr) (t : Tr) (A : List (Tr × Tr)) : List (Tr × Tr) := A.filter fun a => decide (mk a.1 ≠ mk t)
section
variable {mk : Tr → Tr} {ok : Tr → Bool} {s : TS} (h : TOk mk ok s) {A B : List Bk} {xh : Int} {so so' : Option Addr} {ca ca' xb : Nat} {xes : List Et} (hs : s.bs = A ++ ⟨xh, so, ca, xes, xb⟩ :: B) {F : List Ck} (hF : jk F)
include hs in
theorem qgb : (∀ y ∈ A, y ∈ s.bs) ∧ (∀ y ∈ B, y ∈ s.bs) ∧ (⟨xh, so, ca, xes, xb⟩ : Bk) ∈ s.bs := by
  rw [hs]; exact ⟨fun y hy => by simp [hy], fun y hy => by simp [hy], by simp⟩
/-- The state behind a value that is changed. -/
def TS.hit (s : TS) (A B : List Bk) (xh : Int) (so : Option Addr) (ca xb : Nat) (xes : List Et) (F : List Ck) : TS := { s with bs := A ++ ⟨xh, so, ca, xes, xb⟩ :: B, T := F ++ s.T }
include h hs hF in
theorem ztd {i : Nat} {e : Et} (hi : xes[i]? = some e) {v v2 : Dt} (h2 : v2.tr = v.tr) (hv : v.tr.bulk ≤ 4000000) (hL : Lives F v2) : TOk mk ok (s.hit A B xh so ca xb (xes.set i ⟨e.p, e.k, v2⟩) F) ∧ ∀ A0, Holds (jc s.bs) A0 → ∀ t, mk t = mk e.k.tr → Holds (jc (s.hit A B xh so ca xb (xes.set i ⟨e.p, e.k, v2⟩) F).bs) (qnb mk t v.tr A0) := by
  obtain ⟨P, Q, hx, hl, hset⟩ := zhc hi
  obtain ⟨hA, hB, hX⟩ := qgb hs
  rw [hset]
  have f1 : jc s.bs = (jc A ++ P) ++ e :: (Q ++ jc B) := by rw [hs, kf]; show jc A ++ (xes ++ jc B) = _; rw [hx]; simp
  have f2 : jc (s.hit A B xh so ca xb (P ++ ⟨e.p, e.k, v2⟩ :: Q) F).bs = (jc A ++ P) ++ ⟨e.p, e.k, v2⟩ :: (Q ++ jc B) := by
    show jc (A ++ ⟨xh, so, ca, P ++ ⟨e.p, e.k, v2⟩ :: Q, xb⟩ :: B) = _
    rw [kf]; simp
  have hmem : ∀ d, d ∈ P ++ (⟨e.p, e.k, v2⟩ : Et) :: Q → d = ⟨e.p, e.k, v2⟩ ∨ d ∈ xes := fun d hd => by
    rw [hx]
    rcases List.mem_append.1 hd with k | k
    · exact .inr (by simp [k])
    · rcases List.mem_cons.1 k with k | k
      · exact .inl k
      · exact .inr (by simp [k])
  have hsub : s.T.Sublist (F ++ s.T) := List.sublist_append_right _ _
  refine ⟨⟨jb hF h.nb, fun y hy d hd => ?_, fun y hy => ?_, ?_, ?_, fun y hy => ?_, ?_, ?_, ?_⟩, fun A0 hA0 t ht => ?_⟩
  · rcases List.mem_append.1 hy with k | k
    · exact (h.ent y (hA y k) d hd).mono hsub (Nat.le_refl _)
    · rcases List.mem_cons.1 k with k | k
      · subst k
        rcases hmem d hd with k | k
        · subst k
          have := (h.ent _ hX e (List.mem_of_getElem? hi)).mono hsub (Nat.le_refl _)
          exact { this with lv := hL.front _, bv := by show v2.tr.bulk ≤ _; rw [h2]; exact hv }
        · exact (h.ent _ hX d k).mono hsub (Nat.le_refl _)
      · exact (h.ent y (hB y k) d hd).mono hsub (Nat.le_refl _)
  · rcases List.mem_append.1 hy with k | k
    · exact h.ne y (hA y k)
    · rcases List.mem_cons.1 k with k | k
      · subst k; simp
      · exact h.ne y (hB y k)
  · exact qbf (f := Bk.h) h.hd (by rw [hs]; simp [TS.hit])
  · exact qbf (f := Bk.b) h.sd (by rw [hs]; simp [TS.hit])
  · rcases List.mem_append.1 hy with k | k
    · exact h.sl y (hA y k)
    · rcases List.mem_cons.1 k with k | k
      · subst k; exact (h.sl _ hX : xb < s.ck)
      · exact h.sl y (hB y k)
  · exact qbf (f := fun a : Et => mk a.k.tr) h.md (by rw [f1, f2]; simp)
  · exact qbf (f := Et.p) h.pd (by rw [f1, f2]; simp)
  · show s.count = _
    rw [f2, h.cn, f1]; simp
  · have hp := h.pd
    have hm := h.md
    rw [f1] at hp hm hA0
    have := zha hp hm hA0 v2
    rw [f2]
    unfold qnb
    have hex : ∃ a ∈ A0, mk a.1 = mk t := ⟨e.kv, hA0.mem.2 ⟨e, by simp, rfl⟩, ht.symm⟩
    rw [if_pos hex, ht, ← h2]; exact this
/-- The state behind a key that has come. -/
def TS.came (s : TS) (bs : List Bk) (ck : Nat) (F : List Ck) : TS := ⟨s.m, s.count + 1, s.last + 1, ck, bs, F ++ s.T⟩
include h in
theorem zoa {d : Et} (hd : d ∈ jc s.bs) : d.p < s.last + 1 := by
  obtain ⟨x, hx, he⟩ := qfj.1 hd
  have := (h.ent x hx d he).pl; omega
/-- Buckets to which an entry has come. -/
structure CameOk (mk : Tr → Tr) (ok : Tr → Bool) (s : TS) (bs : List Bk) (ck : Nat) (z : Int) (n : Et) : Prop where
  pm : (jc bs).Perm (jc s.bs ++ [n])
  en : ∀ y ∈ bs, ∀ d ∈ y.es, (d = n ∧ y.h = z) ∨ EtOk mk ok s.T s.last y.h d
  ne : ∀ y ∈ bs, y.es ≠ []
  hd : bs.Pairwise fun x y => x.h ≠ y.h
  sd : bs.Pairwise fun x y => x.b ≠ y.b
  sl : ∀ y ∈ bs, y.b < ck
include h hF in
theorem qnc {bs : List Bk} {ck : Nat} {k2 v2 t v : Dt} (hk : k2.tr = t.tr) (hv : v2.tr = v.tr) (htb : t.tr.bulk ≤ 4000000) (hvb : v.tr.bulk ≤ 4000000) (hLk : Lives F k2) (hLv : Lives F v2) (hok : ok t.tr = true) (hms : qz qx (mk t.tr) = true) (hmg : (mk t.tr).good) (hn : ∀ e ∈ jc s.bs, mk e.k.tr ≠ mk t.tr) (hC : CameOk mk ok s bs ck (zm (mk t.tr)) ⟨s.last + 1, k2, v2⟩) :
    TOk mk ok (s.came bs ck F) ∧ ∀ A0, Holds (jc s.bs) A0 → Holds (jc (s.came bs ck F).bs) (qnb mk t.tr v.tr A0) := by
  have hsub : s.T.Sublist (F ++ s.T) := List.sublist_append_right _ _
  refine ⟨⟨jb hF h.nb, fun y hy d hd => ?_, hC.ne, hC.hd, hC.sd, hC.sl, ?_, ?_, ?_⟩, fun A0 hA0 => ?_⟩
  · rcases hC.en y hy d hd with ⟨rfl, hy2⟩ | k
    · exact ⟨hLk.front _, hLv.front _, by show k2.tr.bulk ≤ _; rw [hk]; exact htb, by show v2.tr.bulk ≤ _; rw [hv]; exact hvb, by show ok k2.tr = _; rw [hk]; exact hok, by show qz qx (mk k2.tr) = _; rw [hk]; exact hms, by show (mk k2.tr).good; rw [hk]; exact hmg, by show zm (mk k2.tr) = _; rw [hk]; exact hy2.symm, Nat.le_refl _⟩
    · exact k.mono hsub (Nat.le_succ _)
  · exact zdd (f := fun a : Et => mk a.k.tr) h.md (fun a ha => by show mk a.k.tr ≠ mk k2.tr; rw [hk]; exact hn a ha) hC.pm
  · exact zdd (f := Et.p) h.pd (fun a ha => by have := zoa h ha; show a.p ≠ s.last + 1; omega) hC.pm
  · show s.count + 1 = (jc bs).length
    rw [hC.pm.length_eq, h.cn]; simp
  · have := (zgj hA0 (n := ⟨s.last + 1, k2, v2⟩) (fun e he => zoa h he)).perm hC.pm.symm
    unfold qnb
    rw [if_neg (fun ⟨a, ha, hm⟩ => by obtain ⟨e, he, rfl⟩ := hA0.mem.1 ha; exact hn e he hm)]
    rw [← hk, ← hv]; exact this
include h in
/-- .. with a hash that is new .. -/
theorem qwf {k2 v2 : Dt} {z : Int} (so8 : Option Addr) (ca8 : Nat) (hf : s.bs.find? (fun y => decide (y.h = z)) = none) :
    CameOk mk ok s (s.bs ++ [⟨z, so8, ca8, [⟨s.last + 1, k2, v2⟩], s.ck⟩]) (s.ck + 1) z ⟨s.last + 1, k2, v2⟩ := by
  have hz : ∀ y ∈ s.bs, y.h ≠ z := fun y hy e => by have := List.find?_eq_none.1 hf y hy; simp [e] at this
  refine ⟨by simp [jc], fun y hy d hd => ?_, fun y hy => ?_, ?_, ?_, fun y hy => ?_⟩
  · rcases List.mem_append.1 hy with k | k
    · exact .inr (h.ent y k d hd)
    · rw [List.mem_singleton.1 k] at hd ⊢; exact .inl ⟨List.mem_singleton.1 hd, rfl⟩
  · rcases List.mem_append.1 hy with k | k
    · exact h.ne y k
    · rw [List.mem_singleton.1 k]; simp
  · exact List.pairwise_append.2 ⟨h.hd, by simp, fun a ha b hb => by rw [List.mem_singleton.1 hb]; exact hz a ha⟩
  · exact List.pairwise_append.2 ⟨h.sd, by simp, fun a ha b hb => by rw [List.mem_singleton.1 hb]; have := h.sl a ha; show a.b ≠ s.ck; omega⟩
  · rcases List.mem_append.1 hy with k | k
    · have := h.sl y k; omega
    · rw [List.mem_singleton.1 k]; exact Nat.lt_succ_self _
include h hs in
/-- .. or with one that is there. -/
theorem zob {k2 v2 : Dt} : CameOk mk ok s (A ++ ⟨xh, so', ca', xes ++ [⟨s.last + 1, k2, v2⟩], xb⟩ :: B) s.ck xh ⟨s.last + 1, k2, v2⟩ := by
  obtain ⟨hA, hB, hX⟩ := qgb hs
  refine ⟨?_, fun y hy d hd => ?_, fun y hy => ?_, ?_, ?_, fun y hy => ?_⟩
  · rw [hs, kf, kf]
    show (jc A ++ ((xes ++ [_]) ++ jc B)).Perm ((jc A ++ (xes ++ jc B)) ++ [_])
    rw [List.append_assoc, List.append_assoc, List.append_assoc]
    refine List.Perm.append_left _ (List.Perm.append_left _ ?_)
    exact List.perm_append_comm
  · rcases List.mem_append.1 hy with k | k
    · exact .inr (h.ent y (hA y k) d hd)
    · rcases List.mem_cons.1 k with k | k
      · subst k
        rcases List.mem_append.1 hd with k | k
        · exact .inr (h.ent _ hX d k)
        · exact .inl ⟨List.mem_singleton.1 k, rfl⟩
      · exact .inr (h.ent y (hB y k) d hd)
  · rcases List.mem_append.1 hy with k | k
    · exact h.ne y (hA y k)
    · rcases List.mem_cons.1 k with k | k
      · subst k; simp
      · exact h.ne y (hB y k)
  · exact qbf (f := Bk.h) h.hd (by rw [hs]; simp)
  · exact qbf (f := Bk.b) h.sd (by rw [hs]; simp)
  · rcases List.mem_append.1 hy with k | k
    · exact h.sl y (hA y k)
    · rcases List.mem_cons.1 k with k | k
      · subst k; exact (h.sl _ hX : xb < s.ck)
      · exact h.sl y (hB y k)
end
/-- A table's memory. -/
def TS.P (s : TS) (g : Nat) (kind : Int) : List Ck := .obj g (.cells #[.int .i64 kind, .map (some s.m), .int .i64 ((s.count : Nat) : Int), .int .i64 ((s.last : Nat) : Int)] 66) :: .obj s.m (zi (s.bs.map Bk.en) s.ck) :: (s.bs.map (Bk.row 74) ++ s.T)
theorem qwg (bs : List Bk) : jk (bs.map (Bk.row 74)) := fun c hc b xs e => by
 obtain ⟨x, _, rfl⟩ := List.mem_map.1 hc
 cases e
theorem qif {mk : Tr → Tr} {ok : Tr → Bool} {s : TS} (h : TOk mk ok s) (hc : s.count ≤ 1000000) {w0 w : World} {g : Nat} {kind : Int} (M : Mg w0 w (s.P g kind)) : Tab w ok g kind s.m s.count s.last s.ck s.bs := by
 have hT : Mg w0 w s.T := M.sub (cn (cn (List.sublist_append_right _ _)))
 refine ⟨M.obj 0 rfl, M.obj 1 rfl, fun x hx => ?_, fun x hx e he => ?_, fun x hx => Nat.le_trans (h.len hx) hc⟩
 ·
  have : (x.row 74).holds w0.heap.size w := M.all _ (List.mem_cons_of_mem _ (List.mem_cons_of_mem _ (List.mem_append_left _ (List.mem_map_of_mem hx))))
  exact ka (B := w0.heap.size) (e := 74) (sz := 23) this
 ·
  have k := h.ent x hx e he
  exact ⟨k.lk _ _ hT, k.bk, k.ok, k.lv _ _ hT, k.bv⟩
/-- A new table. -/
def TS.zero (m : Nat) : TS := ⟨m, 0, 0, 0, [], []⟩
theorem qwh (mk : Tr → Tr) (ok : Tr → Bool) (m : Nat) : TOk mk ok (TS.zero m) := ⟨(fun c hc => by cases hc), (fun x hx => by cases hx), (fun x hx => by cases hx), .nil, .nil, (fun x hx => by cases hx), .nil, .nil, rfl⟩
section
variable {kind : Int} {mk : Tr → Tr} {ok : Tr → Bool} (hK : Marks kind mk ok) {w0 w : World} {g : Nat} {s : TS} (h : TOk mk ok s) {Y : List Ck}
theorem P_new (s : TS) (g : Nat) (kind : Int) (Y : List Ck) : (Y ++ s.P g kind).Perm (.obj g (.cells #[.int .i64 kind, .map (some s.m), .int .i64 ((s.count : Nat) : Int), .int .i64 ((s.last : Nat) : Int)] 66) :: .obj s.m (zi (s.bs.map Bk.en) s.ck) :: (s.bs.map (Bk.row 74) ++ s.T ++ Y)) := List.perm_append_comm
theorem P_split {A B : List Bk} {x : Bk} (hs : s.bs = A ++ x :: B) (g : Nat) (kind : Int) (Y : List Ck) : (Y ++ s.P g kind).Perm (.obj g (.cells #[.int .i64 kind, .map (some s.m), .int .i64 ((s.count : Nat) : Int), .int .i64 ((s.last : Nat) : Int)] 66) :: .obj s.m (zi (s.bs.map Bk.en) s.ck) :: x.row 74 :: ((A ++ B).map (Bk.row 74) ++ s.T ++ Y)) := by
 refine (P_new s g kind Y).trans (.cons _ (.cons _ ?_))
 rw [hs, List.map_append, List.map_cons, List.map_append, ← List.cons_append, ← List.cons_append]
 exact (List.perm_middle.append_right _).append_right _
/-- The same, with other buckets and more that uj. -/
theorem P_back {A B : List Bk} {x : Bk} {s' : TS} {F : List Ck} (hb : s'.bs = A ++ x :: B) (hT : s'.T = F ++ s.T) (g : Nat) (kind : Int) (Y : List Ck) : (.obj g (.cells #[.int .i64 kind, .map (some s'.m), .int .i64 ((s'.count : Nat) : Int), .int .i64 ((s'.last : Nat) : Int)] 66) :: .obj s'.m (zi (s'.bs.map Bk.en) s'.ck) :: x.row 74 :: (F ++ ((A ++ B).map (Bk.row 74) ++ s.T ++ Y))).Perm (Y ++ s'.P g kind) := by
 refine List.Perm.trans (.cons _ (.cons _ (.cons _ ?_))) (P_split hb g kind Y).symm
 rw [hT, ← List.append_assoc, ← List.append_assoc, ← List.append_assoc]
 exact (List.perm_append_comm.append_right _).append_right _
include h in
theorem qdb {bs : List Bk} (hY : jk Y) : jk (bs.map (Bk.row 74) ++ s.T ++ Y) := jb (jb (qwg _) h.nb) hY
include hK h in
set_option maxHeartbeats 400000 in
theorem zxg (hY : jk Y) (hT : Tabs8 w0) {t v : Dt} (ht : ∀ w9, Mg w0 w9 Y → t.rd w9) (hv : ∀ w9, Mg w0 w9 Y → v.rd w9) (htb : t.tr.bulk ≤ 4000000) (hvb : v.tr.bulk ≤ 4000000) (hs : qz qx t.tr = true) (hsv : qz qx v.tr = true) (hok : ok t.tr = true) (hms : qz qx (mk t.tr) = true) (hmg : (mk t.tr).good) (hc : s.count ≤ 4096) (hl : s.last ≤ 4611686018427387904) (M : Mg w0 w (Y ++ s.P g kind)) :
  Calls Tryz.prog 9 #[.pointer (some ⟨g, 0, none⟩), .agg (t.d.cells t.ts.length).toArray, .agg (v.d.cells v.ts.length).toArray] w fun r w' => (∃ s', r = .returned (.int .i64 0) ∧ (TOk mk ok s' ∧ s'.last ≤ s.last + 1 ∧ s'.count ≤ 4096 ∧ ∀ A0, Holds (jc s.bs) A0 → Holds (jc s'.bs) (qnb mk t.tr v.tr A0)) ∧ Mg w0 w' (Y ++ s'.P g kind)) ∨ (r = .returned (.int .i64 9) ∧ (s.count = 4096 ∧ ∀ e ∈ jc s.bs, mk e.k.tr ≠ mk t.tr) ∧ Mg w0 w' (Y ++ s.P g kind)) := by
 have hup : ∀ {bs : List Bk} {d : Dt}, (∀ w9, Mg w0 w9 Y → d.rd w9) → ∀ w9, Mg w0 w9 (bs.map (Bk.row 74) ++ s.T ++ Y) → d.rd w9 := fun k w9 h9 => k w9 (h9.sub (List.sublist_append_right _ _))
 have hTab : ∀ {L : List Ck}, (Y ++ s.P g kind).Perm L → ∀ w9, Mg w0 w9 L → Tab w9 ok g kind s.m s.count s.last s.ck s.bs := fun hp w9 h9 => qif h (by omega) ((h9.perm hp.symm).sub (List.sublist_append_right _ _))
 by_cases hit : ∃ e ∈ jc s.bs, mk e.k.tr = mk t.tr
 ·
  obtain ⟨e, he, hme⟩ := hit
  obtain ⟨A, ⟨xh, so, ca, xes, xb⟩, B, i, hs2, hh, H, hi, hbu, hix⟩ := qga h hms hmg he hme
  have hp := P_split hs2 g kind Y
  have hM2 := M.perm hp
  have hrow : w.ownsRow w0.heap.size 74 23 (.slice so xes.length ca) xes.length (zk Et.c xes) := hM2.has 2 rfl
  obtain ⟨gg, rfl⟩ : ∃ gg, so = some ⟨gg, 0, none⟩ := by
   rcases hrow.2 with ⟨_, h0⟩ | ⟨gg, cap, cur, e1, _⟩
   ·
    have := (List.getElem?_eq_some_iff.1 hi).1; simp only at this h0; omega
   ·
    cases e1; exact ⟨gg, rfl⟩
  have hold : atK (zm (mk t.tr)) (s.bs.map Bk.en) = some ⟨zm (mk t.tr), .slice (some ⟨gg, 0, none⟩) xes.length ca, xb⟩ := by
   have := qrj (B := B) H
   rw [← hs2] at this
   rw [← hh]; exact this
  refine (ztc hK (qdb h hY) hT (hTab hp) (hup ht) (hup hv) htb hvb hM2 hs hsv hok (by rw [hbu]; exact hix) hold hi).mono ?_
  rintro r w' ⟨rfl, v2, F, ⟨h1, h2, h3⟩, hM3⟩
  obtain ⟨k1, k2⟩ := ztd h hs2 h3 hi h1 hvb h2
  refine .inl ⟨s.hit A B xh (some ⟨gg, 0, none⟩) ca xb (xes.set i ⟨e.p, e.k, v2⟩) F, rfl, ⟨k1, Nat.le_succ _, hc, fun A0 hA0 => k2 A0 hA0 t.tr hme.symm⟩, ?_⟩
  refine Mg.perm ?_ (P_back (s := s) (s' := s.hit A B xh (some ⟨gg, 0, none⟩) ca xb (xes.set i ⟨e.p, e.k, v2⟩) F) rfl rfl g kind Y)
  have e2 : (s.hit A B xh (some ⟨gg, 0, none⟩) ca xb (xes.set i ⟨e.p, e.k, v2⟩) F).bs.map Bk.en = s.bs.map Bk.en := by rw [hs2]; simp [TS.hit, Bk.en]
  rw [e2]
  simp only [Bk.row, List.length_set]
  exact hM3
 ·
  have hn : ∀ e ∈ jc s.bs, mk e.k.tr ≠ mk t.tr := fun e he hm => hit ⟨e, he, hm⟩
  cases hf : s.bs.find? (fun y => decide (y.h = zm (mk t.tr))) with
  | none =>
   obtain ⟨hat, hnew⟩ := qid hf (fun e => ki (mk t.tr) (mk e.k.tr))
   have hp := P_new s g kind Y
   by_cases hc2 : s.count < 4096
   ·
    refine (zdc hK (qdb h hY) hT (hTab hp) (hup ht) (hup hv) htb hvb (M.perm hp) hs hsv hok hat hc2 hl hnew).mono ?_
    rintro r w' ⟨rfl, so8, ca8, k2, v2, F, ⟨h1, h2, h3, h4, h5⟩, hM3⟩
    obtain ⟨a1, a2⟩ := qnc h h5 h1 h2 htb hvb h3 h4 hok hms hmg hn (qwf h so8 ca8 hf)
    refine .inl ⟨s.came (s.bs ++ [⟨zm (mk t.tr), so8, ca8, [⟨s.last + 1, k2, v2⟩], s.ck⟩]) (s.ck + 1) F, rfl, ⟨a1, Nat.le_refl _, hc2, a2⟩, ?_⟩
    refine Mg.perm ?_ (P_back (s := s) (s' := s.came (s.bs ++ [⟨zm (mk t.tr), so8, ca8, [⟨s.last + 1, k2, v2⟩], s.ck⟩]) (s.ck + 1) F) (A := s.bs) (B := []) rfl rfl g kind Y)
    rw [List.append_nil]
    simp only [TS.came, List.map_append, List.map_cons, List.map_nil, Bk.row, Bk.en, yb, Et.c]
    exact hM3
   ·
    refine (qwd hK (qdb h hY) hT (hTab hp) (hup ht) (hup hv) htb hvb (M.perm hp) hs hsv hok hat (by omega) (by omega)).mono ?_
    rintro r w' ⟨rfl, hM3⟩
    exact .inr ⟨rfl, ⟨by omega, hn⟩, hM3.perm hp.symm⟩
  | some x =>
   obtain ⟨A, B, hs2, hh, H, hbu, hix⟩ := qie h hms hmg hn hf
   by_cases hc2 : s.count < 4096
   ·
    obtain ⟨xh, so, ca, xes, xb⟩ := x
    have hp := P_split hs2 g kind Y
    have hold : atK (zm (mk t.tr)) (s.bs.map Bk.en) = some ⟨zm (mk t.tr), .slice so xes.length ca, xb⟩ := by
     have := qrj (B := B) H
     rw [← hs2] at this
     rw [← hh]; exact this
    have hlen := h.len (List.mem_of_find?_eq_some hf)
    refine (ztb hK (qdb h hY) hT (hTab hp) (hup ht) (hup hv) htb hvb (M.perm hp) hs hsv hok (by rw [hbu]; exact hix) hc2 hl hold (show xes.length ≤ 1000000 by simp only at hlen; omega)).mono ?_
    rintro r w' ⟨rfl, so8, ca8, k2, v2, F, ⟨h1, h2, h3, h4, h5⟩, hM3⟩
    have hC := zob h hs2 (so' := so8) (ca' := ca8) (k2 := k2) (v2 := v2)
    simp only at hh
    rw [hh] at hC
    obtain ⟨a1, a2⟩ := qnc h h5 h1 h2 htb hvb h3 h4 hok hms hmg hn hC
    refine .inl ⟨s.came (A ++ ⟨zm (mk t.tr), so8, ca8, xes ++ [⟨s.last + 1, k2, v2⟩], xb⟩ :: B) s.ck F, rfl, ⟨a1, Nat.le_refl _, hc2, a2⟩, ?_⟩
    refine Mg.perm ?_ (P_back (s := s) (s' := s.came (A ++ ⟨zm (mk t.tr), so8, ca8, xes ++ [⟨s.last + 1, k2, v2⟩], xb⟩ :: B) s.ck F) rfl rfl g kind Y)
    have e2 := qvd (A := A) (B := B) (x := ⟨xh, so, ca, xes, xb⟩) (y := ⟨zm (mk t.tr), so8, ca8, xes ++ [⟨s.last + 1, k2, v2⟩], xb⟩) H hh.symm rfl
    rw [← hs2] at e2
    simp only [List.length_append, List.length_cons, List.length_nil, Nat.zero_add, hh] at e2
    rw [e2] at hM3
    simp only [TS.came, Bk.row, List.length_append, List.length_cons, List.length_nil, Nat.zero_add]
    exact hM3
   ·
    have hp := P_new s g kind Y
    refine (qwd hK (qdb h hY) hT (hTab hp) (hup ht) (hup hv) htb hvb (M.perm hp) hs hsv hok (by rw [hbu]; exact hix) (by omega) (by omega)).mono ?_
    rintro r w' ⟨rfl, hM3⟩
    exact .inr ⟨rfl, ⟨by omega, hn⟩, hM3.perm hp.symm⟩
include hK in
/-- A key comes to an empty table. -/
theorem zte {m : Nat} (hY : jk Y) (hT : Tabs8 w0) {t v : Dt} (ht : ∀ w9, Mg w0 w9 Y → t.rd w9) (hv : ∀ w9, Mg w0 w9 Y → v.rd w9) (htb : t.tr.bulk ≤ 4000000) (hvb : v.tr.bulk ≤ 4000000) (hs : qz qx t.tr = true) (hsv : qz qx v.tr = true) (hok : ok t.tr = true) (hms : qz qx (mk t.tr) = true) (hmg : (mk t.tr).good) (M : Mg w0 w (Y ++ (TS.zero m).P g kind)) :
  Calls Tryz.prog 9 #[.pointer (some ⟨g, 0, none⟩), .agg (t.d.cells t.ts.length).toArray, .agg (v.d.cells v.ts.length).toArray] w fun r w' => ∃ s', r = .returned (.int .i64 0) ∧ (TOk mk ok s' ∧ s'.count ≤ 4096 ∧ Holds (jc s'.bs) [(t.tr, v.tr)]) ∧ Mg w0 w' (Y ++ s'.P g kind) := by
 have h := qwh mk ok m
 have hup : ∀ {bs : List Bk} {d : Dt}, (∀ w9, Mg w0 w9 Y → d.rd w9) → ∀ w9, Mg w0 w9 (bs.map (Bk.row 74) ++ (TS.zero m).T ++ Y) → d.rd w9 := fun k w9 h9 => k w9 (h9.sub (List.sublist_append_right _ _))
 have hp := P_new (TS.zero m) g kind Y
 refine (zdc hK (qdb h hY) hT (fun w9 h9 => qif h (by show (0 : Nat) ≤ _; omega) ((h9.perm hp.symm).sub (List.sublist_append_right _ _))) (hup ht) (hup hv) htb hvb (M.perm hp) hs hsv hok rfl (by show (0 : Nat) < _; omega) (by show (0 : Nat) ≤ _; omega) rfl).mono ?_
 rintro r w' ⟨rfl, so8, ca8, k2, v2, F, ⟨h1, h2, h3, h4, h5⟩, hM3⟩
 obtain ⟨a1, a2⟩ := qnc h h5 h1 h2 htb hvb h3 h4 hok hms hmg (fun e he => by cases he) (qwf h so8 ca8 (z := zm (mk t.tr)) rfl)
 have a3 := a2 [] Holds.nil
 rw [show qnb mk t.tr v.tr [] = [(t.tr, v.tr)] from if_neg (fun ⟨a, ha, _⟩ => by cases ha)] at a3
 refine ⟨(TS.zero m).came ((TS.zero m).bs ++ [⟨zm (mk t.tr), so8, ca8, [⟨(TS.zero m).last + 1, k2, v2⟩], (TS.zero m).ck⟩]) ((TS.zero m).ck + 1) F, rfl, ⟨a1, by show (1 : Nat) ≤ _; omega, a3⟩, ?_⟩
 refine Mg.perm ?_ (P_back (s := TS.zero m) (s' := (TS.zero m).came ((TS.zero m).bs ++ [⟨zm (mk t.tr), so8, ca8, [⟨(TS.zero m).last + 1, k2, v2⟩], (TS.zero m).ck⟩]) ((TS.zero m).ck + 1) F) (A := (TS.zero m).bs) (B := []) rfl rfl g kind Y)
 rw [List.append_nil]
 simp only [TS.came, List.map_append, List.map_cons, List.map_nil, Bk.row, Bk.en, yb, Et.c]
 exact hM3
include hK h in
theorem zxh (hT : Tabs8 w) {t : Dt} (ht : t.rd w) (htb : t.tr.bulk ≤ 4000000) (hs : qz qx t.tr = true) (hok : ok t.tr = true) (hms : qz qx (mk t.tr) = true) (hmg : (mk t.tr).good) (hc : s.count ≤ 4096) (M : Mg w0 w (Y ++ s.P g kind)) :
  Calls Tryz.prog 11 #[.pointer (some ⟨g, 0, none⟩), .agg (t.d.cells t.ts.length).toArray] w fun r w' => (∃ e ∈ jc s.bs, mk e.k.tr = mk t.tr ∧ ∃ v2 : Dt, r = .returned (.tuple #[.agg (v2.d.cells v2.ts.length).toArray, .int .i64 0]) ∧ (v2.rd w' ∧ v2.at_ (w.heap.size ≤ ·) ∧ v2.tr = e.v.tr) ∧ Below w.heap.size w w') ∨ (r = .returned (.tuple #[.agg (zl.d.cells zl.ts.length).toArray, .int .i64 7]) ∧ (∀ e ∈ jc s.bs, mk e.k.tr ≠ mk t.tr) ∧ Below w.heap.size w w') := by
 have hB := qif h (by omega) (M.sub (List.sublist_append_right _ _))
 by_cases hit : ∃ e ∈ jc s.bs, mk e.k.tr = mk t.tr
 ·
  obtain ⟨e, he, hme⟩ := hit
  obtain ⟨A, x, B, i, hs2, hh, H, hi, hbu, hix⟩ := qga h hms hmg he hme
  refine (zdb hK hB ht htb hT hs hok (by rw [hbu]; exact hix) (by rw [hbu]; exact hi)).mono ?_
  rintro r w' ⟨v2, h1, h2, h3⟩
  exact .inl ⟨e, he, hme, v2, h1, h2, h3⟩
 ·
  have hn : ∀ e ∈ jc s.bs, mk e.k.tr ≠ mk t.tr := fun e he hm => hit ⟨e, he, hm⟩
  have hat : yj (fun e => ki (mk t.tr) (mk e.k.tr)) (xe s.bs (zm (mk t.tr))) = -1 := by
   cases hf : s.bs.find? (fun y => decide (y.h = zm (mk t.tr))) with
   | none => exact (qid hf _).1
   | some x =>
    obtain ⟨A, B, hs2, hh, H, hbu, hix⟩ := qie h hms hmg hn hf
    rw [hbu]; exact hix
  refine (zng hK hB ht htb hT hs hok hat).mono ?_
  rintro r w' ⟨h1, h2⟩
  exact .inr ⟨h1, hn, h2⟩
end
theorem zoc {w : World} {kind : Int} (hk : isK kind = true) : Calls Tryz.prog 8 #[.int .i64 kind] w fun e w' => ∃ g m, e = .returned (.tuple #[.pointer (some ⟨g, 0, none⟩), .int .i64 0]) ∧ Mg w w' ((TS.zero m).P g kind) := zsi hk
open Go.RowKit Go.Lib
/-- A file: its name and its bytes. -/
abbrev Fl := ByteArray × List UInt8
/-- A slice of files reads as these. -/
structure Rf (w : World) (so : Option Addr) (fs : List Fl) : Prop where
  pos : ∀ j q, fs[j]? = some q → ∃ b off sj cj, so = some ⟨b, off, none⟩ ∧ b < w.heap.size ∧ w.cell? ⟨b, off + j * 2, none⟩ = some (.string q.1) ∧ w.cell? ⟨b, off + j * 2 + 1, none⟩ = some (.slice sj q.2.length cj) ∧ Rb w sj q.2 ∧ q.2.length ≤ cj
theorem Rf.below {w w' : World} {so : Option Addr} {fs : List Fl} (h : Rf w so fs) (hb : Below w.heap.size w w') : Rf w' so fs := by
  refine ⟨fun j q hq => ?_⟩
  obtain ⟨b, off, sj, cj, h1, h2, h3, h4, h5, h6⟩ := h.pos j q hq
  exact ⟨b, off, sj, cj, h1, Nat.lt_of_lt_of_le h2 hb.size, (hb.cell h2).trans h3, (hb.cell h2).trans h4, h5.below hb, h6⟩
theorem Rf.nil (w : World) (so : Option Addr) : Rf w so [] := ⟨fun j q h => by simp at h⟩
section
variable {w0 w : World} {L : List Ck}
end
/-! ### What the calls make of worlds -/
/-! Binary search -/
/-! The file of a name: put, taken away, looked up -/
section
variable {P : Program} {w0 w : World} {L : List Ck} {l : List (Nat × Value)} {dst : Option Tmp} {ty : TypeId} {pos : String} {after : Array Edge} {guard : Option (Nat × Bool)}
theorem zhd (hM : Mg w0 w L) (k : Nat) {e : TypeId} {sz g n cap : Nat} {xs : List Value} (hk : L[k]? = some (.row e sz (.slice (some ⟨g, 0, none⟩) n cap) n xs)) : ∀ j u, xs[j]? = some u → w.cell? ⟨g, j, none⟩ = some u := by
  intro j u hj
  have hr : w.ownsRow w0.heap.size e sz (.slice (some ⟨g, 0, none⟩) n cap) n xs := hM.has k hk
  have hlt := (List.getElem?_eq_some_iff.1 hj).1
  rw [World.ownsRow.cellAt hr j (by rw [← hr.1]; exact hlt)]
  exact hj
/-- What stands behind a row's elements is cleared. -/
theorem ztf {t e : TypeId} {sz by_ : Nat} {z : Value} {x : Operand} (ht : P.underlying t = some (.slice e)) (hinfo : (P.info? e).map (fun i => (i.zero, i.size, i.bytes)) = some (some z, sz, by_)) (hzc : z.cells.size = sz) (hz1 : ∀ u ∈ (Builtin.zeroCells z.cells 1).toList, u.oneCell' = true) (hM : Mg w0 w L) (k : Nat) {g m cap : Nat} {xs : List Value} (hk : L[k]? = some (.row e sz (.slice (some ⟨g, 0, none⟩) m cap) m xs)) (hc : m + 1 ≤ cap) {c2 : Nat} (hx : ev l x = some (.slice (some ⟨g, m * sz, none⟩) 1 c2)) :
    ∃ w', Does P l ⟨dst, .call ⟨.builtin .clear, #[x], #[t]⟩, ty, pos, after, guard⟩ w (.tuple #[]) w' ∧ Mg w0 w' L := by
  obtain ⟨inf, hi, hzq⟩ := Option.map_eq_some_iff.1 hinfo
  simp only [Prod.mk.injEq] at hzq
  obtain ⟨hz, hs, hb⟩ := hzq
  have hr : w.ownsRow w0.heap.size e sz (.slice (some ⟨g, 0, none⟩) m cap) m xs := hM.has k hk
  have hzl : (Builtin.zeroCells z.cells 1).toList.length = sz := by rw [Array.length_toList, size_zeroCells, hzc, Nat.one_mul]
  have hcell : ∀ j, j < cap * sz → (w.cell? ⟨g, j, none⟩).isSome = true := by
    intro j hj
    rcases hr.2 with ⟨he, _⟩ | ⟨g', cap', cur, he, a, b, c, d, f, _⟩
    · cases he
    · cases he
      rw [cell_of_row w g j cur e (0, 0) b, Array.getElem?_eq_getElem (by omega)]
      rfl
  have hml : m * sz + sz ≤ cap * sz := by rw [← Nat.succ_mul]; exact Nat.mul_le_mul_right _ hc
  have h3 := run_storeCells_cells (P := P) g (m * sz) (Builtin.zeroCells z.cells 1).toList 0 w (fun j hj => hcell _ (by omega)) (fun j hj => World.ownsRow.frozenAt hr _) hz1
  rw [Nat.add_zero] at h3
  have hzv : ∀ w : World, (zeroValue e).run P w = .ok z w := fun w => by simp [zeroValue, typeInfo, hi, hz]
  refine ⟨w.setCells g (m * sz) (Builtin.zeroCells z.cells 1).toList, fun ρ h => ?_, ?_⟩
  · simp [execOp, resolve, invoke, builtin, h x _ hx, Builtin.clear_, run_underlying ht, hzv, h3]
  · have h4 := Mg.rowPuts (Builtin.zeroCells z.cells 1).toList w L xs (m * sz) hM k hk
    have e4 : ∀ (cs : List Value) (o : Nat), xs.length ≤ o → over xs o cs = xs := by
      intro cs
      induction cs with
      | nil => intro o _; rfl
      | cons c cs ih => intro o ho; show over (xs.set o c) (o + 1) cs = xs; rw [List.set_eq_of_length_le ho]; exact ih _ (by omega)
    rw [e4 _ _ (by rw [hr.1]; exact Nat.le_refl _), qlc hk] at h4
    exact h4
theorem ztg {t e : TypeId} {sz : Nat} (ht : P.underlying t = some (.slice e)) (he : (P.info? e).map (·.size) = some sz) {x y1 y2 y3 : Operand} {so : Option Addr} {n cap lo hi mx : Nat} {z1 z2 z3 : Int} (hx : ev l x = some (.slice so n cap)) (hy1 : ev l y1 = some (.int .i64 z1)) (hy2 : ev l y2 = some (.int .i64 z2)) (hy3 : ev l y3 = some (.int .i64 z3)) (hz1 : z1 = ((lo : Nat) : Int)) (hz2 : z2 = ((hi : Nat) : Int)) (hz3 : z3 = ((mx : Nat) : Int)) (h1 : lo ≤ hi) (h2 : hi ≤ mx) (h3 : mx ≤ cap) : Does P l ⟨dst, .slice t x (some y1) (some y2) (some y3), ty, pos, after, guard⟩ w (.slice (if mx = lo then so else so.map (·.add (lo * sz))) (hi - lo) (mx - lo)) w := fun ρ h => by
  subst hz1 hz2 hz3
  obtain ⟨i, hii, hs⟩ := jz he
  have k2 : (sizeOf e).run P w = .ok sz w := by simp [sizeOf, typeInfo, hii, hs]
  have g1 : (0 : Int) ≤ (lo : Nat) ∧ ((lo : Nat) : Int) ≤ (hi : Int) := ⟨by omega, by omega⟩
  have g2 : (0 : Int) ≤ (hi : Nat) ∧ ((hi : Nat) : Int) ≤ (mx : Int) := ⟨by omega, by omega⟩
  have g3 : (0 : Int) ≤ (mx : Nat) ∧ ((mx : Nat) : Int) ≤ (cap : Int) := ⟨by omega, by omega⟩
  simp only [execOp, h x _ hx, h y1 _ hy1, h y2 _ hy2, h y3 _ hy3, Option.map_some, Instr.sliceAt, Instr.slice, Instr.sliceBounds, Instr.sliceBound, asIntOf, run_underlying ht, Sem.run_bind, Sem.run_pure, Result.andThen_ok, g1, g2, g3, k2, and_self, if_true, Int.toNat_natCast]
theorem zth {t e : TypeId} {sz : Nat} (ht : P.underlying t = some (.slice e)) (he : (P.info? e).map (·.size) = some sz) {x y1 y2 : Operand} {g n cap lo hi : Nat} {z1 z2 : Int} (hx : ev l x = some (.slice (some ⟨g, 0, none⟩) n cap)) (hy1 : ev l y1 = some (.int .i64 z1)) (hy2 : ev l y2 = some (.int .i64 z2)) (hz1 : z1 = ((lo : Nat) : Int)) (hz2 : z2 = ((hi : Nat) : Int)) (h1 : lo ≤ hi) (h2 : hi ≤ cap) (hne : cap ≠ lo) : Does P l ⟨dst, .slice t x (some y1) (some y2) none, ty, pos, after, guard⟩ w (.slice (some ⟨g, lo * sz, none⟩) (hi - lo) (cap - lo)) w := fun ρ h => by
  subst hz1 hz2
  obtain ⟨i, hii, hs⟩ := jz he
  have k2 : (sizeOf e).run P w = .ok sz w := by simp [sizeOf, typeInfo, hii, hs]
  have g1 : (0 : Int) ≤ (lo : Nat) ∧ ((lo : Nat) : Int) ≤ (hi : Int) := ⟨by omega, by omega⟩
  have g2 : (0 : Int) ≤ (hi : Nat) ∧ ((hi : Nat) : Int) ≤ (cap : Int) := ⟨by omega, by omega⟩
  simp only [execOp, h x _ hx, h y1 _ hy1, h y2 _ hy2, Option.map_some, Option.map_none, Instr.sliceAt, Instr.slice, Instr.sliceBounds, Instr.sliceBound, asIntOf, run_underlying ht, Sem.run_bind, Sem.run_pure, Result.andThen_ok, g1, g2, k2, and_self, if_true, Int.toNat_natCast, if_neg hne, xf, Nat.zero_add]
end
section
variable {P : Program} {w0 w : World} {L : List Ck} {l : List (Nat × Value)} {ops : List Oper} {Q : Exit → Act → World → Prop} {a : Act} {n : Nat} {o : Oper} {rest : List Oper} {d : Nat} {S : World → Prop} {md : Region.Mode} {fuel : Nat} {listed : Array Bool}
theorem zti (hA : Sl a n l) (hg : zn l ops o = true) (hdst : o.dst = none) {v : Value} {w' : World} (he : Does P l o w v w') (hk : wpList P ops.toArray Q rest a w') : wpList P ops.toArray Q (o :: rest) a w := by
  unfold wpList
  rw [if_pos (hA.wanted hg)]
  refine .inl ?_
  unfold Oper.wp
  rw [he a.eval (fun x u hx => hA.ev hx), Oper.upon_value, hdst]
  exact hk
theorem ztj (hA : Sl a n l) (hg : zn l ops o = true) (hdst : o.dst = none) {v : Value} (he : ∃ w', Does P l o w v w' ∧ Mg w0 w' L) (hk : ∀ w', Mg w0 w' L → wpList P ops.toArray Q rest a w') : wpList P ops.toArray Q (o :: rest) a w := by
  obtain ⟨w', h1, h2⟩ := he
  exact zti hA hg hdst h1 (hk w' h2)
theorem zzg (hA : Sl a n l) (i : Nat) (hi : ops[i]? = some o) (hg : zn l ops o = true) (hdst : o.dst = some d) (hd : Nat.blt d n = true) {v : Value} {L' : List Ck} (he : ∃ w', Does P l o w v w' ∧ Mg w0 w' L') (hk : ∀ w', Mg w0 w' L' → S w' ∧ ∀ a', Sl a' n ((d, v) :: l) → wpAnyH P md ops.toArray Q S fuel (listed.setIfInBounds i true) a' w') : wpOp P ops.toArray Q i (fun a' w' => S w' ∧ wpAnyH P md ops.toArray Q S fuel (listed.setIfInBounds i true) a' w') a w := by
  obtain ⟨w', h1, h2⟩ := he
  have h := hk w' h2
  exact xz hA i hi hg hdst hd h1 h.1 h.2
end
section
variable {P : Program} {w0 w : World} {L : List Ck} {l : List (Nat × Value)} {dst : Option Tmp} {ty : TypeId} {pos : String} {after : Array Edge} {guard : Option (Nat × Bool)}
/-- A row's end appended to its begin, in a row that may have room. -/
theorem zxi {t e : TypeId} {sz : Nat} {x y : Operand} (ht : P.underlying t = some (.slice e)) (he : (P.info? e).map (·.size) = some sz) (hsz : Nat.ble 1 sz = true) (hM : Mg w0 w L) (k : Nat) {g n c i cy : Nat} {sy : Option Addr} {xs : List Value} (hk : L[k]? = some (.row e sz (.slice (some ⟨g, 0, none⟩) n c) n xs)) (hnc : n ≤ c) (hi : i < n) (hx : ev l x = some (.slice (some ⟨g, 0, none⟩) i c)) (hy : ev l y = some (.slice sy (n - (i + 1)) cy)) (hsy : n ≠ i + 1 → sy = some ⟨g, (i + 1) * sz, none⟩) (h1 : ∀ u ∈ xs, u.oneCell' = true) :
    ∃ w', Does P l ⟨dst, .call ⟨.builtin .append, #[x, y], #[t, t]⟩, ty, pos, after, guard⟩ w (.slice (some ⟨g, 0, none⟩) (n - 1) c) w' ∧ Mg w0 w' (L.set k (.row e sz (.slice (some ⟨g, 0, none⟩) (n - 1) c) (n - 1) (xs.take (i * sz) ++ xs.drop ((i + 1) * sz)))) := by
  obtain ⟨inf, hinf, hs⟩ := jz he
  have hs1 : 0 < sz := Nat.le_of_ble_eq_true hsz
  have hr : w.ownsRow w0.heap.size e sz (.slice (some ⟨g, 0, none⟩) n c) n xs := hM.has k hk
  have hxl : xs.length = n * sz := hr.1
  have hcut := hM.rowCut k hk (m := i) (by omega)
  have hk2 : (L.set k (.row e sz (.slice (some ⟨g, 0, none⟩) i c) i (xs.take (i * sz))))[k]? = some (.row e sz (.slice (some ⟨g, 0, none⟩) i c) i (xs.take (i * sz))) := List.getElem?_set_self (List.getElem?_eq_some_iff.1 hk).1
  have hown : w.ownsRow w0.heap.size e sz (.slice (some ⟨g, 0, none⟩) i c) i (xs.take (i * sz)) := hcut.has k hk2
  by_cases hn : n = i + 1
  · subst hn
    have h2 : (sizeOf e).run P w = .ok sz w := by simp [sizeOf, typeInfo, hinf, hs]
    have hle : i ≤ c := by omega
    refine ⟨w, fun ρ h => ?_, ?_⟩
    · rw [Nat.sub_self] at hy
      cases sy <;> simp [execOp, resolve, invoke, builtin, h x _ hx, h y _ hy, Builtin.append_, run_underlying ht, h2, Builtin.lenOf, Builtin.firstCells, loadCells, loadCellsFrom, storeCells, hle]
    · rw [List.drop_eq_nil_of_le (by omega), List.append_nil, Nat.add_sub_cancel]
      exact hcut
  · rw [hsy hn] at hy
    have hm : (n - (i + 1)) * sz = n * sz - (i + 1) * sz := Nat.sub_mul _ _ _
    obtain ⟨w', hrun, hown2, hgr⟩ := run_append_fits (P := P) (w := w) w0.heap.size t ty e inf sz ht hinf hs g i c (xs.take (i * sz)) hown ⟨g, (i + 1) * sz, none⟩ (n - (i + 1)) cy (xs.drop ((i + 1) * sz)) (by rw [List.length_drop]; omega) (fun j u hj => by
      rw [xf]
      rw [List.getElem?_drop] at hj
      exact zhd hM k hk _ _ hj) (fun u hu => h1 u (List.mem_of_mem_drop hu)) (by omega)
    refine ⟨w', fun ρ h => ?_, ?_⟩
    · rw [show i + (n - (i + 1)) = n - 1 from by omega] at hrun
      simp [execOp, resolve, invoke, builtin, h x _ hx, h y _ hy, hrun]
    · have h3 := hcut.turn k hk2 (c' := .row e sz (.slice (some ⟨g, 0, none⟩) (i + (n - (i + 1))) c) (i + (n - (i + 1))) (xs.take (i * sz) ++ xs.drop ((i + 1) * sz))) (by simp) hgr hown2 (fun d _ ha => by cases d <;> exact ha)
      rw [List.set_set, show i + (n - (i + 1)) = n - 1 from by omega] at h3
      exact h3
theorem zod {t e : TypeId} {sz : Nat} (ht : P.underlying t = some (.slice e)) (he : (P.info? e).map (·.size) = some sz) {x y1 y2 : Operand} {g n cap lo hi m : Nat} {z1 z2 : Int} (hx : ev l x = some (.slice (some ⟨g, 0, none⟩) n cap)) (hy1 : ev l y1 = some (.int .i64 z1)) (hy2 : ev l y2 = some (.int .i64 z2)) (hz1 : z1 = ((lo : Nat) : Int)) (hz2 : z2 = ((hi : Nat) : Int)) (h1 : lo ≤ hi) (h2 : hi ≤ cap) (hne : cap ≠ lo) (hm : hi - lo = m) : Does P l ⟨dst, .slice t x (some y1) (some y2) none, ty, pos, after, guard⟩ w (.slice (some ⟨g, lo * sz, none⟩) m (cap - lo)) w := hm ▸ zth ht he hx hy1 hy2 hz1 hz2 h1 h2 hne
end
theorem zxj (xs : List Et) (i : Nat) : (zk Et.c xs).take (i * 23) ++ (zk Et.c xs).drop ((i + 1) * 23) = zk Et.c (xs.eraseIdx i) := by
  rw [qhj Et.c_len, qce Et.c_len, ← xr, List.eraseIdx_eq_take_drop_succ]
theorem zag (xs : List Et) : ∀ u ∈ zk Et.c xs, u.oneCell' = true := fun u hu => by
  obtain ⟨e, _, he⟩ := List.mem_flatMap.1 hu
  have : e.c.all Value.oneCell' = true := by
    unfold Et.c ji
    rw [List.all_cons, List.all_append, show (e.k.d.cells e.k.ts.length).all Value.oneCell' = true from vv e.k, show (e.v.d.cells e.v.ts.length).all Value.oneCell' = true from vv e.v]
    rfl
  exact List.all_eq_true.1 this u he
section
variable {mk : Tr → Tr} {ok : Tr → Bool} {s : TS} (h : TOk mk ok s) {A B : List Bk} {xh : Int} {so : Option Addr} {ca xb : Nat} {xes : List Et} (hs : s.bs = A ++ ⟨xh, so, ca, xes, xb⟩ :: B)
/-- The state behind a key that has gone. -/
def TS.gone (s : TS) (bs : List Bk) : TS := { s with count := s.count - 1, bs := bs }
theorem qwi {α : Type} {l : List α} {i : Nat} {e : α} (h : l[i]? = some e) : ∃ P Q, l = P ++ e :: Q ∧ l.eraseIdx i = P ++ Q := by
  obtain ⟨hi, rfl⟩ := List.getElem?_eq_some_iff.1 h
  refine ⟨l.take i, l.drop (i + 1), ?_, List.eraseIdx_eq_take_drop_succ _ _⟩
  rw [← List.drop_eq_getElem_cons hi, List.take_append_drop]
include h in
theorem qwj {bs : List Bk} {P Q : List Et} {e : Et} (f1 : jc s.bs = P ++ e :: Q) (f2 : jc bs = P ++ Q) (hent : ∀ y ∈ bs, ∀ d ∈ y.es, EtOk mk ok s.T s.last y.h d) (hne : ∀ y ∈ bs, y.es ≠ []) (hhd : bs.Pairwise fun x y => x.h ≠ y.h) (hsd : bs.Pairwise fun x y => x.b ≠ y.b) (hsl : ∀ y ∈ bs, y.b < s.ck) :
    TOk mk ok (s.gone bs) ∧ ∀ A0, Holds (jc s.bs) A0 → ∀ t, mk t = mk e.k.tr → Holds (jc (s.gone bs).bs) (qwe mk t A0) := by
  have hsub : (P ++ Q).Sublist (P ++ e :: Q) := (List.Sublist.refl _).append (List.sublist_cons_self _ _)
  have hp := h.pd
  have hm := h.md
  rw [f1] at hp hm
  refine ⟨⟨h.nb, hent, hne, hhd, hsd, hsl, ?_, ?_, ?_⟩, fun A0 hA0 t ht => ?_⟩
  · show (jc bs).Pairwise _; rw [f2]; exact hm.sublist hsub
  · show (jc bs).Pairwise _; rw [f2]; exact hp.sublist hsub
  · show s.count - 1 = (jc bs).length
    rw [f2, h.cn, f1]; simp
  · show Holds (jc bs) _
    rw [f1] at hA0
    rw [f2]
    unfold qwe
    rw [ht]
    exact zhb hp hm hA0
include h hs in
/-- .. the only one of its hash .. -/
theorem zoe {e : Et} (hx : xes = [e]) : TOk mk ok (s.gone (A ++ B)) ∧ ∀ A0, Holds (jc s.bs) A0 → ∀ t, mk t = mk e.k.tr → Holds (jc (s.gone (A ++ B)).bs) (qwe mk t A0) := by
  subst hx
  obtain ⟨hA, hB, hX⟩ := qgb hs
  have hsub : (A ++ B).Sublist s.bs := by rw [hs]; exact (List.Sublist.refl _).append (List.sublist_cons_self _ _)
  have hin : ∀ y ∈ A ++ B, y ∈ s.bs := fun y hy => hsub.subset hy
  refine qwj h (P := jc A) (Q := jc B) (by rw [hs, kf]; rfl) (by unfold jc; rw [List.flatMap_append]) (fun y hy => h.ent y (hin y hy)) (fun y hy => h.ne y (hin y hy)) (h.hd.sublist hsub) (h.sd.sublist hsub) (fun y hy => h.sl y (hin y hy))
include h hs in
/-- .. or one of several. -/
theorem zof {i : Nat} {e : Et} (hi : xes[i]? = some e) (hne : xes.eraseIdx i ≠ []) : TOk mk ok (s.gone (A ++ ⟨xh, so, ca, xes.eraseIdx i, xb⟩ :: B)) ∧ ∀ A0, Holds (jc s.bs) A0 → ∀ t, mk t = mk e.k.tr → Holds (jc (s.gone (A ++ ⟨xh, so, ca, xes.eraseIdx i, xb⟩ :: B)).bs) (qwe mk t A0) := by
  obtain ⟨hA, hB, hX⟩ := qgb hs
  obtain ⟨P, Q, h1, h2⟩ := qwi hi
  have hmem : ∀ d ∈ xes.eraseIdx i, d ∈ xes := fun d hd => (List.eraseIdx_sublist _ _).subset hd
  have hcase : ∀ y, y ∈ A ++ ⟨xh, so, ca, xes.eraseIdx i, xb⟩ :: B → (y ∈ s.bs) ∨ y = ⟨xh, so, ca, xes.eraseIdx i, xb⟩ := fun y hy => by
    rcases List.mem_append.1 hy with k | k
    · exact .inl (hA y k)
    · rcases List.mem_cons.1 k with k | k
      · exact .inr k
      · exact .inl (hB y k)
  refine qwj h (P := jc A ++ P) (Q := Q ++ jc B) ?_ ?_ (fun y hy d hd => ?_) (fun y hy => ?_) ?_ ?_ (fun y hy => ?_)
  · rw [hs, kf]; show jc A ++ (xes ++ jc B) = _; rw [h1]; simp
  · rw [kf]; show jc A ++ (xes.eraseIdx i ++ jc B) = _; rw [h2]; simp
  · rcases hcase y hy with k | k
    · exact h.ent y k d hd
    · subst k; exact h.ent _ hX d (hmem d hd)
  · rcases hcase y hy with k | k
    · exact h.ne y k
    · subst k; exact hne
  · exact qbf (f := Bk.h) h.hd (by rw [hs]; simp)
  · exact qbf (f := Bk.b) h.sd (by rw [hs]; simp)
  · rcases hcase y hy with k | k
    · exact h.sl y k
    · subst k; exact (h.sl _ hX : xb < s.ck)
end
end Go.Proofs.YtjlpecapebhgjaaGreatDoor.G
