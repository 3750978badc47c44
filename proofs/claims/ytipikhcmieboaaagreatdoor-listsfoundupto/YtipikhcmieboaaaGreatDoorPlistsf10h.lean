/- Walks of Equal, Cmp and Hash. Sorting that keeps what is alike in its order: the merge of two rows, and what exchanges do to a row. What exchanges do to a row: one place moved, two stretches exchanged, two neighbours rotated, one put into what is in order, stretches sorted. Sorting by exchanges: one put into what is in order, two neighbours merged by places, stretches sorted. A function value that compares two data, and what kw in a row. Walks of slices.SortStableFunc and what it calls. The walk of symMerge. The walk of slices.SortStableFunc. Walks of SortBy, where the firsts are characters. The walk of SortBy, where the firsts are characters. What is in order kw as it is when it is sorted; an order of some is made one of all. The walk of Sort. Walks of Member, Assoc and Remove. Walks of the document's Member, Assoc and Remove. The builtin clear of a part of a row of the call's own; questions that are asked while such a row changes. Walks of DeleteFunc and Remove. The walk of the document's Remove. The walk of the law of joined lists. The walk of ListsFound. What a bound on the bulk of what is read gives. Transcoders that come in as arguments. Rows of bytes that come in as arguments; the first part of a row, and of a text. Data that come in as arguments. -/
import Derived.Test.YtipikhcmieboaaaGreatDoorPlistsf10g
import Derived.Test.YtipikhcmieboaaaGreatDoorPlistsf10f
import Derived.Test.YtipikhcmieboaaaGreatDoorRows
import Derived.Test.YtipikhcmieboaaaGreatDoorPlistsf10d
import Derived.Test.YtipikhcmieboaaaGreatDoorProg
import Derived.WalkKit
import Derived.ProofKit
import Derived.OpenShut
import Derived.ChangeOld
import Derived.Lib.SmallJoins
import Derived.Deep.Strs
import Derived.Test.YtipikhcmieboaaaGreatDoorPlistsf10c
import Derived.Deep.Slices
namespace Go.Proofs.YtipikhcmieboaaaGreatDoor.G
open Go.RowKit
set_option linter.unusedVariables false
set_option linter.unusedSimpArgs false
set_option maxRecDepth 100000
theorem EqC_is1_22 : Is1 Tryz.prog 22 := ⟨⟨_, Tryz.underlying22, rfl⟩, by kernel_rfl⟩
theorem EqC_is1_28 : Is1 Tryz.prog 28 := ⟨⟨_, Tryz.underlying28, rfl⟩, by kernel_rfl⟩
theorem EqC_is1_3 : Is1 Tryz.prog 3 := ⟨⟨_, Tryz.underlying3, rfl⟩, by kernel_rfl⟩
theorem EqC_is1_9 : Is1 Tryz.prog 9 := ⟨⟨_, Tryz.underlying9, rfl⟩, by kernel_rfl⟩
theorem EqC_fld_27_0 : FieldAt Tryz.prog 27 0 0 := ⟨_, _, Tryz.underlying27, rfl, rfl, by kernel_rfl⟩
theorem EqC_fld_27_1 : FieldAt Tryz.prog 27 1 3 := ⟨_, _, Tryz.underlying27, rfl, rfl, by kernel_rfl⟩
theorem EqC_fld_30_0 : FieldAt Tryz.prog 30 0 0 := ⟨_, _, Tryz.underlying30, rfl, rfl, by kernel_rfl⟩
theorem EqC_fld_30_1 : FieldAt Tryz.prog 30 1 1 := ⟨_, _, Tryz.underlying30, rfl, rfl, by kernel_rfl⟩
theorem EqC_fld_30_2 : FieldAt Tryz.prog 30 2 2 := ⟨_, _, Tryz.underlying30, rfl, rfl, by kernel_rfl⟩
theorem EqC_fld_30_3 : FieldAt Tryz.prog 30 3 8 := ⟨_, _, Tryz.underlying30, rfl, rfl, by kernel_rfl⟩
theorem EqC_fld_30_4 : FieldAt Tryz.prog 30 4 9 := ⟨_, _, Tryz.underlying30, rfl, rfl, by kernel_rfl⟩
theorem EqC_fld_30_5 : FieldAt Tryz.prog 30 5 10 := ⟨_, _, Tryz.underlying30, rfl, rfl, by kernel_rfl⟩
theorem EqC_isS_25 : IsS Tryz.prog 25 3 := ⟨⟨_, Tryz.underlying25⟩, by kernel_rfl⟩
theorem EqC_isS_30 : IsS Tryz.prog 30 11 := ⟨⟨_, Tryz.underlying30⟩, by kernel_rfl⟩
theorem zcg {w : World} {t u : Dt} (ht : t.rd w) (hu : u.rd w) (hT : Tabs8 w) : Calls Tryz.prog 56 #[.agg (t.d.cells t.ts.length).toArray, .agg (u.d.cells u.ts.length).toArray] w fun e w' => e = .returned (.bool (qm qi t.tr && qm qi u.tr : Bool)) ∧ Below w.heap.size w w' := by
 have M : Mg w w ([]) := Mg.start w
 refine qx (l := [(0, .agg (t.d.cells t.ts.length).toArray), (1, .agg (u.d.cells u.ts.length).toArray)]) Tryz.func56 rfl Tryz.ntmps56 rfl rfl ?_
 intro Q hret hnorm hP a A
 refine wsk fun K1 hK1 => wrl (zv (vs := (t.d.cells t.ts.length)) (t := 30) A M rfl rfl rfl pg (qt rfl rfl) (by decide) ?_)
 intro g2 w3 M a A
 refine zv (vs := (u.d.cells u.ts.length)) (t := 30) A M rfl rfl rfl pg (qt rfl rfl) (by decide) ?_
 intro g4 w5 M a A
 refine sda A λa A↦?_
 refine qa (hK1 _ _ (wsk fun K6 hK6 => wrl (sdo A (za M EqC_isS_30 rfl 1 rfl (cs := (t.d.cells t.ts.length)) rfl rfl) λa A↦?_)))
 rcases tf (qm qi t.tr) with hb7 | hb7
 ·
  refine gcl A M (ef rfl rfl) ((hb7 ▸ sound_any (t := t) (Dt.keep M.bel _ ht) (hT.below M.bel))) fun w9 hb8 M a A => ?_
  refine sdm A λa A↦?_
  refine sdo A (za M EqC_isS_30 rfl 0 rfl (cs := (u.d.cells u.ts.length)) rfl rfl) λa A↦?_
  rcases tf (qm qi u.tr) with hb10 | hb10
  ·
   refine gcl A M (ef rfl rfl) ((hb10 ▸ sound_any (t := u) (Dt.keep M.bel _ hu) (hT.below M.bel))) fun w12 hb11 M a A => ?_
   refine sdk (v := .bool true) A λa A↦?_
   refine sda A λa A↦?_
   refine qa (hK6 _ _ (wp_ret (hret _ _ (en1 A rfl (qe rfl) ?_))))
   exact ⟨by simp_all, M.bel⟩
  ·
   refine gcl A M (ef rfl rfl) ((hb10 ▸ sound_any (t := u) (Dt.keep M.bel _ hu) (hT.below M.bel))) fun w14 hb13 M a A => ?_
   refine sdk (v := .bool false) A λa A↦?_
   refine sda A λa A↦?_
   refine qa (hK6 _ _ (wp_ret (hret _ _ (en1 A rfl (qe rfl) ?_))))
   exact ⟨by simp_all, M.bel⟩
 ·
  refine gcl A M (ef rfl rfl) ((hb7 ▸ sound_any (t := t) (Dt.keep M.bel _ ht) (hT.below M.bel))) fun w16 hb15 M a A => ?_
  refine sdm A λa A↦?_
  iterate 2 refine qr A rfl rfl rfl λa A↦?_
  refine sdk (v := .bool false) A λa A↦?_
  refine sda A λa A↦?_
  refine qa (hK6 _ _ (wp_ret (hret _ _ (en1 A rfl (qe rfl) ?_))))
  exact ⟨by simp_all, M.bel⟩
theorem qig {w : World} {t u : Dt} (ht : t.rd w) (hu : u.rd w) (hT : Tabs8 w) : Calls Tryz.prog 29 #[.agg (t.d.cells t.ts.length).toArray, .agg (u.d.cells u.ts.length).toArray] w fun e w' => e = .returned (.bool (qqj t.tr u.tr)) ∧ Below w.heap.size w w' := by
 have M : Mg w w ([]) := Mg.start w
 refine qx (l := [(0, .agg (t.d.cells t.ts.length).toArray), (1, .agg (u.d.cells u.ts.length).toArray)]) Tryz.func29 rfl Tryz.ntmps29 rfl rfl ?_
 intro Q hret hnorm hP a A
 refine wsk fun K1 hK1 => wrl (zv (vs := (t.d.cells t.ts.length)) (t := 30) A M rfl rfl rfl pg (qt rfl rfl) (by decide) ?_)
 intro g2 w3 M a A
 refine zv (vs := (u.d.cells u.ts.length)) (t := 30) A M rfl rfl rfl pg (qt rfl rfl) (by decide) ?_
 intro g4 w5 M a A
 refine sda A λa A↦?_
 refine qa (hK1 _ _ (wsk fun K6 hK6 => wrl (sdo A (za M EqC_isS_30 rfl 1 rfl (cs := (t.d.cells t.ts.length)) rfl rfl) λa A↦?_)))
 refine sdo A (za M EqC_isS_30 rfl 0 rfl (cs := (u.d.cells u.ts.length)) rfl rfl) λa A↦?_
 rcases tf ((qm qi t.tr && qm qi u.tr)) with hb7 | hb7
 ·
  refine gcl A M (ef rfl rfl) ((hb7 ▸ zcg (Dt.keep M.bel _ ht) (Dt.keep M.bel _ hu) (hT.below M.bel))) fun w9 hb8 M a A => ?_
  refine sdm A λa A↦?_
  refine sdo A (za M EqC_isS_30 rfl 1 rfl (cs := (t.d.cells t.ts.length)) rfl rfl) λa A↦?_
  refine sdo A (za M EqC_isS_30 rfl 0 rfl (cs := (u.d.cells u.ts.length)) rfl rfl) λa A↦?_
  refine gcl A M (ef rfl rfl) (qpj (t.tr.bulk + 1) (Nat.lt_succ_self _) (Dt.keep M.bel _ ht) (Dt.keep M.bel _ hu) (qwf ht (zjg hb7).1) (qwf hu (zjg hb7).2)) fun w11 hb10 M a A => ?_
  rcases tf ((kl t.tr u.tr == 0)) with hb12 | hb12
  ·
   have hb12' := eq_of_beq hb12
   refine sdc A qk hb12 λa A↦?_
   refine sdk (v := .bool true) A λa A↦?_
   refine sda A λa A↦?_
   refine qa (hK6 _ _ (wp_ret (hret _ _ (en1 A rfl (qe rfl) ?_))))
   exact ⟨by unfold qqj; simp_all, M.bel⟩
  ·
   have hb12' := ne_of_beq_false hb12
   refine sdc A qk hb12 λa A↦?_
   refine sdk (v := .bool false) A λa A↦?_
   refine sda A λa A↦?_
   refine qa (hK6 _ _ (wp_ret (hret _ _ (en1 A rfl (qe rfl) ?_))))
   exact ⟨by unfold qqj; simp_all, M.bel⟩
 ·
  refine gcl A M (ef rfl rfl) ((hb7 ▸ zcg (Dt.keep M.bel _ ht) (Dt.keep M.bel _ hu) (hT.below M.bel))) fun w14 hb13 M a A => ?_
  refine sdm A λa A↦?_
  iterate 4 refine qr A rfl rfl rfl λa A↦?_
  refine sdk (v := .bool false) A λa A↦?_
  refine sda A λa A↦?_
  refine qa (hK6 _ _ (wp_ret (hret _ _ (en1 A rfl (qe rfl) ?_))))
  exact ⟨by unfold qqj; simp_all, M.bel⟩
def Hashes (n : Nat) : Prop := ∀ {w : World} {t : Dt} {h : Int}, t.tr.bulk < n → t.rd w → t.tr.good → Calls Tryz.prog 83 #[.int .u64 h, .agg (t.d.cells t.ts.length).toArray] w fun e w' => e = .returned (.int .u64 (uj h t.tr)) ∧ Below w.heap.size w w'
theorem zvf {n : Nat} (ih : Hashes n) {w : World} {t : Dt} {h : Int} (ht : t.rd w) (gt : t.tr.good) (hb : t.tr.bulk ≤ n) : Calls Tryz.prog 102 #[.int .u64 h, .slice t.d.lo t.ts.length t.d.lc] w fun e w' => e = .returned (.int .u64 (uk (hw h (t.ts.length : Int)) (t.ts.map Dt.tr))) ∧ Below w.heap.size w w' := by
 have hlt := (Dt.okT ht).2
 have M : Mg w w ([]) := Mg.start w
 refine qx (l := [(0, .int .u64 h), (1, .slice t.d.lo t.ts.length t.d.lc)]) Tryz.func102 rfl Tryz.ntmps102 rfl rfl ?_
 intro Q hret hnorm hP a A
 refine wsk fun K1 hK1 => wrl (sda A λa A↦?_)
 refine qa (hK1 _ _ (wsk fun K2 hK2 => wrl ?_))
 iterate 2 refine sdm A λa A↦?_
 refine sdo A (zb Tryz.underlying22 rfl) λa A↦?_
 refine sdo (v := .int .u64 (((t.ts.length : Nat) : Int))) A (jg rfl (ar_conv Tryz.underlying3 Tryz.underlying70 (in_u64 (by omega) (by omega)))) λa A↦?_
 refine gcl A M (ef rfl rfl) (vn) fun w4 hb3 M a A => ?_
 refine sda A λa A↦?_
 refine qa (hK2 _ _ (wsk fun K5 hK5 => wsk fun K6 hK6 => wrl (sdm A λa A↦?_)))
 refine sdo A (zb Tryz.underlying22 rfl) λa A↦?_
 refine sdm A λa A↦?_
 refine qa (hK6 _ _ (wp_block (jd (fun m_ a w1 => ∃ (i : Nat) (m : Int), m_ = 1 + (t.ts.length - i) ∧ (i ≤ t.ts.length ∧ uk (hw h (t.ts.length : Int)) (t.ts.map Dt.tr) = uk m ((t.ts.map Dt.tr).drop i)) ∧ Sl a 23 [(0, .int .u64 m), (1, .slice t.d.lo t.ts.length t.d.lc), (4, .int .u64 0), (7, .int .u64 h), (8, .slice t.d.lo t.ts.length t.d.lc), (9, .int .i64 (((t.ts.length : Nat) : Int))), (10, .int .u64 (((t.ts.length : Nat) : Int))), (11, .int .u64 (hw h (((t.ts.length : Nat) : Int)))), (12, .slice t.d.lo t.ts.length t.d.lc), (13, .int .i64 (((t.ts.length : Nat) : Int))), (14, .int .i64 (((i : Nat) : Int)))] ∧ Mg w w1 ([])) _ ⟨0, hw h ((t.ts.length : Nat) : Int), rfl, ⟨Nat.zero_le _, rfl⟩, A.keep _ (by repeat' constructor), M⟩ ?_)))
 clear M A
 rintro m_ a w7 ⟨i, m, rfl, hinv9, A, M⟩ K8 hK8
 obtain ⟨hi0, hin9⟩ := hinv9
 refine wsk fun K10 hK10 => wrl ?_
 rcases tf (decide (((i : Nat) : Int) < ((t.ts.length : Nat) : Int))) with hb11 | hb11
 ·
  have hb11' := of_decide_eq_true hb11
  refine sdc A zj hb11 λa A↦?_
  refine qa (hK10 _ _ (wsk fun K12 hK12 => wp_cond_true (A.ev rfl) ?_))
  refine wp_skip (hK12 _ _ (wsk fun K13 hK13 => wp_block (wsk fun K14 hK14 => ?_)))
  obtain ⟨t1, bt1, ot1, it1, mt1, rt1_, lt1, Ht1⟩ := uy ht (i := i) (by omega)
  refine wrl (sdo (v := .pointer (some ⟨bt1, ot1 + i * 11, none⟩)) A (zi (k := i) Tryz.underlying22 (by kernel_rfl) rfl rfl rfl lt1 (by omega)) λa A↦?_)
  refine sdo A (zx M Ht1 EqC_isS_30 rfl rfl) λa A↦?_
  refine zv (vs := [.int .i64 0, .int .i64 0, .bool false, .slice none 0 0, .slice none 0 0, .bool false, .slice none 0 0, .slice none 0 0, .string (⟨#[]⟩), .slice none 0 0, .slice none 0 0]) (t := 30) A M rfl rfl rfl pg (qp (z := .agg #[.int .i64 0, .int .i64 0, .bool false, .slice none 0 0, .slice none 0 0, .bool false, .slice none 0 0, .slice none 0 0, .string (⟨#[]⟩), .slice none 0 0, .slice none 0 0]) (by kernel_rfl) rfl) (by decide) ?_
  intro g15 w16 M a A
  refine zl (us := (t1.d.cells t1.ts.length)) (L' := (.obj g15 (.cells (t1.d.cells t1.ts.length).toArray 30) :: [])) A M rfl rfl (qy rfl rfl rfl (by kernel_rfl) M 0 rfl rfl rfl) 0 rfl rfl rfl ?_
  intro w17 M
  refine qa (hK14 _ _ (wrl (sdm A λa A↦?_)))
  refine sdo A (za M EqC_isS_30 rfl 0 rfl (cs := (t1.d.cells t1.ts.length)) rfl rfl) λa A↦?_
  refine gcl A M (ef rfl rfl) (ih (by have := ui mt1; omega) (Dt.keep M.bel _ rt1_) ((jz gt).2.2 _ mt1)) fun w19 hb18 M a A => ?_
  refine sda A λa A↦?_
  refine qa (hK13 _ _ (wrl (sdo (v := .int .i64 (((i + 1 : Nat) : Int))) A (qh rfl rfl (fun w => (ji (xb (by omega) (by omega)) w).trans (by rw [show (((i : Nat) : Int) + 1 : Int) = ((i + 1 : Nat) : Int) from by omega]))) λa A↦?_)))
  refine sdm A λa A↦?_
  refine qa ?_
  replace M : Mg w w19 ([]) := by
   have h9 := M.sub (cn (.refl _))
   exact h9
  refine hK8 _ _ _ (by omega) ⟨i + 1, uj m t1.tr, rfl, ⟨by omega, by rw [hin9, zrj it1]⟩, A.keep _ (by repeat' constructor), M⟩
 ·
  have hb11' := of_decide_eq_false hb11
  refine sdc A zj hb11 λa A↦?_
  refine qa (hK10 _ _ (wsk fun K20 hK20 => wp_cond_false (A.ev rfl) ?_))
  refine wp_exit (hK5 _ _ (wsk fun K21 hK21 => wrl (sdm A λa A↦?_)))
  refine sda A λa A↦?_
  refine qa (hK21 _ _ (wp_ret (hret _ _ (en1 A rfl (qe rfl) ?_))))
  exact ⟨by rw [hin9, zna (by omega)], M.bel⟩
theorem zch {n : Nat} (ih : Hashes n) : Hashes (n + 1) := by
 intro w t h hn ht gt
 have M : Mg w w ([]) := Mg.start w
 refine qx (l := [(0, .int .u64 h), (1, .agg (t.d.cells t.ts.length).toArray)]) Tryz.func83 rfl Tryz.ntmps83 rfl rfl ?_
 intro Q hret hnorm hP a A
 refine wsk fun K1 hK1 => wrl (zv (vs := (t.d.cells t.ts.length)) (t := 30) A M rfl rfl rfl pg (qt rfl rfl) (by decide) ?_)
 intro g2 w3 M a A
 refine sda A λa A↦?_
 refine qa (hK1 _ _ (wsk fun K4 hK4 => wp_block (jd (fun m_ a w1 => ∃ (p : Dt) (m : Int), m_ = 1 + p.tr.bulk ∧ (p.rd w ∧ p.tr.good ∧ p.tr.bulk ≤ t.tr.bulk ∧ uj h t.tr = uj m p.tr) ∧ Sl a 67 [(0, .int .u64 m), (1, .agg (t.d.cells t.ts.length).toArray), (3, .pointer (some ⟨g2, 0, none⟩)), (4, .int .u64 0)] ∧ Mg w w1 (.obj g2 (.cells (p.d.cells p.ts.length).toArray 30) :: [])) _ ⟨t, h, rfl, ⟨ht, gt, Nat.le_refl _, rfl⟩, A.keep _ ⟨rfl, rfl, rfl, rfl, trivial⟩, M⟩ ?_)))
 clear M A
 rintro m_ a w5 ⟨p, m, rfl, hinv7, A, M⟩ K6 hK6
 obtain ⟨hp, gp, hbk, hin9⟩ := hinv7
 have hk0 := (jz gp).1.h0
 have hk1 := (jz gp).1.h1
 have hn9 := jda (jz gp).1
 refine wsk fun K8 hK8 => wsk fun K9 hK9 => wrl (sdo (v := .pointer (some ⟨g2, 0, none⟩)) A (qb EqC_fld_30_0 rfl rfl) λa A↦?_)
 refine sdo A (ql M EqC_is1_3 rfl 0 rfl rfl) λa A↦?_
 rcases tf ((p.d.k == 8)) with hb10 | hb10
 ·
  have hb10' := eq_of_beq hb10
  refine sdc A qk hb10 λa A↦?_
  refine qa (hK9 _ _ (wp_cond_true (A.ev rfl) ?_))
  refine wp_skip (hK8 _ _ (wp_block (wsk fun K11 hK11 => ?_)))
  have l2p := (jz gp).1.h8 hb10'
  obtain ⟨p0, bp0, op0, ip0, mp0, rp0_, lp0, Hp0⟩ := uy hp (i := 0) (by omega)
  obtain ⟨p1, bp1, op1, ip1, mp1, rp1_, lp1, Hp1⟩ := uy hp (i := 1) (by omega)
  have hpq := zmj (h := m) hb10' l2p ip0 ip1
  refine jf (S := fun w1 => Mg w w1 (.obj g2 (.cells (p.d.cells p.ts.length).toArray 30) :: [])) (by kernel_rfl) ?_
  replace M := M.drew
  refine qf A 0 rfl rfl rfl rfl hP (M.sub (cc (List.nil_sublist _))) (fun w1 M => ze rfl) λa A↦?_
  refine qf (v := .pointer (some ⟨g2, 10, none⟩)) A 2 rfl rfl rfl rfl hP (M.sub (cc (List.nil_sublist _))) (fun w1 M => qb EqC_fld_30_5 rfl rfl) λa A↦?_
  refine qf A 3 rfl rfl rfl rfl hP (M.sub (cc (List.nil_sublist _))) (fun w1 M => ql M EqC_is1_22 rfl 0 rfl rfl) λa A↦?_
  refine qf (v := .pointer (some ⟨bp0, op0 + 0 * 11, none⟩)) A 4 rfl rfl rfl rfl hP (M.sub (cc (List.nil_sublist _))) (fun w1 M => zi (k := 0) Tryz.underlying22 (by kernel_rfl) rfl rfl rfl lp0 (by omega)) λa A↦?_
  refine qf A 5 rfl rfl rfl rfl hP (M.sub (cc (List.nil_sublist _))) (fun w1 M => zx M Hp0 EqC_isS_30 rfl rfl) λa A↦?_
  refine qn (by kernel_rfl) (zd A 1 rfl rfl rfl rfl (qj rfl rfl (fun w => by kernel_rfl)) (vn) ?_)
  rintro _ w13 ⟨rfl, hb12⟩
  replace M := M.call hb12
  refine ⟨_, rfl, (M.sub (cc (List.nil_sublist _))), ?_⟩
  intro a A
  refine qn (by kernel_rfl) (zd A 6 rfl rfl rfl rfl (qj rfl rfl (fun w => by kernel_rfl)) (ih (by have := ui mp0; omega) (Dt.keep M.bel _ rp0_) ((jz gp).2.2 _ mp0)) ?_)
  rintro _ w15 ⟨rfl, hb14⟩
  replace M := M.call hb14
  refine ⟨_, rfl, (M.sub (cc (List.nil_sublist _))), ?_⟩
  intro a A
  refine qf A 7 rfl rfl rfl rfl hP (M.sub (cc (List.nil_sublist _))) (fun w1 M => je rfl) λa A↦?_
  refine zp (by kernel_rfl) ?_
  refine hK11 _ _ (wrl (sdo (v := .pointer (some ⟨g2, 10, none⟩)) A (qb EqC_fld_30_5 rfl rfl) λa A↦?_))
  refine sdo A (ql M EqC_is1_22 rfl 0 rfl rfl) λa A↦?_
  refine sdo (v := .pointer (some ⟨bp1, op1 + 1 * 11, none⟩)) A (zi (k := 1) Tryz.underlying22 (by kernel_rfl) rfl rfl rfl lp1 (by omega)) λa A↦?_
  refine sdo A (zx M Hp1 EqC_isS_30 rfl rfl) λa A↦?_
  refine zl (us := (p1.d.cells p1.ts.length)) (L' := (.obj g2 (.cells (p1.d.cells p1.ts.length).toArray 30) :: [])) A M rfl rfl (qy rfl rfl rfl (by kernel_rfl) M 0 rfl rfl rfl) 0 rfl rfl rfl ?_
  intro w16 M
  refine qa ?_
  refine hK6 _ _ _ (by have := ui mp1; omega) ⟨p1, uj (hw m 8) p0.tr, rfl, ⟨rp1_, (jz gp).2.2 _ mp1, by have := ui mp1; omega, by rw [hin9, hpq]⟩, A.keep _ ⟨rfl, rfl, rfl, rfl, trivial⟩, M⟩
 ·
  have hb10' := ne_of_beq_false hb10
  refine sdc A qk hb10 λa A↦?_
  refine qa (hK9 _ _ (wp_cond_false (A.ev rfl) ?_))
  refine wp_exit (hK4 _ _ (wsk fun K17 hK17 => wrl (sdm A λa A↦?_)))
  refine sdo (v := .pointer (some ⟨g2, 0, none⟩)) A (qb EqC_fld_30_0 rfl rfl) λa A↦?_
  refine sdo A (ql M EqC_is1_3 rfl 0 rfl rfl) λa A↦?_
  refine sdo (v := .int .u64 p.d.k) A (jg rfl (ar_conv Tryz.underlying3 Tryz.underlying70 (in_u64 (by omega) (by omega)))) λa A↦?_
  refine gcl A M (ef rfl rfl) (vn) fun w19 hb18 M a A => ?_
  refine sda A λa A↦?_
  refine qa (hK17 _ _ (wsk fun K20 hK20 => wsk fun K21 hK21 => wrl (sdo (v := .pointer (some ⟨g2, 0, none⟩)) A (qb EqC_fld_30_0 rfl rfl) λa A↦?_)))
  refine sdo A (ql M EqC_is1_3 rfl 0 rfl rfl) λa A↦?_
  refine qa (hK21 _ _ (wp_block (wsk fun K22 hK22 => wsk fun K23 hK23 => wrl ?_)))
  rcases tf ((p.d.k == 2)) with hb24 | hb24
  ·
   have hb24' := eq_of_beq hb24
   refine sdc A qk hb24 λa A↦?_
   refine sda A λa A↦?_
   refine qa (hK23 _ _ (wp_cond_true (A.ev rfl) ?_))
   refine wp_skip (hK22 _ _ (wp_cond_true (A.ev rfl) ?_))
   refine wsk fun K25 hK25 => wrl (sdm A λa A↦?_)
   refine sdo (v := .pointer (some ⟨g2, 1, none⟩)) A (qb EqC_fld_30_1 rfl rfl) λa A↦?_
   refine sdo A (ql M EqC_is1_3 rfl 0 rfl rfl) λa A↦?_
   refine sdo (v := .int .u64 p.d.n) A (jg rfl (ar_conv Tryz.underlying3 Tryz.underlying70 (in_u64 (by omega) (by omega)))) λa A↦?_
   refine gcl A M (ef rfl rfl) (vn) fun w27 hb26 M a A => ?_
   refine sda A λa A↦?_
   refine qa (hK25 _ _ (wp_ret (hret _ _ (en1 A rfl (qe rfl) ?_))))
   exact ⟨by
    rw [hin9, kt]
    repeat (first | rw [if_pos (by omega)] | rw [if_neg (by omega)])
    try rfl, M.bel⟩
  ·
   have hb24' := ne_of_beq_false hb24
   refine sdc A qk hb24 λa A↦?_
   refine sda A λa A↦?_
   refine qa (hK23 _ _ (wp_cond_false (A.ev rfl) ?_))
   refine wrl ?_
   rcases tf ((p.d.k == 4)) with hb28 | hb28
   ·
    have hb28' := eq_of_beq hb28
    refine sdc A qk hb28 λa A↦?_
    refine sda A λa A↦?_
    refine qa (hK22 _ _ (wp_cond_true (A.ev rfl) ?_))
    refine wsk fun K29 hK29 => wrl (sdm A λa A↦?_)
    refine sdo (v := .pointer (some ⟨g2, 1, none⟩)) A (qb EqC_fld_30_1 rfl rfl) λa A↦?_
    refine sdo A (ql M EqC_is1_3 rfl 0 rfl rfl) λa A↦?_
    refine sdo (v := .int .u64 p.d.n) A (jg rfl (ar_conv Tryz.underlying3 Tryz.underlying70 (in_u64 (by omega) (by omega)))) λa A↦?_
    refine gcl A M (ef rfl rfl) (vn) fun w31 hb30 M a A => ?_
    refine sda A λa A↦?_
    refine qa (hK29 _ _ (wp_ret (hret _ _ (en1 A rfl (qe rfl) ?_))))
    exact ⟨by
     rw [hin9, kt]
     repeat (first | rw [if_pos (by omega)] | rw [if_neg (by omega)])
     try rfl, M.bel⟩
   ·
    have hb28' := ne_of_beq_false hb28
    refine sdc A qk hb28 λa A↦?_
    refine sda A λa A↦?_
    refine qa (hK22 _ _ (wp_cond_false (A.ev rfl) ?_))
    refine wsk fun K32 hK32 => wrl ?_
    rcases tf ((p.d.k == 3)) with hb33 | hb33
    ·
     have hb33' := eq_of_beq hb33
     refine sdc A qk hb33 λa A↦?_
     refine sda A λa A↦?_
     refine qa (hK32 _ _ (wp_cond_true (A.ev rfl) ?_))
     refine wsk fun K34 hK34 => jf (S := fun w1 => Mg w w1 (.obj g2 (.cells (p.d.cells p.ts.length).toArray 30) :: [])) (by kernel_rfl) ?_
     replace M := M.drew
     refine qf A 0 rfl rfl rfl rfl hP (M.sub (cc (List.nil_sublist _))) (fun w1 M => ze rfl) λa A↦?_
     refine qf (v := .pointer (some ⟨g2, 2, none⟩)) A 1 rfl rfl rfl rfl hP (M.sub (cc (List.nil_sublist _))) (fun w1 M => qb EqC_fld_30_2 rfl rfl) λa A↦?_
     refine qf (v := .pointer (some ⟨g2, 2, none⟩)) A 2 rfl rfl rfl rfl hP (M.sub (cc (List.nil_sublist _))) (fun w1 M => qb EqC_fld_27_0 rfl rfl) λa A↦?_
     refine qf A 3 rfl rfl rfl rfl hP (M.sub (cc (List.nil_sublist _))) (fun w1 M => za M EqC_isS_25 rfl 0 rfl (cs := [.bool p.d.y.q.b1, .slice p.d.y.o1 p.d.y.q.t1.length p.d.y.c1, .slice p.d.y.o2 p.d.y.q.q1.length p.d.y.c2]) rfl rfl) λa A↦?_
     refine qf (v := .pointer (some ⟨g2, 2, none⟩)) A 5 rfl rfl rfl rfl hP (M.sub (cc (List.nil_sublist _))) (fun w1 M => qb EqC_fld_30_2 rfl rfl) λa A↦?_
     refine qf (v := .pointer (some ⟨g2, 5, none⟩)) A 6 rfl rfl rfl rfl hP (M.sub (cc (List.nil_sublist _))) (fun w1 M => qb EqC_fld_27_1 rfl rfl) λa A↦?_
     refine qf A 7 rfl rfl rfl rfl hP (M.sub (cc (List.nil_sublist _))) (fun w1 M => za M EqC_isS_25 rfl 0 rfl (cs := [.bool p.d.y.q.b2, .slice p.d.y.o3 p.d.y.q.t2.length p.d.y.c3, .slice p.d.y.o4 p.d.y.q.q2.length p.d.y.c4]) rfl rfl) λa A↦?_
     refine qn (by kernel_rfl) (zd A 4 rfl rfl rfl rfl (qj rfl rfl (fun w => by kernel_rfl)) (zkj ((Dt.okT hp).1.num.s1.rd.below M.bel) ((Dt.okT hp).1.num.s2.rd.below M.bel) (Dt.okT hp).1.len.l1 (Dt.okT hp).1.len.l2) ?_)
     rintro _ w36 ⟨rfl, hb35⟩
     replace M := M.call hb35
     refine ⟨_, rfl, (M.sub (cc (List.nil_sublist _))), ?_⟩
     intro a A
     refine qn (by kernel_rfl) (zd A 8 rfl rfl rfl rfl (qj rfl rfl (fun w => by kernel_rfl)) (zkj ((Dt.okT hp).1.num.s3.rd.below M.bel) ((Dt.okT hp).1.num.s4.rd.below M.bel) (Dt.okT hp).1.len.l3 (Dt.okT hp).1.len.l4) ?_)
     rintro _ w38 ⟨rfl, hb37⟩
     replace M := M.call hb37
     refine ⟨_, rfl, (M.sub (cc (List.nil_sublist _))), ?_⟩
     intro a A
     refine qf A 9 rfl rfl rfl rfl hP (M.sub (cc (List.nil_sublist _))) (fun w1 M => je rfl) λa A↦?_
     refine zp (by kernel_rfl) ?_
     refine hK34 _ _ (wp_ret (hret _ _ (en1 A rfl (qe rfl) ?_)))
     exact ⟨by
      rw [hin9, kt]
      repeat (first | rw [if_pos (by omega)] | rw [if_neg (by omega)])
      try rfl, M.bel⟩
    ·
     have hb33' := ne_of_beq_false hb33
     refine sdc A qk hb33 λa A↦?_
     refine sda A λa A↦?_
     refine qa (hK32 _ _ (wp_cond_false (A.ev rfl) ?_))
     refine wsk fun K39 hK39 => wsk fun K40 hK40 => wrl ?_
     rcases tf ((p.d.k == 5)) with hb41 | hb41
     ·
      have hb41' := eq_of_beq hb41
      refine sdc A qk hb41 λa A↦?_
      refine sda A λa A↦?_
      refine qa (hK40 _ _ (wp_cond_true (A.ev rfl) ?_))
      refine wp_skip (hK39 _ _ (wp_cond_true (A.ev rfl) ?_))
      refine wsk fun K42 hK42 => wrl (sdm A λa A↦?_)
      refine sdo (v := .pointer (some ⟨g2, 8, none⟩)) A (qb EqC_fld_30_3 rfl rfl) λa A↦?_
      refine sdo A (ql M EqC_is1_9 rfl 0 rfl rfl) λa A↦?_
      refine qmb A M rfl Tryz.underlying9 Tryz.underlying28 Tryz.underlying5 rfl rfl rfl rfl ?_
      intro so43 ca44 w45 hrb46 M a A
      refine gcl A M (ef rfl rfl) (qmc hrb46 (by rw [vh]; exact (Dt.okT hp).1.smax)) fun w48 hb47 M a A => ?_
      refine sda A λa A↦?_
      refine qa (hK42 _ _ (wp_ret (hret _ _ (en1 A rfl (qe rfl) ?_))))
      exact ⟨by
       rw [hin9, kt]
       repeat (first | rw [if_pos (by omega)] | rw [if_neg (by omega)])
       try rfl, M.bel⟩
     ·
      have hb41' := ne_of_beq_false hb41
      refine sdc A qk hb41 λa A↦?_
      refine sda A λa A↦?_
      refine qa (hK40 _ _ (wp_cond_false (A.ev rfl) ?_))
      refine wsk fun K49 hK49 => wrl ?_
      rcases tf ((p.d.k == 6)) with hb50 | hb50
      ·
       have hb50' := eq_of_beq hb50
       refine sdc A qk hb50 λa A↦?_
       refine sda A λa A↦?_
       refine qa (hK49 _ _ (wp_cond_true (A.ev rfl) ?_))
       refine wp_skip (hK39 _ _ (wp_cond_true (A.ev rfl) ?_))
       refine wsk fun K51 hK51 => wrl (sdm A λa A↦?_)
       refine sdo (v := .pointer (some ⟨g2, 8, none⟩)) A (qb EqC_fld_30_3 rfl rfl) λa A↦?_
       refine sdo A (ql M EqC_is1_9 rfl 0 rfl rfl) λa A↦?_
       refine qmb A M rfl Tryz.underlying9 Tryz.underlying28 Tryz.underlying5 rfl rfl rfl rfl ?_
       intro so52 ca53 w54 hrb55 M a A
       refine gcl A M (ef rfl rfl) (qmc hrb55 (by rw [vh]; exact (Dt.okT hp).1.smax)) fun w57 hb56 M a A => ?_
       refine sda A λa A↦?_
       refine qa (hK51 _ _ (wp_ret (hret _ _ (en1 A rfl (qe rfl) ?_))))
       exact ⟨by
        rw [hin9, kt]
        repeat (first | rw [if_pos (by omega)] | rw [if_neg (by omega)])
        try rfl, M.bel⟩
      ·
       have hb50' := ne_of_beq_false hb50
       refine sdc A qk hb50 λa A↦?_
       refine sda A λa A↦?_
       refine qa (hK49 _ _ (wp_cond_false (A.ev rfl) ?_))
       refine wrl ?_
       rcases tf ((p.d.k == 11)) with hb58 | hb58
       ·
        have hb58' := eq_of_beq hb58
        refine sdc A qk hb58 λa A↦?_
        refine sda A λa A↦?_
        refine qa (hK39 _ _ (wp_cond_true (A.ev rfl) ?_))
        refine wsk fun K59 hK59 => wrl (sdm A λa A↦?_)
        refine sdo (v := .pointer (some ⟨g2, 8, none⟩)) A (qb EqC_fld_30_3 rfl rfl) λa A↦?_
        refine sdo A (ql M EqC_is1_9 rfl 0 rfl rfl) λa A↦?_
        refine qmb A M rfl Tryz.underlying9 Tryz.underlying28 Tryz.underlying5 rfl rfl rfl rfl ?_
        intro so60 ca61 w62 hrb63 M a A
        refine gcl A M (ef rfl rfl) (qmc hrb63 (by rw [vh]; exact (Dt.okT hp).1.smax)) fun w65 hb64 M a A => ?_
        refine sda A λa A↦?_
        refine qa (hK59 _ _ (wp_ret (hret _ _ (en1 A rfl (qe rfl) ?_))))
        exact ⟨by
         rw [hin9, kt]
         repeat (first | rw [if_pos (by omega)] | rw [if_neg (by omega)])
         try rfl, M.bel⟩
       ·
        have hb58' := ne_of_beq_false hb58
        refine sdc A qk hb58 λa A↦?_
        refine sda A λa A↦?_
        refine qa (hK39 _ _ (wp_cond_false (A.ev rfl) ?_))
        refine wsk fun K66 hK66 => wrl ?_
        rcases tf ((p.d.k == 7)) with hb67 | hb67
        ·
         have hb67' := eq_of_beq hb67
         refine sdc A qk hb67 λa A↦?_
         refine sda A λa A↦?_
         refine qa (hK66 _ _ (wp_cond_true (A.ev rfl) ?_))
         refine wsk fun K68 hK68 => wrl (sdm A λa A↦?_)
         refine sdo (v := .pointer (some ⟨g2, 9, none⟩)) A (qb EqC_fld_30_4 rfl rfl) λa A↦?_
         refine sdo A (ql M EqC_is1_28 rfl 0 rfl rfl) λa A↦?_
         refine gcl A M (ef rfl rfl) (qmc ((Dt.okT hp).1.raw.below M.bel) (Nat.le_trans (Dt.okT hp).1.rcap (Dt.okT hp).1.rmax)) fun w70 hb69 M a A => ?_
         refine sda A λa A↦?_
         refine qa (hK68 _ _ (wp_ret (hret _ _ (en1 A rfl (qe rfl) ?_))))
         exact ⟨by
          rw [hin9, kt]
          repeat (first | rw [if_pos (by omega)] | rw [if_neg (by omega)])
          try rfl, M.bel⟩
        ·
         have hb67' := ne_of_beq_false hb67
         refine sdc A qk hb67 λa A↦?_
         refine sda A λa A↦?_
         refine qa (hK66 _ _ (wp_cond_false (A.ev rfl) ?_))
         refine wsk fun K71 hK71 => wrl ?_
         rcases tf ((p.d.k == 9)) with hb72 | hb72
         ·
          have hb72' := eq_of_beq hb72
          refine sdc A qk hb72 λa A↦?_
          refine sda A λa A↦?_
          refine qa (hK71 _ _ (wp_cond_true (A.ev rfl) ?_))
          refine wsk fun K73 hK73 => wrl (sdm A λa A↦?_)
          refine sdo (v := .pointer (some ⟨g2, 10, none⟩)) A (qb EqC_fld_30_5 rfl rfl) λa A↦?_
          refine sdo A (ql M EqC_is1_22 rfl 0 rfl rfl) λa A↦?_
          refine gcl A M (ef rfl rfl) (zvf ih (Dt.keep M.bel _ hp) gp (by omega)) fun w75 hb74 M a A => ?_
          refine sda A λa A↦?_
          refine qa (hK73 _ _ (wp_ret (hret _ _ (en1 A rfl (qe rfl) ?_))))
          exact ⟨by
           rw [hin9, kt]
           repeat (first | rw [if_pos (by omega)] | rw [if_neg (by omega)])
           try rfl, M.bel⟩
         ·
          have hb72' := ne_of_beq_false hb72
          refine sdc A qk hb72 λa A↦?_
          refine sda A λa A↦?_
          refine qa (hK71 _ _ (wp_cond_false (A.ev rfl) ?_))
          refine wp_skip (hK20 _ _ (wsk fun K76 hK76 => wrl (sdm A λa A↦?_)))
          refine sda A λa A↦?_
          refine qa (hK76 _ _ (wp_ret (hret _ _ (en1 A rfl (qe rfl) ?_))))
          exact ⟨by
           rw [hin9, kt]
           repeat (first | rw [if_pos (by omega)] | rw [if_neg (by omega)])
           try rfl, M.bel⟩
theorem qqa : ∀ n, Hashes n
 | 0 => fun h => absurd h (Nat.not_lt_zero _)
 | n + 1 => zch (qqa n)
theorem zci {w : World} {t : Dt} (ht : t.rd w) (hT : Tabs8 w) : Calls Tryz.prog 65 #[.agg (t.d.cells t.ts.length).toArray] w fun e w' => e = .returned (.int .u64 (ya t.tr)) ∧ Below w.heap.size w w' := by
 have M : Mg w w ([]) := Mg.start w
 refine qx (l := [(0, .agg (t.d.cells t.ts.length).toArray)]) Tryz.func65 rfl Tryz.ntmps65 rfl rfl ?_
 intro Q hret hnorm hP a A
 refine wsk fun K1 hK1 => wrl (zv (vs := (t.d.cells t.ts.length)) (t := 30) A M rfl rfl rfl pg (qt rfl rfl) (by decide) ?_)
 intro g2 w3 M a A
 refine sda A λa A↦?_
 refine qa (hK1 _ _ (wsk fun K4 hK4 => wsk fun K5 hK5 => wrl (sdo A (za M EqC_isS_30 rfl 0 rfl (cs := (t.d.cells t.ts.length)) rfl rfl) λa A↦?_)))
 rcases tf (qm qi t.tr) with hb6 | hb6
 ·
  refine gcl A M (ef rfl rfl) ((hb6 ▸ sound_any (t := t) (Dt.keep M.bel _ ht) (hT.below M.bel))) fun w8 hb7 M a A => ?_
  refine sdo (v := .bool false) A (zk rfl zt) λa A↦?_
  refine qa (hK5 _ _ (wp_cond_false (A.ev rfl) ?_))
  refine wp_skip (hK4 _ _ (wsk fun K9 hK9 => wrl (sdo A (za M EqC_isS_30 rfl 0 rfl (cs := (t.d.cells t.ts.length)) rfl rfl) λa A↦?_)))
  refine gcl A M (ef rfl rfl) (qqa (t.tr.bulk + 1) (Nat.lt_succ_self _) (Dt.keep M.bel _ ht) (qwf ht hb6)) fun w10 hbh M a A => ?_
  refine sda A λa A↦?_
  refine qa (hK9 _ _ (wp_ret (hret _ _ (en1 A rfl (qe rfl) ?_))))
  exact ⟨by rw [jbe hb6], M.bel⟩
 ·
  refine gcl A M (ef rfl rfl) ((hb6 ▸ sound_any (t := t) (Dt.keep M.bel _ ht) (hT.below M.bel))) fun w12 hb11 M a A => ?_
  refine sdo (v := .bool true) A (zk rfl zt) λa A↦?_
  refine qa (hK5 _ _ (wp_cond_true (A.ev rfl) ?_))
  refine wsk fun K13 hK13 => wrl (sda A λa A↦?_)
  refine qa (hK13 _ _ (wp_ret (hret _ _ (en1 A rfl (qe rfl) ?_))))
  exact ⟨by rw [jbd hb6], M.bel⟩
section
variable {α : Type}
/-- A total order but for what is alike. -/
structure Swo (lt : α → α → Bool) : Prop where
  asy : ∀ x y, lt x y = true → lt y x = false
  neg : ∀ x y z, lt x y = false → lt y z = false → lt x z = false
variable {lt : α → α → Bool}
theorem Swo.tr (H : Swo lt) {x y z : α} (h1 : lt x y = true) (h2 : lt y z = true) : lt x z = true := by
  cases h : lt x z with
  | true => rfl
  | false => exact absurd (H.neg _ _ _ h (H.asy _ _ h2)) (by rw [h1]; decide)
/-- In order: no later one lies ahead of an earlier one. -/
def Up (lt : α → α → Bool) (l : List α) : Prop := l.Pairwise fun x y => lt y x = false
/-! ### Merging by places -/
theorem Up.head (H : Swo lt) {l : List α} {z : α} (h : Up lt (z :: l)) : ∀ x ∈ z :: l, lt x z = false := fun x hx => by
  rcases List.mem_cons.1 hx with rfl | hx
  · cases h9 : lt x x with
    | false => rfl
    | true => exact absurd (H.asy _ _ h9) (by rw [h9]; decide)
  · exact (List.pairwise_cons.1 h).1 x hx
end
section
variable {α : Type} {lt : α → α → Bool}
end
section
variable {α : Type} {lt : α → α → Bool}
end




theorem LiW_is1_3 : Is1 Tryz.prog 3 := ⟨⟨_, Tryz.underlying3, rfl⟩, by kernel_rfl⟩
theorem LiW_fld_30_0 : FieldAt Tryz.prog 30 0 0 := ⟨_, _, Tryz.underlying30, rfl, rfl, by kernel_rfl⟩
theorem zhf {w : World} {t : Dt} : Calls Tryz.prog 67 #[.agg (t.d.cells t.ts.length).toArray] w fun e w' => e = .returned (.bool (t.d.k != 8)) ∧ Below w.heap.size w w' := by
 have M : Mg w w ([]) := Mg.start w
 refine qx (l := [(0, .agg (t.d.cells t.ts.length).toArray)]) Tryz.func67 rfl Tryz.ntmps67 rfl rfl ?_
 intro Q hret hnorm hP a A
 refine wsk fun K1 hK1 => wrl (zv (vs := (t.d.cells t.ts.length)) (t := 30) A M rfl rfl rfl pg (qt rfl rfl) (by decide) ?_)
 intro g2 w3 M a A
 refine sda A λa A↦?_
 refine qa (hK1 _ _ (wsk fun K4 hK4 => wrl (sdo (v := .pointer (some ⟨g2, 0, none⟩)) A (qb LiW_fld_30_0 rfl rfl) λa A↦?_)))
 refine sdo A (ql M LiW_is1_3 rfl 0 rfl rfl) λa A↦?_
 rcases tf ((t.d.k != 8)) with hb5 | hb5
 ·
  have hb5' := bne_iff_ne.1 hb5
  refine sdc A zr hb5 λa A↦?_
  refine sda A λa A↦?_
  refine qa (hK4 _ _ (wp_ret (hret _ _ (en1 A rfl (qe rfl) ?_))))
  exact ⟨by simp_all, M.bel⟩
 ·
  have hb5' := bne_eq_false_iff_eq.1 hb5
  refine sdc A zr hb5 λa A↦?_
  refine sda A λa A↦?_
  refine qa (hK4 _ _ (wp_ret (hret _ _ (en1 A rfl (qe rfl) ?_))))
  exact ⟨by simp_all, M.bel⟩
theorem zpg {w : World} {ts : List Dt} : Asks Tryz.prog 67 [] w ts (fun t => t.d.k != 8) := ⟨fun us w => by kernel_rfl, fun t w1 ht hb => zhf⟩

section
variable {α : Type} {lt : α → α → Bool}
end
theorem zhg {ts : List Tr} (h : ∀ t ∈ ts, ∀ d e : Int, d ≤ e → yb e t = true → yb d t = true) {d e : Int} (hd : d ≤ e) (pr : Bool) : ∀ i, qci e pr i ts = true → qci d pr i ts = true := by
 induction ts with
 | nil => intro i _; rfl
 | cons t ts ih =>
  intro i h2
  rw [qci, Bool.and_eq_true] at h2 ⊢
  refine ⟨h t (List.mem_cons_self ..) _ _ ?_ h2.1, ih (fun u hu => h u (List.mem_cons_of_mem _ hu)) (i + 1) h2.2⟩
  split <;> omega
theorem qqb {x : Tr} : ∀ {xs : List Tr}, x ∈ xs → ub x ≤ vd xs
 | y :: ys, h => by
  rw [vd]
  rcases List.mem_cons.1 h with rfl | h
  ·
   omega
  ·
   have := qqb h; omega
theorem que : ∀ t : Tr, ∀ d e : Int, d ≤ e → yb e t = true → yb d t = true := by
 refine Tr.indT fun k n q s rl ts ih d e hd h => ?_
 rw [yb, Bool.and_eq_true] at h ⊢
 exact ⟨decide_eq_true (by have := of_decide_eq_true h.1; omega), zhg ih hd _ _ h.2⟩
theorem vw {t : Tr} {xs : List Tr} (h : zw t = some xs) (hs : qm qi t = true) : ∀ x ∈ xs, qm qi x = true := fun x hx => by
 rw [qkf h, qbf] at hs
 have := qqb hx
 exact (qfd x).2 ⟨que x 1 2 (by decide) (List.all_eq_true.1 hs.1.1 x hx), by have := hs.2.1; omega, List.all_eq_true.1 hs.2.2.1 x hx⟩
theorem LiR_is1_45 : Is1 Tryz.prog 45 := ⟨⟨_, Tryz.underlying45, rfl⟩, by kernel_rfl⟩
theorem LiR_is1_70 : Is1 Tryz.prog 70 := ⟨⟨_, Tryz.underlying70, rfl⟩, by kernel_rfl⟩
theorem LiR_isS_30 : IsS Tryz.prog 30 11 := ⟨⟨_, Tryz.underlying30⟩, by kernel_rfl⟩
/-- Whether an item is what is looked for, as the program asks. -/
def qqc (x z : Tr) : Bool := (ya z == ya x) && qqj x z
theorem qxi {w : World} {x t : Dt} (hx : x.rd w) (ht : t.rd w) (sx : qm qi x.tr = true) (st : qm qi t.tr = true) : qqc x.tr t.tr = js x.tr t.tr := by
 cases h : js x.tr t.tr with
 | true =>
  have e := (qcj _ _).1 h
  unfold qqc qqj
  rw [← e, sx]
  have h0 : kl x.tr x.tr = 0 := by have := zmf x.tr x.tr; omega
  simp [h0]
 | false =>
  cases h2 : qqj x.tr t.tr with
  | true => rw [(qcj _ _).2 (znb hx ht h2)] at h; cases h
  | false => unfold qqc; rw [h2, Bool.and_false]
theorem qxj {w : World} {x t : Dt} {gh gx : Nat} (hG : w.heap[gh]? = some (.cells [.int .u64 (ya x.tr)].toArray 70)) (hHx : Here w gx 0 (x.d.cells x.ts.length)) (hx : x.rd w) (ht : t.rd w) (hT : Tabs8 w) : Calls Tryz.prog 66 #[.agg (t.d.cells t.ts.length).toArray, .pointer (some ⟨gh, 0, none⟩), .pointer (some ⟨gx, 0, none⟩)] w fun e w' => e = .returned (.bool (qqc x.tr t.tr)) ∧ Below w.heap.size w w' := by
 have M : Mg w w ([]) := Mg.start w
 refine qx (l := [(0, .agg (t.d.cells t.ts.length).toArray), (1, .pointer (some ⟨gh, 0, none⟩)), (2, .pointer (some ⟨gx, 0, none⟩))]) Tryz.func66 rfl Tryz.ntmps66 rfl rfl ?_
 intro Q hret hnorm hP a H
 refine wsk fun K1 hK1 => wrl (zv (vs := (t.d.cells t.ts.length)) (t := 30) H M rfl rfl rfl pg (qt rfl rfl) (by decide) ?_)
 intro g2 w3 M a H
 refine sda H λa H↦?_
 refine qa (hK1 _ _ (wsk fun K4 hK4 => jf (S := fun w1 => Mg w w1 (.obj g2 (.cells (t.d.cells t.ts.length).toArray 30) :: [])) (by kernel_rfl) ?_))
 replace M := M.drew
 refine qf H 0 rfl rfl rfl rfl hP (M.sub (cc (List.nil_sublist _))) (fun w1 M => za M LiR_isS_30 rfl 0 rfl (cs := (t.d.cells t.ts.length)) rfl rfl) λa H↦?_
 refine qf H 2 rfl rfl rfl rfl hP (M.sub (cc (List.nil_sublist _))) (fun w1 M => qyg M hG LiR_is1_70 rfl rfl) λa H↦?_
 refine qn (by kernel_rfl) (zd H 1 rfl rfl rfl rfl (qj rfl rfl (fun w => by kernel_rfl)) (zci (Dt.keep M.bel _ ht) (hT.below M.bel)) ?_)
 rintro _ w6 ⟨rfl, hb5⟩
 replace M := M.call hb5
 refine ⟨_, rfl, (M.sub (cc (List.nil_sublist _))), ?_⟩
 intro a H
 rcases tf ((ya t.tr == ya x.tr)) with hb7 | hb7
 ·
  have hb7' := eq_of_beq hb7
  refine qf (v := .bool true) H 3 rfl rfl rfl rfl hP (M.sub (cc (List.nil_sublist _))) (fun w1 M => qh rfl rfl (fun w => (qk w).trans (by rw [hb7]))) λa H↦?_
  refine qf H 4 rfl rfl rfl rfl hP (M.sub (cc (List.nil_sublist _))) (fun w1 M => ze rfl) λa H↦?_
  refine qf H 5 rfl rfl rfl rfl hP (M.sub (cc (List.nil_sublist _))) (fun w1 M => zx M hHx LiR_isS_30 rfl rfl) λa H↦?_
  refine qf H 6 rfl rfl rfl rfl hP (M.sub (cc (List.nil_sublist _))) (fun w1 M => za M LiR_isS_30 rfl 0 rfl (cs := (t.d.cells t.ts.length)) rfl rfl) λa H↦?_
  refine qn (by kernel_rfl) (zd H 7 rfl rfl rfl rfl (qj rfl rfl (fun w => by kernel_rfl)) (qig (t := x) (u := t) (Dt.keep M.bel _ hx) (Dt.keep M.bel _ ht) (hT.below M.bel)) ?_)
  rintro _ w9 ⟨rfl, hb8⟩
  replace M := M.call hb8
  refine ⟨_, rfl, (M.sub (cc (List.nil_sublist _))), ?_⟩
  intro a H
  refine qf (v := .bool (qqj x.tr t.tr)) H 8 rfl rfl rfl rfl hP (M.sub (cc (List.nil_sublist _))) (fun w1 M => km rfl rfl rfl rfl) λa H↦?_
  refine qf H 9 rfl rfl rfl rfl hP (M.sub (cc (List.nil_sublist _))) (fun w1 M => je rfl) λa H↦?_
  refine zp (by kernel_rfl) ?_
  refine hK4 _ _ (wp_ret (hret _ _ (en1 H rfl (qe rfl) ?_)))
  exact ⟨by unfold qqc; rw [hb7]; rfl, M.bel⟩
 ·
  have hb7' := ne_of_beq_false hb7
  refine qf (v := .bool false) H 3 rfl rfl rfl rfl hP (M.sub (cc (List.nil_sublist _))) (fun w1 M => qh rfl rfl (fun w => (qk w).trans (by rw [hb7]))) λa H↦?_
  refine qf H 4 rfl rfl rfl rfl hP (M.sub (cc (List.nil_sublist _))) (fun w1 M => ze rfl) λa H↦?_
  refine qvd H 5 rfl rfl rfl rfl hP (M.sub (cc (List.nil_sublist _))) λa H↦?_
  refine qvd H 6 rfl rfl rfl rfl hP (M.sub (cc (List.nil_sublist _))) λa H↦?_
  refine qvd H 7 rfl rfl rfl rfl hP (M.sub (cc (List.nil_sublist _))) λa H↦?_
  refine qf (v := .bool false) H 8 rfl rfl rfl rfl hP (M.sub (cc (List.nil_sublist _))) (fun w1 M => km rfl rfl rfl rfl) λa H↦?_
  refine qf H 9 rfl rfl rfl rfl hP (M.sub (cc (List.nil_sublist _))) (fun w1 M => je rfl) λa H↦?_
  refine zp (by kernel_rfl) ?_
  refine hK4 _ _ (wp_ret (hret _ _ (en1 H rfl (qe rfl) ?_)))
  exact ⟨by unfold qqc; rw [hb7]; rfl, M.bel⟩
theorem zph {w : World} {x : Dt} {gh gx : Nat} {ts : List Dt} (hG : w.heap[gh]? = some (.cells [.int .u64 (ya x.tr)].toArray 70)) (hHx : Here w gx 0 (x.d.cells x.ts.length)) (hx : x.rd w) (hD : ∀ t ∈ ts, t.rd w) (hT : Tabs8 w) : Asks Tryz.prog 66 [.pointer (some ⟨gh, 0, none⟩), .pointer (some ⟨gx, 0, none⟩)] w ts (fun t => qqc x.tr t.tr) :=
 ⟨fun us w => by kernel_rfl, fun t w1 ht hb => qxj ((hb.block gh (Array.getElem?_eq_some_iff.1 hG).1).trans hG) (hHx.below hb) (Dt.keep hb _ hx) (Dt.keep hb _ (hD t ht)) (hT.below hb)⟩
theorem zcj {w : World} {so : Option Addr} {ca : Nat} {ts : List Dt} (hR : Rt w so ts) (hD : ∀ t ∈ ts, t.rd w) (hl : ts.length ≤ 1000000000) {f : FuncId} {cs : List Value} {p : Dt → Bool} (hF : Asks Tryz.prog f cs w ts p) : Calls Tryz.prog 44 #[.slice so ts.length ca, .func (.func f) #[] cs.toArray] w fun e w' => ∃ ix : Int, e = .returned (.int .i64 ix) ∧ ix = qch p ts ∧ Below w.heap.size w w' := (qeb hR hD hl hF).mono fun e w' h => ⟨_, h.1, rfl, h.2⟩
theorem qfh {w : World} {x : Dt} (hx : x.rd w) (hT : Tabs8 w) : Calls Tryz.prog 45 #[.agg (x.d.cells x.ts.length).toArray] w fun e w' => ∃ gh gx, e = .returned (.func (.func 66) #[] [.pointer (some ⟨gh, 0, none⟩), .pointer (some ⟨gx, 0, none⟩)].toArray) ∧ Mg w w' (.obj gh (.cells #[.int .u64 (ya x.tr)] 70) :: .obj gx (.cells (x.d.cells x.ts.length).toArray 30) :: []) := by
 have M : Mg w w ([]) := Mg.start w
 refine qx (l := [(0, .agg (x.d.cells x.ts.length).toArray)]) Tryz.func45 rfl Tryz.ntmps45 rfl rfl ?_
 intro Q hret hnorm hP a H
 refine wsk fun K1 hK1 => wrl (zv (vs := (x.d.cells x.ts.length)) (t := 30) H M rfl rfl rfl pg (qt rfl rfl) (by decide) ?_)
 intro g2 w3 M a H
 refine sda H λa H↦?_
 refine qa (hK1 _ _ (wsk fun K4 hK4 => wrl (sdo H (za M LiR_isS_30 rfl 0 rfl (cs := (x.d.cells x.ts.length)) rfl rfl) λa H↦?_)))
 refine gcl H M (ef rfl rfl) (zci (Dt.keep M.bel _ hx) (hT.below M.bel)) fun w6 hb5 M a H => ?_
 refine zv (vs := [.int .u64 0]) (t := 70) H M rfl rfl rfl pg (qp (z := .int .u64 0) (by kernel_rfl) rfl) (by decide) ?_
 intro g7 w8 M a H
 refine zl (us := [.int .u64 (ya x.tr)]) (L' := (.obj g7 (.cells #[.int .u64 (ya x.tr)] 70) :: .obj g2 (.cells (x.d.cells x.ts.length).toArray 30) :: [])) H M rfl rfl (qy rfl rfl rfl (by kernel_rfl) M 0 rfl rfl rfl) 0 rfl rfl rfl ?_
 intro w9 M
 refine qa (hK4 _ _ (wsk fun K10 hK10 => wrl (sdo (v := .func (.func 66) #[] [.pointer (some ⟨g7, 0, none⟩), .pointer (some ⟨g2, 0, none⟩)].toArray) H (un rfl) λa H↦?_)))
 refine sda H λa H↦?_
 refine qa (hK10 _ _ (wp_ret (hret _ _ (en1 H rfl (qe rfl) ?_))))
 replace M : Mg w w9 (.obj g7 (.cells #[.int .u64 (ya x.tr)] 70) :: .obj g2 (.cells (x.d.cells x.ts.length).toArray 30) :: []) := by
  have h9 := M.sub (cc (cc (.refl _)))
  exact h9
 exact ⟨g7, g2, rfl, M⟩
theorem jdj (x : Dt) : ([x].all fun t => qm qi t.tr) = qm qi x.tr := by rw [List.all_cons, List.all_nil, Bool.and_true]
theorem qje {w0 w : World} {t x : Dt} {so : Option Addr} {ca : Nat} (h0 : Below w0.heap.size w0 w) (ht : t.rd w0) (hR : Rt w so [x]) (hx : x.rd w) (hb : t.tr.bulk ≤ 1000000000) (hT : Tabs8 w) : Calls Tryz.prog 31 #[.agg (t.d.cells t.ts.length).toArray, .slice so 1 ca] w fun e w' => (∃ so' ca' ys, e = .returned (.tuple #[.slice so' (ys : List Dt).length ca', .int .i64 0]) ∧ ((qm qi t.tr && qm qi x.tr) = true ∧ zw t.tr = some (ys.map Dt.tr) ∧ (∀ x ∈ ys, x.rd w0) ∧ ys.length ≤ t.tr.bulk) ∧ Mg w w' [.row 30 11 (.slice so' ys.length ca') ys.length (cellsOf ys)]) ∨ (e = .returned (.tuple #[.slice none 0 0, .int .i64 10]) ∧ ((qm qi t.tr && qm qi x.tr) = true ∧ zw t.tr = none) ∧ Below w.heap.size w w') ∨ (e = .returned (.tuple #[.slice none 0 0, .int .i64 2]) ∧ (qm qi t.tr && qm qi x.tr) = false ∧ Below w.heap.size w w') := by
 have h := qbg (ts := [x]) (ca := ca) h0 ht hR (fun u hu => by rw [List.mem_singleton.1 hu]; exact hx) (by simp) hb hT
 rw [jdj] at h
 exact h
theorem qdb {w0 w : World} {t x : Dt} {so : Option Addr} {ca : Nat} (h0 : Below w0.heap.size w0 w) (ht : t.rd w0) (hR : Rt w so [x]) (hx : x.rd w) (hb : t.tr.bulk ≤ 1000000000) (hT : Tabs8 w) (hs : (qm qi t.tr && qm qi x.tr) = true) (h : (zw t.tr).isSome = true) : Calls Tryz.prog 31 #[.agg (t.d.cells t.ts.length).toArray, .slice so 1 ca] w fun e w' => ∃ so' ca' ys, e = .returned (.tuple #[.slice so' (ys : List Dt).length ca', .int .i64 0]) ∧ (zw t.tr = some (ys.map Dt.tr) ∧ (∀ x ∈ ys, x.rd w0) ∧ ys.length ≤ t.tr.bulk) ∧ Mg w w' [.row 30 11 (.slice so' ys.length ca') ys.length (cellsOf ys)] := by
 refine (qje h0 ht hR hx hb hT).mono ?_
 rintro e w' (⟨so', ca', ys, h1, h2, h3⟩ | ⟨_, h2, _⟩ | ⟨_, h2, _⟩)
 ·
  exact ⟨so', ca', ys, h1, h2.2, h3⟩
 ·
  rw [h2.2] at h; cases h
 ·
  rw [hs] at h2; cases h2
theorem qdc {w0 w : World} {t x : Dt} {so : Option Addr} {ca : Nat} (h0 : Below w0.heap.size w0 w) (ht : t.rd w0) (hR : Rt w so [x]) (hx : x.rd w) (hb : t.tr.bulk ≤ 1000000000) (hT : Tabs8 w) (hs : (qm qi t.tr && qm qi x.tr) = true) (h : (zw t.tr).isSome = false) : Calls Tryz.prog 31 #[.agg (t.d.cells t.ts.length).toArray, .slice so 1 ca] w fun e w' => e = .returned (.tuple #[.slice none 0 0, .int .i64 10]) ∧ Below w.heap.size w w' := by
 refine (qje h0 ht hR hx hb hT).mono ?_
 rintro e w' (⟨so', ca', ys, h1, h2, h3⟩ | ⟨h1, h2, h3⟩ | ⟨_, h2, _⟩)
 ·
  rw [h2.2.1] at h; cases h
 ·
  exact ⟨h1, h3⟩
 ·
  rw [hs] at h2; cases h2
theorem qfi {w0 w : World} {t x : Dt} {so : Option Addr} {ca : Nat} (h0 : Below w0.heap.size w0 w) (ht : t.rd w0) (hR : Rt w so [x]) (hx : x.rd w) (hb : t.tr.bulk ≤ 1000000000) (hT : Tabs8 w) (hs : (qm qi t.tr && qm qi x.tr) = false) : Calls Tryz.prog 31 #[.agg (t.d.cells t.ts.length).toArray, .slice so 1 ca] w fun e w' => e = .returned (.tuple #[.slice none 0 0, .int .i64 2]) ∧ Below w.heap.size w w' := by
 refine (qje h0 ht hR hx hb hT).mono ?_
 rintro e w' (⟨so', ca', ys, h1, h2, h3⟩ | ⟨h1, h2, h3⟩ | ⟨h1, h2, h3⟩)
 ·
  rw [hs] at h2; cases h2.1
 ·
  rw [hs] at h2; cases h2.1
 ·
  exact ⟨h1, h3⟩
theorem zla {p : Dt → Bool} {q : Tr → Bool} : ∀ {ys : List Dt}, (∀ t ∈ ys, p t = q t.tr) → ys.any p = (ys.map Dt.tr).any q ∧ ys.findIdx p = (ys.map Dt.tr).findIdx q
 | [], _ => ⟨rfl, rfl⟩
 | y :: ys, h => by
  have h1 := h y (List.mem_cons_self ..)
  obtain ⟨h2, h3⟩ := zla (fun t ht => h t (List.mem_cons_of_mem _ ht))
  rw [List.map_cons, List.any_cons, List.any_cons, List.findIdx_cons, List.findIdx_cons, h1, h2, h3]
  exact ⟨rfl, rfl⟩
theorem qjf {p : Dt → Bool} {q : Tr → Bool} {ys : List Dt} {ix : Int} (hi : ix = qch p ys) (h : ∀ t ∈ ys, p t = q t.tr) : ix = (if (ys.map Dt.tr).any q = true then (((ys.map Dt.tr).findIdx q : Nat) : Int) else -1) ∧ ix ≤ ys.length := by
 obtain ⟨h1, h2⟩ := zla h
 subst hi
 unfold qch
 rw [h1, h2]
 refine ⟨rfl, ?_⟩
 split
 ·
  have := List.findIdx_le_length (xs := ys.map Dt.tr) (p := q); rw [List.length_map] at this; omega
 ·
  omega
theorem qya {A : Bool} {n : Nat} {ix : Int} (h : ix = (if A = true then (n : Int) else -1)) (hl : ix < 0) : A = false := by
 cases A with
 | false => rfl
 | true => rw [if_pos rfl] at h; omega
theorem qme {A : Bool} {n : Nat} {ix : Int} (h : ix = (if A = true then (n : Int) else -1)) (hl : ¬ ix < 0) : A = true ∧ ix.toNat = n := by
 cases A with
 | false => rw [if_neg (by decide)] at h; omega
 | true => rw [if_pos rfl] at h; exact ⟨rfl, by omega⟩
/-- What Member answers. -/
noncomputable def qyb (x t : Tr) : Tr × Int := if (qm qi t && qm qi x) = false then (xg, 2) else match zw t with
 | none => (xg, 10)
 | some xs => if xs.any (js x) = true then (jb (xs.drop (xs.findIdx (js x))) nilT, 0) else (xg, 7)
theorem zda {x t : Tr} (h : (qm qi t && qm qi x) = false) : qyb x t = (xg, 2) := if_pos h
theorem quf {x t : Tr} (h : (qm qi t && qm qi x) = true) (ha : zw t = none) : qyb x t = (xg, 10) := by unfold qyb; rw [if_neg (by rw [h]; decide), ha]
theorem zlb {x t : Tr} {xs : List Tr} (h : (qm qi t && qm qi x) = true) (ha : zw t = some xs) (hn : xs.any (js x) = false) : qyb x t = (xg, 7) := by unfold qyb; rw [if_neg (by rw [h]; decide), ha]; exact if_neg (by rw [hn]; decide)
theorem zdb {x t : Tr} {xs : List Tr} (h : (qm qi t && qm qi x) = true) (ha : zw t = some xs) (hn : xs.any (js x) = true) : qyb x t = (jb (xs.drop (xs.findIdx (js x))) nilT, 0) := by unfold qyb; rw [if_neg (by rw [h]; decide), ha]; exact if_pos hn
theorem zhh {w : World} {x t : Dt} (hx : x.rd w) (ht : t.rd w) (hb : t.tr.bulk ≤ 300000000) (hT : Tabs8 w) : Calls Tryz.prog 20 #[.agg (x.d.cells x.ts.length).toArray, .agg (t.d.cells t.ts.length).toArray] w fun e w' => ∃ (t2 : Dt) (k : Int), e = .returned (.tuple #[.agg (t2.d.cells t2.ts.length).toArray, .int .i64 k]) ∧ (t2.rd w' ∧ t2.at_ (w.heap.size ≤ ·) ∧ (t2.tr, k) = qyb x.tr t.tr) ∧ Below w.heap.size w w' := by
 have M : Mg w w ([]) := Mg.start w
 refine qx (l := [(0, .agg (x.d.cells x.ts.length).toArray), (1, .agg (t.d.cells t.ts.length).toArray)]) Tryz.func20 rfl Tryz.ntmps20 rfl rfl ?_
 intro Q hret hnorm hP a H
 refine wsk fun K1 hK1 => wrl (zv (vs := (x.d.cells x.ts.length)) (t := 30) H M rfl rfl rfl pg (qt rfl rfl) (by decide) ?_)
 intro g2 w3 M a H
 refine zv (vs := (t.d.cells t.ts.length)) (t := 30) H M rfl rfl rfl pg (qt rfl rfl) (by decide) ?_
 intro g4 w5 M a H
 refine zv (vs := (qg.d.cells qg.ts.length)) (t := 30) H M rfl rfl rfl pg (qp (z := .agg (qg.d.cells qg.ts.length).toArray) (by kernel_rfl) rfl) (by decide) ?_
 intro g6 w7 M a H
 refine sda H λa H↦?_
 refine qa (hK1 _ _ (wsk fun K8 hK8 => wrl (sdo H (za M LiR_isS_30 rfl 1 rfl (cs := (t.d.cells t.ts.length)) rfl rfl) λa H↦?_)))
 refine sdo H (za M LiR_isS_30 rfl 2 rfl (cs := (x.d.cells x.ts.length)) rfl rfl) λa H↦?_
 refine kj (e := 30) (sz := 11) (m := 1) (vs := cellsOf [x]) H M rfl rfl rfl (zn rfl (by kernel_rfl)) rfl rfl (.inl (by decide)) ?_
 intro g9 w10 M a H
 rcases tf ((qm qi t.tr && qm qi x.tr)) with hb11 | hb11
 ·
  rcases tf ((zw t.tr).isSome) with hb13 | hb13
  ·
   refine sct H (ef rfl rfl) (qdb M.bel ht (jx (M.has 0 rfl)).1 (Dt.keep M.bel _ hx) (by omega) (hT.below M.bel) hb11 hb13) ?_
   rintro _ w15 ⟨so7, ca7, ys, rfl, ⟨hy1, hy2, hy3⟩, hM7⟩
   have hyb := xv hy1
   obtain ⟨hst, hsx⟩ := Bool.and_eq_true_iff.1 hb11
   have hys : ∀ z ∈ ys, qm qi z.tr = true := fun z hz => vw hy1 hst _ (List.mem_map_of_mem hz)
   replace M : Mg w w15 (.row 30 11 (.slice so7 ys.length ca7) ys.length (cellsOf ys) :: .row 30 11 (.slice (some ⟨g9, 0, none⟩) 1 1) 1 (cellsOf [x]) :: .obj g6 (.cells (qg.d.cells qg.ts.length).toArray 30) :: .obj g4 (.cells (t.d.cells t.ts.length).toArray 30) :: .obj g2 (.cells (x.d.cells x.ts.length).toArray 30) :: []) := (M.both hM7 (qs (by simp) (qs (by simp) (qs (by simp) (qs (by simp) (zh zm))))) (qs (by simp) (zh zm)))
   refine ⟨_, rfl, ?_⟩
   intro a H
   refine sdm H λa H↦?_
   iterate 2 refine sdo H (qz (vs := [.slice so7 ys.length ca7, .int .i64 0]) rfl rfl) λa H↦?_
   iterate 2 refine sda H λa H↦?_
   refine qa (hK8 _ _ (wsk fun K16 hK16 => wsk fun K17 hK17 => wrl (sdm H λa H↦?_)))
   refine sdo (v := .bool false) H (qh rfl rfl (fun w => by kernel_rfl)) λa H↦?_
   refine qa (hK17 _ _ (wp_cond_false (H.ev rfl) ?_))
   refine wp_skip (hK16 _ _ (wsk fun K18 hK18 => wrl (sdm H λa H↦?_)))
   refine sdo H (za M LiR_isS_30 rfl 4 rfl (cs := (x.d.cells x.ts.length)) rfl rfl) λa H↦?_
   refine sct H (ef rfl rfl) (qfh (x := x) (Dt.keep M.bel _ hx) (hT.below M.bel)) ?_
   rintro _ w19 ⟨gh, gx, rfl, hM8⟩
   replace M : Mg w w19 (.obj gh (.cells #[.int .u64 (ya x.tr)] 70) :: .obj gx (.cells (x.d.cells x.ts.length).toArray 30) :: .row 30 11 (.slice so7 ys.length ca7) ys.length (cellsOf ys) :: .row 30 11 (.slice (some ⟨g9, 0, none⟩) 1 1) 1 (cellsOf [x]) :: .obj g6 (.cells (qg.d.cells qg.ts.length).toArray 30) :: .obj g4 (.cells (t.d.cells t.ts.length).toArray 30) :: .obj g2 (.cells (x.d.cells x.ts.length).toArray 30) :: []) := (M.both hM8 (qs (by simp) (qs (by simp) (qs (by simp) (qs (by simp) (qs (by simp) (zh zm)))))) (qs (by simp) (qs (by simp) (zh zm))))
   refine ⟨_, rfl, ?_⟩
   intro a H
   refine sct H (ef rfl rfl) (zcj (jx (M.has 2 rfl)).1 (fun t ht => Dt.keep M.bel _ (hy2 t ht)) (by omega) (zph (M.obj 0 rfl) (M.here 1 (cs := x.d.cells x.ts.length) rfl) (Dt.keep M.bel _ hx) (fun t ht => Dt.keep M.bel _ (hy2 t ht)) (hT.below M.bel))) ?_
   rintro _ w21 ⟨ix, rfl, hix, hb20⟩
   obtain ⟨hie, hil⟩ := qjf (q := js x.tr) hix (fun z hz => qxi hx (hy2 z hz) hsx (hys z hz))
   replace M := M.call hb20
   refine ⟨_, rfl, ?_⟩
   intro a H
   refine sda H λa H↦?_
   refine qa (hK18 _ _ (wsk fun K22 hK22 => wsk fun K23 hK23 => wrl (sdm H λa H↦?_)))
   rcases tf (decide (ix < 0)) with hb24 | hb24
   ·
    have hb24' := of_decide_eq_true hb24
    refine sdc H zj hb24 λa H↦?_
    refine qa (hK23 _ _ (wp_cond_true (H.ev rfl) ?_))
    refine wsk fun K25 hK25 => wrl (sdo (v := .agg (qg.d.cells qg.ts.length).toArray) H (zg rfl (fun w => by kernel_rfl)) λa H↦?_)
    refine zl (us := (qg.d.cells qg.ts.length)) (L' := (.obj gh (.cells #[.int .u64 (ya x.tr)] 70) :: .obj gx (.cells (x.d.cells x.ts.length).toArray 30) :: .row 30 11 (.slice so7 ys.length ca7) ys.length (cellsOf ys) :: .row 30 11 (.slice (some ⟨g9, 0, none⟩) 1 1) 1 (cellsOf [x]) :: .obj g6 (.cells (qg.d.cells qg.ts.length).toArray 30) :: .obj g4 (.cells (t.d.cells t.ts.length).toArray 30) :: .obj g2 (.cells (x.d.cells x.ts.length).toArray 30) :: [])) H M rfl rfl (qy rfl rfl rfl (by kernel_rfl) M 4 rfl rfl rfl) 4 rfl rfl rfl ?_
    intro w26 M
    refine sda H λa H↦?_
    refine qa (hK25 _ _ (wp_ret (hret _ _ (en2 H rfl (zq M LiR_isS_30 rfl 4 rfl (cs := [.int .i64 0, .int .i64 0, .bool false, .slice none 0 0, .slice none 0 0, .bool false, .slice none 0 0, .slice none 0 0, .string (⟨#[]⟩), .slice none 0 0, .slice none 0 0]) rfl rfl) (qe rfl) ?_))))
    exact ⟨qg, 7, rfl, ⟨jk _, xu _, by rw [zlb hb11 hy1 (qya hie hb24'), jj]⟩, M.bel⟩
   ·
    have hb24' := of_decide_eq_false hb24
    refine sdc H zj hb24 λa H↦?_
    refine qa (hK23 _ _ (wp_cond_false (H.ev rfl) ?_))
    refine wp_skip (hK22 _ _ (wsk fun K27 hK27 => wrl ?_))
    iterate 2 refine sdm H λa H↦?_
    refine sdo (v := .slice ((if ca7 = ix.toNat then so7 else so7.map (·.add (ix.toNat * 11)))) ((ys.drop ix.toNat).length) ((ca7 - ix.toNat))) H ((by rw [List.length_drop]; exact qai (sz := 11) (lo := ix.toNat) Tryz.underlying22 (by kernel_rfl) rfl rfl (by omega) (by omega))) λa H↦?_
    have hlt28 := (Ck.lt (M.has 0 rfl) gh rfl).2
    have hlt29 := (Ck.lt (M.has 1 rfl) gx rfl).2
    have hlt30 := (Ck.lt (M.has 4 rfl) g6 rfl).2
    have hlt31 := (Ck.lt (M.has 5 rfl) g4 rfl).2
    have hlt32 := (Ck.lt (M.has 6 rfl) g2 rfl).2
    have hzt2 := M.bel.size
    refine sct H (ef rfl rfl) (qff ((jx (M.has 2 rfl)).1.drop ca7 ix.toNat (qhd (M.has 2 rfl))) (fun t ht => Dt.keep M.bel _ (hy2 t (List.mem_of_mem_drop ht))) (by have h7 : Tr.bulks ((ys.drop ix.toNat).map Dt.tr) ≤ Tr.bulks (ys.map Dt.tr) := zgc _ ; omega)) ?_
    rintro _ w34 ⟨t2, rfl, ⟨hrt2, hat2, htt2⟩, hb33⟩
    replace M := M.call hb33
    refine ⟨_, rfl, ?_⟩
    intro a H
    refine xr (us := (t2.d.cells t2.ts.length)) (L' := (.obj gh (.cells #[.int .u64 (ya x.tr)] 70) :: .obj gx (.cells (x.d.cells x.ts.length).toArray 30) :: .row 30 11 (.slice so7 ys.length ca7) ys.length (cellsOf ys) :: .row 30 11 (.slice (some ⟨g9, 0, none⟩) 1 1) 1 (cellsOf [x]) :: .obj g6 (.cells (t2.d.cells t2.ts.length).toArray 30) :: .obj g4 (.cells (t.d.cells t.ts.length).toArray 30) :: .obj g2 (.cells (x.d.cells x.ts.length).toArray 30) :: [])) H M rfl rfl (qy rfl rfl rfl (by kernel_rfl) M 4 rfl rfl rfl) 4 rfl rfl rfl ?_
    intro w35 M hK36
    replace hrt2 := Dt.kept hK36 _ hrt2 (Dt.at_mono (fun b hb => by rintro rfl; omega) _ hat2)
    refine sda H λa H↦?_
    refine qa (hK27 _ _ (wp_ret (hret _ _ (en2 H rfl (zq M LiR_isS_30 rfl 4 rfl (cs := [.int .i64 t2.d.k, .int .i64 t2.d.n, .bool t2.d.y.q.b1, .slice t2.d.y.o1 t2.d.y.q.t1.length t2.d.y.c1, .slice t2.d.y.o2 t2.d.y.q.q1.length t2.d.y.c2, .bool t2.d.y.q.b2, .slice t2.d.y.o3 t2.d.y.q.t2.length t2.d.y.c3, .slice t2.d.y.o4 t2.d.y.q.q2.length t2.d.y.c4, .string t2.d.s, .slice t2.d.ro t2.d.rl.length t2.d.rc, .slice t2.d.lo t2.ts.length t2.d.lc]) rfl rfl) (qe rfl) ?_))))
    obtain ⟨hA9, hn9⟩ := qme hie hb24'
    exact ⟨t2, 0, rfl, ⟨hrt2, Dt.at_mono (fun b hb => Nat.le_trans hzt2 hb) _ hat2, by rw [zdb hb11 hy1 hA9, htt2, List.map_drop, hn9]⟩, M.bel⟩
  ·
   refine gcl H M (ef rfl rfl) (qdc M.bel ht (jx (M.has 0 rfl)).1 (Dt.keep M.bel _ hx) (by omega) (hT.below M.bel) hb11 hb13) fun w38 hb37 M a H => ?_
   refine sdm H λa H↦?_
   iterate 2 refine sdo H (qz (vs := [.slice none 0 0, .int .i64 10]) rfl rfl) λa H↦?_
   iterate 2 refine sda H λa H↦?_
   refine qa (hK8 _ _ (wsk fun K39 hK39 => wsk fun K40 hK40 => wrl (sdm H λa H↦?_)))
   refine sdo (v := .bool true) H (qh rfl rfl (fun w => by kernel_rfl)) λa H↦?_
   refine qa (hK40 _ _ (wp_cond_true (H.ev rfl) ?_))
   refine wsk fun K41 hK41 => wrl (sdo (v := .agg (qg.d.cells qg.ts.length).toArray) H (zg rfl (fun w => by kernel_rfl)) λa H↦?_)
   refine sdm H λa H↦?_
   refine zl (us := (qg.d.cells qg.ts.length)) (L' := (.row 30 11 (.slice (some ⟨g9, 0, none⟩) 1 1) 1 (cellsOf [x]) :: .obj g6 (.cells (qg.d.cells qg.ts.length).toArray 30) :: .obj g4 (.cells (t.d.cells t.ts.length).toArray 30) :: .obj g2 (.cells (x.d.cells x.ts.length).toArray 30) :: [])) H M rfl rfl (qy rfl rfl rfl (by kernel_rfl) M 1 rfl rfl rfl) 1 rfl rfl rfl ?_
   intro w42 M
   refine sda H λa H↦?_
   refine qa (hK41 _ _ (wp_ret (hret _ _ (en2 H rfl (zq M LiR_isS_30 rfl 1 rfl (cs := [.int .i64 0, .int .i64 0, .bool false, .slice none 0 0, .slice none 0 0, .bool false, .slice none 0 0, .slice none 0 0, .string (⟨#[]⟩), .slice none 0 0, .slice none 0 0]) rfl rfl) (qe rfl) ?_))))
   exact ⟨qg, 10, rfl, ⟨jk _, xu _, by rw [quf hb11 (kv hb13), jj]⟩, M.bel⟩
 ·
  refine gcl H M (ef rfl rfl) (qfi M.bel ht (jx (M.has 0 rfl)).1 (Dt.keep M.bel _ hx) (by omega) (hT.below M.bel) hb11) fun w44 hb43 M a H => ?_
  refine sdm H λa H↦?_
  iterate 2 refine sdo H (qz (vs := [.slice none 0 0, .int .i64 2]) rfl rfl) λa H↦?_
  iterate 2 refine sda H λa H↦?_
  refine qa (hK8 _ _ (wsk fun K45 hK45 => wsk fun K46 hK46 => wrl (sdm H λa H↦?_)))
  refine sdo (v := .bool true) H (qh rfl rfl (fun w => by kernel_rfl)) λa H↦?_
  refine qa (hK46 _ _ (wp_cond_true (H.ev rfl) ?_))
  refine wsk fun K47 hK47 => wrl (sdo (v := .agg (qg.d.cells qg.ts.length).toArray) H (zg rfl (fun w => by kernel_rfl)) λa H↦?_)
  refine sdm H λa H↦?_
  refine zl (us := (qg.d.cells qg.ts.length)) (L' := (.row 30 11 (.slice (some ⟨g9, 0, none⟩) 1 1) 1 (cellsOf [x]) :: .obj g6 (.cells (qg.d.cells qg.ts.length).toArray 30) :: .obj g4 (.cells (t.d.cells t.ts.length).toArray 30) :: .obj g2 (.cells (x.d.cells x.ts.length).toArray 30) :: [])) H M rfl rfl (qy rfl rfl rfl (by kernel_rfl) M 1 rfl rfl rfl) 1 rfl rfl rfl ?_
  intro w48 M
  refine sda H λa H↦?_
  refine qa (hK47 _ _ (wp_ret (hret _ _ (en2 H rfl (zq M LiR_isS_30 rfl 1 rfl (cs := [.int .i64 0, .int .i64 0, .bool false, .slice none 0 0, .slice none 0 0, .bool false, .slice none 0 0, .slice none 0 0, .string (⟨#[]⟩), .slice none 0 0, .slice none 0 0]) rfl rfl) (qe rfl) ?_))))
  exact ⟨qg, 2, rfl, ⟨jk _, xu _, by rw [zda hb11, jj]⟩, M.bel⟩
/-- Whether something is no pair. -/
def qjg (ys : List Dt) : Bool := ys.any fun t => t.d.k != 8
def qrf (xs : List Tr) : Bool := xs.any fun z => z.k != 8
theorem qug (ys : List Dt) : qrf (ys.map Dt.tr) = qjg ys := by
 unfold qrf qjg
 rw [List.any_map]
 congr 1
 funext t
 show (t.tr.k != 8) = _
 rw [zxj]
theorem qhj {w : World} {so : Option Addr} {ca : Nat} {ts : List Dt} (hR : Rt w so ts) (hD : ∀ t ∈ ts, t.rd w) (hl : ts.length ≤ 1000000000) : Calls Tryz.prog 60 #[.slice so ts.length ca, .func (.func 67) #[] #[]] w fun e w' => e = .returned (.bool (qjg ts)) ∧ Below w.heap.size w w' := qhf (cs := []) hR hD hl zpg
theorem qjh {w0 w : World} {t x : Dt} {so : Option Addr} {ca : Nat} (h0 : Below w0.heap.size w0 w) (ht0 : t.rd w0) (hR : Rt w so [x]) (hx : x.rd w) (hb : t.tr.bulk ≤ 300000000) (hT : Tabs8 w) : Calls Tryz.prog 47 #[.agg (t.d.cells t.ts.length).toArray, .slice so 1 ca] w fun e w' => (∃ so' ca' ys, e = .returned (.tuple #[.slice so' (ys : List Dt).length ca', .int .i64 0]) ∧ ((qm qi t.tr && qm qi x.tr) = true ∧ zw t.tr = some (ys.map Dt.tr) ∧ (∀ x ∈ ys, x.rd w0) ∧ ys.length ≤ t.tr.bulk ∧ (qjg ys) = false) ∧ Mg w w' [.row 30 11 (.slice so' ys.length ca') ys.length (cellsOf ys)]) ∨ (e = .returned (.tuple #[.slice none 0 0, .int .i64 10]) ∧ ((qm qi t.tr && qm qi x.tr) = true ∧ ∀ xs, zw t.tr = some xs → qrf xs = true) ∧ Below w.heap.size w w') ∨ (e = .returned (.tuple #[.slice none 0 0, .int .i64 2]) ∧ (qm qi t.tr && qm qi x.tr) = false ∧ Below w.heap.size w w') := by
 have M : Mg w w ([]) := Mg.start w
 refine qx (l := [(0, .agg (t.d.cells t.ts.length).toArray), (1, .slice so 1 ca)]) Tryz.func47 rfl Tryz.ntmps47 rfl rfl ?_
 intro Q hret hnorm hP a H
 refine wsk fun K1 hK1 => wrl (zv (vs := (t.d.cells t.ts.length)) (t := 30) H M rfl rfl rfl pg (qt rfl rfl) (by decide) ?_)
 intro g2 w3 M a H
 iterate 2 refine sda H λa H↦?_
 refine qa (hK1 _ _ (wsk fun K4 hK4 => wrl (sdo H (za M LiR_isS_30 rfl 0 rfl (cs := (t.d.cells t.ts.length)) rfl rfl) λa H↦?_)))
 refine sdm H λa H↦?_
 rcases tf ((qm qi t.tr && qm qi x.tr)) with hb5 | hb5
 ·
  rcases tf ((zw t.tr).isSome) with hb7 | hb7
  ·
   refine sct H (ef rfl rfl) (qdb (h0.trans (M.bel.mono h0.size)) ht0 (hR.below M.bel) (Dt.keep M.bel _ hx) (by omega) (hT.below M.bel) hb5 hb7) ?_
   rintro _ w9 ⟨so7, ca7, ys, rfl, ⟨hy1, hy2, hy3⟩, hM7⟩
   have hyb := xv hy1
   obtain ⟨hst, hsx⟩ := Bool.and_eq_true_iff.1 hb5
   have hys : ∀ z ∈ ys, qm qi z.tr = true := fun z hz => vw hy1 hst _ (List.mem_map_of_mem hz)
   replace M : Mg w w9 (.row 30 11 (.slice so7 ys.length ca7) ys.length (cellsOf ys) :: .obj g2 (.cells (t.d.cells t.ts.length).toArray 30) :: []) := (M.both hM7 (qs (by simp) (zh zm)) (qs (by simp) (zh zm)))
   refine ⟨_, rfl, ?_⟩
   intro a H
   refine sdm H λa H↦?_
   iterate 2 refine sdo H (qz (vs := [.slice so7 ys.length ca7, .int .i64 0]) rfl rfl) λa H↦?_
   iterate 2 refine sda H λa H↦?_
   refine qa (hK4 _ _ (wsk fun K10 hK10 => wp_block (wsk fun K11 hK11 => wrl (sdm H λa H↦?_))))
   refine sdo (v := .bool false) H (qh rfl rfl (fun w => by kernel_rfl)) λa H↦?_
   refine sda H λa H↦?_
   refine qa (hK11 _ _ (wp_cond_false (H.ev rfl) ?_))
   refine wsk fun K12 hK12 => wrl (sdm H λa H↦?_)
   rcases tf ((qjg ys)) with hb13 | hb13
   ·
    refine gcl H M (ef rfl rfl) ((hb13 ▸ qhj (jx (M.has 0 rfl)).1 (fun t ht => Dt.keep (h0.trans (M.bel.mono h0.size)) _ (hy2 t ht)) (by omega))) fun w15 hb14 M a H => ?_
    refine sda H λa H↦?_
    refine qa (hK12 _ _ (wp_cond_true (H.ev rfl) ?_))
    refine wsk fun K16 hK16 => wrl ?_
    iterate 2 refine sda H λa H↦?_
    refine qa (hK16 _ _ (wp_ret (hret _ _ (en2 H rfl (qe rfl) (qe rfl) ?_))))
    exact .inr (.inl ⟨rfl, ⟨hb5, fun xs h => by rw [hy1] at h; rw [← Option.some.inj h, qug]; exact hb13⟩, M.bel⟩)
   ·
    refine gcl H M (ef rfl rfl) ((hb13 ▸ qhj (jx (M.has 0 rfl)).1 (fun t ht => Dt.keep (h0.trans (M.bel.mono h0.size)) _ (hy2 t ht)) (by omega))) fun w18 hb17 M a H => ?_
    refine sda H λa H↦?_
    refine qa (hK12 _ _ (wp_cond_false (H.ev rfl) ?_))
    refine wp_skip (hK10 _ _ (wsk fun K19 hK19 => wrl (sdm H λa H↦?_)))
    iterate 2 refine sda H λa H↦?_
    refine qa (hK19 _ _ (wp_ret (hret _ _ (en2 H rfl (qe rfl) (qe rfl) ?_))))
    replace M : Mg w w18 (.row 30 11 (.slice so7 ys.length ca7) ys.length (cellsOf ys) :: []) := by
     have h9 := M.sub (cc (cn (.refl _)))
     exact h9
    exact .inl ⟨_, _, ys, rfl, ⟨hb5, hy1, hy2, hy3, hb13⟩, M⟩
  ·
   refine gcl H M (ef rfl rfl) (qdc (h0.trans (M.bel.mono h0.size)) ht0 (hR.below M.bel) (Dt.keep M.bel _ hx) (by omega) (hT.below M.bel) hb5 hb7) fun w21 hb20 M a H => ?_
   refine sdm H λa H↦?_
   iterate 2 refine sdo H (qz (vs := [.slice none 0 0, .int .i64 10]) rfl rfl) λa H↦?_
   iterate 2 refine sda H λa H↦?_
   refine qa (hK4 _ _ (wsk fun K22 hK22 => wp_block (wsk fun K23 hK23 => wrl (sdm H λa H↦?_))))
   refine sdo (v := .bool true) H (qh rfl rfl (fun w => by kernel_rfl)) λa H↦?_
   refine sda H λa H↦?_
   refine qa (hK23 _ _ (wp_cond_true (H.ev rfl) ?_))
   refine wsk fun K24 hK24 => wrl (sdm H λa H↦?_)
   iterate 2 refine sda H λa H↦?_
   refine qa (hK24 _ _ (wp_ret (hret _ _ (en2 H rfl (qe rfl) (qe rfl) ?_))))
   exact .inr (.inl ⟨rfl, ⟨hb5, fun xs h => by rw [kv hb7] at h; cases h⟩, M.bel⟩)
 ·
  refine gcl H M (ef rfl rfl) (qfi (h0.trans (M.bel.mono h0.size)) ht0 (hR.below M.bel) (Dt.keep M.bel _ hx) (by omega) (hT.below M.bel) hb5) fun w26 hb25 M a H => ?_
  refine sdm H λa H↦?_
  iterate 2 refine sdo H (qz (vs := [.slice none 0 0, .int .i64 2]) rfl rfl) λa H↦?_
  iterate 2 refine sda H λa H↦?_
  refine qa (hK4 _ _ (wsk fun K27 hK27 => wp_block (wsk fun K28 hK28 => wrl (sdm H λa H↦?_))))
  refine sdo (v := .bool true) H (qh rfl rfl (fun w => by kernel_rfl)) λa H↦?_
  refine sda H λa H↦?_
  refine qa (hK28 _ _ (wp_cond_true (H.ev rfl) ?_))
  refine wsk fun K29 hK29 => wrl (sdm H λa H↦?_)
  iterate 2 refine sda H λa H↦?_
  refine qa (hK29 _ _ (wp_ret (hret _ _ (en2 H rfl (qe rfl) (qe rfl) ?_))))
  exact .inr (.inr ⟨rfl, hb5, M.bel⟩)
theorem zhi {w0 w : World} {t x : Dt} {so : Option Addr} {ca : Nat} (h0 : Below w0.heap.size w0 w) (ht0 : t.rd w0) (hR : Rt w so [x]) (hx : x.rd w) (hb : t.tr.bulk ≤ 300000000) (hT : Tabs8 w) (hs : (qm qi t.tr && qm qi x.tr) = false) : Calls Tryz.prog 47 #[.agg (t.d.cells t.ts.length).toArray, .slice so 1 ca] w fun e w' => e = .returned (.tuple #[.slice none 0 0, .int .i64 2]) ∧ Below w.heap.size w w' := by
 refine (qjh h0 ht0 hR hx hb hT).mono ?_
 rintro e w' (⟨so', ca', ys, h1, h2, h3⟩ | ⟨h1, h2, h3⟩ | ⟨h1, h2, h3⟩)
 ·
  rw [hs] at h2; cases h2.1
 ·
  rw [hs] at h2; cases h2.1
 ·
  exact ⟨h1, h3⟩
theorem quh {w0 w : World} {t x : Dt} {so : Option Addr} {ca : Nat} (h0 : Below w0.heap.size w0 w) (ht0 : t.rd w0) (hR : Rt w so [x]) (hx : x.rd w) (hb : t.tr.bulk ≤ 300000000) (hT : Tabs8 w) (hs : (qm qi t.tr && qm qi x.tr) = true) (h : ∀ xs, zw t.tr = some xs → qrf xs = true) : Calls Tryz.prog 47 #[.agg (t.d.cells t.ts.length).toArray, .slice so 1 ca] w fun e w' => e = .returned (.tuple #[.slice none 0 0, .int .i64 10]) ∧ Below w.heap.size w w' := by
 refine (qjh h0 ht0 hR hx hb hT).mono ?_
 rintro e w' (⟨so', ca', ys, h1, h2, h3⟩ | ⟨h1, h2, h3⟩ | ⟨h1, h2, h3⟩)
 ·
  have := h _ h2.2.1; rw [qug, h2.2.2.2.2] at this; cases this
 ·
  exact ⟨h1, h3⟩
 ·
  rw [hs] at h2; cases h2
theorem zdc {w0 w : World} {t x : Dt} {so : Option Addr} {ca : Nat} (h0 : Below w0.heap.size w0 w) (ht0 : t.rd w0) (hR : Rt w so [x]) (hx : x.rd w) (hb : t.tr.bulk ≤ 300000000) (hT : Tabs8 w) (hs : (qm qi t.tr && qm qi x.tr) = true) (H : (zw t.tr).isSome = true) (h : (qrf ((zw t.tr).getD [])) = false) : Calls Tryz.prog 47 #[.agg (t.d.cells t.ts.length).toArray, .slice so 1 ca] w fun e w' => ∃ so' ca' ys, e = .returned (.tuple #[.slice so' (ys : List Dt).length ca', .int .i64 0]) ∧ (zw t.tr = some (ys.map Dt.tr) ∧ (∀ x ∈ ys, x.rd w0) ∧ ys.length ≤ t.tr.bulk ∧ (qjg ys) = false) ∧ Mg w w' [.row 30 11 (.slice so' ys.length ca') ys.length (cellsOf ys)] := by
 refine (qjh h0 ht0 hR hx hb hT).mono ?_
 rintro e w' (⟨so', ca', ys, h1, h2, h3⟩ | ⟨h1, h2, h3⟩ | ⟨h1, h2, h3⟩)
 ·
  exact ⟨so', ca', ys, h1, h2.2, h3⟩
 ·
  obtain ⟨xs, hxs⟩ := Option.isSome_iff_exists.1 H
  have := h2.2 _ hxs
  rw [hxs] at h
  rw [show ((some xs).getD []) = xs from rfl, this] at h
  cases h
 ·
  rw [hs] at h2; cases h2
/-- A pair's first. -/
def jcf (z : Tr) : Tr := z.ts.headD xg
theorem qyc {t t0 : Dt} (h : t.ts[0]? = some t0) : jcf t.tr = t0.tr := by
 cases t with
 | mk d ts =>
  rw [Dt.tr_mk]
  cases ts with
  | nil => cases h
  | cons u us => cases h; rfl
theorem zzf {w : World} {x t t0 : Dt} {gs gh gx : Nat} (hGs : w.heap[gs]? = some (.cells [.func (.func 66) #[] [.pointer (some ⟨gh, 0, none⟩), .pointer (some ⟨gx, 0, none⟩)].toArray].toArray 45)) (hG : w.heap[gh]? = some (.cells [.int .u64 (ya x.tr)].toArray 70)) (hHx : Here w gx 0 (x.d.cells x.ts.length)) (hx : x.rd w) (ht : t.rd w) (h0 : t.ts[0]? = some t0) (hr0 : t0.rd w) (hT : Tabs8 w) : Calls Tryz.prog 48 #[.agg (t.d.cells t.ts.length).toArray, .pointer (some ⟨gs, 0, none⟩)] w fun e w' => e = .returned (.bool (qqc x.tr t0.tr)) ∧ Below w.heap.size w w' := by
 have M : Mg w w ([]) := Mg.start w
 refine qx (l := [(0, .agg (t.d.cells t.ts.length).toArray), (1, .pointer (some ⟨gs, 0, none⟩))]) Tryz.func48 rfl Tryz.ntmps48 rfl rfl ?_
 intro Q hret hnorm hP a H
 refine wsk fun K1 hK1 => wrl (zv (vs := (t.d.cells t.ts.length)) (t := 30) H M rfl rfl rfl pg (qt rfl rfl) (by decide) ?_)
 intro g2 w3 M a H
 refine sda H λa H↦?_
 refine qa (hK1 _ _ (wsk fun K4 hK4 => jf (S := fun w1 => Mg w w1 (.obj g2 (.cells (t.d.cells t.ts.length).toArray 30) :: [])) (by kernel_rfl) ?_))
 replace M := M.drew
 refine qf H 0 rfl rfl rfl rfl hP (M.sub (cc (List.nil_sublist _))) (fun w1 M => qyg M hGs LiR_is1_45 rfl rfl) λa H↦?_
 refine qf H 1 rfl rfl rfl rfl hP (M.sub (cc (List.nil_sublist _))) (fun w1 M => za M LiR_isS_30 rfl 0 rfl (cs := (t.d.cells t.ts.length)) rfl rfl) λa H↦?_
 refine qn (by kernel_rfl) (zd H 2 rfl rfl rfl rfl (qj rfl rfl (fun w => by kernel_rfl)) (qtb (Dt.keep M.bel _ ht) h0) ?_)
 rintro _ w6 ⟨rfl, hb5⟩
 replace M := M.call hb5
 refine ⟨_, rfl, (M.sub (cc (List.nil_sublist _))), ?_⟩
 intro a H
 refine qn (by kernel_rfl) (zd H 3 rfl rfl rfl rfl (uu rfl rfl (fun us w => by kernel_rfl)) (qxj (gh := gh) (gx := gx) ((M.bel.block gh (Array.getElem?_eq_some_iff.1 hG).1).trans hG) (hHx.below M.bel) (Dt.keep M.bel _ hx) (Dt.keep M.bel _ hr0) (hT.below M.bel)) ?_)
 rintro _ w8 ⟨rfl, hb7⟩
 replace M := M.call hb7
 refine ⟨_, rfl, (M.sub (cc (List.nil_sublist _))), ?_⟩
 intro a H
 refine qf H 4 rfl rfl rfl rfl hP (M.sub (cc (List.nil_sublist _))) (fun w1 M => je rfl) λa H↦?_
 refine zp (by kernel_rfl) ?_
 refine hK4 _ _ (wp_ret (hret _ _ (en1 H rfl (qe rfl) ?_)))
 exact ⟨rfl, M.bel⟩
theorem qui {w : World} {t : Dt} (ht : t.rd w) (hs : qm qi t.tr = true) (hk : t.d.k = 8) : ∃ t0, t.ts[0]? = some t0 ∧ t0.rd w ∧ qm qi t0.tr = true := by
 obtain ⟨l2, hf⟩ := qlj (qea hs) hk
 obtain ⟨a, -, -, ia, -, ra, -, -⟩ := uy ht (i := 0) (by omega)
 obtain ⟨b, -, -, ib, -, rb, -, -⟩ := uy ht (i := 1) (by omega)
 refine ⟨a, ia, ra, ?_⟩
 rw [hf a b ia ib, show (Tr.mk 8 0 Q6.zero ⟨#[]⟩ [] [a.tr, b.tr]) = jb [a.tr] b.tr from rfl, qbf] at hs
 have hn := qqb (x := a.tr) (xs := [a.tr]) (List.mem_cons_self ..)
 exact (qfd a.tr).2 ⟨que a.tr 1 2 (by decide) (List.all_eq_true.1 hs.1.1 a.tr (List.mem_cons_self ..)), by have := hs.2.1; omega, List.all_eq_true.1 hs.2.2.1 a.tr (List.mem_cons_self ..)⟩
theorem zvg {ys : List Dt} (h : qjg ys = false) : ∀ t ∈ ys, t.d.k = 8 := fun t ht => by
 have := List.any_eq_false.1 h t ht
 simpa using this
theorem zvh {w : World} {x : Dt} {gs gh gx : Nat} {ts : List Dt} (hGs : w.heap[gs]? = some (.cells [.func (.func 66) #[] [.pointer (some ⟨gh, 0, none⟩), .pointer (some ⟨gx, 0, none⟩)].toArray].toArray 45)) (hG : w.heap[gh]? = some (.cells [.int .u64 (ya x.tr)].toArray 70)) (hHx : Here w gx 0 (x.d.cells x.ts.length)) (hx : x.rd w) (hD : ∀ t ∈ ts, t.rd w) (hc : ∀ t ∈ ts, ∃ t0, t.ts[0]? = some t0 ∧ t0.rd w) (hT : Tabs8 w) : Asks Tryz.prog 48 [.pointer (some ⟨gs, 0, none⟩)] w ts (fun t => qqc x.tr (jcf t.tr)) :=
 ⟨fun us w => by kernel_rfl, fun t w1 ht hb => by
  obtain ⟨t0, i0, r0⟩ := hc t ht
  rw [qyc i0]
  exact zzf (gh := gh) (gx := gx) ((hb.block gs (Array.getElem?_eq_some_iff.1 hGs).1).trans hGs) ((hb.block gh (Array.getElem?_eq_some_iff.1 hG).1).trans hG) (hHx.below hb) (Dt.keep hb _ hx) (Dt.keep hb _ (hD t ht)) i0 (Dt.keep hb _ r0) (hT.below hb)⟩
theorem zzg {q : Tr → Bool} {xs : List Tr} (h : xs.any q = true) : xs.findIdx q < xs.length := List.findIdx_lt_length_of_exists (by simpa [List.any_eq_true] using h)
def qia (x z : Tr) : Bool := js x (jcf z)
/-- What Assoc answers. -/
noncomputable def qqd (x t : Tr) : Tr × Int := if (qm qi t && qm qi x) = false then (xg, 2) else match zw t with
 | none => (xg, 10)
 | some xs => if qrf xs = true then (xg, 10) else if xs.any (qia x) = true then ((xs.drop (xs.findIdx (qia x))).headD xg, 0) else (xg, 7)
theorem zdd {x t : Tr} (h : (qm qi t && qm qi x) = false) : qqd x t = (xg, 2) := if_pos h
theorem quj {x t : Tr} (h : (qm qi t && qm qi x) = true) (ha : zw t = none) : qqd x t = (xg, 10) := by unfold qqd; rw [if_neg (by rw [h]; decide), ha]
theorem zde {x t : Tr} {xs : List Tr} (h : (qm qi t && qm qi x) = true) (ha : zw t = some xs) (ho : qrf xs = true) : qqd x t = (xg, 10) := by unfold qqd; rw [if_neg (by rw [h]; decide), ha]; exact if_pos ho
theorem zlc {x t : Tr} {xs : List Tr} (h : (qm qi t && qm qi x) = true) (ha : zw t = some xs) (ho : qrf xs = false) (hn : xs.any (qia x) = false) : qqd x t = (xg, 7) := by unfold qqd; rw [if_neg (by rw [h]; decide), ha]; show (if _ then _ else _) = _; rw [if_neg (by rw [ho]; decide), if_neg (by rw [hn]; decide)]
theorem zdf {x t : Tr} {xs : List Tr} (h : (qm qi t && qm qi x) = true) (ha : zw t = some xs) (ho : qrf xs = false) (hn : xs.any (qia x) = true) {i : Nat} (hi : i = xs.findIdx (qia x)) {z : Tr} (hz : xs[i]? = some z) : qqd x t = (z, 0) := by
 unfold qqd
 rw [if_neg (by rw [h]; decide), ha]
 show (if _ then _ else _) = _
 rw [if_neg (by rw [ho]; decide), if_pos hn, ← hi]
 rw [← List.head?_drop] at hz
 rw [List.headD_eq_head?_getD, hz]
 rfl
theorem zpi {w : World} {x t : Dt} (hx : x.rd w) (ht : t.rd w) (hb : t.tr.bulk ≤ 300000000) (hT : Tabs8 w) : Calls Tryz.prog 22 #[.agg (x.d.cells x.ts.length).toArray, .agg (t.d.cells t.ts.length).toArray] w fun e w' => ∃ (t2 : Dt) (k : Int), e = .returned (.tuple #[.agg (t2.d.cells t2.ts.length).toArray, .int .i64 k]) ∧ (t2.rd w' ∧ t2.at_ (w.heap.size ≤ ·) ∧ (t2.tr, k) = qqd x.tr t.tr) ∧ Below w.heap.size w w' := by
 have M : Mg w w ([]) := Mg.start w
 refine qx (l := [(0, .agg (x.d.cells x.ts.length).toArray), (1, .agg (t.d.cells t.ts.length).toArray)]) Tryz.func22 rfl Tryz.ntmps22 rfl rfl ?_
 intro Q hret hnorm hP a H
 refine wsk fun K1 hK1 => wrl (zv (vs := (x.d.cells x.ts.length)) (t := 30) H M rfl rfl rfl pg (qt rfl rfl) (by decide) ?_)
 intro g2 w3 M a H
 refine zv (vs := (t.d.cells t.ts.length)) (t := 30) H M rfl rfl rfl pg (qt rfl rfl) (by decide) ?_
 intro g4 w5 M a H
 refine zv (vs := (qg.d.cells qg.ts.length)) (t := 30) H M rfl rfl rfl pg (qp (z := .agg (qg.d.cells qg.ts.length).toArray) (by kernel_rfl) rfl) (by decide) ?_
 intro g6 w7 M a H
 refine sda H λa H↦?_
 refine qa (hK1 _ _ (wsk fun K8 hK8 => wrl (sdo H (za M LiR_isS_30 rfl 1 rfl (cs := (t.d.cells t.ts.length)) rfl rfl) λa H↦?_)))
 refine sdo H (za M LiR_isS_30 rfl 2 rfl (cs := (x.d.cells x.ts.length)) rfl rfl) λa H↦?_
 refine kj (e := 30) (sz := 11) (m := 1) (vs := cellsOf [x]) H M rfl rfl rfl (zn rfl (by kernel_rfl)) rfl rfl (.inl (by decide)) ?_
 intro g9 w10 M a H
 rcases tf ((qm qi t.tr && qm qi x.tr)) with hb12 | hb12
 ·
  rcases tf ((zw t.tr).isSome) with hb14 | hb14
  ·
   rcases tf ((qrf ((zw t.tr).getD []))) with hb16 | hb16
   ·
    refine gcl H M (ef rfl rfl) (quh M.bel ht (jx (M.has 0 rfl)).1 (Dt.keep M.bel _ hx) (by omega) (hT.below M.bel) hb12 (fun xs h9 => by have h8 := hb16; rw [h9] at h8; exact h8)) fun w18 hb17 M a H => ?_
    refine sdm H λa H↦?_
    iterate 2 refine sdo H (qz (vs := [.slice none 0 0, .int .i64 10]) rfl rfl) λa H↦?_
    iterate 2 refine sda H λa H↦?_
    refine qa (hK8 _ _ (wsk fun K19 hK19 => wsk fun K20 hK20 => wrl (sdm H λa H↦?_)))
    refine sdo (v := .bool true) H (qh rfl rfl (fun w => by kernel_rfl)) λa H↦?_
    refine qa (hK20 _ _ (wp_cond_true (H.ev rfl) ?_))
    refine wsk fun K21 hK21 => wrl (sdo (v := .agg (qg.d.cells qg.ts.length).toArray) H (zg rfl (fun w => by kernel_rfl)) λa H↦?_)
    refine sdm H λa H↦?_
    refine zl (us := (qg.d.cells qg.ts.length)) (L' := (.row 30 11 (.slice (some ⟨g9, 0, none⟩) 1 1) 1 (cellsOf [x]) :: .obj g6 (.cells (qg.d.cells qg.ts.length).toArray 30) :: .obj g4 (.cells (t.d.cells t.ts.length).toArray 30) :: .obj g2 (.cells (x.d.cells x.ts.length).toArray 30) :: [])) H M rfl rfl (qy rfl rfl rfl (by kernel_rfl) M 1 rfl rfl rfl) 1 rfl rfl rfl ?_
    intro w22 M
    refine sda H λa H↦?_
    refine qa (hK21 _ _ (wp_ret (hret _ _ (en2 H rfl (zq M LiR_isS_30 rfl 1 rfl (cs := [.int .i64 0, .int .i64 0, .bool false, .slice none 0 0, .slice none 0 0, .bool false, .slice none 0 0, .slice none 0 0, .string (⟨#[]⟩), .slice none 0 0, .slice none 0 0]) rfl rfl) (qe rfl) ?_))))
    obtain ⟨xs9, hx9⟩ := Option.isSome_iff_exists.1 hb14
    exact ⟨qg, 10, rfl, ⟨jk _, xu _, by rw [zde hb12 hx9 (by have h8 := hb16; rw [hx9] at h8; exact h8), jj]⟩, M.bel⟩
   ·
    refine sct H (ef rfl rfl) (zdc M.bel ht (jx (M.has 0 rfl)).1 (Dt.keep M.bel _ hx) (by omega) (hT.below M.bel) hb12 hb14 hb16) ?_
    rintro _ w24 ⟨so7, ca7, ys, rfl, ⟨hy1, hy2, hy3, hyo⟩, hM7⟩
    have hyb := xv hy1
    obtain ⟨hst, hsx⟩ := Bool.and_eq_true_iff.1 hb12
    have hys : ∀ z ∈ ys, qm qi z.tr = true := fun z hz => vw hy1 hst _ (List.mem_map_of_mem hz)
    have hyc := fun z hz => qui (hy2 z hz) (hys z hz) (zvg hyo z hz)
    have hoff := (qug ys).trans hyo
    replace M : Mg w w24 (.row 30 11 (.slice so7 ys.length ca7) ys.length (cellsOf ys) :: .row 30 11 (.slice (some ⟨g9, 0, none⟩) 1 1) 1 (cellsOf [x]) :: .obj g6 (.cells (qg.d.cells qg.ts.length).toArray 30) :: .obj g4 (.cells (t.d.cells t.ts.length).toArray 30) :: .obj g2 (.cells (x.d.cells x.ts.length).toArray 30) :: []) := (M.both hM7 (qs (by simp) (qs (by simp) (qs (by simp) (qs (by simp) (zh zm))))) (qs (by simp) (zh zm)))
    refine ⟨_, rfl, ?_⟩
    intro a H
    refine sdm H λa H↦?_
    iterate 2 refine sdo H (qz (vs := [.slice so7 ys.length ca7, .int .i64 0]) rfl rfl) λa H↦?_
    iterate 2 refine sda H λa H↦?_
    refine qa (hK8 _ _ (wsk fun K25 hK25 => wsk fun K26 hK26 => wrl (sdm H λa H↦?_)))
    refine sdo (v := .bool false) H (qh rfl rfl (fun w => by kernel_rfl)) λa H↦?_
    refine qa (hK26 _ _ (wp_cond_false (H.ev rfl) ?_))
    refine wp_skip (hK25 _ _ (wsk fun K27 hK27 => wrl (sdo H (za M LiR_isS_30 rfl 4 rfl (cs := (x.d.cells x.ts.length)) rfl rfl) λa H↦?_)))
    refine sct H (ef rfl rfl) (qfh (x := x) (Dt.keep M.bel _ hx) (hT.below M.bel)) ?_
    rintro _ w28 ⟨gh, gx, rfl, hM8⟩
    replace M : Mg w w28 (.obj gh (.cells #[.int .u64 (ya x.tr)] 70) :: .obj gx (.cells (x.d.cells x.ts.length).toArray 30) :: .row 30 11 (.slice so7 ys.length ca7) ys.length (cellsOf ys) :: .row 30 11 (.slice (some ⟨g9, 0, none⟩) 1 1) 1 (cellsOf [x]) :: .obj g6 (.cells (qg.d.cells qg.ts.length).toArray 30) :: .obj g4 (.cells (t.d.cells t.ts.length).toArray 30) :: .obj g2 (.cells (x.d.cells x.ts.length).toArray 30) :: []) := (M.both hM8 (qs (by simp) (qs (by simp) (qs (by simp) (qs (by simp) (qs (by simp) (zh zm)))))) (qs (by simp) (qs (by simp) (zh zm))))
    refine ⟨_, rfl, ?_⟩
    intro a H
    refine zv (vs := [.nilFunc]) (t := 45) H M rfl rfl rfl pg (qp (z := .nilFunc) (by kernel_rfl) rfl) (by decide) ?_
    intro g29 w30 M a H
    refine zl (us := [.func (.func 66) #[] [.pointer (some ⟨gh, 0, none⟩), .pointer (some ⟨gx, 0, none⟩)].toArray]) (L' := (.obj g29 (.cells #[.func (.func 66) #[] [.pointer (some ⟨gh, 0, none⟩), .pointer (some ⟨gx, 0, none⟩)].toArray] 45) :: .obj gh (.cells #[.int .u64 (ya x.tr)] 70) :: .obj gx (.cells (x.d.cells x.ts.length).toArray 30) :: .row 30 11 (.slice so7 ys.length ca7) ys.length (cellsOf ys) :: .row 30 11 (.slice (some ⟨g9, 0, none⟩) 1 1) 1 (cellsOf [x]) :: .obj g6 (.cells (qg.d.cells qg.ts.length).toArray 30) :: .obj g4 (.cells (t.d.cells t.ts.length).toArray 30) :: .obj g2 (.cells (x.d.cells x.ts.length).toArray 30) :: [])) H M rfl rfl (qy rfl rfl rfl (by kernel_rfl) M 0 rfl rfl rfl) 0 rfl rfl rfl ?_
    intro w31 M
    refine qa (hK27 _ _ (wsk fun K32 hK32 => wrl (sdm H λa H↦?_)))
    refine sdo (v := .func (.func 48) #[] [.pointer (some ⟨g29, 0, none⟩)].toArray) H (un rfl) λa H↦?_
    refine sct H (ef rfl rfl) (zcj (jx (M.has 3 rfl)).1 (fun t ht => Dt.keep M.bel _ (hy2 t ht)) (by omega) (zvh (gh := gh) (gx := gx) (M.obj 0 rfl) (M.obj 1 rfl) (M.here 2 (cs := x.d.cells x.ts.length) rfl) (Dt.keep M.bel _ hx) (fun t ht => Dt.keep M.bel _ (hy2 t ht)) (fun t ht => (hyc t ht).imp fun t0 h => ⟨h.1, Dt.keep M.bel _ h.2.1⟩) (hT.below M.bel))) ?_
    rintro _ w34 ⟨ix, rfl, hix, hb33⟩
    obtain ⟨hie, hil⟩ := qjf (q := qia x.tr) hix (fun z hz => by obtain ⟨z0, i0, r0, s0⟩ := hyc z hz; unfold qia; rw [qyc i0]; exact qxi hx r0 hsx s0)
    replace M := M.call hb33
    refine ⟨_, rfl, ?_⟩
    intro a H
    refine sda H λa H↦?_
    refine qa (hK32 _ _ (wsk fun K35 hK35 => wsk fun K36 hK36 => wrl (sdm H λa H↦?_)))
    rcases tf (decide (ix < 0)) with hb37 | hb37
    ·
     have hb37' := of_decide_eq_true hb37
     refine sdc H zj hb37 λa H↦?_
     refine qa (hK36 _ _ (wp_cond_true (H.ev rfl) ?_))
     refine wsk fun K38 hK38 => wrl (sdo (v := .agg (qg.d.cells qg.ts.length).toArray) H (zg rfl (fun w => by kernel_rfl)) λa H↦?_)
     refine zl (us := (qg.d.cells qg.ts.length)) (L' := (.obj g29 (.cells #[.func (.func 66) #[] [.pointer (some ⟨gh, 0, none⟩), .pointer (some ⟨gx, 0, none⟩)].toArray] 45) :: .obj gh (.cells #[.int .u64 (ya x.tr)] 70) :: .obj gx (.cells (x.d.cells x.ts.length).toArray 30) :: .row 30 11 (.slice so7 ys.length ca7) ys.length (cellsOf ys) :: .row 30 11 (.slice (some ⟨g9, 0, none⟩) 1 1) 1 (cellsOf [x]) :: .obj g6 (.cells (qg.d.cells qg.ts.length).toArray 30) :: .obj g4 (.cells (t.d.cells t.ts.length).toArray 30) :: .obj g2 (.cells (x.d.cells x.ts.length).toArray 30) :: [])) H M rfl rfl (qy rfl rfl rfl (by kernel_rfl) M 5 rfl rfl rfl) 5 rfl rfl rfl ?_
     intro w39 M
     refine sda H λa H↦?_
     refine qa (hK38 _ _ (wp_ret (hret _ _ (en2 H rfl (zq M LiR_isS_30 rfl 5 rfl (cs := [.int .i64 0, .int .i64 0, .bool false, .slice none 0 0, .slice none 0 0, .bool false, .slice none 0 0, .slice none 0 0, .string (⟨#[]⟩), .slice none 0 0, .slice none 0 0]) rfl rfl) (qe rfl) ?_))))
     exact ⟨qg, 7, rfl, ⟨jk _, xu _, by rw [zlc hb12 hy1 hoff (qya hie hb37'), jj]⟩, M.bel⟩
    ·
     have hb37' := of_decide_eq_false hb37
     refine sdc H zj hb37 λa H↦?_
     refine qa (hK36 _ _ (wp_cond_false (H.ev rfl) ?_))
     refine wp_skip (hK35 _ _ (wsk fun K40 hK40 => ?_))
     obtain ⟨hA9, hn9⟩ := qme hie hb37'
     have hlt9 := zzg hA9
     rw [List.length_map] at hlt9
     obtain ⟨gy, c9, e9⟩ := yy (M.has 3 rfl) (show ys.length ≠ 0 by omega)
     have hso9 : so7 = some ⟨gy, 0, none⟩ := by injection e9
     obtain ⟨t1, it1⟩ : ∃ t1, ys[ix.toNat]? = some t1 := ⟨_, List.getElem?_eq_getElem (show ix.toNat < ys.length by omega)⟩
     have rt1_ := hy2 t1 (List.mem_of_getElem? it1)
     have hb1 := qhe (List.mem_of_getElem? it1)
     refine wrl ?_
     iterate 2 refine sdm H λa H↦?_
     refine sdo (v := .pointer (some ⟨gy, 0 + ix.toNat * 11, none⟩)) H (zi (k := ix.toNat) Tryz.underlying22 (by kernel_rfl) rfl rfl (by omega) hso9 (by omega)) λa H↦?_
     refine sdo H (qcf (o := ix.toNat * 11) (cs := t1.d.cells t1.ts.length) M 3 rfl hso9 LiR_isS_30 (jv it1) rfl rfl) λa H↦?_
     have hlt41 := (Ck.lt (M.has 0 rfl) g29 rfl).2
     have hlt42 := (Ck.lt (M.has 1 rfl) gh rfl).2
     have hlt43 := (Ck.lt (M.has 2 rfl) gx rfl).2
     have hlt44 := (Ck.lt (M.has 5 rfl) g6 rfl).2
     have hlt45 := (Ck.lt (M.has 6 rfl) g4 rfl).2
     have hlt46 := (Ck.lt (M.has 7 rfl) g2 rfl).2
     have hzt2 := M.bel.size
     refine sct H (ef rfl rfl) (qfb t1 (Dt.keep M.bel _ rt1_) (by omega)) ?_
     rintro _ w48 ⟨t2, rfl, ⟨hrt2, hat2, htt2⟩, hb47⟩
     replace M := M.call hb47
     refine ⟨_, rfl, ?_⟩
     intro a H
     refine xr (us := (t2.d.cells t2.ts.length)) (L' := (.obj g29 (.cells #[.func (.func 66) #[] [.pointer (some ⟨gh, 0, none⟩), .pointer (some ⟨gx, 0, none⟩)].toArray] 45) :: .obj gh (.cells #[.int .u64 (ya x.tr)] 70) :: .obj gx (.cells (x.d.cells x.ts.length).toArray 30) :: .row 30 11 (.slice so7 ys.length ca7) ys.length (cellsOf ys) :: .row 30 11 (.slice (some ⟨g9, 0, none⟩) 1 1) 1 (cellsOf [x]) :: .obj g6 (.cells (t2.d.cells t2.ts.length).toArray 30) :: .obj g4 (.cells (t.d.cells t.ts.length).toArray 30) :: .obj g2 (.cells (x.d.cells x.ts.length).toArray 30) :: [])) H M rfl rfl (qy rfl rfl rfl (by kernel_rfl) M 5 rfl rfl rfl) 5 rfl rfl rfl ?_
     intro w49 M hK50
     replace hrt2 := Dt.kept hK50 _ hrt2 (Dt.at_mono (fun b hb => by rintro rfl; omega) _ hat2)
     refine sda H λa H↦?_
     refine qa (hK40 _ _ (wp_ret (hret _ _ (en2 H rfl (zq M LiR_isS_30 rfl 5 rfl (cs := [.int .i64 t2.d.k, .int .i64 t2.d.n, .bool t2.d.y.q.b1, .slice t2.d.y.o1 t2.d.y.q.t1.length t2.d.y.c1, .slice t2.d.y.o2 t2.d.y.q.q1.length t2.d.y.c2, .bool t2.d.y.q.b2, .slice t2.d.y.o3 t2.d.y.q.t2.length t2.d.y.c3, .slice t2.d.y.o4 t2.d.y.q.q2.length t2.d.y.c4, .string t2.d.s, .slice t2.d.ro t2.d.rl.length t2.d.rc, .slice t2.d.lo t2.ts.length t2.d.lc]) rfl rfl) (qe rfl) ?_))))
     exact ⟨t2, 0, rfl, ⟨hrt2, Dt.at_mono (fun b hb => Nat.le_trans hzt2 hb) _ hat2, by rw [zdf hb12 hy1 hoff hA9 hn9 (z := t1.tr) (by rw [List.getElem?_map, it1]; rfl), htt2]⟩, M.bel⟩
  ·
   refine gcl H M (ef rfl rfl) (quh M.bel ht (jx (M.has 0 rfl)).1 (Dt.keep M.bel _ hx) (by omega) (hT.below M.bel) hb12 (fun xs h9 => by rw [kv hb14] at h9; cases h9)) fun w52 hb51 M a H => ?_
   refine sdm H λa H↦?_
   iterate 2 refine sdo H (qz (vs := [.slice none 0 0, .int .i64 10]) rfl rfl) λa H↦?_
   iterate 2 refine sda H λa H↦?_
   refine qa (hK8 _ _ (wsk fun K53 hK53 => wsk fun K54 hK54 => wrl (sdm H λa H↦?_)))
   refine sdo (v := .bool true) H (qh rfl rfl (fun w => by kernel_rfl)) λa H↦?_
   refine qa (hK54 _ _ (wp_cond_true (H.ev rfl) ?_))
   refine wsk fun K55 hK55 => wrl (sdo (v := .agg (qg.d.cells qg.ts.length).toArray) H (zg rfl (fun w => by kernel_rfl)) λa H↦?_)
   refine sdm H λa H↦?_
   refine zl (us := (qg.d.cells qg.ts.length)) (L' := (.row 30 11 (.slice (some ⟨g9, 0, none⟩) 1 1) 1 (cellsOf [x]) :: .obj g6 (.cells (qg.d.cells qg.ts.length).toArray 30) :: .obj g4 (.cells (t.d.cells t.ts.length).toArray 30) :: .obj g2 (.cells (x.d.cells x.ts.length).toArray 30) :: [])) H M rfl rfl (qy rfl rfl rfl (by kernel_rfl) M 1 rfl rfl rfl) 1 rfl rfl rfl ?_
   intro w56 M
   refine sda H λa H↦?_
   refine qa (hK55 _ _ (wp_ret (hret _ _ (en2 H rfl (zq M LiR_isS_30 rfl 1 rfl (cs := [.int .i64 0, .int .i64 0, .bool false, .slice none 0 0, .slice none 0 0, .bool false, .slice none 0 0, .slice none 0 0, .string (⟨#[]⟩), .slice none 0 0, .slice none 0 0]) rfl rfl) (qe rfl) ?_))))
   exact ⟨qg, 10, rfl, ⟨jk _, xu _, by rw [quj hb12 (kv hb14), jj]⟩, M.bel⟩
 ·
  refine gcl H M (ef rfl rfl) (zhi M.bel ht (jx (M.has 0 rfl)).1 (Dt.keep M.bel _ hx) (by omega) (hT.below M.bel) hb12) fun w58 hb57 M a H => ?_
  refine sdm H λa H↦?_
  iterate 2 refine sdo H (qz (vs := [.slice none 0 0, .int .i64 2]) rfl rfl) λa H↦?_
  iterate 2 refine sda H λa H↦?_
  refine qa (hK8 _ _ (wsk fun K59 hK59 => wsk fun K60 hK60 => wrl (sdm H λa H↦?_)))
  refine sdo (v := .bool true) H (qh rfl rfl (fun w => by kernel_rfl)) λa H↦?_
  refine qa (hK60 _ _ (wp_cond_true (H.ev rfl) ?_))
  refine wsk fun K61 hK61 => wrl (sdo (v := .agg (qg.d.cells qg.ts.length).toArray) H (zg rfl (fun w => by kernel_rfl)) λa H↦?_)
  refine sdm H λa H↦?_
  refine zl (us := (qg.d.cells qg.ts.length)) (L' := (.row 30 11 (.slice (some ⟨g9, 0, none⟩) 1 1) 1 (cellsOf [x]) :: .obj g6 (.cells (qg.d.cells qg.ts.length).toArray 30) :: .obj g4 (.cells (t.d.cells t.ts.length).toArray 30) :: .obj g2 (.cells (x.d.cells x.ts.length).toArray 30) :: [])) H M rfl rfl (qy rfl rfl rfl (by kernel_rfl) M 1 rfl rfl rfl) 1 rfl rfl rfl ?_
  intro w62 M
  refine sda H λa H↦?_
  refine qa (hK61 _ _ (wp_ret (hret _ _ (en2 H rfl (zq M LiR_isS_30 rfl 1 rfl (cs := [.int .i64 0, .int .i64 0, .bool false, .slice none 0 0, .slice none 0 0, .bool false, .slice none 0 0, .slice none 0 0, .string (⟨#[]⟩), .slice none 0 0, .slice none 0 0]) rfl rfl) (qe rfl) ?_))))
  exact ⟨qg, 2, rfl, ⟨jk _, xu _, by rw [zdd hb12, jj]⟩, M.bel⟩
theorem LiP_is1_22 : Is1 Tryz.prog 22 := ⟨⟨_, Tryz.underlying22, rfl⟩, by kernel_rfl⟩
theorem LiP_is1_3 : Is1 Tryz.prog 3 := ⟨⟨_, Tryz.underlying3, rfl⟩, by kernel_rfl⟩
theorem LiP_fld_30_0 : FieldAt Tryz.prog 30 0 0 := ⟨_, _, Tryz.underlying30, rfl, rfl, by kernel_rfl⟩
theorem LiP_fld_30_5 : FieldAt Tryz.prog 30 5 10 := ⟨_, _, Tryz.underlying30, rfl, rfl, by kernel_rfl⟩
theorem LiP_isS_30 : IsS Tryz.prog 30 11 := ⟨⟨_, Tryz.underlying30⟩, by kernel_rfl⟩
theorem qqe {w0 w : World} {x t : Dt} (h0 : Below w0.heap.size w0 w) (hx : x.rd w0) (ht : t.rd w0) (hbx : x.tr.bulk ≤ 4000000) (hb : t.tr.bulk ≤ 4000000) : Calls Tryz.prog 46 #[.agg (x.d.cells x.ts.length).toArray, .agg (t.d.cells t.ts.length).toArray] w fun e w' => (∃ so' ca' ys, e = .returned (.tuple #[.slice so' (ys : List Dt).length ca', .int .i64 0]) ∧ ((qm qi t.tr && qm qi x.tr) = true ∧ zw t.tr = some (ys.map Dt.tr) ∧ (∀ x ∈ ys, x.rd w0) ∧ ys.length ≤ t.tr.bulk) ∧ Mg w w' [.row 30 11 (.slice so' ys.length ca') ys.length (cellsOf ys)]) ∨ (e = .returned (.tuple #[.slice none 0 0, .int .i64 10]) ∧ ((qm qi t.tr && qm qi x.tr) = true ∧ zw t.tr = none) ∧ Below w.heap.size w w') ∨ (e = .returned (.tuple #[.slice none 0 0, .int .i64 2]) ∧ (qm qi t.tr && qm qi x.tr) = false ∧ Below w.heap.size w w') := by
 have M : Mg w w ([]) := Mg.start w
 refine qx (l := [(0, .agg (x.d.cells x.ts.length).toArray), (1, .agg (t.d.cells t.ts.length).toArray)]) Tryz.func46 rfl Tryz.ntmps46 rfl rfl ?_
 intro Q hret hnorm hP a A
 refine wsk fun K1 hK1 => wrl (zv (vs := (x.d.cells x.ts.length)) (t := 30) A M rfl rfl rfl pg (qt rfl rfl) (by decide) ?_)
 intro g2 w3 M a A
 refine zv (vs := (t.d.cells t.ts.length)) (t := 30) A M rfl rfl rfl pg (qt rfl rfl) (by decide) ?_
 intro g4 w5 M a A
 iterate 2 refine sda A λa A↦?_
 refine qa (hK1 _ _ (wsk fun K6 hK6 => wsk fun K7 hK7 => wrl (sdo A (za M LiP_isS_30 rfl 1 rfl (cs := (x.d.cells x.ts.length)) rfl rfl) λa A↦?_)))
 rcases tf (qm qi x.tr) with hb8 | hb8
 ·
  refine gcl A M (ef rfl rfl) ((hb8 ▸ rsound_any (t := x) (Dt.keep (h0.trans (M.bel.mono h0.size)) _ hx) (by omega))) fun w10 hb9 M a A => ?_
  refine sdo (v := .bool false) A (zk rfl zt) λa A↦?_
  refine qa (hK7 _ _ (wp_cond_false (A.ev rfl) ?_))
  refine wp_skip (hK6 _ _ (wsk fun K11 hK11 => wrl (sdo A (za M LiP_isS_30 rfl 0 rfl (cs := (t.d.cells t.ts.length)) rfl rfl) λa A↦?_)))
  rcases tf (qm qi t.tr) with hb12 | hb12
  ·
   rcases tf ((zw t.tr).isSome) with hb14 | hb14
   ·
    refine sct A (ef rfl rfl) (zcb (h0.trans (M.bel.mono h0.size)) ht (by omega) hb12 hb14) ?_
    rintro _ w16 ⟨so7, ca7, ys, rfl, ⟨hy1, hy2, hy3⟩, hM7⟩
    replace M : Mg w w16 (.row 30 11 (.slice so7 ys.length ca7) ys.length (cellsOf ys) :: .obj g4 (.cells (t.d.cells t.ts.length).toArray 30) :: .obj g2 (.cells (x.d.cells x.ts.length).toArray 30) :: []) := (M.both hM7 (qs (by simp) (qs (by simp) (zh zm))) (qs (by simp) (zh zm)))
    refine ⟨_, rfl, ?_⟩
    intro a A
    iterate 2 refine sdo A (qz (vs := [.slice so7 ys.length ca7, .int .i64 0]) rfl rfl) λa A↦?_
    iterate 2 refine sda A λa A↦?_
    refine qa (hK11 _ _ (wp_ret (hret _ _ (en2 A rfl (qe rfl) (qe rfl) ?_))))
    replace M : Mg w w16 (.row 30 11 (.slice so7 ys.length ca7) ys.length (cellsOf ys) :: []) := by
     have h9 := M.sub (cc (cn (cn (.refl _))))
     exact h9
    exact .inl ⟨_, _, ys, rfl, ⟨(by rw [hb12, hb8]; rfl), hy1, hy2, hy3⟩, M⟩
   ·
    refine gcl A M (ef rfl rfl) (zcc (h0.trans (M.bel.mono h0.size)) ht (by omega) hb12 hb14) fun w18 hb17 M a A => ?_
    iterate 2 refine sdo A (qz (vs := [.slice none 0 0, .int .i64 10]) rfl rfl) λa A↦?_
    iterate 2 refine sda A λa A↦?_
    refine qa (hK11 _ _ (wp_ret (hret _ _ (en2 A rfl (qe rfl) (qe rfl) ?_))))
    exact .inr (.inl ⟨rfl, ⟨(by rw [hb12, hb8]; rfl), kv hb14⟩, M.bel⟩)
  ·
   refine gcl A M (ef rfl rfl) (zhb (h0.trans (M.bel.mono h0.size)) ht (by omega) hb12) fun w20 hb19 M a A => ?_
   iterate 2 refine sdo A (qz (vs := [.slice none 0 0, .int .i64 2]) rfl rfl) λa A↦?_
   iterate 2 refine sda A λa A↦?_
   refine qa (hK11 _ _ (wp_ret (hret _ _ (en2 A rfl (qe rfl) (qe rfl) ?_))))
   exact .inr (.inr ⟨rfl, by rw [hb12]; rfl, M.bel⟩)
 ·
  refine gcl A M (ef rfl rfl) ((hb8 ▸ rsound_any (t := x) (Dt.keep (h0.trans (M.bel.mono h0.size)) _ hx) (by omega))) fun w22 hb21 M a A => ?_
  refine sdo (v := .bool true) A (zk rfl zt) λa A↦?_
  refine qa (hK7 _ _ (wp_cond_true (A.ev rfl) ?_))
  refine wsk fun K23 hK23 => wrl ?_
  iterate 2 refine sda A λa A↦?_
  refine qa (hK23 _ _ (wp_ret (hret _ _ (en2 A rfl (qe rfl) (qe rfl) ?_))))
  exact .inr (.inr ⟨rfl, by rw [hb8, Bool.and_false], M.bel⟩)
theorem qfj {w0 w : World} {x t : Dt} (h0 : Below w0.heap.size w0 w) (hx : x.rd w0) (ht : t.rd w0) (hbx : x.tr.bulk ≤ 4000000) (hb : t.tr.bulk ≤ 4000000) (hs : (qm qi t.tr && qm qi x.tr) = true) (h : (zw t.tr).isSome = true) : Calls Tryz.prog 46 #[.agg (x.d.cells x.ts.length).toArray, .agg (t.d.cells t.ts.length).toArray] w fun e w' => ∃ so' ca' ys, e = .returned (.tuple #[.slice so' (ys : List Dt).length ca', .int .i64 0]) ∧ (zw t.tr = some (ys.map Dt.tr) ∧ (∀ x ∈ ys, x.rd w0) ∧ ys.length ≤ t.tr.bulk) ∧ Mg w w' [.row 30 11 (.slice so' ys.length ca') ys.length (cellsOf ys)] := by
 refine (qqe h0 hx ht hbx hb).mono ?_
 rintro e w' (⟨so', ca', ys, h1, h2, h3⟩ | ⟨_, h2, _⟩ | ⟨_, h2, _⟩)
 ·
  exact ⟨so', ca', ys, h1, h2.2, h3⟩
 ·
  rw [h2.2] at h; cases h
 ·
  rw [hs] at h2; cases h2
theorem qga {w0 w : World} {x t : Dt} (h0 : Below w0.heap.size w0 w) (hx : x.rd w0) (ht : t.rd w0) (hbx : x.tr.bulk ≤ 4000000) (hb : t.tr.bulk ≤ 4000000) (hs : (qm qi t.tr && qm qi x.tr) = true) (h : (zw t.tr).isSome = false) : Calls Tryz.prog 46 #[.agg (x.d.cells x.ts.length).toArray, .agg (t.d.cells t.ts.length).toArray] w fun e w' => e = .returned (.tuple #[.slice none 0 0, .int .i64 10]) ∧ Below w.heap.size w w' := by
 refine (qqe h0 hx ht hbx hb).mono ?_
 rintro e w' (⟨so', ca', ys, h1, h2, h3⟩ | ⟨h1, h2, h3⟩ | ⟨_, h2, _⟩)
 ·
  rw [h2.2.1] at h; cases h
 ·
  exact ⟨h1, h3⟩
 ·
  rw [hs] at h2; cases h2
theorem qji {w0 w : World} {x t : Dt} (h0 : Below w0.heap.size w0 w) (hx : x.rd w0) (ht : t.rd w0) (hbx : x.tr.bulk ≤ 4000000) (hb : t.tr.bulk ≤ 4000000) (hs : (qm qi t.tr && qm qi x.tr) = false) : Calls Tryz.prog 46 #[.agg (x.d.cells x.ts.length).toArray, .agg (t.d.cells t.ts.length).toArray] w fun e w' => e = .returned (.tuple #[.slice none 0 0, .int .i64 2]) ∧ Below w.heap.size w w' := by
 refine (qqe h0 hx ht hbx hb).mono ?_
 rintro e w' (⟨so', ca', ys, h1, h2, h3⟩ | ⟨h1, h2, h3⟩ | ⟨h1, h2, h3⟩)
 ·
  rw [hs] at h2; cases h2.1
 ·
  rw [hs] at h2; cases h2.1
 ·
  exact ⟨h1, h3⟩
theorem zdg {w : World} {x t : Dt} (hx : x.rd w) (ht : t.rd w) (hbx : x.tr.bulk ≤ 1100000) (hb : t.tr.bulk ≤ 1100000) : Calls Tryz.prog 21 #[.agg (x.d.cells x.ts.length).toArray, .agg (t.d.cells t.ts.length).toArray] w fun e w' => ∃ (t2 : Dt) (k : Int), e = .returned (.tuple #[.agg (t2.d.cells t2.ts.length).toArray, .int .i64 k]) ∧ (t2.rd w' ∧ (t2.tr, k) = qyb x.tr t.tr) ∧ Below w.heap.size w w' := by
 have M : Mg w w ([]) := Mg.start w
 refine qx (l := [(0, .agg (x.d.cells x.ts.length).toArray), (1, .agg (t.d.cells t.ts.length).toArray)]) Tryz.func21 rfl Tryz.ntmps21 rfl rfl ?_
 intro Q hret hnorm hP a A
 refine wsk fun K1 hK1 => wrl (zv (vs := (x.d.cells x.ts.length)) (t := 30) A M rfl rfl rfl pg (qt rfl rfl) (by decide) ?_)
 intro g2 w3 M a A
 refine zv (vs := (t.d.cells t.ts.length)) (t := 30) A M rfl rfl rfl pg (qt rfl rfl) (by decide) ?_
 intro g4 w5 M a A
 refine zv (vs := (qg.d.cells qg.ts.length)) (t := 30) A M rfl rfl rfl pg (qp (z := .agg (qg.d.cells qg.ts.length).toArray) (by kernel_rfl) rfl) (by decide) ?_
 intro g6 w7 M a A
 refine sda A λa A↦?_
 refine qa (hK1 _ _ (wsk fun K8 hK8 => wrl (sdo A (za M LiP_isS_30 rfl 2 rfl (cs := (x.d.cells x.ts.length)) rfl rfl) λa A↦?_)))
 refine sdo A (za M LiP_isS_30 rfl 1 rfl (cs := (t.d.cells t.ts.length)) rfl rfl) λa A↦?_
 rcases tf ((qm qi t.tr && qm qi x.tr)) with hb10 | hb10
 ·
  rcases tf ((zw t.tr).isSome) with hb12 | hb12
  ·
   refine sct A (ef rfl rfl) (qfj M.bel hx ht (by omega) (by omega) hb10 hb12) ?_
   rintro _ w14 ⟨so7, ca7, ys, rfl, ⟨hy1, hy2, hy3⟩, hM7⟩
   have hyb := xv hy1
   obtain ⟨hst, hsx⟩ := Bool.and_eq_true_iff.1 hb10
   have hys : ∀ z ∈ ys, qm qi z.tr = true := fun z hz => vw hy1 hst _ (List.mem_map_of_mem hz)
   replace M : Mg w w14 (.row 30 11 (.slice so7 ys.length ca7) ys.length (cellsOf ys) :: .obj g6 (.cells (qg.d.cells qg.ts.length).toArray 30) :: .obj g4 (.cells (t.d.cells t.ts.length).toArray 30) :: .obj g2 (.cells (x.d.cells x.ts.length).toArray 30) :: []) := (M.both hM7 (qs (by simp) (qs (by simp) (qs (by simp) (zh zm)))) (qs (by simp) (zh zm)))
   refine ⟨_, rfl, ?_⟩
   intro a A
   refine sdm A λa A↦?_
   iterate 2 refine sdo A (qz (vs := [.slice so7 ys.length ca7, .int .i64 0]) rfl rfl) λa A↦?_
   iterate 2 refine sda A λa A↦?_
   refine qa (hK8 _ _ (wsk fun K15 hK15 => wsk fun K16 hK16 => wrl (sdm A λa A↦?_)))
   refine sdo (v := .bool false) A (qh rfl rfl (fun w => by kernel_rfl)) λa A↦?_
   refine qa (hK16 _ _ (wp_cond_false (A.ev rfl) ?_))
   refine wp_skip (hK15 _ _ (wsk fun K17 hK17 => wsk fun K18 hK18 => wrl (sda A λa A↦?_)))
   refine qa (hK18 _ _ (wp_block (jd (fun m_ a w1 => ∃ (i : Nat), m_ = 1 + (ys.length - i) ∧ (i ≤ ys.length ∧ ∀ j u, j < i → ys[j]? = some u → js x.tr u.tr = false) ∧ Sl a 37 [(0, .agg (x.d.cells x.ts.length).toArray), (1, .agg (t.d.cells t.ts.length).toArray), (2, .pointer (some ⟨g2, 0, none⟩)), (3, .pointer (some ⟨g4, 0, none⟩)), (4, .pointer (some ⟨g6, 0, none⟩)), (6, .slice so7 ys.length ca7), (7, .int .i64 0), (8, .int .i64 (((i : Nat) : Int))), (9, .tuple #[.slice so7 ys.length ca7, .int .i64 0]), (10, .agg (x.d.cells x.ts.length).toArray), (11, .agg (t.d.cells t.ts.length).toArray), (12, .tuple #[.slice so7 ys.length ca7, .int .i64 0]), (13, .slice so7 ys.length ca7), (14, .int .i64 0), (15, .int .i64 0), (16, .bool false)] ∧ Mg w w1 (.row 30 11 (.slice so7 ys.length ca7) ys.length (cellsOf ys) :: .obj g6 (.cells (qg.d.cells qg.ts.length).toArray 30) :: .obj g4 (.cells (t.d.cells t.ts.length).toArray 30) :: .obj g2 (.cells (x.d.cells x.ts.length).toArray 30) :: [])) _ ⟨0, rfl, ⟨Nat.zero_le _, fun j u h => absurd h (Nat.not_lt_zero _)⟩, A.keep _ (by repeat' constructor), M⟩ ?_)))
   clear M A
   rintro m_ a w19 ⟨i, rfl, hinv21, A, M⟩ K20 hK20
   obtain ⟨hi0, hin9⟩ := hinv21
   refine wsk fun K22 hK22 => wsk fun K23 hK23 => wrl ?_
   iterate 2 refine sdm A λa A↦?_
   refine sdo A (zb Tryz.underlying22 rfl) λa A↦?_
   rcases tf (decide (((i : Nat) : Int) < ((ys.length : Nat) : Int))) with hb24 | hb24
   ·
    have hb24' := of_decide_eq_true hb24
    refine sdc A zj hb24 λa A↦?_
    refine qa (hK23 _ _ (wp_cond_true (A.ev rfl) ?_))
    refine wp_skip (hK22 _ _ (wsk fun K25 hK25 => wp_block (wsk fun K26 hK26 => ?_)))
    obtain ⟨gy, c9, e9⟩ := yy (M.has 0 rfl) (show ys.length ≠ 0 by omega)
    have hso9 : so7 = some ⟨gy, 0, none⟩ := by injection e9
    obtain ⟨t1, it1⟩ : ∃ t1, ys[i]? = some t1 := ⟨_, List.getElem?_eq_getElem (show i < ys.length by omega)⟩
    have mt1 := List.mem_of_getElem? it1
    have rt1_ := hy2 t1 mt1
    refine jf (S := fun w1 => Mg w w1 (.row 30 11 (.slice so7 ys.length ca7) ys.length (cellsOf ys) :: .obj g2 (.cells (x.d.cells x.ts.length).toArray 30) :: [])) (by kernel_rfl) ?_
    replace M := M.drew
    refine qf A 0 rfl rfl rfl rfl hP (M.sub (cc (cn (cn (cc (List.nil_sublist _)))))) (fun w1 M => za M LiP_isS_30 rfl 1 rfl (cs := (x.d.cells x.ts.length)) rfl rfl) λa A↦?_
    refine qf A 1 rfl rfl rfl rfl hP (M.sub (cc (cn (cn (cc (List.nil_sublist _)))))) (fun w1 M => ze rfl) λa A↦?_
    refine qf A 2 rfl rfl rfl rfl hP (M.sub (cc (cn (cn (cc (List.nil_sublist _)))))) (fun w1 M => ze rfl) λa A↦?_
    refine qf (v := .pointer (some ⟨gy, 0 + i * 11, none⟩)) A 3 rfl rfl rfl rfl hP (M.sub (cc (cn (cn (cc (List.nil_sublist _)))))) (fun w1 M => zi (k := i) Tryz.underlying22 (by kernel_rfl) rfl rfl rfl hso9 (by omega)) λa A↦?_
    refine qf A 4 rfl rfl rfl rfl hP (M.sub (cc (cn (cn (cc (List.nil_sublist _)))))) (fun w1 M => qcf (o := i * 11) (cs := t1.d.cells t1.ts.length) M 0 rfl hso9 LiP_isS_30 (jv it1) rfl rfl) λa A↦?_
    rcases tf (js x.tr t1.tr) with hb27 | hb27
    ·
     refine qn (by kernel_rfl) (zd A 5 rfl rfl rfl rfl (qj rfl rfl (fun w => by kernel_rfl)) ((hb27 ▸ xj (x.tr.bulk + 1) (t := x) (u := t1) (Nat.lt_succ_self _) (Dt.keep M.bel _ hx) (Dt.keep M.bel _ rt1_))) ?_)
     rintro _ w29 ⟨rfl, hb28⟩
     replace M := M.call hb28
     refine ⟨_, rfl, (M.sub (cc (cn (cn (cc (List.nil_sublist _)))))), ?_⟩
     intro a A
     refine zp (by kernel_rfl) ?_
     refine hK26 _ _ (wp_cond_true (A.ev rfl) ?_)
     refine wsk fun K30 hK30 => jf (S := fun w1 => Mg w w1 ([])) (by kernel_rfl) ?_
     replace M := M.drew
     refine qf A 0 rfl rfl rfl rfl hP (M.sub (cn (cn (cn (cn (List.nil_sublist _)))))) (fun w1 M => ze rfl) λa A↦?_
     refine qf A 1 rfl rfl rfl rfl hP (M.sub (cn (cn (cn (cn (List.nil_sublist _)))))) (fun w1 M => ze rfl) λa A↦?_
     have hcp7 := qhd (M.has 0 rfl)
     refine qf (v := .slice ((if ca7 = i then so7 else so7.map (·.add (i * 11)))) ((ys.drop i).length) ((ca7 - i))) A 2 rfl rfl rfl rfl hP (M.sub (cn (cn (cn (cn (List.nil_sublist _)))))) (fun w1 M => (by rw [List.length_drop]; exact qai (sz := 11) (lo := i) Tryz.underlying22 (by kernel_rfl) rfl rfl (by omega) (by omega))) λa A↦?_
     refine qn (by kernel_rfl) (zd A 3 rfl rfl rfl rfl (qj rfl rfl (fun w => by kernel_rfl)) (zca) ?_)
     rintro _ w32 ⟨rfl, hb31⟩
     replace M := M.call hb31
     refine ⟨_, rfl, (M.sub (cn (cn (cn (cn (List.nil_sublist _)))))), ?_⟩
     intro a A
     obtain ⟨hge33, hlt34⟩ := Ck.lt (M.has 1 rfl) g6 rfl
     obtain ⟨hge35, hlt36⟩ := Ck.lt (M.has 2 rfl) g4 rfl
     obtain ⟨hge37, hlt38⟩ := Ck.lt (M.has 3 rfl) g2 rfl
     refine qn (by kernel_rfl) (zd A 4 rfl rfl rfl rfl (qj rfl rfl (fun w => by kernel_rfl)) (qua ((jx (M.has 0 rfl)).1.drop ca7 i hcp7) (fun t ht => Dt.keep M.bel _ (hy2 t (List.mem_of_mem_drop ht))) (qli _) (by rw [List.length_drop]; omega) (fun b => b < w.heap.size ∨ w32.heap.size ≤ b) (fun b hb => .inr hb) (fun t ht => Dt.at_mono (fun b hb => .inl hb) _ (Dt.at_lt _ (hy2 t (List.mem_of_mem_drop ht)))) (zkd _)) ?_)
     rintro _ w40 ⟨t3, rfl, ⟨hrt3, hat3, htt3⟩, hb39⟩
     replace M := M.call hb39
     refine ⟨_, rfl, (M.sub (cn (cn (cn (cn (List.nil_sublist _)))))), ?_⟩
     intro a A
     refine qn (by kernel_rfl) (qhc (us := (t3.d.cells t3.ts.length)) (L' := (.row 30 11 (.slice so7 ys.length ca7) ys.length (cellsOf ys) :: .obj g6 (.cells (t3.d.cells t3.ts.length).toArray 30) :: .obj g4 (.cells (t.d.cells t.ts.length).toArray 30) :: .obj g2 (.cells (x.d.cells x.ts.length).toArray 30) :: [])) A M 5 rfl rfl rfl (qy rfl rfl rfl (by kernel_rfl) M 1 rfl rfl rfl) 1 rfl rfl rfl ?_)
     intro w41 M hK42
     replace hrt3 := Dt.kept hK42 _ hrt3 (Dt.at_mono (fun b hb => by rintro rfl; omega) _ hat3)
     refine ⟨(M.sub (cn (cn (cn (cn (List.nil_sublist _)))))), ?_⟩
     refine qf A 6 rfl rfl rfl rfl hP (M.sub (cn (cn (cn (cn (List.nil_sublist _)))))) (fun w1 M => je rfl) λa A↦?_
     refine zp (by kernel_rfl) ?_
     refine hK30 _ _ (wp_ret (hret _ _ (en2 A rfl (zq M LiP_isS_30 rfl 1 rfl (cs := [.int .i64 t3.d.k, .int .i64 t3.d.n, .bool t3.d.y.q.b1, .slice t3.d.y.o1 t3.d.y.q.t1.length t3.d.y.c1, .slice t3.d.y.o2 t3.d.y.q.q1.length t3.d.y.c2, .bool t3.d.y.q.b2, .slice t3.d.y.o3 t3.d.y.q.t2.length t3.d.y.c3, .slice t3.d.y.o4 t3.d.y.q.q2.length t3.d.y.c4, .string t3.d.s, .slice t3.d.ro t3.d.rl.length t3.d.rc, .slice t3.d.lo t3.ts.length t3.d.lc]) rfl rfl) (qe rfl) ?_)))
     have hix : qch (fun t : Dt => js x.tr t.tr) ys = ((i : Nat) : Int) := qwj hin9 it1 hb27
     obtain ⟨hie, -⟩ := qjf (q := js x.tr) hix.symm (fun z hz => rfl)
     obtain ⟨hA9, hn9⟩ := qme hie (by omega)
     rw [Int.toNat_natCast] at hn9
     exact ⟨t3, 0, rfl, ⟨hrt3, by rw [zdb hb10 hy1 hA9, htt3, qdj, List.map_drop, hn9]⟩, M.bel⟩
    ·
     refine qn (by kernel_rfl) (zd A 5 rfl rfl rfl rfl (qj rfl rfl (fun w => by kernel_rfl)) ((hb27 ▸ xj (x.tr.bulk + 1) (t := x) (u := t1) (Nat.lt_succ_self _) (Dt.keep M.bel _ hx) (Dt.keep M.bel _ rt1_))) ?_)
     rintro _ w44 ⟨rfl, hb43⟩
     replace M := M.call hb43
     refine ⟨_, rfl, (M.sub (cc (cn (cn (cc (List.nil_sublist _)))))), ?_⟩
     intro a A
     refine zp (by kernel_rfl) ?_
     refine hK26 _ _ (wp_cond_false (A.ev rfl) ?_)
     refine wp_skip (hK25 _ _ (wrl (sdm A λa A↦?_)))
     refine sdo (v := .int .i64 (((i + 1 : Nat) : Int))) A (qh rfl rfl (fun w => (ji (xb (by omega) (by omega)) w).trans (by rw [show (((i : Nat) : Int) + 1 : Int) = ((i + 1 : Nat) : Int) from by omega]))) λa A↦?_
     refine sda A λa A↦?_
     refine qa ?_
     refine hK20 _ _ _ (by omega) ⟨i + 1, rfl, ⟨by omega, fun j u hj hu => if h9 : j < i then hin9 j u h9 hu else by have h8 : j = i := (by omega); subst h8; rw [it1] at hu; rw [← Option.some.inj hu]; exact hb27⟩, A.keep _ (by repeat' constructor), M⟩
   ·
    have hb24' := of_decide_eq_false hb24
    refine sdc A zj hb24 λa A↦?_
    refine qa (hK23 _ _ (wp_cond_false (A.ev rfl) ?_))
    refine wp_exit (hK17 _ _ (wsk fun K45 hK45 => wrl (sdo (v := .agg (qg.d.cells qg.ts.length).toArray) A (zg rfl (fun w => by kernel_rfl)) λa A↦?_)))
    refine zl (us := (qg.d.cells qg.ts.length)) (L' := (.row 30 11 (.slice so7 ys.length ca7) ys.length (cellsOf ys) :: .obj g6 (.cells (qg.d.cells qg.ts.length).toArray 30) :: .obj g4 (.cells (t.d.cells t.ts.length).toArray 30) :: .obj g2 (.cells (x.d.cells x.ts.length).toArray 30) :: [])) A M rfl rfl (qy rfl rfl rfl (by kernel_rfl) M 1 rfl rfl rfl) 1 rfl rfl rfl ?_
    intro w46 M
    refine sda A λa A↦?_
    refine qa (hK45 _ _ (wp_ret (hret _ _ (en2 A rfl (zq M LiP_isS_30 rfl 1 rfl (cs := [.int .i64 0, .int .i64 0, .bool false, .slice none 0 0, .slice none 0 0, .bool false, .slice none 0 0, .slice none 0 0, .string (⟨#[]⟩), .slice none 0 0, .slice none 0 0]) rfl rfl) (qe rfl) ?_))))
    have hix : qch (fun t : Dt => js x.tr t.tr) ys = -1 := qob (fun j u hj => hin9 j u (by omega))
    obtain ⟨hie, -⟩ := qjf (q := js x.tr) hix.symm (fun z hz => rfl)
    exact ⟨qg, 7, rfl, ⟨jk _, by rw [zlb hb10 hy1 (qya hie (by omega)), jj]⟩, M.bel⟩
  ·
   refine gcl A M (ef rfl rfl) (qga M.bel hx ht (by omega) (by omega) hb10 hb12) fun w48 hb47 M a A => ?_
   refine sdm A λa A↦?_
   iterate 2 refine sdo A (qz (vs := [.slice none 0 0, .int .i64 10]) rfl rfl) λa A↦?_
   iterate 2 refine sda A λa A↦?_
   refine qa (hK8 _ _ (wsk fun K49 hK49 => wsk fun K50 hK50 => wrl (sdm A λa A↦?_)))
   refine sdo (v := .bool true) A (qh rfl rfl (fun w => by kernel_rfl)) λa A↦?_
   refine qa (hK50 _ _ (wp_cond_true (A.ev rfl) ?_))
   refine wsk fun K51 hK51 => wrl (sdo (v := .agg (qg.d.cells qg.ts.length).toArray) A (zg rfl (fun w => by kernel_rfl)) λa A↦?_)
   refine sdm A λa A↦?_
   refine zl (us := (qg.d.cells qg.ts.length)) (L' := (.obj g6 (.cells (qg.d.cells qg.ts.length).toArray 30) :: .obj g4 (.cells (t.d.cells t.ts.length).toArray 30) :: .obj g2 (.cells (x.d.cells x.ts.length).toArray 30) :: [])) A M rfl rfl (qy rfl rfl rfl (by kernel_rfl) M 0 rfl rfl rfl) 0 rfl rfl rfl ?_
   intro w52 M
   refine sda A λa A↦?_
   refine qa (hK51 _ _ (wp_ret (hret _ _ (en2 A rfl (zq M LiP_isS_30 rfl 0 rfl (cs := [.int .i64 0, .int .i64 0, .bool false, .slice none 0 0, .slice none 0 0, .bool false, .slice none 0 0, .slice none 0 0, .string (⟨#[]⟩), .slice none 0 0, .slice none 0 0]) rfl rfl) (qe rfl) ?_))))
   exact ⟨qg, 10, rfl, ⟨jk _, by rw [quf hb10 (kv hb12), jj]⟩, M.bel⟩
 ·
  refine gcl A M (ef rfl rfl) (qji M.bel hx ht (by omega) (by omega) hb10) fun w54 hb53 M a A => ?_
  refine sdm A λa A↦?_
  iterate 2 refine sdo A (qz (vs := [.slice none 0 0, .int .i64 2]) rfl rfl) λa A↦?_
  iterate 2 refine sda A λa A↦?_
  refine qa (hK8 _ _ (wsk fun K55 hK55 => wsk fun K56 hK56 => wrl (sdm A λa A↦?_)))
  refine sdo (v := .bool true) A (qh rfl rfl (fun w => by kernel_rfl)) λa A↦?_
  refine qa (hK56 _ _ (wp_cond_true (A.ev rfl) ?_))
  refine wsk fun K57 hK57 => wrl (sdo (v := .agg (qg.d.cells qg.ts.length).toArray) A (zg rfl (fun w => by kernel_rfl)) λa A↦?_)
  refine sdm A λa A↦?_
  refine zl (us := (qg.d.cells qg.ts.length)) (L' := (.obj g6 (.cells (qg.d.cells qg.ts.length).toArray 30) :: .obj g4 (.cells (t.d.cells t.ts.length).toArray 30) :: .obj g2 (.cells (x.d.cells x.ts.length).toArray 30) :: [])) A M rfl rfl (qy rfl rfl rfl (by kernel_rfl) M 0 rfl rfl rfl) 0 rfl rfl rfl ?_
  intro w58 M
  refine sda A λa A↦?_
  refine qa (hK57 _ _ (wp_ret (hret _ _ (en2 A rfl (zq M LiP_isS_30 rfl 0 rfl (cs := [.int .i64 0, .int .i64 0, .bool false, .slice none 0 0, .slice none 0 0, .bool false, .slice none 0 0, .slice none 0 0, .string (⟨#[]⟩), .slice none 0 0, .slice none 0 0]) rfl rfl) (qe rfl) ?_))))
  exact ⟨qg, 2, rfl, ⟨jk _, by rw [zda hb10, jj]⟩, M.bel⟩
theorem qqf {w : World} {so : Option Addr} {ca : Nat} {ts : List Dt} (hR : Rt w so ts) (hD : ∀ t ∈ ts, t.rd w) (hl : ts.length ≤ 1000000000) : Calls Tryz.prog 51 #[.slice so ts.length ca] w fun e w' => e = .returned (.bool (!qjg ts)) ∧ Below w.heap.size w w' := by
 have M : Mg w w ([]) := Mg.start w
 refine qx (l := [(0, .slice so ts.length ca)]) Tryz.func51 rfl Tryz.ntmps51 rfl rfl ?_
 intro Q hret hnorm hP a A
 refine wsk fun K1 hK1 => wrl (sda A λa A↦?_)
 refine qa (hK1 _ _ (wsk fun K2 hK2 => wsk fun K3 hK3 => wrl (sda A λa A↦?_)))
 refine qa (hK3 _ _ (wp_block (jd (fun m_ a w1 => ∃ (i : Nat), m_ = 1 + (ts.length - i) ∧ (i ≤ ts.length ∧ ∀ j u, j < i → ts[j]? = some u → u.d.k = 8) ∧ Sl a 16 [(0, .slice so ts.length ca), (3, .int .i64 (((i : Nat) : Int)))] ∧ Mg w w1 ([])) _ ⟨0, rfl, ⟨Nat.zero_le _, fun j u h => absurd h (Nat.not_lt_zero _)⟩, A.keep _ ⟨rfl, rfl, trivial⟩, M⟩ ?_)))
 clear M A
 rintro m_ a w4 ⟨i, rfl, hinv6, A, M⟩ K5 hK5
 obtain ⟨hi0, hin9⟩ := hinv6
 refine wsk fun K7 hK7 => wsk fun K8 hK8 => wrl ?_
 iterate 2 refine sdm A λa A↦?_
 refine sdo A (zb Tryz.underlying22 rfl) λa A↦?_
 rcases tf (decide (((i : Nat) : Int) < ((ts.length : Nat) : Int))) with hb9 | hb9
 ·
  have hb9' := of_decide_eq_true hb9
  refine sdc A zj hb9 λa A↦?_
  refine qa (hK8 _ _ (wp_cond_true (A.ev rfl) ?_))
  refine wp_skip (hK7 _ _ (wsk fun K10 hK10 => wp_block (wsk fun K11 hK11 => ?_)))
  obtain ⟨t1, bt1, ot1, it1, mt1, rt1_, lt1, Ht1⟩ := zya hR hD (i := i) (by omega)
  refine wrl ?_
  iterate 2 refine sdm A λa A↦?_
  refine sdo (v := .pointer (some ⟨bt1, ot1 + i * 11, none⟩)) A (zi (k := i) Tryz.underlying22 (by kernel_rfl) rfl rfl rfl lt1 (by omega)) λa A↦?_
  refine sdo (v := .pointer (some ⟨bt1, ot1 + i * 11, none⟩)) A (qb LiP_fld_30_0 rfl rfl) λa A↦?_
  refine sdo A (qaj (j := 0) M Ht1 LiP_is1_3 rfl rfl rfl) λa A↦?_
  rcases tf ((t1.d.k != 8)) with hb12 | hb12
  ·
   have hb12' := bne_iff_ne.1 hb12
   refine sdc A zr hb12 λa A↦?_
   refine qa (hK11 _ _ (wp_cond_true (A.ev rfl) ?_))
   refine wsk fun K13 hK13 => wrl (sda A λa A↦?_)
   refine qa (hK13 _ _ (wp_ret (hret _ _ (en1 A rfl (qe rfl) ?_))))
   exact ⟨by rw [show qjg ts = true from List.any_eq_true.2 ⟨t1, mt1, hb12⟩]; rfl, M.bel⟩
  ·
   have hb12' := bne_eq_false_iff_eq.1 hb12
   refine sdc A zr hb12 λa A↦?_
   refine qa (hK11 _ _ (wp_cond_false (A.ev rfl) ?_))
   refine wp_skip (hK10 _ _ (wrl (sdm A λa A↦?_)))
   refine sdo (v := .int .i64 (((i + 1 : Nat) : Int))) A (qh rfl rfl (fun w => (ji (xb (by omega) (by omega)) w).trans (by rw [show (((i : Nat) : Int) + 1 : Int) = ((i + 1 : Nat) : Int) from by omega]))) λa A↦?_
   refine sda A λa A↦?_
   refine qa ?_
   refine hK5 _ _ _ (by omega) ⟨i + 1, rfl, ⟨by omega, fun j u hj hu => if h9 : j < i then hin9 j u h9 hu else by have h8 : j = i := (by omega); subst h8; rw [it1] at hu; rw [← Option.some.inj hu]; exact hb12'⟩, A.keep _ ⟨rfl, rfl, trivial⟩, M⟩
 ·
  have hb9' := of_decide_eq_false hb9
  refine sdc A zj hb9 λa A↦?_
  refine qa (hK8 _ _ (wp_cond_false (A.ev rfl) ?_))
  refine wp_exit (hK2 _ _ (wsk fun K14 hK14 => wrl (sda A λa A↦?_)))
  refine qa (hK14 _ _ (wp_ret (hret _ _ (en1 A rfl (qe rfl) ?_))))
  exact ⟨by rw [show qjg ts = false from List.any_eq_false.2 fun t h9 => by obtain ⟨j, hj⟩ := List.mem_iff_getElem?.1 h9; rw [hin9 j t (by have := (List.getElem?_eq_some_iff.1 hj).1; omega) hj]; decide]; rfl, M.bel⟩
theorem zvi {P : Program} {w0 w : World} {L : List Ck} {l : List (Nat × Value)} {dst : Option Tmp} {ty : TypeId} {pos : String} {after : Array Edge} {guard : Option (Nat × Bool)} {v : Value} (M : Mg w0 w L) (k : Nat) {e : TypeId} {sz g n c j : Nat} {so : Option Addr} {xs : List Value} (hk : L[k]? = some (.row e sz (.slice so n c) n xs)) (hso : so = some ⟨g, 0, none⟩) (hj : xs[j]? = some v) {t : TypeId} (ht : Is1 P t) {x : Operand} (hx : ev l x = some (.pointer (some ⟨g, 0 + j, none⟩))) : Does P l ⟨dst, .load t x, ty, pos, after, guard⟩ w v w := by
 subst hso
 rw [Nat.zero_add] at hx
 exact qvh M k hk hj ht hx
theorem zpj {w : World} {so : Option Addr} {ca : Nat} {ts : List Dt} (hR : Rt w so ts) (hD : ∀ t ∈ ts, t.rd w) (hl : ts.length ≤ 1000000000) (h : qjg ts = true) : Calls Tryz.prog 51 #[.slice so ts.length ca] w fun e w' => e = .returned (.bool false) ∧ Below w.heap.size w w' := by
 have := qqf (ca := ca) hR hD hl
 rw [h] at this
 exact this
theorem zhj {w : World} {so : Option Addr} {ca : Nat} {ts : List Dt} (hR : Rt w so ts) (hD : ∀ t ∈ ts, t.rd w) (hl : ts.length ≤ 1000000000) (h : qjg ts = false) : Calls Tryz.prog 51 #[.slice so ts.length ca] w fun e w' => e = .returned (.bool true) ∧ Below w.heap.size w w' := by
 have := qqf (ca := ca) hR hD hl
 rw [h] at this
 exact this
theorem zld {x : Tr} {t t0 : Dt} {b : Bool} (h : t.ts[0]? = some t0) (hb : js x t0.tr = b) : qia x t.tr = b := by unfold qia; rw [qyc h]; exact hb
theorem jcg {q : Dt → Bool} {ys fl : List Dt} {i : Nat} {t : Dt} (h : fl = (ys.take i).filter fun t => !q t) (hi : ys[i]? = some t) (hq : q t = true) : fl = (ys.take (i + 1)).filter fun t => !q t := by
 rw [List.take_add_one, hi, List.filter_append, ← h]; simp [hq]
theorem jdi {q : Dt → Bool} {ys fl : List Dt} {i : Nat} {t : Dt} (h : fl = (ys.take i).filter fun t => !q t) (hi : ys[i]? = some t) (hq : q t = false) : fl ++ [t] = (ys.take (i + 1)).filter fun t => !q t := by
 rw [List.take_add_one, hi, List.filter_append, ← h]; simp [hq]
theorem jch {q : Dt → Bool} {ys fl : List Dt} {i : Nat} (h : fl = (ys.take i).filter fun t => !q t) : fl.length ≤ ys.length := by
 rw [h]; exact Nat.le_trans (List.length_filter_le _ _) (by rw [List.length_take]; omega)
theorem zvj {q : Dt → Bool} {ys fl : List Dt} {i : Nat} (h : fl = (ys.take i).filter fun t => !q t) : ∀ t ∈ fl, t ∈ ys := fun t ht => by rw [h] at ht; exact List.mem_of_mem_take (List.mem_filter.1 ht).1
theorem zia {w : World} {x t : Dt} (hx : x.rd w) (ht : t.rd w) (hbx : x.tr.bulk ≤ 1100000) (hb : t.tr.bulk ≤ 1100000) : Calls Tryz.prog 23 #[.agg (x.d.cells x.ts.length).toArray, .agg (t.d.cells t.ts.length).toArray] w fun e w' => ∃ (t2 : Dt) (k : Int), e = .returned (.tuple #[.agg (t2.d.cells t2.ts.length).toArray, .int .i64 k]) ∧ (t2.rd w' ∧ (t2.tr, k) = qqd x.tr t.tr) ∧ Below w.heap.size w w' := by
 have M : Mg w w ([]) := Mg.start w
 refine qx (l := [(0, .agg (x.d.cells x.ts.length).toArray), (1, .agg (t.d.cells t.ts.length).toArray)]) Tryz.func23 rfl Tryz.ntmps23 rfl rfl ?_
 intro Q hret hnorm hP a A
 refine wsk fun K1 hK1 => wrl (zv (vs := (x.d.cells x.ts.length)) (t := 30) A M rfl rfl rfl pg (qt rfl rfl) (by decide) ?_)
 intro g2 w3 M a A
 refine zv (vs := (t.d.cells t.ts.length)) (t := 30) A M rfl rfl rfl pg (qt rfl rfl) (by decide) ?_
 intro g4 w5 M a A
 refine zv (vs := (qg.d.cells qg.ts.length)) (t := 30) A M rfl rfl rfl pg (qp (z := .agg (qg.d.cells qg.ts.length).toArray) (by kernel_rfl) rfl) (by decide) ?_
 intro g6 w7 M a A
 refine sda A λa A↦?_
 refine qa (hK1 _ _ (wsk fun K8 hK8 => wrl (sdo A (za M LiP_isS_30 rfl 2 rfl (cs := (x.d.cells x.ts.length)) rfl rfl) λa A↦?_)))
 refine sdo A (za M LiP_isS_30 rfl 1 rfl (cs := (t.d.cells t.ts.length)) rfl rfl) λa A↦?_
 rcases tf ((qm qi t.tr && qm qi x.tr)) with hb10 | hb10
 ·
  rcases tf ((zw t.tr).isSome) with hb12 | hb12
  ·
   refine sct A (ef rfl rfl) (qfj M.bel hx ht (by omega) (by omega) hb10 hb12) ?_
   rintro _ w14 ⟨so7, ca7, ys, rfl, ⟨hy1, hy2, hy3⟩, hM7⟩
   have hyb := xv hy1
   obtain ⟨hst, hsx⟩ := Bool.and_eq_true_iff.1 hb10
   have hys : ∀ z ∈ ys, qm qi z.tr = true := fun z hz => vw hy1 hst _ (List.mem_map_of_mem hz)
   replace M : Mg w w14 (.row 30 11 (.slice so7 ys.length ca7) ys.length (cellsOf ys) :: .obj g6 (.cells (qg.d.cells qg.ts.length).toArray 30) :: .obj g4 (.cells (t.d.cells t.ts.length).toArray 30) :: .obj g2 (.cells (x.d.cells x.ts.length).toArray 30) :: []) := (M.both hM7 (qs (by simp) (qs (by simp) (qs (by simp) (zh zm)))) (qs (by simp) (zh zm)))
   refine ⟨_, rfl, ?_⟩
   intro a A
   refine sdm A λa A↦?_
   iterate 2 refine sdo A (qz (vs := [.slice so7 ys.length ca7, .int .i64 0]) rfl rfl) λa A↦?_
   iterate 2 refine sda A λa A↦?_
   refine qa (hK8 _ _ (wsk fun K15 hK15 => wsk fun K16 hK16 => wrl (sdm A λa A↦?_)))
   refine sdo (v := .bool false) A (qh rfl rfl (fun w => by kernel_rfl)) λa A↦?_
   refine qa (hK16 _ _ (wp_cond_false (A.ev rfl) ?_))
   refine wp_skip (hK15 _ _ (wsk fun K17 hK17 => wsk fun K18 hK18 => wrl (sdm A λa A↦?_)))
   rcases tf ((qjg ys)) with hb19 | hb19
   ·
    refine gcl A M (ef rfl rfl) (zpj (jx (M.has 0 rfl)).1 (fun t ht => Dt.keep M.bel _ (hy2 t ht)) (by omega) hb19) fun w21 hb20 M a A => ?_
    refine sdo (v := .bool true) A (zk rfl zt) λa A↦?_
    refine qa (hK18 _ _ (wp_cond_true (A.ev rfl) ?_))
    refine wsk fun K22 hK22 => wrl (sdo (v := .agg (qg.d.cells qg.ts.length).toArray) A (zg rfl (fun w => by kernel_rfl)) λa A↦?_)
    refine zl (us := (qg.d.cells qg.ts.length)) (L' := (.row 30 11 (.slice so7 ys.length ca7) ys.length (cellsOf ys) :: .obj g6 (.cells (qg.d.cells qg.ts.length).toArray 30) :: .obj g4 (.cells (t.d.cells t.ts.length).toArray 30) :: .obj g2 (.cells (x.d.cells x.ts.length).toArray 30) :: [])) A M rfl rfl (qy rfl rfl rfl (by kernel_rfl) M 1 rfl rfl rfl) 1 rfl rfl rfl ?_
    intro w23 M
    refine sda A λa A↦?_
    refine qa (hK22 _ _ (wp_ret (hret _ _ (en2 A rfl (zq M LiP_isS_30 rfl 1 rfl (cs := [.int .i64 0, .int .i64 0, .bool false, .slice none 0 0, .slice none 0 0, .bool false, .slice none 0 0, .slice none 0 0, .string (⟨#[]⟩), .slice none 0 0, .slice none 0 0]) rfl rfl) (qe rfl) ?_))))
    exact ⟨qg, 10, rfl, ⟨jk _, by rw [zde hb10 hy1 ((qug ys).trans hb19), jj]⟩, M.bel⟩
   ·
    refine gcl A M (ef rfl rfl) (zhj (jx (M.has 0 rfl)).1 (fun t ht => Dt.keep M.bel _ (hy2 t ht)) (by omega) hb19) fun w25 hb24 M a A => ?_
    refine sdo (v := .bool false) A (zk rfl zt) λa A↦?_
    refine qa (hK18 _ _ (wp_cond_false (A.ev rfl) ?_))
    refine wp_skip (hK17 _ _ (wsk fun K26 hK26 => wsk fun K27 hK27 => wrl (sda A λa A↦?_)))
    refine qa (hK27 _ _ (wp_block (jd (fun m_ a w1 => ∃ (i : Nat), m_ = 1 + (ys.length - i) ∧ (i ≤ ys.length ∧ ∀ j u, j < i → ys[j]? = some u → qia x.tr u.tr = false) ∧ Sl a 43 [(0, .agg (x.d.cells x.ts.length).toArray), (1, .agg (t.d.cells t.ts.length).toArray), (2, .pointer (some ⟨g2, 0, none⟩)), (3, .pointer (some ⟨g4, 0, none⟩)), (4, .pointer (some ⟨g6, 0, none⟩)), (6, .slice so7 ys.length ca7), (7, .int .i64 0), (8, .int .i64 (((i : Nat) : Int))), (9, .tuple #[.slice so7 ys.length ca7, .int .i64 0]), (10, .agg (x.d.cells x.ts.length).toArray), (11, .agg (t.d.cells t.ts.length).toArray), (12, .tuple #[.slice so7 ys.length ca7, .int .i64 0]), (13, .slice so7 ys.length ca7), (14, .int .i64 0), (15, .int .i64 0), (16, .bool false), (19, .slice so7 ys.length ca7), (20, .bool true), (21, .bool false)] ∧ Mg w w1 (.row 30 11 (.slice so7 ys.length ca7) ys.length (cellsOf ys) :: .obj g6 (.cells (qg.d.cells qg.ts.length).toArray 30) :: .obj g4 (.cells (t.d.cells t.ts.length).toArray 30) :: .obj g2 (.cells (x.d.cells x.ts.length).toArray 30) :: [])) _ ⟨0, rfl, ⟨Nat.zero_le _, fun j u h => absurd h (Nat.not_lt_zero _)⟩, A.keep _ (by repeat' constructor), M⟩ ?_)))
    clear M A
    rintro m_ a w28 ⟨i, rfl, hinv30, A, M⟩ K29 hK29
    obtain ⟨hi0, hin9⟩ := hinv30
    refine wsk fun K31 hK31 => wsk fun K32 hK32 => wrl ?_
    iterate 2 refine sdm A λa A↦?_
    refine sdo A (zb Tryz.underlying22 rfl) λa A↦?_
    rcases tf (decide (((i : Nat) : Int) < ((ys.length : Nat) : Int))) with hb33 | hb33
    ·
     have hb33' := of_decide_eq_true hb33
     refine sdc A zj hb33 λa A↦?_
     refine qa (hK32 _ _ (wp_cond_true (A.ev rfl) ?_))
     refine wp_skip (hK31 _ _ (wsk fun K34 hK34 => wp_block (wsk fun K35 hK35 => ?_)))
     obtain ⟨gy, c9, e9⟩ := yy (M.has 0 rfl) (show ys.length ≠ 0 by omega)
     have hso9 : so7 = some ⟨gy, 0, none⟩ := by injection e9
     obtain ⟨t1, it1⟩ : ∃ t1, ys[i]? = some t1 := ⟨_, List.getElem?_eq_getElem (show i < ys.length by omega)⟩
     have mt1 := List.mem_of_getElem? it1
     have rt1_ := hy2 t1 mt1
     obtain ⟨z0, iz0, -, -⟩ := qui rt1_ (hys t1 mt1) (zvg hb19 t1 mt1)
     have hlt0 := (List.getElem?_eq_some_iff.1 iz0).1
     obtain ⟨t0, bt0, ot0, it0, mt0, rt0_, lt0, Ht0⟩ := uy rt1_ (i := 0) hlt0
     refine jf (S := fun w1 => Mg w w1 (.row 30 11 (.slice so7 ys.length ca7) ys.length (cellsOf ys) :: .obj g2 (.cells (x.d.cells x.ts.length).toArray 30) :: [])) (by kernel_rfl) ?_
     replace M := M.drew
     refine qf A 0 rfl rfl rfl rfl hP (M.sub (cc (cn (cn (cc (List.nil_sublist _)))))) (fun w1 M => za M LiP_isS_30 rfl 1 rfl (cs := (x.d.cells x.ts.length)) rfl rfl) λa A↦?_
     refine qf A 1 rfl rfl rfl rfl hP (M.sub (cc (cn (cn (cc (List.nil_sublist _)))))) (fun w1 M => ze rfl) λa A↦?_
     refine qf A 2 rfl rfl rfl rfl hP (M.sub (cc (cn (cn (cc (List.nil_sublist _)))))) (fun w1 M => ze rfl) λa A↦?_
     refine qf (v := .pointer (some ⟨gy, 0 + i * 11, none⟩)) A 3 rfl rfl rfl rfl hP (M.sub (cc (cn (cn (cc (List.nil_sublist _)))))) (fun w1 M => zi (k := i) Tryz.underlying22 (by kernel_rfl) rfl rfl rfl hso9 (by omega)) λa A↦?_
     refine qf (v := .pointer (some ⟨gy, 0 + (i * 11 + 10), none⟩)) A 4 rfl rfl rfl rfl hP (M.sub (cc (cn (cn (cc (List.nil_sublist _)))))) (fun w1 M => qb LiP_fld_30_5 rfl (by omega)) λa A↦?_
     refine qf A 5 rfl rfl rfl rfl hP (M.sub (cc (cn (cn (cc (List.nil_sublist _)))))) (fun w1 M => zvi (j := i * 11 + 10) M 0 rfl hso9 (yj it1 (j := 10) rfl) LiP_is1_22 rfl) λa A↦?_
     refine qf (v := .pointer (some ⟨bt0, ot0 + 0 * 11, none⟩)) A 6 rfl rfl rfl rfl hP (M.sub (cc (cn (cn (cc (List.nil_sublist _)))))) (fun w1 M => zi (k := 0) Tryz.underlying22 (by kernel_rfl) rfl rfl rfl lt0 hlt0) λa A↦?_
     refine qf A 7 rfl rfl rfl rfl hP (M.sub (cc (cn (cn (cc (List.nil_sublist _)))))) (fun w1 M => zx M Ht0 LiP_isS_30 rfl rfl) λa A↦?_
     rcases tf (js x.tr t0.tr) with hb36 | hb36
     ·
      refine qn (by kernel_rfl) (zd A 8 rfl rfl rfl rfl (qj rfl rfl (fun w => by kernel_rfl)) ((hb36 ▸ xj (x.tr.bulk + 1) (t := x) (u := t0) (Nat.lt_succ_self _) (Dt.keep M.bel _ hx) (Dt.keep M.bel _ rt0_))) ?_)
      rintro _ w38 ⟨rfl, hb37⟩
      replace M := M.call hb37
      refine ⟨_, rfl, (M.sub (cc (cn (cn (cc (List.nil_sublist _)))))), ?_⟩
      intro a A
      refine zp (by kernel_rfl) ?_
      refine hK35 _ _ (wp_cond_true (A.ev rfl) ?_)
      refine wsk fun K39 hK39 => wrl ?_
      iterate 2 refine sdm A λa A↦?_
      refine sdo (v := .pointer (some ⟨gy, 0 + i * 11, none⟩)) A (zi (k := i) Tryz.underlying22 (by kernel_rfl) rfl rfl rfl hso9 (by omega)) λa A↦?_
      refine sdo A (qcf (o := i * 11) (cs := t1.d.cells t1.ts.length) M 0 rfl hso9 LiP_isS_30 (jv it1) rfl rfl) λa A↦?_
      refine zl (us := (t1.d.cells t1.ts.length)) (L' := (.row 30 11 (.slice so7 ys.length ca7) ys.length (cellsOf ys) :: .obj g6 (.cells (t1.d.cells t1.ts.length).toArray 30) :: .obj g4 (.cells (t.d.cells t.ts.length).toArray 30) :: .obj g2 (.cells (x.d.cells x.ts.length).toArray 30) :: [])) A M rfl rfl (qy rfl rfl rfl (by kernel_rfl) M 1 rfl rfl rfl) 1 rfl rfl rfl ?_
      intro w40 M
      refine sda A λa A↦?_
      refine qa (hK39 _ _ (wp_ret (hret _ _ (en2 A rfl (zq M LiP_isS_30 rfl 1 rfl (cs := [.int .i64 t1.d.k, .int .i64 t1.d.n, .bool t1.d.y.q.b1, .slice t1.d.y.o1 t1.d.y.q.t1.length t1.d.y.c1, .slice t1.d.y.o2 t1.d.y.q.q1.length t1.d.y.c2, .bool t1.d.y.q.b2, .slice t1.d.y.o3 t1.d.y.q.t2.length t1.d.y.c3, .slice t1.d.y.o4 t1.d.y.q.q2.length t1.d.y.c4, .string t1.d.s, .slice t1.d.ro t1.d.rl.length t1.d.rc, .slice t1.d.lo t1.ts.length t1.d.lc]) rfl rfl) (qe rfl) ?_))))
      have hix : qch (fun t : Dt => qia x.tr t.tr) ys = ((i : Nat) : Int) := qwj hin9 it1 (zld it0 hb36)
      obtain ⟨hie, -⟩ := qjf (q := qia x.tr) hix.symm (fun z hz => rfl)
      obtain ⟨hA9, hn9⟩ := qme hie (by omega)
      rw [Int.toNat_natCast] at hn9
      exact ⟨t1, 0, rfl, ⟨Dt.keep M.bel _ rt1_, by rw [zdf hb10 hy1 ((qug ys).trans hb19) hA9 hn9 (z := t1.tr) (by rw [List.getElem?_map, it1]; rfl)]⟩, M.bel⟩
     ·
      refine qn (by kernel_rfl) (zd A 8 rfl rfl rfl rfl (qj rfl rfl (fun w => by kernel_rfl)) ((hb36 ▸ xj (x.tr.bulk + 1) (t := x) (u := t0) (Nat.lt_succ_self _) (Dt.keep M.bel _ hx) (Dt.keep M.bel _ rt0_))) ?_)
      rintro _ w42 ⟨rfl, hb41⟩
      replace M := M.call hb41
      refine ⟨_, rfl, (M.sub (cc (cn (cn (cc (List.nil_sublist _)))))), ?_⟩
      intro a A
      refine zp (by kernel_rfl) ?_
      refine hK35 _ _ (wp_cond_false (A.ev rfl) ?_)
      refine wp_skip (hK34 _ _ (wrl (sdm A λa A↦?_)))
      refine sdo (v := .int .i64 (((i + 1 : Nat) : Int))) A (qh rfl rfl (fun w => (ji (xb (by omega) (by omega)) w).trans (by rw [show (((i : Nat) : Int) + 1 : Int) = ((i + 1 : Nat) : Int) from by omega]))) λa A↦?_
      refine sda A λa A↦?_
      refine qa ?_
      refine hK29 _ _ _ (by omega) ⟨i + 1, rfl, ⟨by omega, fun j u hj hu => if h9 : j < i then hin9 j u h9 hu else by have h8 : j = i := (by omega); subst h8; rw [it1] at hu; rw [← Option.some.inj hu]; exact zld it0 hb36⟩, A.keep _ (by repeat' constructor), M⟩
    ·
     have hb33' := of_decide_eq_false hb33
     refine sdc A zj hb33 λa A↦?_
     refine qa (hK32 _ _ (wp_cond_false (A.ev rfl) ?_))
     refine wp_exit (hK26 _ _ (wsk fun K43 hK43 => wrl (sdo (v := .agg (qg.d.cells qg.ts.length).toArray) A (zg rfl (fun w => by kernel_rfl)) λa A↦?_)))
     refine zl (us := (qg.d.cells qg.ts.length)) (L' := (.row 30 11 (.slice so7 ys.length ca7) ys.length (cellsOf ys) :: .obj g6 (.cells (qg.d.cells qg.ts.length).toArray 30) :: .obj g4 (.cells (t.d.cells t.ts.length).toArray 30) :: .obj g2 (.cells (x.d.cells x.ts.length).toArray 30) :: [])) A M rfl rfl (qy rfl rfl rfl (by kernel_rfl) M 1 rfl rfl rfl) 1 rfl rfl rfl ?_
     intro w44 M
     refine sda A λa A↦?_
     refine qa (hK43 _ _ (wp_ret (hret _ _ (en2 A rfl (zq M LiP_isS_30 rfl 1 rfl (cs := [.int .i64 0, .int .i64 0, .bool false, .slice none 0 0, .slice none 0 0, .bool false, .slice none 0 0, .slice none 0 0, .string (⟨#[]⟩), .slice none 0 0, .slice none 0 0]) rfl rfl) (qe rfl) ?_))))
     have hix : qch (fun t : Dt => qia x.tr t.tr) ys = -1 := qob (fun j u hj => hin9 j u (by omega))
     obtain ⟨hie, -⟩ := qjf (q := qia x.tr) hix.symm (fun z hz => rfl)
     exact ⟨qg, 7, rfl, ⟨jk _, by rw [zlc hb10 hy1 ((qug ys).trans hb19) (qya hie (by omega)), jj]⟩, M.bel⟩
  ·
   refine gcl A M (ef rfl rfl) (qga M.bel hx ht (by omega) (by omega) hb10 hb12) fun w46 hb45 M a A => ?_
   refine sdm A λa A↦?_
   iterate 2 refine sdo A (qz (vs := [.slice none 0 0, .int .i64 10]) rfl rfl) λa A↦?_
   iterate 2 refine sda A λa A↦?_
   refine qa (hK8 _ _ (wsk fun K47 hK47 => wsk fun K48 hK48 => wrl (sdm A λa A↦?_)))
   refine sdo (v := .bool true) A (qh rfl rfl (fun w => by kernel_rfl)) λa A↦?_
   refine qa (hK48 _ _ (wp_cond_true (A.ev rfl) ?_))
   refine wsk fun K49 hK49 => wrl (sdo (v := .agg (qg.d.cells qg.ts.length).toArray) A (zg rfl (fun w => by kernel_rfl)) λa A↦?_)
   refine sdm A λa A↦?_
   refine zl (us := (qg.d.cells qg.ts.length)) (L' := (.obj g6 (.cells (qg.d.cells qg.ts.length).toArray 30) :: .obj g4 (.cells (t.d.cells t.ts.length).toArray 30) :: .obj g2 (.cells (x.d.cells x.ts.length).toArray 30) :: [])) A M rfl rfl (qy rfl rfl rfl (by kernel_rfl) M 0 rfl rfl rfl) 0 rfl rfl rfl ?_
   intro w50 M
   refine sda A λa A↦?_
   refine qa (hK49 _ _ (wp_ret (hret _ _ (en2 A rfl (zq M LiP_isS_30 rfl 0 rfl (cs := [.int .i64 0, .int .i64 0, .bool false, .slice none 0 0, .slice none 0 0, .bool false, .slice none 0 0, .slice none 0 0, .string (⟨#[]⟩), .slice none 0 0, .slice none 0 0]) rfl rfl) (qe rfl) ?_))))
   exact ⟨qg, 10, rfl, ⟨jk _, by rw [quj hb10 (kv hb12), jj]⟩, M.bel⟩
 ·
  refine gcl A M (ef rfl rfl) (qji M.bel hx ht (by omega) (by omega) hb10) fun w52 hb51 M a A => ?_
  refine sdm A λa A↦?_
  iterate 2 refine sdo A (qz (vs := [.slice none 0 0, .int .i64 2]) rfl rfl) λa A↦?_
  iterate 2 refine sda A λa A↦?_
  refine qa (hK8 _ _ (wsk fun K53 hK53 => wsk fun K54 hK54 => wrl (sdm A λa A↦?_)))
  refine sdo (v := .bool true) A (qh rfl rfl (fun w => by kernel_rfl)) λa A↦?_
  refine qa (hK54 _ _ (wp_cond_true (A.ev rfl) ?_))
  refine wsk fun K55 hK55 => wrl (sdo (v := .agg (qg.d.cells qg.ts.length).toArray) A (zg rfl (fun w => by kernel_rfl)) λa A↦?_)
  refine sdm A λa A↦?_
  refine zl (us := (qg.d.cells qg.ts.length)) (L' := (.obj g6 (.cells (qg.d.cells qg.ts.length).toArray 30) :: .obj g4 (.cells (t.d.cells t.ts.length).toArray 30) :: .obj g2 (.cells (x.d.cells x.ts.length).toArray 30) :: [])) A M rfl rfl (qy rfl rfl rfl (by kernel_rfl) M 0 rfl rfl rfl) 0 rfl rfl rfl ?_
  intro w56 M
  refine sda A λa A↦?_
  refine qa (hK55 _ _ (wp_ret (hret _ _ (en2 A rfl (zq M LiP_isS_30 rfl 0 rfl (cs := [.int .i64 0, .int .i64 0, .bool false, .slice none 0 0, .slice none 0 0, .bool false, .slice none 0 0, .slice none 0 0, .string (⟨#[]⟩), .slice none 0 0, .slice none 0 0]) rfl rfl) (qe rfl) ?_))))
  exact ⟨qg, 2, rfl, ⟨jk _, by rw [zdd hb10, jj]⟩, M.bel⟩
theorem zwa (z : Array Value) (n : Nat) : (Builtin.zeroCells z n).toList.length = n * z.size := by simp [Builtin.zeroCells]
theorem jci {z : Array Value} {n : Nat} (h : ∀ v ∈ z, v.oneCell' = true) : ∀ v ∈ (Builtin.zeroCells z n).toList, v.oneCell' = true := fun v hv => by
  simp only [Builtin.zeroCells, Array.toList_map, List.mem_map, Array.mem_toList_iff, Array.mem_range] at hv
  obtain ⟨i, hi, rfl⟩ := hv
  have hz : 0 < z.size := Nat.pos_of_ne_zero fun e => by rw [e] at hi; omega
  have hlt := Nat.mod_lt i hz
  rw [getElem!_pos z _ hlt]
  exact h _ (Array.getElem_mem hlt)
section
variable {P : Program} {w0 w : World} {L : List Ck} {l : List (Nat × Value)} {dst : Option Tmp} {ty : TypeId} {pos : String} {after : Array Edge} {guard : Option (Nat × Bool)} {v : Value}
theorem zzh {t e : TypeId} {sz : Nat} {z : Value} (ht : P.underlying t = some (.slice e)) (hz : (P.info? e).map (·.zero) = some (some z)) {zc : Array Value} (hzc : z.cells = zc) (h1 : zc.toList.all Value.oneCell' = true) {x : Operand} {sx : Option Addr} {n cx g o : Nat} (hx : ev l x = some (.slice sx n cx)) (hsx : sx = some ⟨g, o, none⟩) (hn : 0 < n)
    (hM : Mg w0 w L) (k : Nat) {m cap : Nat} {xs : List Value} (hk : L[k]? = some (.row e sz (.slice (some ⟨g, 0, none⟩) m cap) m xs)) (hl : o + n * zc.size ≤ m * sz) : Does P l ⟨dst, .call ⟨.builtin .clear, #[x], #[t]⟩, ty, pos, after, guard⟩ w (.tuple #[]) (w.setCells g o (Builtin.zeroCells zc n).toList) := fun ρ h => by
  subst hsx hzc
  obtain ⟨i, hi, hzz⟩ := Option.map_eq_some_iff.1 hz
  have hr : w.ownsRow w0.heap.size e sz (.slice (some ⟨g, 0, none⟩) m cap) m xs := hM.has k hk
  have hxl : xs.length = m * sz := hr.1
  have h2 : (zeroValue e).run P w = .ok z w := by simp [zeroValue, typeInfo, hi, hzz]
  have h3 := run_storeCells_cells (P := P) g o (Builtin.zeroCells z.cells n).toList 0 w (fun j hj => by
      rw [zwa] at hj
      rw [World.ownsRow.cellAt hr (o + 0 + j) (by omega), List.getElem?_eq_getElem (by omega)]; rfl) (fun j hj => World.ownsRow.frozenAt hr _) (jci fun u hu => List.all_eq_true.1 h1 u (Array.mem_toList_iff.2 hu))
  rw [Nat.add_zero] at h3
  obtain ⟨n, rfl⟩ : ∃ n', n = n' + 1 := ⟨n - 1, by omega⟩
  simp only [execOp, resolve, invoke, builtin, h x _ hx, List.map_toArray, List.map_cons, List.map_nil, Sem.run_bind, Sem.run_pure, Result.andThen_ok, Builtin.clear_, run_underlying ht, List.getElem?_toArray, List.getElem?_cons_zero, h2, h3]
end
section
variable {P : Program} {ops : List Oper} {Q : Exit → Act → World → Prop} {a : Act} {w0 w : World} {L : List Ck} {n : Nat} {l : List (Nat × Value)} {o : Oper} {rest : List Oper} {v : Value}
theorem zwb (hA : Sl a n l) (hM : Mg w0 w L) (hg : zy l ops o = true) (hdst : o.dst = none) {g q : Nat} {cs : List Value} {e : TypeId} {sz m cap : Nat} {xs : List Value} (he : Does P l o w v (w.setCells g q cs)) (hq : q + cs.length ≤ m * sz) (k : Nat) (hk0 : L[k]? = some (.row e sz (.slice (some ⟨g, 0, none⟩) m cap) m xs)) {L' : List Value → List Ck} (hL : ∀ vs, L.set k (.row e sz (.slice (some ⟨g, 0, none⟩) m cap) m vs) = L' vs)
    (hk : ∀ w' vs, vs.take q = xs.take q → Mg w0 w' (L' vs) → wpList P ops.toArray Q rest a w') : wpList P ops.toArray Q (o :: rest) a w := by
  have hr : w.ownsRow w0.heap.size e sz (.slice (some ⟨g, 0, none⟩) m cap) m xs := hM.has k hk0
  have hxl : xs.length = m * sz := hr.1
  have h := hk _ (over xs q cs) (by
    rw [zij (by omega), List.append_assoc, List.take_append_of_le_length (by rw [List.length_take]; omega), List.take_take, Nat.min_self]) (hL _ ▸ Mg.rowPuts cs w L xs q hM k hk0)
  unfold wpList
  rw [if_pos (hA.wanted hg)]
  refine .inl ?_
  unfold Oper.wp
  rw [he a.eval (fun x u hx => hA.ev hx), Oper.upon_value, hdst]
  exact h
end
/-- A function value that answers a question about data, while a row of the call's own changes. -/
structure AsksM (P : Program) (f : FuncId) (cs : List Value) (w0 : World) (T : List Ck) (ts : List Dt) (p : Dt → Bool) : Prop where
  inv : ∀ (us : Array Value) (w : World), (callFunc f us).run P w = .ok (.enter f us) w
  run : ∀ (t : Dt) (w : World), t ∈ ts → Mg w0 w T → Calls P f ([Value.agg (t.d.cells t.ts.length).toArray] ++ cs).toArray w fun e w' => e = .returned (.bool (p t)) ∧ Below w.heap.size w w'
theorem AsksM.asks {P : Program} {f : FuncId} {cs : List Value} {w0 w : World} {T : List Ck} {ts : List Dt} {p : Dt → Bool} (h : AsksM P f cs w0 T ts p) (hM : Mg w0 w T) : Asks P f cs w ts p := ⟨h.inv, fun t w1 ht hb => h.run t w1 ht (hM.call hb)⟩
/-- The data at the beginning of a row. -/
theorem zzi {w : World} {B : Nat} {e : TypeId} {so : Option Addr} {n c : Nat} {vs : List Value} {ts : List Dt} (h : w.ownsRow B e 11 (.slice so n c) n vs) (hv : vs.take (ts.length * 11) = cellsOf ts) : Rt w so ts := fun hne => by
  have hvl := congrArg List.length hv
  rw [List.length_take, vk] at hvl
  have hxl : vs.length = n * 11 := h.1
  have hpos := List.length_pos_iff.2 hne
  rcases h.2 with ⟨e1, e2⟩ | ⟨g, cap', cur, e1, hg, hc, h1, h2, h3, h4⟩
  · subst e2; omega
  · cases e1
    refine ⟨g, 0, rfl, fun i t hi => ⟨(Array.getElem?_eq_some_iff.1 hc).1, fun j v hj => ?_⟩⟩
    have hlt : j < 11 := by have := (List.getElem?_eq_some_iff.1 hj).1; rwa [kd] at this
    have hil := (List.getElem?_eq_some_iff.1 hi).1
    have h5 := yj hi hj
    rw [← hv, List.getElem?_take, if_pos (by omega), ← h4, List.getElem?_take, if_pos (by omega)] at h5
    rw [show (⟨g, 0 + i * 11 + j, none⟩ : Addr) = ⟨g, i * 11 + j, none⟩ by rw [Nat.zero_add], cell_of_row w g _ cur e (0, 0) hc]
    simpa using h5
/-! ### What is left when some is deleted -/
theorem zib {p : Dt → Bool} {ys : List Dt} (h : ys.any p = false) : ys.filter (fun t => !p t) = ys := List.filter_eq_self.2 fun t ht => by rw [Bool.not_eq_true']; exact Bool.eq_false_iff.2 fun k => by rw [List.any_eq_true.2 ⟨t, ht, k⟩] at h; cases h
structure Del (p : Dt → Bool) (ys zs : List Dt) (i j : Nat) : Prop where
  len : zs.length = ys.length
  lt : i < j
  le : j ≤ ys.length
  fst : zs.take i = (ys.take j).filter fun t => !p t
  snd : zs.drop j = ys.drop j
theorem Del.start {p : Dt → Bool} {ys : List Dt} (h : ys.any p = true) : Del p ys ys (ys.findIdx p) (ys.findIdx p + 1) := by
  have hlt : ys.findIdx p < ys.length := List.findIdx_lt_length_of_exists (by simpa [List.any_eq_true] using h)
  refine ⟨rfl, Nat.lt_succ_self _, hlt, ?_, rfl⟩
  rw [List.take_add_one, List.getElem?_eq_getElem hlt, List.filter_append]
  have h1 : (ys.take (ys.findIdx p)).filter (fun t => !p t) = ys.take (ys.findIdx p) := zib (List.any_eq_false.2 fun t ht => by
    obtain ⟨i, hi⟩ := List.mem_iff_getElem?.1 ht
    rw [List.getElem?_take] at hi
    split at hi
    · rename_i h9
      obtain ⟨h8, rfl⟩ := List.getElem?_eq_some_iff.1 hi
      rw [List.not_of_lt_findIdx h9]; decide
    · cases hi)
  rw [h1]
  have h2 : p ys[ys.findIdx p] = true := List.findIdx_getElem
  simp [h2]
theorem Del.at {p : Dt → Bool} {ys zs : List Dt} {i j : Nat} (h : Del p ys zs i j) (hj : j < ys.length) : zs[j]? = ys[j]? := by
  have := congrArg (fun l => l[0]?) h.snd
  simpa [List.getElem?_drop] using this
theorem Del.out {p : Dt → Bool} {ys zs : List Dt} {i j : Nat} {t : Dt} (h : Del p ys zs i j) (hj : ys[j]? = some t) (hp : p t = true) : Del p ys zs i (j + 1) := by
  have hlt := (List.getElem?_eq_some_iff.1 hj).1
  refine ⟨h.len, Nat.lt_succ_of_lt h.lt, hlt, ?_, ?_⟩
  · rw [List.take_add_one, hj, List.filter_append, ← h.fst]
    simp [hp]
  · rw [← List.drop_drop, ← List.drop_drop, h.snd]
theorem Del.kept {p : Dt → Bool} {ys zs : List Dt} {i j : Nat} {t : Dt} (h : Del p ys zs i j) (hj : ys[j]? = some t) (hp : p t = false) : Del p ys (zs.set i t) (i + 1) (j + 1) := by
  have hlt := (List.getElem?_eq_some_iff.1 hj).1
  have hl := h.len
  have h1 := h.lt
  refine ⟨by rw [List.length_set]; exact hl, by omega, hlt, ?_, ?_⟩
  · rw [List.take_add_one, List.getElem?_set_self (by omega), List.take_set_of_le (Nat.le_refl _), h.fst, List.take_add_one, hj, List.filter_append]
    simp [hp]
  · rw [List.drop_set_of_lt (by omega), ← List.drop_drop, ← List.drop_drop, h.snd]
theorem Del.done {p : Dt → Bool} {ys zs : List Dt} {i j : Nat} (h : Del p ys zs i j) (hj : ys.length ≤ j) : zs.take i = ys.filter (fun t => !p t) ∧ (ys.filter (fun t => !p t)).length = i := by
  have h1 := h.fst
  have h2 := h.lt
  have h3 := h.len
  have h4 := h.le
  rw [List.take_of_length_le hj] at h1
  refine ⟨h1, ?_⟩
  rw [← h1, List.length_take]; omega
theorem LiI_isS_30 : IsS Tryz.prog 30 11 := ⟨⟨_, Tryz.underlying30⟩, by kernel_rfl⟩
theorem zwc {w : World} {so : Option Addr} {ca : Nat} {ts : List Dt} (hR : Rt w so ts) (hD : ∀ t ∈ ts, t.rd w) (hl : ts.length ≤ 1000000000) {f : FuncId} {cs : List Value} {p : Dt → Bool} (hF : Asks Tryz.prog f cs w ts p) (h : ts.any p = true) : Calls Tryz.prog 44 #[.slice so ts.length ca, .func (.func f) #[] cs.toArray] w fun e w' => ∃ i0 : Nat, e = .returned (.int .i64 ((i0 : Nat) : Int)) ∧ i0 = ts.findIdx p ∧ Below w.heap.size w w' := (qeb hR hD hl hF).mono fun e w' h9 => ⟨_, by rw [h9.1]; unfold qch; rw [if_pos h], rfl, h9.2⟩
theorem zwd {w : World} {so : Option Addr} {ca : Nat} {ts : List Dt} (hR : Rt w so ts) (hD : ∀ t ∈ ts, t.rd w) (hl : ts.length ≤ 1000000000) {f : FuncId} {cs : List Value} {p : Dt → Bool} (hF : Asks Tryz.prog f cs w ts p) (h : ts.any p = false) : Calls Tryz.prog 44 #[.slice so ts.length ca, .func (.func f) #[] cs.toArray] w fun e w' => e = .returned (.int .i64 (-1)) ∧ Below w.heap.size w w' := (qeb hR hD hl hF).mono fun e w' h9 => ⟨by rw [h9.1]; unfold qch; rw [if_neg (by rw [h]; decide)], h9.2⟩
theorem zle {p : Dt → Bool} {ys : List Dt} (h : ys.any p = true) : ys.findIdx p < ys.length := List.findIdx_lt_length_of_exists (by simpa [List.any_eq_true] using h)
theorem jcj {w0 w : World} {so9 : Option Addr} {c9 : Nat} {ys : List Dt} {T : List Ck} (hl : ys.length ≤ 1000000000) (hD : ∀ t ∈ ys, t.rd w0) {f : FuncId} {cs : List Value} {p : Dt → Bool} (hF : AsksM Tryz.prog f cs w0 T ys p) (hany : ys.any p = false) (hM0 : Mg w0 w (.row 30 11 (.slice so9 ys.length c9) ys.length (cellsOf ys) :: T)) : Calls Tryz.prog 52 #[.slice so9 ys.length c9, .func (.func f) #[] cs.toArray] w fun e w' => ∃ vs, e = .returned (.slice so9 (ys.filter fun t => !p t).length c9) ∧ vs.take ((ys.filter fun t => !p t).length * 11) = cellsOf (ys.filter fun t => !p t) ∧ Mg w0 w' (.row 30 11 (.slice so9 ys.length c9) ys.length vs :: T) := by
 have M : Mg w0 w (.row 30 11 (.slice so9 ys.length c9) ys.length (cellsOf ys) :: T) := hM0
 refine qx (l := [(0, .slice so9 ys.length c9), (1, .func (.func f) #[] cs.toArray)]) Tryz.func52 rfl Tryz.ntmps52 rfl rfl ?_
 intro Q hret hnorm hP a A
 refine wsk fun K1 hK1 => wrl (sda A λa A↦?_)
 refine qa (hK1 _ _ (wsk fun K2 hK2 => wrl ?_))
 iterate 2 refine sdm A λa A↦?_
 refine gcl A M (ef rfl rfl) (zwd (jx (M.has 0 rfl)).1 (fun t ht => Dt.keep M.bel _ (hD t ht)) hl (hF.asks (M.sub (cn (List.Sublist.refl _)))) hany) fun w4 hb3 M a A => ?_
 refine sda A λa A↦?_
 refine qa (hK2 _ _ (wsk fun K5 hK5 => wsk fun K6 hK6 => wrl (sdm A λa A↦?_)))
 refine sdo (v := .bool true) A (qh rfl rfl (fun w => by kernel_rfl)) λa A↦?_
 refine qa (hK6 _ _ (wp_cond_true (A.ev rfl) ?_))
 refine wsk fun K7 hK7 => wrl (sdm A λa A↦?_)
 refine sda A λa A↦?_
 refine qa (hK7 _ _ (wp_ret (hret _ _ (en1 A rfl (qe rfl) ?_))))
 exact ⟨cellsOf ys, by rw [zib hany], by rw [zib hany, ← vk, List.take_length], M⟩
theorem zzj {w0 w : World} {gr c9 : Nat} {ys : List Dt} {T : List Ck} (hl : ys.length ≤ 1000000000) (hD : ∀ t ∈ ys, t.rd w0) {f : FuncId} {cs : List Value} {p : Dt → Bool} (hF : AsksM Tryz.prog f cs w0 T ys p) (hany : ys.any p = true) (hM0 : Mg w0 w (.row 30 11 (.slice (some ⟨gr, 0, none⟩) ys.length c9) ys.length (cellsOf ys) :: T)) : Calls Tryz.prog 52 #[.slice (some ⟨gr, 0, none⟩) ys.length c9, .func (.func f) #[] cs.toArray] w fun e w' => ∃ vs, e = .returned (.slice (some ⟨gr, 0, none⟩) (ys.filter fun t => !p t).length c9) ∧ vs.take ((ys.filter fun t => !p t).length * 11) = cellsOf (ys.filter fun t => !p t) ∧ Mg w0 w' (.row 30 11 (.slice (some ⟨gr, 0, none⟩) ys.length c9) ys.length vs :: T) := by
 have M : Mg w0 w (.row 30 11 (.slice (some ⟨gr, 0, none⟩) ys.length c9) ys.length (cellsOf ys) :: T) := hM0
 refine qx (l := [(0, .slice (some ⟨gr, 0, none⟩) ys.length c9), (1, .func (.func f) #[] cs.toArray)]) Tryz.func52 rfl Tryz.ntmps52 rfl rfl ?_
 intro Q hret hnorm hP a A
 refine wsk fun K1 hK1 => wrl (sda A λa A↦?_)
 refine qa (hK1 _ _ (wsk fun K2 hK2 => wrl ?_))
 iterate 2 refine sdm A λa A↦?_
 refine sct A (ef rfl rfl) (zwc (jx (M.has 0 rfl)).1 (fun t ht => Dt.keep M.bel _ (hD t ht)) hl (hF.asks (M.sub (cn (List.Sublist.refl _)))) hany) ?_
 rintro _ w4 ⟨i0, rfl, hi0, hb3⟩
 have hi1 := zle hany
 rw [← hi0] at hi1
 replace M := M.call hb3
 refine ⟨_, rfl, ?_⟩
 intro a A
 refine sda A λa A↦?_
 refine qa (hK2 _ _ (wsk fun K5 hK5 => wsk fun K6 hK6 => wrl (sdm A λa A↦?_)))
 refine sdo (v := .bool false) A (qh rfl rfl (fun w => (qk w).trans (by rw [show ((((i0 : Nat) : Int) == -1)) = false from (beq_eq_false_iff_ne.2 (by omega))]))) λa A↦?_
 refine qa (hK6 _ _ (wp_cond_false (A.ev rfl) ?_))
 refine wp_skip (hK5 _ _ (wsk fun K7 hK7 => wsk fun K8 hK8 => wrl (sdm A λa A↦?_)))
 refine sdo (v := .int .i64 (((i0 + 1 : Nat) : Int))) A (qh rfl rfl (fun w => (ji (xb (by omega) (by omega)) w).trans (by rw [show (((i0 : Nat) : Int) + 1 : Int) = ((i0 + 1 : Nat) : Int) from by omega]))) λa A↦?_
 refine sda A λa A↦?_
 refine qa (hK8 _ _ (wp_block (jd (fun m_ a w1 => ∃ (j : Nat) (i : Nat) (zs : List Dt), m_ = 1 + (ys.length - j) ∧ (Del p ys zs i j) ∧ Sl a 42 [(0, .slice (some ⟨gr, 0, none⟩) ys.length c9), (1, .func (.func f) #[] cs.toArray), (4, .slice none 0 0), (5, .int .i64 (((i : Nat) : Int))), (6, .int .i64 (((j : Nat) : Int))), (8, .slice (some ⟨gr, 0, none⟩) ys.length c9), (9, .func (.func f) #[] cs.toArray), (10, .int .i64 (((i0 : Nat) : Int))), (11, .int .i64 (((i0 : Nat) : Int))), (12, .bool false), (14, .int .i64 (((i0 : Nat) : Int))), (15, .int .i64 (((i0 + 1 : Nat) : Int)))] ∧ Mg w0 w1 (.row 30 11 (.slice (some ⟨gr, 0, none⟩) ys.length c9) ys.length (cellsOf zs) :: T)) _ ⟨i0 + 1, i0, ys, rfl, (hi0 ▸ Del.start hany), A.keep _ (by repeat' constructor), M⟩ ?_)))
 clear M A
 rintro m_ a w9 ⟨j, i, zs, rfl, hinv11, A, M⟩ K10 hK10
 have hd := hinv11
 have hdl := hd.len
 have hd1 := hd.lt
 have hd2 := hd.le
 refine wsk fun K12 hK12 => wsk fun K13 hK13 => wrl ?_
 iterate 2 refine sdm A λa A↦?_
 refine sdo A (zb Tryz.underlying22 rfl) λa A↦?_
 rcases tf (decide (((j : Nat) : Int) < ((ys.length : Nat) : Int))) with hb14 | hb14
 ·
  have hb14' := of_decide_eq_true hb14
  refine sdc A zj hb14 λa A↦?_
  refine qa (hK13 _ _ (wp_cond_true (A.ev rfl) ?_))
  refine wp_skip (hK12 _ _ (wsk fun K15 hK15 => wp_block (wsk fun K16 hK16 => wrl ?_)))
  iterate 2 refine sdm A λa A↦?_
  refine sdo (v := .pointer (some ⟨gr, j * 11, none⟩)) A (jr (k := j) Tryz.underlying22 (by kernel_rfl) rfl rfl rfl (by omega)) λa A↦?_
  obtain ⟨t1, it1⟩ : ∃ t1, ys[j]? = some t1 := ⟨_, List.getElem?_eq_getElem (by omega)⟩
  have mt1 := List.mem_of_getElem? it1
  have iz1 := (hd.at (by omega)).trans it1
  refine sdo A (yw (o := j * 11) (cs := t1.d.cells t1.ts.length) M 0 rfl LiI_isS_30 (jv iz1) rfl rfl) λa A↦?_
  refine zv (vs := (qg.d.cells qg.ts.length)) (t := 30) A M rfl rfl rfl pg (qp (z := .agg (qg.d.cells qg.ts.length).toArray) (by kernel_rfl) rfl) (by decide) ?_
  intro g17 w18 M a A
  refine zl (us := (t1.d.cells t1.ts.length)) (L' := (.obj g17 (.cells (t1.d.cells t1.ts.length).toArray 30) :: .row 30 11 (.slice (some ⟨gr, 0, none⟩) ys.length c9) ys.length (cellsOf zs) :: T)) A M rfl rfl (qy rfl rfl rfl (by kernel_rfl) M 0 rfl rfl rfl) 0 rfl rfl rfl ?_
  intro w19 M
  refine qa (hK16 _ _ (wsk fun K20 hK20 => wrl (sdm A λa A↦?_)))
  refine sdo A (za M LiI_isS_30 rfl 0 rfl (cs := (t1.d.cells t1.ts.length)) rfl rfl) λa A↦?_
  rcases tf (p t1) with hb21 | hb21
  ·
   refine kx A rfl rfl rfl (uu rfl rfl hF.inv) ((hb21 ▸ hF.run t1 _ mt1 (M.sub (cn (cn (List.Sublist.refl _)))))) ?_
   rintro _ w23 ⟨rfl, hb22⟩
   replace M := M.call hb22
   refine ⟨_, rfl, ?_⟩
   intro a A
   refine sdo (v := .bool false) A (zk rfl zt) λa A↦?_
   refine qa (hK20 _ _ (wp_cond_false (A.ev rfl) ?_))
   refine wp_skip (hK15 _ _ (wrl (sdm A λa A↦?_)))
   refine sdo (v := .int .i64 (((j + 1 : Nat) : Int))) A (qh rfl rfl (fun w => (ji (xb (by omega) (by omega)) w).trans (by rw [show (((j : Nat) : Int) + 1 : Int) = ((j + 1 : Nat) : Int) from by omega]))) λa A↦?_
   refine sda A λa A↦?_
   refine qa ?_
   replace M : Mg w0 w23 (.row 30 11 (.slice (some ⟨gr, 0, none⟩) ys.length c9) ys.length (cellsOf zs) :: T) := by
    have h9 := M.sub (cn (cc (.refl _)))
    exact h9
   refine hK10 _ _ _ (by omega) ⟨j + 1, i, zs, rfl, hd.out it1 hb21, A.keep _ (by repeat' constructor), M⟩
  ·
   refine kx A rfl rfl rfl (uu rfl rfl hF.inv) ((hb21 ▸ hF.run t1 _ mt1 (M.sub (cn (cn (List.Sublist.refl _)))))) ?_
   rintro _ w25 ⟨rfl, hb24⟩
   replace M := M.call hb24
   refine ⟨_, rfl, ?_⟩
   intro a A
   refine sdo (v := .bool true) A (zk rfl zt) λa A↦?_
   refine qa (hK20 _ _ (wp_cond_true (A.ev rfl) ?_))
   refine wsk fun K26 hK26 => wrl ?_
   iterate 2 refine sdm A λa A↦?_
   refine sdo A (za M LiI_isS_30 rfl 0 rfl (cs := (t1.d.cells t1.ts.length)) rfl rfl) λa A↦?_
   refine sdo (v := .pointer (some ⟨gr, i * 11, none⟩)) A (jr (k := i) Tryz.underlying22 (by kernel_rfl) rfl rfl rfl (by omega)) λa A↦?_
   refine qsh (us := cellsOf (zs.set i t1)) (L' := (.obj g17 (.cells (t1.d.cells t1.ts.length).toArray 30) :: .row 30 11 (.slice (some ⟨gr, 0, none⟩) ys.length c9) ys.length (cellsOf (zs.set i t1)) :: T)) A M rfl rfl (ux (cs := t1.d.cells t1.ts.length) rfl rfl rfl (by kernel_rfl) M 1 rfl (by show _ + 11 ≤ _; omega) (vb t1)) 1 rfl (qab (by omega) rfl) rfl ?_
   intro w27 M hK28
   refine qa (hK26 _ _ (wrl (sdm A λa A↦?_)))
   refine sdo (v := .int .i64 (((i + 1 : Nat) : Int))) A (qh rfl rfl (fun w => (ji (xb (by omega) (by omega)) w).trans (by rw [show (((i : Nat) : Int) + 1 : Int) = ((i + 1 : Nat) : Int) from by omega]))) λa A↦?_
   refine sda A λa A↦?_
   refine qa (hK15 _ _ (wrl (sdm A λa A↦?_)))
   refine sdo (v := .int .i64 (((j + 1 : Nat) : Int))) A (qh rfl rfl (fun w => (ji (xb (by omega) (by omega)) w).trans (by rw [show (((j : Nat) : Int) + 1 : Int) = ((j + 1 : Nat) : Int) from by omega]))) λa A↦?_
   refine sda A λa A↦?_
   refine qa ?_
   replace M : Mg w0 w27 (.row 30 11 (.slice (some ⟨gr, 0, none⟩) ys.length c9) ys.length (cellsOf (zs.set i t1)) :: T) := by
    have h9 := M.sub (cn (cc (.refl _)))
    exact h9
   refine hK10 _ _ _ (by omega) ⟨j + 1, i + 1, (zs.set i t1), rfl, hd.kept it1 hb21, A.keep _ (by repeat' constructor), M⟩
 ·
  have hb14' := of_decide_eq_false hb14
  refine sdc A zj hb14 λa A↦?_
  refine qa (hK13 _ _ (wp_cond_false (A.ev rfl) ?_))
  refine wp_exit (hK7 _ _ (wsk fun K29 hK29 => wrl ?_))
  iterate 2 refine sdm A λa A↦?_
  have hcp := qhd (M.has 0 rfl)
  refine sdo (v := .slice ((if c9 = i then some ⟨gr, 0, none⟩ else (some ⟨gr, 0, none⟩ : Option Addr).map (·.add (i * 11)))) ((ys.length - i)) ((c9 - i))) A (qai (sz := 11) (lo := i) Tryz.underlying22 (by kernel_rfl) rfl rfl (by omega) (by omega)) λa A↦?_
  refine zwb (q := 0 + i * 11) (L' := fun vs => (.row 30 11 (.slice (some ⟨gr, 0, none⟩) ys.length c9) ys.length vs :: T)) A M rfl rfl (zzh (z := .agg #[.int .i64 0, .int .i64 0, .bool false, .slice none 0 0, .slice none 0 0, .bool false, .slice none 0 0, .slice none 0 0, .string ⟨#[]⟩, .slice none 0 0, .slice none 0 0]) Tryz.underlying22 (by kernel_rfl) rfl rfl rfl (by rw [if_neg (by omega), Option.map_some, xd]) (by omega) M 0 rfl (by show _ + (ys.length - i) * 11 ≤ ys.length * 11; omega)) (by rw [zwa]; show _ + (ys.length - i) * 11 ≤ ys.length * 11; omega) 0 rfl (fun _ => rfl) ?_
  intro w30 vs hvs M
  refine qa (hK29 _ _ (wsk fun K31 hK31 => wrl ?_))
  iterate 2 refine sdm A λa A↦?_
  refine sdo (v := .slice (some ⟨gr, 0, none⟩) i c9) A (zli (sz := 11) (hi := i) Tryz.underlying22 (by kernel_rfl) rfl rfl (by omega) (by omega)) λa A↦?_
  refine sda A λa A↦?_
  refine qa (hK31 _ _ (wp_ret (hret _ _ (en1 A rfl (qe rfl) ?_))))
  obtain ⟨hf1, hf2⟩ := hd.done (by omega)
  exact ⟨vs, by rw [hf2], by rw [hf2, ← hf1, ← qbc]; rw [Nat.zero_add] at hvs; exact hvs, M⟩
theorem zic {w0 w : World} {so9 : Option Addr} {c9 : Nat} {ys : List Dt} {T : List Ck} (hl : ys.length ≤ 1000000000) (hD : ∀ t ∈ ys, t.rd w0) {f : FuncId} {cs : List Value} {p : Dt → Bool} (hF : AsksM Tryz.prog f cs w0 T ys p) (hM0 : Mg w0 w (.row 30 11 (.slice so9 ys.length c9) ys.length (cellsOf ys) :: T)) : Calls Tryz.prog 52 #[.slice so9 ys.length c9, .func (.func f) #[] cs.toArray] w fun e w' => ∃ vs fl, fl = (ys.filter fun t => !p t) ∧ e = .returned (.slice so9 fl.length c9) ∧ vs.take (fl.length * 11) = cellsOf fl ∧ Mg w0 w' (.row 30 11 (.slice so9 ys.length c9) ys.length vs :: T) := by
 cases hany : ys.any p with
 | false => exact (jcj hl hD hF hany hM0).mono fun e w' ⟨vs, h1, h2, h3⟩ => ⟨vs, _, rfl, h1, h2, h3⟩
 | true =>
  have hlt := zle hany
  obtain ⟨gr, c', e'⟩ := yy (hM0.has 0 rfl) (show ys.length ≠ 0 by omega)
  injection e' with e1 e2 e3
  subst e1
  exact (zzj hl hD hF hany hM0).mono fun e w' ⟨vs, h1, h2, h3⟩ => ⟨vs, _, rfl, h1, h2, h3⟩
theorem zid {w0 : World} {x : Dt} {gh gx : Nat} {R : List Ck} {ts : List Dt} (hx : x.rd w0) (hD : ∀ t ∈ ts, t.rd w0) (hT : Tabs8 w0) : AsksM Tryz.prog 66 [.pointer (some ⟨gh, 0, none⟩), .pointer (some ⟨gx, 0, none⟩)] w0 (.obj gh (.cells [.int .u64 (ya x.tr)].toArray 70) :: .obj gx (.cells (x.d.cells x.ts.length).toArray 30) :: R) ts (fun t => qqc x.tr t.tr) :=
 ⟨fun us w => by kernel_rfl, fun t w ht M => qxj (M.obj 0 rfl) (M.here 1 (cs := x.d.cells x.ts.length) rfl) (Dt.keep M.bel _ hx) (Dt.keep M.bel _ (hD t ht)) (hT.below M.bel)⟩
theorem Mg.to2 {w0 w : World} {a b c : Ck} {R : List Ck} (h : Mg w0 w (a :: b :: c :: R)) : Mg w0 w (c :: a :: b :: R) := h.perm (((List.Perm.swap c b R).cons a).trans (List.Perm.swap c a (b :: R)))
theorem qib (p : Dt → Bool) : ∀ ys : List Dt, Tr.bulks ((ys.filter p).map Dt.tr) ≤ Tr.bulks (ys.map Dt.tr)
 | [] => Nat.le_refl _
 | y :: ys => by
  have := qib p ys
  rw [List.filter_cons]
  split
  ·
   rw [List.map_cons, List.map_cons, Tr.bulks, Tr.bulks]; omega
  ·
   rw [List.map_cons, Tr.bulks]; omega
theorem qjj {p : Dt → Bool} {q : Tr → Bool} : ∀ {ys : List Dt}, (∀ t ∈ ys, p t = q t.tr) → (ys.filter fun t => !p t).map Dt.tr = (ys.map Dt.tr).filter fun z => !q z
 | [], _ => rfl
 | y :: ys, h => by
  have ih := qjj (ys := ys) (fun t ht => h t (List.mem_cons_of_mem _ ht))
  have h1 := h y (List.mem_cons_self ..)
  rw [List.map_cons, List.filter_cons, List.filter_cons, h1]
  cases q y.tr with
  | true => exact ih
  | false => show y.tr :: _ = y.tr :: _; rw [ih]
/-- What Remove answers. -/
noncomputable def zie (x t : Tr) : Tr × Int := if (qm qi t && qm qi x) = false then (xg, 2) else match zw t with
 | none => (xg, 10)
 | some xs => (jb (xs.filter fun z => !js x z) nilT, 0)
theorem zdh {x t : Tr} (h : (qm qi t && qm qi x) = false) : zie x t = (xg, 2) := if_pos h
theorem qva {x t : Tr} (h : (qm qi t && qm qi x) = true) (ha : zw t = none) : zie x t = (xg, 10) := by unfold zie; rw [if_neg (by rw [h]; decide), ha]
theorem qvb {x t : Tr} {xs : List Tr} (h : (qm qi t && qm qi x) = true) (ha : zw t = some xs) : zie x t = (jb (xs.filter fun z => !js x z) nilT, 0) := by unfold zie; rw [if_neg (by rw [h]; decide), ha]
theorem zif {w : World} {x t : Dt} (hx : x.rd w) (ht : t.rd w) (hb : t.tr.bulk ≤ 300000000) (hT : Tabs8 w) : Calls Tryz.prog 24 #[.agg (x.d.cells x.ts.length).toArray, .agg (t.d.cells t.ts.length).toArray] w fun e w' => ∃ (t2 : Dt) (k : Int), e = .returned (.tuple #[.agg (t2.d.cells t2.ts.length).toArray, .int .i64 k]) ∧ (t2.rd w' ∧ t2.at_ (w.heap.size ≤ ·) ∧ (t2.tr, k) = zie x.tr t.tr) ∧ Below w.heap.size w w' := by
 have M : Mg w w ([]) := Mg.start w
 refine qx (l := [(0, .agg (x.d.cells x.ts.length).toArray), (1, .agg (t.d.cells t.ts.length).toArray)]) Tryz.func24 rfl Tryz.ntmps24 rfl rfl ?_
 intro Q hret hnorm hP a A
 refine wsk fun K1 hK1 => wrl (zv (vs := (x.d.cells x.ts.length)) (t := 30) A M rfl rfl rfl pg (qt rfl rfl) (by decide) ?_)
 intro g2 w3 M a A
 refine zv (vs := (t.d.cells t.ts.length)) (t := 30) A M rfl rfl rfl pg (qt rfl rfl) (by decide) ?_
 intro g4 w5 M a A
 refine zv (vs := (qg.d.cells qg.ts.length)) (t := 30) A M rfl rfl rfl pg (qp (z := .agg (qg.d.cells qg.ts.length).toArray) (by kernel_rfl) rfl) (by decide) ?_
 intro g6 w7 M a A
 refine sda A λa A↦?_
 refine qa (hK1 _ _ (wsk fun K8 hK8 => wrl (sdo A (za M LiI_isS_30 rfl 1 rfl (cs := (t.d.cells t.ts.length)) rfl rfl) λa A↦?_)))
 refine sdo A (za M LiI_isS_30 rfl 2 rfl (cs := (x.d.cells x.ts.length)) rfl rfl) λa A↦?_
 refine kj (e := 30) (sz := 11) (m := 1) (vs := cellsOf [x]) A M rfl rfl rfl (zn rfl (by kernel_rfl)) rfl rfl (.inl (by decide)) ?_
 intro g9 w10 M a A
 rcases tf ((qm qi t.tr && qm qi x.tr)) with hb11 | hb11
 ·
  rcases tf ((zw t.tr).isSome) with hb13 | hb13
  ·
   refine sct A (ef rfl rfl) (qdb M.bel ht (jx (M.has 0 rfl)).1 (Dt.keep M.bel _ hx) (by omega) (hT.below M.bel) hb11 hb13) ?_
   rintro _ w15 ⟨so7, ca7, ys, rfl, ⟨hy1, hy2, hy3⟩, hM7⟩
   have hyb := xv hy1
   obtain ⟨hst, hsx⟩ := Bool.and_eq_true_iff.1 hb11
   have hys : ∀ z ∈ ys, qm qi z.tr = true := fun z hz => vw hy1 hst _ (List.mem_map_of_mem hz)
   replace M : Mg w w15 (.row 30 11 (.slice so7 ys.length ca7) ys.length (cellsOf ys) :: .row 30 11 (.slice (some ⟨g9, 0, none⟩) 1 1) 1 (cellsOf [x]) :: .obj g6 (.cells (qg.d.cells qg.ts.length).toArray 30) :: .obj g4 (.cells (t.d.cells t.ts.length).toArray 30) :: .obj g2 (.cells (x.d.cells x.ts.length).toArray 30) :: []) := (M.both hM7 (qs (by simp) (qs (by simp) (qs (by simp) (qs (by simp) (zh zm))))) (qs (by simp) (zh zm)))
   refine ⟨_, rfl, ?_⟩
   intro a A
   refine sdm A λa A↦?_
   iterate 2 refine sdo A (qz (vs := [.slice so7 ys.length ca7, .int .i64 0]) rfl rfl) λa A↦?_
   iterate 2 refine sda A λa A↦?_
   refine qa (hK8 _ _ (wsk fun K16 hK16 => wsk fun K17 hK17 => wrl (sdm A λa A↦?_)))
   refine sdo (v := .bool false) A (qh rfl rfl (fun w => by kernel_rfl)) λa A↦?_
   refine qa (hK17 _ _ (wp_cond_false (A.ev rfl) ?_))
   refine wp_skip (hK16 _ _ (wsk fun K18 hK18 => wrl (sdm A λa A↦?_)))
   refine sdo A (za M LiI_isS_30 rfl 4 rfl (cs := (x.d.cells x.ts.length)) rfl rfl) λa A↦?_
   refine sct A (ef rfl rfl) (qfh (x := x) (Dt.keep M.bel _ hx) (hT.below M.bel)) ?_
   rintro _ w19 ⟨gh, gx, rfl, hM8⟩
   replace M : Mg w w19 (.obj gh (.cells #[.int .u64 (ya x.tr)] 70) :: .obj gx (.cells (x.d.cells x.ts.length).toArray 30) :: .row 30 11 (.slice so7 ys.length ca7) ys.length (cellsOf ys) :: .row 30 11 (.slice (some ⟨g9, 0, none⟩) 1 1) 1 (cellsOf [x]) :: .obj g6 (.cells (qg.d.cells qg.ts.length).toArray 30) :: .obj g4 (.cells (t.d.cells t.ts.length).toArray 30) :: .obj g2 (.cells (x.d.cells x.ts.length).toArray 30) :: []) := (M.both hM8 (qs (by simp) (qs (by simp) (qs (by simp) (qs (by simp) (qs (by simp) (zh zm)))))) (qs (by simp) (qs (by simp) (zh zm))))
   refine ⟨_, rfl, ?_⟩
   intro a A
   replace M := M.to2
   refine sct A (ef rfl rfl) (zic (by omega) hy2 (zid hx hy2 hT) M) ?_
   rintro _ w20 ⟨vs, fl, hfl, rfl, hvs, hM9⟩
   replace M : Mg w w20 (.row 30 11 (.slice so7 ys.length ca7) ys.length vs :: .obj gh (.cells #[.int .u64 (ya x.tr)] 70) :: .obj gx (.cells (x.d.cells x.ts.length).toArray 30) :: .row 30 11 (.slice (some ⟨g9, 0, none⟩) 1 1) 1 (cellsOf [x]) :: .obj g6 (.cells (qg.d.cells qg.ts.length).toArray 30) :: .obj g4 (.cells (t.d.cells t.ts.length).toArray 30) :: .obj g2 (.cells (x.d.cells x.ts.length).toArray 30) :: []) := hM9
   refine ⟨_, rfl, ?_⟩
   intro a A
   have hlt21 := (Ck.lt (M.has 1 rfl) gh rfl).2
   have hlt22 := (Ck.lt (M.has 2 rfl) gx rfl).2
   have hlt23 := (Ck.lt (M.has 4 rfl) g6 rfl).2
   have hlt24 := (Ck.lt (M.has 5 rfl) g4 rfl).2
   have hlt25 := (Ck.lt (M.has 6 rfl) g2 rfl).2
   have hzt2 := M.bel.size
   refine sct A (ef rfl rfl) (qff (zzi (M.has 0 rfl) hvs) (fun t ht => Dt.keep M.bel _ (hy2 t (List.mem_filter.1 (hfl ▸ ht)).1)) (by have h7 := qib (fun t => !qqc x.tr t.tr) ys; rw [← hfl] at h7; omega)) ?_
   rintro _ w27 ⟨t2, rfl, ⟨hrt2, hat2, htt2⟩, hb26⟩
   replace M := M.call hb26
   refine ⟨_, rfl, ?_⟩
   intro a A
   refine xr (us := (t2.d.cells t2.ts.length)) (L' := (.row 30 11 (.slice so7 ys.length ca7) ys.length vs :: .obj gh (.cells #[.int .u64 (ya x.tr)] 70) :: .obj gx (.cells (x.d.cells x.ts.length).toArray 30) :: .row 30 11 (.slice (some ⟨g9, 0, none⟩) 1 1) 1 (cellsOf [x]) :: .obj g6 (.cells (t2.d.cells t2.ts.length).toArray 30) :: .obj g4 (.cells (t.d.cells t.ts.length).toArray 30) :: .obj g2 (.cells (x.d.cells x.ts.length).toArray 30) :: [])) A M rfl rfl (qy rfl rfl rfl (by kernel_rfl) M 4 rfl rfl rfl) 4 rfl rfl rfl ?_
   intro w28 M hK29
   replace hrt2 := Dt.kept hK29 _ hrt2 (Dt.at_mono (fun b hb => by rintro rfl; omega) _ hat2)
   refine sda A λa A↦?_
   refine qa (hK18 _ _ (wp_ret (hret _ _ (en2 A rfl (zq M LiI_isS_30 rfl 4 rfl (cs := [.int .i64 t2.d.k, .int .i64 t2.d.n, .bool t2.d.y.q.b1, .slice t2.d.y.o1 t2.d.y.q.t1.length t2.d.y.c1, .slice t2.d.y.o2 t2.d.y.q.q1.length t2.d.y.c2, .bool t2.d.y.q.b2, .slice t2.d.y.o3 t2.d.y.q.t2.length t2.d.y.c3, .slice t2.d.y.o4 t2.d.y.q.q2.length t2.d.y.c4, .string t2.d.s, .slice t2.d.ro t2.d.rl.length t2.d.rc, .slice t2.d.lo t2.ts.length t2.d.lc]) rfl rfl) (qe rfl) ?_))))
   exact ⟨t2, 0, rfl, ⟨hrt2, Dt.at_mono (fun b hb => Nat.le_trans hzt2 hb) _ hat2, by rw [qvb hb11 hy1, htt2, hfl, qjj (q := js x.tr) (fun z hz => qxi hx (hy2 z hz) hsx (hys z hz))]⟩, M.bel⟩
  ·
   refine gcl A M (ef rfl rfl) (qdc M.bel ht (jx (M.has 0 rfl)).1 (Dt.keep M.bel _ hx) (by omega) (hT.below M.bel) hb11 hb13) fun w31 hb30 M a A => ?_
   refine sdm A λa A↦?_
   iterate 2 refine sdo A (qz (vs := [.slice none 0 0, .int .i64 10]) rfl rfl) λa A↦?_
   iterate 2 refine sda A λa A↦?_
   refine qa (hK8 _ _ (wsk fun K32 hK32 => wsk fun K33 hK33 => wrl (sdm A λa A↦?_)))
   refine sdo (v := .bool true) A (qh rfl rfl (fun w => by kernel_rfl)) λa A↦?_
   refine qa (hK33 _ _ (wp_cond_true (A.ev rfl) ?_))
   refine wsk fun K34 hK34 => wrl (sdo (v := .agg (qg.d.cells qg.ts.length).toArray) A (zg rfl (fun w => by kernel_rfl)) λa A↦?_)
   refine sdm A λa A↦?_
   refine zl (us := (qg.d.cells qg.ts.length)) (L' := (.row 30 11 (.slice (some ⟨g9, 0, none⟩) 1 1) 1 (cellsOf [x]) :: .obj g6 (.cells (qg.d.cells qg.ts.length).toArray 30) :: .obj g4 (.cells (t.d.cells t.ts.length).toArray 30) :: .obj g2 (.cells (x.d.cells x.ts.length).toArray 30) :: [])) A M rfl rfl (qy rfl rfl rfl (by kernel_rfl) M 1 rfl rfl rfl) 1 rfl rfl rfl ?_
   intro w35 M
   refine sda A λa A↦?_
   refine qa (hK34 _ _ (wp_ret (hret _ _ (en2 A rfl (zq M LiI_isS_30 rfl 1 rfl (cs := [.int .i64 0, .int .i64 0, .bool false, .slice none 0 0, .slice none 0 0, .bool false, .slice none 0 0, .slice none 0 0, .string (⟨#[]⟩), .slice none 0 0, .slice none 0 0]) rfl rfl) (qe rfl) ?_))))
   exact ⟨qg, 10, rfl, ⟨jk _, xu _, by rw [qva hb11 (kv hb13), jj]⟩, M.bel⟩
 ·
  refine gcl A M (ef rfl rfl) (qfi M.bel ht (jx (M.has 0 rfl)).1 (Dt.keep M.bel _ hx) (by omega) (hT.below M.bel) hb11) fun w37 hb36 M a A => ?_
  refine sdm A λa A↦?_
  iterate 2 refine sdo A (qz (vs := [.slice none 0 0, .int .i64 2]) rfl rfl) λa A↦?_
  iterate 2 refine sda A λa A↦?_
  refine qa (hK8 _ _ (wsk fun K38 hK38 => wsk fun K39 hK39 => wrl (sdm A λa A↦?_)))
  refine sdo (v := .bool true) A (qh rfl rfl (fun w => by kernel_rfl)) λa A↦?_
  refine qa (hK39 _ _ (wp_cond_true (A.ev rfl) ?_))
  refine wsk fun K40 hK40 => wrl (sdo (v := .agg (qg.d.cells qg.ts.length).toArray) A (zg rfl (fun w => by kernel_rfl)) λa A↦?_)
  refine sdm A λa A↦?_
  refine zl (us := (qg.d.cells qg.ts.length)) (L' := (.row 30 11 (.slice (some ⟨g9, 0, none⟩) 1 1) 1 (cellsOf [x]) :: .obj g6 (.cells (qg.d.cells qg.ts.length).toArray 30) :: .obj g4 (.cells (t.d.cells t.ts.length).toArray 30) :: .obj g2 (.cells (x.d.cells x.ts.length).toArray 30) :: [])) A M rfl rfl (qy rfl rfl rfl (by kernel_rfl) M 1 rfl rfl rfl) 1 rfl rfl rfl ?_
  intro w41 M
  refine sda A λa A↦?_
  refine qa (hK40 _ _ (wp_ret (hret _ _ (en2 A rfl (zq M LiI_isS_30 rfl 1 rfl (cs := [.int .i64 0, .int .i64 0, .bool false, .slice none 0 0, .slice none 0 0, .bool false, .slice none 0 0, .slice none 0 0, .string (⟨#[]⟩), .slice none 0 0, .slice none 0 0]) rfl rfl) (qe rfl) ?_))))
  exact ⟨qg, 2, rfl, ⟨jk _, xu _, by rw [zdh hb11, jj]⟩, M.bel⟩
theorem LiH_isS_30 : IsS Tryz.prog 30 11 := ⟨⟨_, Tryz.underlying30⟩, by kernel_rfl⟩
theorem zdi {w : World} {x t : Dt} (hx : x.rd w) (ht : t.rd w) (hbx : x.tr.bulk ≤ 1100000) (hb : t.tr.bulk ≤ 1100000) : Calls Tryz.prog 25 #[.agg (x.d.cells x.ts.length).toArray, .agg (t.d.cells t.ts.length).toArray] w fun e w' => ∃ (t2 : Dt) (k : Int), e = .returned (.tuple #[.agg (t2.d.cells t2.ts.length).toArray, .int .i64 k]) ∧ (t2.rd w' ∧ (t2.tr, k) = zie x.tr t.tr) ∧ Below w.heap.size w w' := by
 have M : Mg w w ([]) := Mg.start w
 refine qx (l := [(0, .agg (x.d.cells x.ts.length).toArray), (1, .agg (t.d.cells t.ts.length).toArray)]) Tryz.func25 rfl Tryz.ntmps25 rfl rfl ?_
 intro Q hret hnorm hP a A
 refine wsk fun K1 hK1 => wrl (zv (vs := (x.d.cells x.ts.length)) (t := 30) A M rfl rfl rfl pg (qt rfl rfl) (by decide) ?_)
 intro g2 w3 M a A
 refine zv (vs := (t.d.cells t.ts.length)) (t := 30) A M rfl rfl rfl pg (qt rfl rfl) (by decide) ?_
 intro g4 w5 M a A
 refine zv (vs := (qg.d.cells qg.ts.length)) (t := 30) A M rfl rfl rfl pg (qp (z := .agg (qg.d.cells qg.ts.length).toArray) (by kernel_rfl) rfl) (by decide) ?_
 intro g6 w7 M a A
 refine sda A λa A↦?_
 refine qa (hK1 _ _ (wsk fun K8 hK8 => wrl (sdo A (za M LiH_isS_30 rfl 2 rfl (cs := (x.d.cells x.ts.length)) rfl rfl) λa A↦?_)))
 refine sdo A (za M LiH_isS_30 rfl 1 rfl (cs := (t.d.cells t.ts.length)) rfl rfl) λa A↦?_
 rcases tf ((qm qi t.tr && qm qi x.tr)) with hb10 | hb10
 ·
  rcases tf ((zw t.tr).isSome) with hb12 | hb12
  ·
   refine sct A (ef rfl rfl) (qfj M.bel hx ht (by omega) (by omega) hb10 hb12) ?_
   rintro _ w14 ⟨so7, ca7, ys, rfl, ⟨hy1, hy2, hy3⟩, hM7⟩
   have hyb := xv hy1
   obtain ⟨hst, hsx⟩ := Bool.and_eq_true_iff.1 hb10
   have hys : ∀ z ∈ ys, qm qi z.tr = true := fun z hz => vw hy1 hst _ (List.mem_map_of_mem hz)
   replace M : Mg w w14 (.row 30 11 (.slice so7 ys.length ca7) ys.length (cellsOf ys) :: .obj g6 (.cells (qg.d.cells qg.ts.length).toArray 30) :: .obj g4 (.cells (t.d.cells t.ts.length).toArray 30) :: .obj g2 (.cells (x.d.cells x.ts.length).toArray 30) :: []) := (M.both hM7 (qs (by simp) (qs (by simp) (qs (by simp) (zh zm)))) (qs (by simp) (zh zm)))
   refine ⟨_, rfl, ?_⟩
   intro a A
   refine sdm A λa A↦?_
   iterate 2 refine sdo A (qz (vs := [.slice so7 ys.length ca7, .int .i64 0]) rfl rfl) λa A↦?_
   iterate 2 refine sda A λa A↦?_
   refine qa (hK8 _ _ (wsk fun K15 hK15 => wsk fun K16 hK16 => wrl (sdm A λa A↦?_)))
   refine sdo (v := .bool false) A (qh rfl rfl (fun w => by kernel_rfl)) λa A↦?_
   refine qa (hK16 _ _ (wp_cond_false (A.ev rfl) ?_))
   refine wp_skip (hK15 _ _ (wsk fun K17 hK17 => wrl (kj (e := 30) (sz := 11) (m := 0) (vs := cellsOf []) A M rfl rfl rfl (zn rfl (by kernel_rfl)) rfl rfl (.inl (by decide)) ?_)))
   intro g18 w19 M a A
   refine sda A λa A↦?_
   refine qa (hK17 _ _ (wsk fun K20 hK20 => wsk fun K21 hK21 => wrl (sda A λa A↦?_)))
   refine qa (hK21 _ _ (wp_block (jd (fun m_ a w1 => ∃ (i : Nat) (fl : List Dt) (so_ : Option Addr) (ca_ : Nat), m_ = 1 + (ys.length - i) ∧ (i ≤ ys.length ∧ fl = (ys.take i).filter fun t => !(fun t : Dt => js x.tr t.tr) t) ∧ Sl a 44 [(0, .agg (x.d.cells x.ts.length).toArray), (1, .agg (t.d.cells t.ts.length).toArray), (2, .pointer (some ⟨g2, 0, none⟩)), (3, .pointer (some ⟨g4, 0, none⟩)), (4, .pointer (some ⟨g6, 0, none⟩)), (5, .int .i64 0), (6, .slice so7 ys.length ca7), (7, .int .i64 0), (8, .slice so_ fl.length ca_), (9, .int .i64 (((i : Nat) : Int))), (10, .tuple #[.slice so7 ys.length ca7, .int .i64 0]), (11, .agg (x.d.cells x.ts.length).toArray), (12, .agg (t.d.cells t.ts.length).toArray), (13, .tuple #[.slice so7 ys.length ca7, .int .i64 0]), (14, .slice so7 ys.length ca7), (15, .int .i64 0), (16, .int .i64 0), (17, .bool false), (20, .slice (some ⟨g18, 0, none⟩) 0 0)] ∧ Mg w w1 (.row 30 11 (.slice so_ fl.length ca_) fl.length (cellsOf fl) :: .row 30 11 (.slice so7 ys.length ca7) ys.length (cellsOf ys) :: .obj g6 (.cells (qg.d.cells qg.ts.length).toArray 30) :: .obj g4 (.cells (t.d.cells t.ts.length).toArray 30) :: .obj g2 (.cells (x.d.cells x.ts.length).toArray 30) :: [])) _ ⟨0, [], (some ⟨g18, 0, none⟩), 0, rfl, ⟨Nat.zero_le _, rfl⟩, A.keep _ (by repeat' constructor), M⟩ ?_)))
   clear M A
   rintro m_ a w22 ⟨i, fl, so_, ca_, rfl, hinv24, A, M⟩ K23 hK23
   obtain ⟨hi0, hfi⟩ := hinv24
   have hfl9 := jch hfi
   refine wsk fun K25 hK25 => wsk fun K26 hK26 => wrl ?_
   iterate 2 refine sdm A λa A↦?_
   refine sdo A (zb Tryz.underlying22 rfl) λa A↦?_
   rcases tf (decide (((i : Nat) : Int) < ((ys.length : Nat) : Int))) with hb27 | hb27
   ·
    have hb27' := of_decide_eq_true hb27
    refine sdc A zj hb27 λa A↦?_
    refine qa (hK26 _ _ (wp_cond_true (A.ev rfl) ?_))
    refine wp_skip (hK25 _ _ (wsk fun K28 hK28 => wp_block (wsk fun K29 hK29 => ?_)))
    obtain ⟨gy, c9, e9⟩ := yy (M.has 1 rfl) (show ys.length ≠ 0 by omega)
    have hso9 : so7 = some ⟨gy, 0, none⟩ := by injection e9
    obtain ⟨t1, it1⟩ : ∃ t1, ys[i]? = some t1 := ⟨_, List.getElem?_eq_getElem (show i < ys.length by omega)⟩
    have mt1 := List.mem_of_getElem? it1
    have rt1_ := hy2 t1 mt1
    refine jf (S := fun w1 => Mg w w1 (.row 30 11 (.slice so7 ys.length ca7) ys.length (cellsOf ys) :: .obj g2 (.cells (x.d.cells x.ts.length).toArray 30) :: [])) (by kernel_rfl) ?_
    replace M := M.drew
    refine qf A 0 rfl rfl rfl rfl hP (M.sub (cn (cc (cn (cn (cc (List.nil_sublist _))))))) (fun w1 M => za M LiH_isS_30 rfl 1 rfl (cs := (x.d.cells x.ts.length)) rfl rfl) λa A↦?_
    refine qf A 1 rfl rfl rfl rfl hP (M.sub (cn (cc (cn (cn (cc (List.nil_sublist _))))))) (fun w1 M => ze rfl) λa A↦?_
    refine qf A 2 rfl rfl rfl rfl hP (M.sub (cn (cc (cn (cn (cc (List.nil_sublist _))))))) (fun w1 M => ze rfl) λa A↦?_
    refine qf (v := .pointer (some ⟨gy, 0 + i * 11, none⟩)) A 3 rfl rfl rfl rfl hP (M.sub (cn (cc (cn (cn (cc (List.nil_sublist _))))))) (fun w1 M => zi (k := i) Tryz.underlying22 (by kernel_rfl) rfl rfl rfl hso9 (by omega)) λa A↦?_
    refine qf A 4 rfl rfl rfl rfl hP (M.sub (cn (cc (cn (cn (cc (List.nil_sublist _))))))) (fun w1 M => qcf (o := i * 11) (cs := t1.d.cells t1.ts.length) M 0 rfl hso9 LiH_isS_30 (jv it1) rfl rfl) λa A↦?_
    rcases tf (js x.tr t1.tr) with hb30 | hb30
    ·
     refine qn (by kernel_rfl) (zd A 5 rfl rfl rfl rfl (qj rfl rfl (fun w => by kernel_rfl)) ((hb30 ▸ xj (x.tr.bulk + 1) (t := x) (u := t1) (Nat.lt_succ_self _) (Dt.keep M.bel _ hx) (Dt.keep M.bel _ rt1_))) ?_)
     rintro _ w32 ⟨rfl, hb31⟩
     replace M := M.call hb31
     refine ⟨_, rfl, (M.sub (cn (cc (cn (cn (cc (List.nil_sublist _))))))), ?_⟩
     intro a A
     refine qf (v := .bool false) A 6 rfl rfl rfl rfl hP (M.sub (cn (cc (cn (cn (cc (List.nil_sublist _))))))) (fun w1 M => zk rfl zt) λa A↦?_
     refine zp (by kernel_rfl) ?_
     refine hK29 _ _ (wp_cond_false (A.ev rfl) ?_)
     refine wp_skip (hK28 _ _ (wrl (sdm A λa A↦?_)))
     refine sdo (v := .int .i64 (((i + 1 : Nat) : Int))) A (qh rfl rfl (fun w => (ji (xb (by omega) (by omega)) w).trans (by rw [show (((i : Nat) : Int) + 1 : Int) = ((i + 1 : Nat) : Int) from by omega]))) λa A↦?_
     refine sda A λa A↦?_
     refine qa ?_
     refine hK23 _ _ _ (by omega) ⟨i + 1, fl, so_, ca_, rfl, ⟨by omega, jcg (q := (fun t : Dt => js x.tr t.tr)) hfi it1 hb30⟩, A.keep _ (by repeat' constructor), M⟩
    ·
     refine qn (by kernel_rfl) (zd A 5 rfl rfl rfl rfl (qj rfl rfl (fun w => by kernel_rfl)) ((hb30 ▸ xj (x.tr.bulk + 1) (t := x) (u := t1) (Nat.lt_succ_self _) (Dt.keep M.bel _ hx) (Dt.keep M.bel _ rt1_))) ?_)
     rintro _ w34 ⟨rfl, hb33⟩
     replace M := M.call hb33
     refine ⟨_, rfl, (M.sub (cn (cc (cn (cn (cc (List.nil_sublist _))))))), ?_⟩
     intro a A
     refine qf (v := .bool true) A 6 rfl rfl rfl rfl hP (M.sub (cn (cc (cn (cn (cc (List.nil_sublist _))))))) (fun w1 M => zk rfl zt) λa A↦?_
     refine zp (by kernel_rfl) ?_
     refine hK29 _ _ (wp_cond_true (A.ev rfl) ?_)
     refine wrl ?_
     iterate 3 refine sdm A λa A↦?_
     refine sdo (v := .pointer (some ⟨gy, 0 + i * 11, none⟩)) A (zi (k := i) Tryz.underlying22 (by kernel_rfl) rfl rfl rfl hso9 (by omega)) λa A↦?_
     refine sdo A (qcf (o := i * 11) (cs := t1.d.cells t1.ts.length) M 1 rfl hso9 LiH_isS_30 (jv it1) rfl rfl) λa A↦?_
     refine kj (e := 30) (sz := 11) (m := 1) (vs := cellsOf [t1]) A M rfl rfl rfl (zn rfl (by kernel_rfl)) rfl rfl (.inl (by decide)) ?_
     intro g35 w36 M a A
     refine vz (e := 30) (sz := 11) (k := 1) (q := fl.length) (m := 1) (xs := cellsOf fl) (news := cellsOf [t1]) (L' := fun v37 => (.row 30 11 (.slice (some ⟨g35, 0, none⟩) 1 1) 1 (cellsOf [t1]) :: .row 30 11 (v37) (fl.length + 1) (cellsOf fl ++ cellsOf [t1]) :: .row 30 11 (.slice so7 ys.length ca7) ys.length (cellsOf ys) :: .obj g6 (.cells (qg.d.cells qg.ts.length).toArray 30) :: .obj g4 (.cells (t.d.cells t.ts.length).toArray 30) :: .obj g2 (.cells (x.d.cells x.ts.length).toArray 30) :: [])) A rfl rfl rfl (qij (z := .agg #[.int .i64 0, .int .i64 0, .bool false, .slice none 0 0, .slice none 0 0, .bool false, .slice none 0 0, .slice none 0 0, .string ⟨#[]⟩, .slice none 0 0, .slice none 0 0]) (sz := 11) (by_ := 192) Tryz.underlying22 (by kernel_rfl) rfl rfl rfl M 1 rfl rfl rfl rfl (qwg (M.has 0 rfl)) (yk [t1]) (by omega)) (fun _ => rfl) ?_
     intro v37 w38 M a A
     replace M : Mg w w38 (.row 30 11 (.slice (some ⟨g35, 0, none⟩) 1 1) 1 (cellsOf [t1]) :: .row 30 11 (v37) ((fl ++ [t1]).length) (cellsOf (fl ++ [t1])) :: .row 30 11 (.slice so7 ys.length ca7) ys.length (cellsOf ys) :: .obj g6 (.cells (qg.d.cells qg.ts.length).toArray 30) :: .obj g4 (.cells (t.d.cells t.ts.length).toArray 30) :: .obj g2 (.cells (x.d.cells x.ts.length).toArray 30) :: []) := by
      rw [vl, List.length_append]; exact M
     obtain ⟨so39, ca40, rfl⟩ := qcg (M.has 1 rfl)
     refine sda A λa A↦?_
     refine qa (hK28 _ _ (wrl (sdm A λa A↦?_)))
     refine sdo (v := .int .i64 (((i + 1 : Nat) : Int))) A (qh rfl rfl (fun w => (ji (xb (by omega) (by omega)) w).trans (by rw [show (((i : Nat) : Int) + 1 : Int) = ((i + 1 : Nat) : Int) from by omega]))) λa A↦?_
     refine sda A λa A↦?_
     refine qa ?_
     replace M : Mg w w38 (.row 30 11 (.slice so39 ((fl ++ [t1]).length) ca40) ((fl ++ [t1]).length) (cellsOf (fl ++ [t1])) :: .row 30 11 (.slice so7 ys.length ca7) ys.length (cellsOf ys) :: .obj g6 (.cells (qg.d.cells qg.ts.length).toArray 30) :: .obj g4 (.cells (t.d.cells t.ts.length).toArray 30) :: .obj g2 (.cells (x.d.cells x.ts.length).toArray 30) :: []) := by
      have h9 := M.sub (cn (cc (cc (cc (cc (cc (.refl _)))))))
      exact h9
     refine hK23 _ _ _ (by omega) ⟨i + 1, fl ++ [t1], so39, ca40, rfl, ⟨by omega, jdi (q := (fun t : Dt => js x.tr t.tr)) hfi it1 hb30⟩, A.keep _ (by repeat' constructor), M⟩
   ·
    have hb27' := of_decide_eq_false hb27
    refine sdc A zj hb27 λa A↦?_
    refine qa (hK26 _ _ (wp_cond_false (A.ev rfl) ?_))
    refine wp_exit (hK20 _ _ (wsk fun K41 hK41 => wrl (sdm A λa A↦?_)))
    refine gcl A M (ef rfl rfl) (zca) fun w43 hb42 M a A => ?_
    obtain ⟨hge44, hlt45⟩ := Ck.lt (M.has 2 rfl) g6 rfl
    obtain ⟨hge46, hlt47⟩ := Ck.lt (M.has 3 rfl) g4 rfl
    obtain ⟨hge48, hlt49⟩ := Ck.lt (M.has 4 rfl) g2 rfl
    refine sct A (ef rfl rfl) (qua (jx (M.has 0 rfl)).1 (fun t ht => Dt.keep M.bel _ (hy2 t (zvj hfi t ht))) (qli _) (by omega) (fun b => b < w.heap.size ∨ w43.heap.size ≤ b) (fun b hb => .inr hb) (fun t ht => Dt.at_mono (fun b hb => .inl hb) _ (Dt.at_lt _ (hy2 t (zvj hfi t ht)))) (zkd _)) ?_
    rintro _ w51 ⟨t3, rfl, ⟨hrt3, hat3, htt3⟩, hb50⟩
    replace M := M.call hb50
    refine ⟨_, rfl, ?_⟩
    intro a A
    refine xr (us := (t3.d.cells t3.ts.length)) (L' := (.row 30 11 (.slice so_ fl.length ca_) fl.length (cellsOf fl) :: .row 30 11 (.slice so7 ys.length ca7) ys.length (cellsOf ys) :: .obj g6 (.cells (t3.d.cells t3.ts.length).toArray 30) :: .obj g4 (.cells (t.d.cells t.ts.length).toArray 30) :: .obj g2 (.cells (x.d.cells x.ts.length).toArray 30) :: [])) A M rfl rfl (qy rfl rfl rfl (by kernel_rfl) M 2 rfl rfl rfl) 2 rfl rfl rfl ?_
    intro w52 M hK53
    replace hrt3 := Dt.kept hK53 _ hrt3 (Dt.at_mono (fun b hb => by rintro rfl; omega) _ hat3)
    refine sda A λa A↦?_
    refine qa (hK41 _ _ (wp_ret (hret _ _ (en2 A rfl (zq M LiH_isS_30 rfl 2 rfl (cs := [.int .i64 t3.d.k, .int .i64 t3.d.n, .bool t3.d.y.q.b1, .slice t3.d.y.o1 t3.d.y.q.t1.length t3.d.y.c1, .slice t3.d.y.o2 t3.d.y.q.q1.length t3.d.y.c2, .bool t3.d.y.q.b2, .slice t3.d.y.o3 t3.d.y.q.t2.length t3.d.y.c3, .slice t3.d.y.o4 t3.d.y.q.q2.length t3.d.y.c4, .string t3.d.s, .slice t3.d.ro t3.d.rl.length t3.d.rc, .slice t3.d.lo t3.ts.length t3.d.lc]) rfl rfl) (qe rfl) ?_))))
    rw [List.take_of_length_le (show ys.length ≤ i by omega)] at hfi
    exact ⟨t3, 0, rfl, ⟨hrt3, by rw [qvb hb10 hy1, htt3, qdj, hfi, qjj (q := js x.tr) (p := (fun t : Dt => js x.tr t.tr)) (fun z hz => rfl)]⟩, M.bel⟩
  ·
   refine gcl A M (ef rfl rfl) (qga M.bel hx ht (by omega) (by omega) hb10 hb12) fun w55 hb54 M a A => ?_
   refine sdm A λa A↦?_
   iterate 2 refine sdo A (qz (vs := [.slice none 0 0, .int .i64 10]) rfl rfl) λa A↦?_
   iterate 2 refine sda A λa A↦?_
   refine qa (hK8 _ _ (wsk fun K56 hK56 => wsk fun K57 hK57 => wrl (sdm A λa A↦?_)))
   refine sdo (v := .bool true) A (qh rfl rfl (fun w => by kernel_rfl)) λa A↦?_
   refine qa (hK57 _ _ (wp_cond_true (A.ev rfl) ?_))
   refine wsk fun K58 hK58 => wrl (sdo (v := .agg (qg.d.cells qg.ts.length).toArray) A (zg rfl (fun w => by kernel_rfl)) λa A↦?_)
   refine sdm A λa A↦?_
   refine zl (us := (qg.d.cells qg.ts.length)) (L' := (.obj g6 (.cells (qg.d.cells qg.ts.length).toArray 30) :: .obj g4 (.cells (t.d.cells t.ts.length).toArray 30) :: .obj g2 (.cells (x.d.cells x.ts.length).toArray 30) :: [])) A M rfl rfl (qy rfl rfl rfl (by kernel_rfl) M 0 rfl rfl rfl) 0 rfl rfl rfl ?_
   intro w59 M
   refine sda A λa A↦?_
   refine qa (hK58 _ _ (wp_ret (hret _ _ (en2 A rfl (zq M LiH_isS_30 rfl 0 rfl (cs := [.int .i64 0, .int .i64 0, .bool false, .slice none 0 0, .slice none 0 0, .bool false, .slice none 0 0, .slice none 0 0, .string (⟨#[]⟩), .slice none 0 0, .slice none 0 0]) rfl rfl) (qe rfl) ?_))))
   exact ⟨qg, 10, rfl, ⟨jk _, by rw [qva hb10 (kv hb12), jj]⟩, M.bel⟩
 ·
  refine gcl A M (ef rfl rfl) (qji M.bel hx ht (by omega) (by omega) hb10) fun w61 hb60 M a A => ?_
  refine sdm A λa A↦?_
  iterate 2 refine sdo A (qz (vs := [.slice none 0 0, .int .i64 2]) rfl rfl) λa A↦?_
  iterate 2 refine sda A λa A↦?_
  refine qa (hK8 _ _ (wsk fun K62 hK62 => wsk fun K63 hK63 => wrl (sdm A λa A↦?_)))
  refine sdo (v := .bool true) A (qh rfl rfl (fun w => by kernel_rfl)) λa A↦?_
  refine qa (hK63 _ _ (wp_cond_true (A.ev rfl) ?_))
  refine wsk fun K64 hK64 => wrl (sdo (v := .agg (qg.d.cells qg.ts.length).toArray) A (zg rfl (fun w => by kernel_rfl)) λa A↦?_)
  refine sdm A λa A↦?_
  refine zl (us := (qg.d.cells qg.ts.length)) (L' := (.obj g6 (.cells (qg.d.cells qg.ts.length).toArray 30) :: .obj g4 (.cells (t.d.cells t.ts.length).toArray 30) :: .obj g2 (.cells (x.d.cells x.ts.length).toArray 30) :: [])) A M rfl rfl (qy rfl rfl rfl (by kernel_rfl) M 0 rfl rfl rfl) 0 rfl rfl rfl ?_
  intro w65 M
  refine sda A λa A↦?_
  refine qa (hK64 _ _ (wp_ret (hret _ _ (en2 A rfl (zq M LiH_isS_30 rfl 0 rfl (cs := [.int .i64 0, .int .i64 0, .bool false, .slice none 0 0, .slice none 0 0, .bool false, .slice none 0 0, .slice none 0 0, .string (⟨#[]⟩), .slice none 0 0, .slice none 0 0]) rfl rfl) (qe rfl) ?_))))
  exact ⟨qg, 2, rfl, ⟨jk _, by rw [zdh hb10, jj]⟩, M.bel⟩
theorem LiJ_is1_22 : Is1 Tryz.prog 22 := ⟨⟨_, Tryz.underlying22, rfl⟩, by kernel_rfl⟩
theorem LiJ_is1_3 : Is1 Tryz.prog 3 := ⟨⟨_, Tryz.underlying3, rfl⟩, by kernel_rfl⟩
theorem LiJ_fld_30_0 : FieldAt Tryz.prog 30 0 0 := ⟨_, _, Tryz.underlying30, rfl, rfl, by kernel_rfl⟩
theorem LiJ_fld_30_5 : FieldAt Tryz.prog 30 5 10 := ⟨_, _, Tryz.underlying30, rfl, rfl, by kernel_rfl⟩
theorem LiJ_isS_30 : IsS Tryz.prog 30 11 := ⟨⟨_, Tryz.underlying30⟩, by kernel_rfl⟩
theorem zqa {w : World} (hT : Tabs8 w) : Calls Tryz.prog 15 #[] w fun e w' => e = .returned (.bool true) ∧ Below w.heap.size w w' := by
 have M : Mg w w ([]) := Mg.start w
 refine qx (l := []) Tryz.func15 rfl Tryz.ntmps15 rfl rfl ?_
 intro Q hret hnorm hP a A
 refine wsk fun K1 hK1 => wrl (sda A λa A↦?_)
 refine qa (hK1 _ _ (wsk fun K2 hK2 => wrl (sdo (v := .agg #[.int .i64 2, .int .i64 0, .bool false, .slice none 0 0, .slice none 0 0, .bool false, .slice none 0 0, .slice none 0 0, .string (⟨#[]⟩), .slice none 0 0, .slice none 0 0]) A (zg rfl (fun w => by kernel_rfl)) λa A↦?_)))
 refine sdo (v := .agg #[.int .i64 10, .int .i64 0, .bool false, .slice none 0 0, .slice none 0 0, .bool false, .slice none 0 0, .slice none 0 0, .string (⟨#[]⟩), .slice none 0 0, .slice none 0 0]) A (zg rfl (fun w => by kernel_rfl)) λa A↦?_
 refine kj (e := 30) (sz := 11) (m := 2) (vs := cellsOf [vt 2, vt 10]) A M rfl rfl rfl (zn rfl (by kernel_rfl)) rfl rfl (.inl (by decide)) ?_
 intro g3 w4 M a A
 refine sct A (ef rfl rfl) (of_any (ts := [vt 2, vt 10]) (jx (M.has 0 rfl)).1 (zug _) (by decide) (hT.below M.bel)) ?_
 rintro _ w6 ⟨x, rfl, ⟨hrx, -, htx⟩, hb5⟩
 have hbx := zzb [(vt 2).tr, (vt 10).tr]
 have hbx9 : Tr.bulks [(vt 2).tr, (vt 10).tr] = 2 := by rfl
 replace M := M.call hb5
 refine ⟨_, rfl, ?_⟩
 intro a A
 have hB1 := M.bel
 replace hT := hT.below M.bel
 replace M : Mg w6 w6 [] := Mg.start w6
 refine zv (vs := (qg.d.cells qg.ts.length)) (t := 30) A M rfl rfl rfl pg (qp (z := .agg (qg.d.cells qg.ts.length).toArray) (by kernel_rfl) rfl) (by decide) ?_
 intro g7 w8 M a A
 refine zl (us := (x.d.cells x.ts.length)) (L' := (.obj g7 (.cells (x.d.cells x.ts.length).toArray 30) :: [])) A M rfl rfl (qy rfl rfl rfl (by kernel_rfl) M 0 rfl rfl rfl) 0 rfl rfl rfl ?_
 intro w9 M
 refine qa (hK2 _ _ (wsk fun K10 hK10 => wrl (sdo A (za M LiJ_isS_30 rfl 0 rfl (cs := (x.d.cells x.ts.length)) rfl rfl) λa A↦?_)))
 refine sct A (ef rfl rfl) (zbc (t := x) (Dt.keep M.bel _ hrx) (by have h9 : x.tr.bulk ≤ 6 := (by rw [htx]; show (ofS [(vt 2).tr, (vt 10).tr]).bulk ≤ 6; omega); omega) (hT.below M.bel)) ?_
 rintro _ w12 ⟨r, kr, rfl, ⟨hrr, -, htr⟩, hb11⟩
 replace M := M.call hb11
 refine ⟨_, rfl, ?_⟩
 intro a A
 have hB2 := hB1.trans (M.bel.mono hB1.size)
 replace hT := hT.below M.bel
 replace hrx := Dt.keep M.bel _ hrx
 have hHg7 := M.here 0 (cs := (x.d.cells x.ts.length)) rfl
 replace M : Mg w12 w12 [] := Mg.start w12
 refine sdm A λa A↦?_
 iterate 2 refine sdo A (qz (vs := [.agg (r.d.cells r.ts.length).toArray, .int .i64 kr]) rfl rfl) λa A↦?_
 refine zv (vs := (qg.d.cells qg.ts.length)) (t := 30) A M rfl rfl rfl pg (qp (z := .agg (qg.d.cells qg.ts.length).toArray) (by kernel_rfl) rfl) (by decide) ?_
 intro g13 w14 M a A
 refine zl (us := (r.d.cells r.ts.length)) (L' := (.obj g13 (.cells (r.d.cells r.ts.length).toArray 30) :: [])) A M rfl rfl (qy rfl rfl rfl (by kernel_rfl) M 0 rfl rfl rfl) 0 rfl rfl rfl ?_
 intro w15 M
 refine sda A λa A↦?_
 refine qa (hK10 _ _ (wsk fun K16 hK16 => ?_))
 have e9 : (r.tr, kr) = (jb [(vt 10).tr, (vt 2).tr] nilT, 0) := htr.trans (by rw [htx]; exact zuf)
 obtain ⟨f1, f2, f3⟩ := zpd (congrArg Prod.fst e9)
 have f4 : kr = 0 := congrArg Prod.snd e9
 obtain ⟨r0, br0, or0, ir0, mr0, rr0_, lr0, Hr0⟩ := uy hrr (i := 0) (by omega)
 have f5 : r0.d.k = 10 := by rw [← zxj, f3 _ ir0]; rfl
 refine wrl (sdm A λa A↦?_)
 refine sdo (v := .bool true) A (qh rfl rfl (fun w => (qk w).trans (by rw [show ((kr == 0)) = true from (beq_iff_eq.2 f4)]))) λa A↦?_
 refine sdm A λa A↦?_
 refine sdo (v := .pointer (some ⟨g13, 0, none⟩)) A (qb LiJ_fld_30_0 rfl rfl) λa A↦?_
 refine sdo A (ql M LiJ_is1_3 rfl 0 rfl rfl) λa A↦?_
 refine sdo (v := .bool true) A (qh rfl rfl (fun w => (qk w).trans (by rw [show ((r.d.k == 8)) = true from (beq_iff_eq.2 f1)]))) λa A↦?_
 refine sdk (v := .bool true) A λa A↦?_
 refine sdm A λa A↦?_
 refine sdo (v := .pointer (some ⟨g13, 10, none⟩)) A (qb LiJ_fld_30_5 rfl rfl) λa A↦?_
 refine sdo A (ql M LiJ_is1_22 rfl 0 rfl rfl) λa A↦?_
 refine sdo A (zb Tryz.underlying22 rfl) λa A↦?_
 refine sdo (v := .bool true) A (qh rfl rfl (fun w => (qk w).trans (by rw [show ((((r.ts.length : Nat) : Int) == 2)) = true from (beq_iff_eq.2 (by omega))]))) λa A↦?_
 refine sdk (v := .bool true) A λa A↦?_
 refine sdm A λa A↦?_
 refine sdo (v := .pointer (some ⟨g13, 10, none⟩)) A (qb LiJ_fld_30_5 rfl rfl) λa A↦?_
 refine sdo A (ql M LiJ_is1_22 rfl 0 rfl rfl) λa A↦?_
 refine sdo (v := .pointer (some ⟨br0, or0 + 0 * 11, none⟩)) A (zi (k := 0) Tryz.underlying22 (by kernel_rfl) rfl rfl rfl lr0 (by omega)) λa A↦?_
 refine sdo (v := .pointer (some ⟨br0, or0 + 0 * 11, none⟩)) A (qb LiJ_fld_30_0 rfl rfl) λa A↦?_
 refine sdo A (qaj (j := 0) M Hr0 LiJ_is1_3 rfl rfl rfl) λa A↦?_
 refine sdo (v := .bool true) A (qh rfl rfl (fun w => (qk w).trans (by rw [show ((r0.d.k == 10)) = true from (beq_iff_eq.2 f5)]))) λa A↦?_
 refine sdk (v := .bool true) A λa A↦?_
 refine sda A λa A↦?_
 refine qa (hK16 _ _ (wp_ret (hret _ _ (en1 A rfl (qe rfl) ?_))))
 exact ⟨rfl, hB2.trans (M.bel.mono hB2.size)⟩
theorem LiK_isS_30 : IsS Tryz.prog 30 11 := ⟨⟨_, Tryz.underlying30⟩, by kernel_rfl⟩
set_option maxHeartbeats 1000000 in
theorem qqg {w : World} {x d : Dt} (hrx : x.rd w) (hrd : d.rd w) (hT : Tabs8 w) (hb1 : x.tr.bulk ≤ 1048576) (hb2 : d.tr.bulk ≤ 1048576) : Calls Tryz.prog 4 #[.agg (x.d.cells x.ts.length).toArray, .agg (d.d.cells d.ts.length).toArray] w fun e w' => e = .returned (.bool true) ∧ Below w.heap.size w w' := by
 have M : Mg w w ([]) := Mg.start w
 refine qx (l := [(0, .agg (x.d.cells x.ts.length).toArray), (1, .agg (d.d.cells d.ts.length).toArray)]) Tryz.func4 rfl Tryz.ntmps4 rfl rfl ?_
 intro Q hret hnorm hP a A
 refine wsk fun K1 hK1 => wrl (zv (vs := (x.d.cells x.ts.length)) (t := 30) A M rfl rfl rfl pg (qt rfl rfl) (by decide) ?_)
 intro g2 w3 M a A
 refine zv (vs := (d.d.cells d.ts.length)) (t := 30) A M rfl rfl rfl pg (qt rfl rfl) (by decide) ?_
 intro g4 w5 M a A
 refine sda A λa A↦?_
 refine qa (hK1 _ _ (wsk fun K6 hK6 => wrl (sdo A (za M LiK_isS_30 rfl 1 rfl (cs := (x.d.cells x.ts.length)) rfl rfl) λa A↦?_)))
 refine sdo A (za M LiK_isS_30 rfl 0 rfl (cs := (d.d.cells d.ts.length)) rfl rfl) λa A↦?_
 refine sct A (ef rfl rfl) (zhh (x := x) (t := d) (Dt.keep M.bel _ hrx) (Dt.keep M.bel _ hrd) (by omega) (hT.below M.bel)) ?_
 rintro _ w8 ⟨aa, kaa, rfl, ⟨hraa, -, htaa⟩, hb7⟩
 replace M := M.call hb7
 refine ⟨_, rfl, ?_⟩
 intro a A
 have hB1 := M.bel
 replace hT := hT.below M.bel
 replace hrx := Dt.keep M.bel _ hrx
 replace hrd := Dt.keep M.bel _ hrd
 have hHg4 := M.here 0 (cs := (d.d.cells d.ts.length)) rfl
 have hHg2 := M.here 1 (cs := (x.d.cells x.ts.length)) rfl
 replace M : Mg w8 w8 [] := Mg.start w8
 refine sdm A λa A↦?_
 iterate 2 refine sdo A (qz (vs := [.agg (aa.d.cells aa.ts.length).toArray, .int .i64 kaa]) rfl rfl) λa A↦?_
 refine zv (vs := (qg.d.cells qg.ts.length)) (t := 30) A M rfl rfl rfl pg (qp (z := .agg (qg.d.cells qg.ts.length).toArray) (by kernel_rfl) rfl) (by decide) ?_
 intro g9 w10 M a A
 refine zl (us := (aa.d.cells aa.ts.length)) (L' := (.obj g9 (.cells (aa.d.cells aa.ts.length).toArray 30) :: [])) A M rfl rfl (qy rfl rfl rfl (by kernel_rfl) M 0 rfl rfl rfl) 0 rfl rfl rfl ?_
 intro w11 M
 refine sda A λa A↦?_
 refine qa (hK6 _ _ (wsk fun K12 hK12 => wrl (sdo A (zx M hHg2 LiK_isS_30 rfl rfl) λa A↦?_)))
 refine sdo A (zx M hHg4 LiK_isS_30 rfl rfl) λa A↦?_
 refine sct A (ef rfl rfl) (zdg (x := x) (t := d) (Dt.keep M.bel _ hrx) (Dt.keep M.bel _ hrd) (by omega) (by omega)) ?_
 rintro _ w14 ⟨bb, kbb, rfl, ⟨hrbb, htbb⟩, hb13⟩
 replace M := M.call hb13
 refine ⟨_, rfl, ?_⟩
 intro a A
 have hB2 := hB1.trans (M.bel.mono hB1.size)
 replace hT := hT.below M.bel
 replace hHg4 := hHg4.below M.bel
 replace hHg2 := hHg2.below M.bel
 replace hrx := Dt.keep M.bel _ hrx
 replace hrd := Dt.keep M.bel _ hrd
 replace hraa := Dt.keep M.bel _ hraa
 have hHg9 := M.here 0 (cs := (aa.d.cells aa.ts.length)) rfl
 replace M : Mg w14 w14 [] := Mg.start w14
 refine sdm A λa A↦?_
 iterate 2 refine sdo A (qz (vs := [.agg (bb.d.cells bb.ts.length).toArray, .int .i64 kbb]) rfl rfl) λa A↦?_
 refine zv (vs := (qg.d.cells qg.ts.length)) (t := 30) A M rfl rfl rfl pg (qp (z := .agg (qg.d.cells qg.ts.length).toArray) (by kernel_rfl) rfl) (by decide) ?_
 intro g15 w16 M a A
 refine zl (us := (bb.d.cells bb.ts.length)) (L' := (.obj g15 (.cells (bb.d.cells bb.ts.length).toArray 30) :: [])) A M rfl rfl (qy rfl rfl rfl (by kernel_rfl) M 0 rfl rfl rfl) 0 rfl rfl rfl ?_
 intro w17 M
 refine sda A λa A↦?_
 refine qa (hK12 _ _ (wsk fun K18 hK18 => wrl (sdo A (zx M hHg2 LiK_isS_30 rfl rfl) λa A↦?_)))
 refine sdo A (zx M hHg4 LiK_isS_30 rfl rfl) λa A↦?_
 refine sct A (ef rfl rfl) (zpi (x := x) (t := d) (Dt.keep M.bel _ hrx) (Dt.keep M.bel _ hrd) (by omega) (hT.below M.bel)) ?_
 rintro _ w20 ⟨cc, kcc, rfl, ⟨hrcc, -, htcc⟩, hb19⟩
 replace M := M.call hb19
 refine ⟨_, rfl, ?_⟩
 intro a A
 have hB3 := hB2.trans (M.bel.mono hB2.size)
 replace hT := hT.below M.bel
 replace hHg4 := hHg4.below M.bel
 replace hHg2 := hHg2.below M.bel
 replace hHg9 := hHg9.below M.bel
 replace hrx := Dt.keep M.bel _ hrx
 replace hrd := Dt.keep M.bel _ hrd
 replace hraa := Dt.keep M.bel _ hraa
 replace hrbb := Dt.keep M.bel _ hrbb
 have hHg15 := M.here 0 (cs := (bb.d.cells bb.ts.length)) rfl
 replace M : Mg w20 w20 [] := Mg.start w20
 refine sdm A λa A↦?_
 iterate 2 refine sdo A (qz (vs := [.agg (cc.d.cells cc.ts.length).toArray, .int .i64 kcc]) rfl rfl) λa A↦?_
 refine zv (vs := (qg.d.cells qg.ts.length)) (t := 30) A M rfl rfl rfl pg (qp (z := .agg (qg.d.cells qg.ts.length).toArray) (by kernel_rfl) rfl) (by decide) ?_
 intro g21 w22 M a A
 refine zl (us := (cc.d.cells cc.ts.length)) (L' := (.obj g21 (.cells (cc.d.cells cc.ts.length).toArray 30) :: [])) A M rfl rfl (qy rfl rfl rfl (by kernel_rfl) M 0 rfl rfl rfl) 0 rfl rfl rfl ?_
 intro w23 M
 refine sda A λa A↦?_
 refine qa (hK18 _ _ (wsk fun K24 hK24 => wrl (sdo A (zx M hHg2 LiK_isS_30 rfl rfl) λa A↦?_)))
 refine sdo A (zx M hHg4 LiK_isS_30 rfl rfl) λa A↦?_
 refine sct A (ef rfl rfl) (zia (x := x) (t := d) (Dt.keep M.bel _ hrx) (Dt.keep M.bel _ hrd) (by omega) (by omega)) ?_
 rintro _ w26 ⟨pp, kpp, rfl, ⟨hrpp, htpp⟩, hb25⟩
 replace M := M.call hb25
 refine ⟨_, rfl, ?_⟩
 intro a A
 have hB4 := hB3.trans (M.bel.mono hB3.size)
 replace hT := hT.below M.bel
 replace hHg4 := hHg4.below M.bel
 replace hHg2 := hHg2.below M.bel
 replace hHg9 := hHg9.below M.bel
 replace hHg15 := hHg15.below M.bel
 replace hrx := Dt.keep M.bel _ hrx
 replace hrd := Dt.keep M.bel _ hrd
 replace hraa := Dt.keep M.bel _ hraa
 replace hrbb := Dt.keep M.bel _ hrbb
 replace hrcc := Dt.keep M.bel _ hrcc
 have hHg21 := M.here 0 (cs := (cc.d.cells cc.ts.length)) rfl
 replace M : Mg w26 w26 [] := Mg.start w26
 refine sdm A λa A↦?_
 iterate 2 refine sdo A (qz (vs := [.agg (pp.d.cells pp.ts.length).toArray, .int .i64 kpp]) rfl rfl) λa A↦?_
 refine zv (vs := (qg.d.cells qg.ts.length)) (t := 30) A M rfl rfl rfl pg (qp (z := .agg (qg.d.cells qg.ts.length).toArray) (by kernel_rfl) rfl) (by decide) ?_
 intro g27 w28 M a A
 refine zl (us := (pp.d.cells pp.ts.length)) (L' := (.obj g27 (.cells (pp.d.cells pp.ts.length).toArray 30) :: [])) A M rfl rfl (qy rfl rfl rfl (by kernel_rfl) M 0 rfl rfl rfl) 0 rfl rfl rfl ?_
 intro w29 M
 refine sda A λa A↦?_
 refine qa (hK24 _ _ (wsk fun K30 hK30 => wrl (sdo A (zx M hHg2 LiK_isS_30 rfl rfl) λa A↦?_)))
 refine sdo A (zx M hHg4 LiK_isS_30 rfl rfl) λa A↦?_
 refine sct A (ef rfl rfl) (zif (x := x) (t := d) (Dt.keep M.bel _ hrx) (Dt.keep M.bel _ hrd) (by omega) (hT.below M.bel)) ?_
 rintro _ w32 ⟨rr, krr, rfl, ⟨hrrr, -, htrr⟩, hb31⟩
 replace M := M.call hb31
 refine ⟨_, rfl, ?_⟩
 intro a A
 have hB5 := hB4.trans (M.bel.mono hB4.size)
 replace hT := hT.below M.bel
 replace hHg4 := hHg4.below M.bel
 replace hHg2 := hHg2.below M.bel
 replace hHg9 := hHg9.below M.bel
 replace hHg15 := hHg15.below M.bel
 replace hHg21 := hHg21.below M.bel
 replace hrx := Dt.keep M.bel _ hrx
 replace hrd := Dt.keep M.bel _ hrd
 replace hraa := Dt.keep M.bel _ hraa
 replace hrbb := Dt.keep M.bel _ hrbb
 replace hrcc := Dt.keep M.bel _ hrcc
 replace hrpp := Dt.keep M.bel _ hrpp
 have hHg27 := M.here 0 (cs := (pp.d.cells pp.ts.length)) rfl
 replace M : Mg w32 w32 [] := Mg.start w32
 refine sdm A λa A↦?_
 iterate 2 refine sdo A (qz (vs := [.agg (rr.d.cells rr.ts.length).toArray, .int .i64 krr]) rfl rfl) λa A↦?_
 refine zv (vs := (qg.d.cells qg.ts.length)) (t := 30) A M rfl rfl rfl pg (qp (z := .agg (qg.d.cells qg.ts.length).toArray) (by kernel_rfl) rfl) (by decide) ?_
 intro g33 w34 M a A
 refine zl (us := (rr.d.cells rr.ts.length)) (L' := (.obj g33 (.cells (rr.d.cells rr.ts.length).toArray 30) :: [])) A M rfl rfl (qy rfl rfl rfl (by kernel_rfl) M 0 rfl rfl rfl) 0 rfl rfl rfl ?_
 intro w35 M
 refine sda A λa A↦?_
 refine qa (hK30 _ _ (wsk fun K36 hK36 => wrl (sdo A (zx M hHg2 LiK_isS_30 rfl rfl) λa A↦?_)))
 refine sdo A (zx M hHg4 LiK_isS_30 rfl rfl) λa A↦?_
 refine sct A (ef rfl rfl) (zdi (x := x) (t := d) (Dt.keep M.bel _ hrx) (Dt.keep M.bel _ hrd) (by omega) (by omega)) ?_
 rintro _ w38 ⟨ss, kss, rfl, ⟨hrss, htss⟩, hb37⟩
 replace M := M.call hb37
 refine ⟨_, rfl, ?_⟩
 intro a A
 have hB6 := hB5.trans (M.bel.mono hB5.size)
 replace hT := hT.below M.bel
 replace hHg4 := hHg4.below M.bel
 replace hHg2 := hHg2.below M.bel
 replace hHg9 := hHg9.below M.bel
 replace hHg15 := hHg15.below M.bel
 replace hHg21 := hHg21.below M.bel
 replace hHg27 := hHg27.below M.bel
 replace hrx := Dt.keep M.bel _ hrx
 replace hrd := Dt.keep M.bel _ hrd
 replace hraa := Dt.keep M.bel _ hraa
 replace hrbb := Dt.keep M.bel _ hrbb
 replace hrcc := Dt.keep M.bel _ hrcc
 replace hrpp := Dt.keep M.bel _ hrpp
 replace hrrr := Dt.keep M.bel _ hrrr
 have hHg33 := M.here 0 (cs := (rr.d.cells rr.ts.length)) rfl
 replace M : Mg w38 w38 [] := Mg.start w38
 refine sdm A λa A↦?_
 iterate 2 refine sdo A (qz (vs := [.agg (ss.d.cells ss.ts.length).toArray, .int .i64 kss]) rfl rfl) λa A↦?_
 refine zv (vs := (qg.d.cells qg.ts.length)) (t := 30) A M rfl rfl rfl pg (qp (z := .agg (qg.d.cells qg.ts.length).toArray) (by kernel_rfl) rfl) (by decide) ?_
 intro g39 w40 M a A
 refine zl (us := (ss.d.cells ss.ts.length)) (L' := (.obj g39 (.cells (ss.d.cells ss.ts.length).toArray 30) :: [])) A M rfl rfl (qy rfl rfl rfl (by kernel_rfl) M 0 rfl rfl rfl) 0 rfl rfl rfl ?_
 intro w41 M
 refine sda A λa A↦?_
 refine qa (hK36 _ _ (wsk fun K42 hK42 => wrl (sct A (ef rfl rfl) (zqa (hT.below M.bel)) ?_)))
 rintro _ w44 ⟨rfl, hb43⟩
 replace M := M.call hb43
 refine ⟨_, rfl, ?_⟩
 intro a A
 refine sdm A λa A↦?_
 refine sdo A (zx M hHg9 LiK_isS_30 rfl rfl) λa A↦?_
 refine sdo A (zx M hHg15 LiK_isS_30 rfl rfl) λa A↦?_
 refine gcl A M (ef rfl rfl) ((((qcj aa.tr bb.tr).2 ((congrArg Prod.fst htaa).trans (congrArg Prod.fst htbb).symm)) ▸ xj (aa.tr.bulk + 1) (t := aa) (u := bb) (Nat.lt_succ_self _) (Dt.keep M.bel _ hraa) (Dt.keep M.bel _ hrbb))) fun w46 hb45 M a A => ?_
 refine sdk (v := .bool true) A λa A↦?_
 iterate 3 refine sdm A λa A↦?_
 refine sdo (v := .bool true) A (qh rfl rfl (fun w => (qk w).trans (by rw [show ((kaa == kbb)) = true from (beq_iff_eq.2 ((congrArg Prod.snd htaa).trans (congrArg Prod.snd htbb).symm))]))) λa A↦?_
 refine sdk (v := .bool true) A λa A↦?_
 refine sdm A λa A↦?_
 refine sdo A (zx M hHg21 LiK_isS_30 rfl rfl) λa A↦?_
 refine sdo A (zx M hHg27 LiK_isS_30 rfl rfl) λa A↦?_
 refine gcl A M (ef rfl rfl) ((((qcj cc.tr pp.tr).2 ((congrArg Prod.fst htcc).trans (congrArg Prod.fst htpp).symm)) ▸ xj (cc.tr.bulk + 1) (t := cc) (u := pp) (Nat.lt_succ_self _) (Dt.keep M.bel _ hrcc) (Dt.keep M.bel _ hrpp))) fun w48 hb47 M a A => ?_
 refine sdk (v := .bool true) A λa A↦?_
 iterate 3 refine sdm A λa A↦?_
 refine sdo (v := .bool true) A (qh rfl rfl (fun w => (qk w).trans (by rw [show ((kcc == kpp)) = true from (beq_iff_eq.2 ((congrArg Prod.snd htcc).trans (congrArg Prod.snd htpp).symm))]))) λa A↦?_
 refine sdk (v := .bool true) A λa A↦?_
 refine sdm A λa A↦?_
 refine sdo A (zx M hHg33 LiK_isS_30 rfl rfl) λa A↦?_
 refine sdo A (za M LiK_isS_30 rfl 0 rfl (cs := (ss.d.cells ss.ts.length)) rfl rfl) λa A↦?_
 refine gcl A M (ef rfl rfl) ((((qcj rr.tr ss.tr).2 ((congrArg Prod.fst htrr).trans (congrArg Prod.fst htss).symm)) ▸ xj (rr.tr.bulk + 1) (t := rr) (u := ss) (Nat.lt_succ_self _) (Dt.keep M.bel _ hrrr) (Dt.keep M.bel _ hrss))) fun w50 hb49 M a A => ?_
 refine sdk (v := .bool true) A λa A↦?_
 iterate 3 refine sdm A λa A↦?_
 refine sdo (v := .bool true) A (qh rfl rfl (fun w => (qk w).trans (by rw [show ((krr == kss)) = true from (beq_iff_eq.2 ((congrArg Prod.snd htrr).trans (congrArg Prod.snd htss).symm))]))) λa A↦?_
 refine sdk (v := .bool true) A λa A↦?_
 refine sda A λa A↦?_
 refine qa (hK42 _ _ (wp_ret (hret _ _ (en1 A rfl (qe rfl) ?_))))
 exact ⟨rfl, hB6.trans (M.bel.mono hB6.size)⟩
end Go.Proofs.YtipikhcmieboaaaGreatDoor.G
namespace Go.Proofs.YtipikhcmieboaaaGreatDoor
set_option linter.unusedVariables false

section
variable {H : Type}
theorem zdj (d : DataW H) : 0 < Rows.uptoBulk d := by
  unfold Rows.uptoBulk
  split <;> omega
theorem zea : ∀ l : List (DataW H), l.length ≤ Rows.uptoBulkAll l
  | [] => by simp
  | d :: l => by
    have h1 := zdj d
    have h2 := zea l
    simp only [Rows.uptoBulkAll, List.length_cons]
    omega
theorem zeb (xs ys : List (DataW H)) : xs.length ≤ Rows.uptoBulk (.slice xs ys) := by
  have := zea xs
  simp only [Rows.uptoBulk]
  omega
theorem qhe {d : DataW H} : ∀ {l : List (DataW H)}, d ∈ l → Rows.uptoBulk d ≤ Rows.uptoBulkAll l
  | c :: l, h => by
    simp only [Rows.uptoBulkAll]
    rcases List.mem_cons.1 h with rfl | h
    · omega
    · have := qhe h
      omega
theorem zlf {l : List (DataW H)} (hk : Rows.uptoSmall H l = true) {j : Nat} {d : DataW H} (hd : l[j]? = some d) : Rows.uptoBulk d ≤ 1048576 :=
  Nat.le_trans (qhe (List.mem_of_getElem? hd)) (of_decide_eq_true hk)
end
end Go.Proofs.YtipikhcmieboaaaGreatDoor
namespace Go.Proofs.YtipikhcmieboaaaGreatDoor.G
open Go.ChangeShapes Go.WideShapes Go.ChangeAt Go.RowKit Go.Joins Go.Deep
set_option linter.unusedVariables false
set_option linter.unusedSimpArgs false
set_option maxRecDepth 100000

section
variable {H : Type} {enc : TypeId × Value → H} {W : World}
end
theorem zqb {w : World} {x : Addr} {len cap : Nat} {zs : List Int} (hl : len ≤ cap) (hz : zs.length = cap)
    (hc : ∀ i, i < zs.length → w.cell? (x.add i) = some (.int .u8 (zs.getD i 0))) (hw : ∀ n ∈ zs, (Lit.int .u8 n).wf = true) :
    ∃ l : List UInt8, l.length = len ∧ Rb w (some x) l := by
  have hbd : ∀ n ∈ zs, 0 ≤ n ∧ n < 256 := by
    intro n hn
    have := bounds_u8 (hw n hn)
    omega
  refine ⟨(zs.take len).map b8, by rw [List.length_map, List.length_take]; omega, ⟨fun hne => ?_⟩⟩
  have hlen : ((zs.take len).map b8).length = len := by rw [List.length_map, List.length_take]; omega
  have h0 : 0 < len := by
    apply Classical.byContradiction
    intro h
    have : len = 0 := by omega
    subst this
    simp at hne
  obtain ⟨b, off, spot⟩ := x
  have hspot : spot = none := by
    have := hc 0 (by omega)
    simp only [World.cell?, Addr.add] at this
    split at this
    · cases spot with
      | none => rfl
      | some s => simp at this
    · cases this
  subst hspot
  have hcj : ∀ j, j < len → w.cell? ⟨b, off + j, none⟩ = some (.int .u8 (((((zs.take len).map b8).getD j 0).toNat : Nat) : Int)) := by
    intro j hj
    have h1 := hc j (by omega)
    rw [Addr.add_lit] at h1
    rw [h1]
    have hjz : j < zs.length := by omega
    have h2 := hbd zs[j] (List.getElem_mem hjz)
    have e1 : zs.getD j 0 = zs[j] := by simp [hjz]
    have e2 : ((zs.take len).map b8).getD j 0 = b8 zs[j] := by simp [List.getD_eq_getElem?_getD, hj, hjz]
    rw [e1, e2, jaf h2.1 h2.2]
  refine ⟨b, off, rfl, ?_, fun j hj => hcj j (by omega)⟩
  have := hcj 0 h0
  apply Classical.byContradiction
  intro h
  simp [World.cell?, Array.getElem?_eq_none (Nat.le_of_not_lt h)] at this
section
variable {H : Type} {enc : TypeId × Value → H} {W : World}
end
theorem Rb.take {w : World} {so : Option Addr} {l : List UInt8} (h : Rb w so l) (n : Nat) : Rb w so (l.take n) := by
  refine ⟨fun hne => ?_⟩
  obtain ⟨b, off, h1, h2, h3⟩ := h.pos (fun k => hne (by rw [k]; simp))
  refine ⟨b, off, h1, h2, fun j hj => ?_⟩
  rw [List.length_take] at hj
  rw [h3 j (by omega), List.getD_eq_getElem?_getD, List.getD_eq_getElem?_getD, List.getElem?_take_of_lt (by omega)]
section
variable {P : Program} {w : World} {l : List (Nat × Value)} {dst : Option Tmp} {ty : TypeId} {pos : String} {after : Array Edge} {guard : Option (Nat × Bool)}
end
def Nu.cells (y : Nu) : List Value := [.bool y.q.b1, .slice y.o1 y.q.t1.length y.c1, .slice y.o2 y.q.q1.length y.c2, .bool y.q.b2, .slice y.o3 y.q.t2.length y.c3, .slice y.o4 y.q.q2.length y.c4]
theorem zwe {w : World} {b o : Nat} {v : Value} (h : w.cell? ⟨b, o, none⟩ = some v) : b < w.heap.size := by
  apply Classical.byContradiction
  intro k
  simp [World.cell?, Array.getElem?_eq_none (Nat.le_of_not_lt k)] at h
section
variable {H : Type} {enc : TypeId × Value → H} {W : World}
theorem qqh (l : List (DataW H)) : Rows.uptoBulk (.agg l) = Rows.uptoBulkAll l + 1 := by simp only [Rows.uptoBulk]
theorem zec {fuel : Nat} {v : Value} {x : DataW H × List MemPlace} (h : DataW.trod enc Tryz.prog W 0 (fun _ => true) true fuel 28 [v] = some x) : ∃ so cap l, v = .slice so (l : List UInt8).length cap ∧ Rb W so l ∧ l.length ≤ cap ∧ cap ≤ 9223372036854775807 ∧ l.length ≤ Rows.uptoBulk x.1 := by
  rcases open_ints Tryz.underlying28 Tryz.underlying5 (by kernel_rfl) h with ⟨hcs, _⟩ | ⟨x, l, c, zs, hcs, _, hl, hm, hz, hx, hcell, hwz⟩
  · simp only [List.cons.injEq, and_true] at hcs
    subst hcs
    exact ⟨none, 0, [], rfl, ⟨fun k => absurd rfl k⟩, Nat.le_refl _, by decide, Nat.zero_le _⟩
  · simp only [List.cons.injEq, and_true] at hcs
    subst hcs
    obtain ⟨us, e, ha⟩ := zqb hl (by simpa using hz) hcell hwz
    subst e
    subst hx
    refine ⟨_, _, us, rfl, ha, hl, hm, ?_⟩
    simp only [if_true] at hz
    refine Nat.le_trans ?_ (zeb _ _)
    simp only [lits, List.length_map, List.length_take, List.length_drop]
    omega
theorem qlb {fuel : Nat} {v : Value} {x : DataW H × List MemPlace} (h : DataW.trod enc Tryz.prog W 0 (fun _ => true) true fuel 23 [v] = some x) : ∃ ao c l, v = .slice ao (l : List Nat).length c ∧ Arg W ao c l ∧ l.length ≤ Rows.uptoBulk x.1 := by
  rcases open_ints Tryz.underlying23 Tryz.underlying87 (by kernel_rfl) h with ⟨hcs, _⟩ | ⟨x, l, c, zs, hcs, _, hl, hm, hz, hx, hcell, hwz⟩
  · cases hcs
    exact ⟨none, 0, [], rfl, arg_nil W, Nat.zero_le _⟩
  · cases hcs
    obtain ⟨us, e, ha⟩ := arg_row hl hm (by simpa using hz) hcell hwz
    subst e
    subst hx
    refine ⟨_, _, us, rfl, ha, ?_⟩
    simp only [if_true] at hz
    refine Nat.le_trans ?_ (zeb _ _)
    simp only [lits, List.length_map, List.length_take, List.length_drop]
    omega
theorem qvc {fuel : Nat} {v0 v1 v2 : Value} {x : DataW H × List MemPlace} (h : DataW.trod enc Tryz.prog W 0 (fun _ => true) true fuel 25 [v0, v1, v2] = some x) : ∃ b o1 c1 l1 o2 c2 l2, v0 = .bool b ∧ v1 = .slice o1 (l1 : List Nat).length c1 ∧ v2 = .slice o2 (l2 : List Nat).length c2 ∧ Arg W o1 c1 l1 ∧ Arg W o2 c2 l2 ∧ l1.length + l2.length ≤ Rows.uptoBulk x.1 := by
  obtain ⟨y0, y1, y2, n, hx, _, h0, h1, h2⟩ := trod_struct3 Tryz.underlying25 h
  have e0 : Tryz.prog.cellsOf 4 = 1 := by kernel_rfl
  have e1 : Tryz.prog.cellsOf 23 = 1 := by kernel_rfl
  simp only [e0, e1, List.drop_zero, List.take_succ_cons, List.take_zero, List.drop_succ_cons] at h0 h1 h2
  obtain ⟨b, rfl⟩ := trod_bool h0
  obtain ⟨o1, c1, l1, rfl, a1, k1⟩ := qlb h1
  obtain ⟨o2, c2, l2, rfl, a2, k2⟩ := qlb h2
  refine ⟨b, o1, c1, l1, o2, c2, l2, rfl, rfl, rfl, a1, a2, ?_⟩
  rw [hx, qqh]
  simp only [Rows.uptoBulkAll]
  omega
theorem zqc {fuel : Nat} {cs : List Value} {x : DataW H × List MemPlace} (hl : cs.length = 6) (h : DataW.trod enc Tryz.prog W 0 (fun _ => true) true fuel 27 cs = some x) :
    ∃ y : Nu, cs = y.cells ∧ y.nm W ∧ LenQ y.q ∧ y.q.t1.length + y.q.q1.length + (y.q.t2.length + y.q.q2.length) ≤ Rows.uptoBulk x.1 := by
  match cs, hl with
  | [v0, v1, v2, v3, v4, v5], _ =>
    obtain ⟨y0, y1, n, hx, _, h0, h1⟩ := trod_struct2 Tryz.underlying27 h
    have e : Tryz.prog.cellsOf 25 = 3 := by kernel_rfl
    simp only [e, List.drop_zero, List.take_succ_cons, List.take_zero, List.drop_succ_cons] at h0 h1
    obtain ⟨b1, o1, c1, l1, o2, c2, l2, rfl, rfl, rfl, a1, a2, k1⟩ := qvc h0
    obtain ⟨b2, o3, c3, l3, o4, c4, l4, rfl, rfl, rfl, a3, a4, k2⟩ := qvc h1
    refine ⟨⟨⟨b1, l1, l2, b2, l3, l4⟩, o1, c1, o2, c2, o3, c3, o4, c4⟩, rfl, ⟨⟨a1.rd, a1.nil, a1.caps⟩, ⟨a2.rd, a2.nil, a2.caps⟩, ⟨a3.rd, a3.nil, a3.caps⟩, ⟨a4.rd, a4.nil, a4.caps⟩⟩, ⟨a1.len, a2.len, a3.len, a4.len⟩, ?_⟩
    rw [hx, qqh]
    simp only [Rows.uptoBulkAll]
    omega
/-- One datum, as it lies in a row of cells; and a list of them. -/
def OpenD (H : Type) (enc : TypeId × Value → H) (W : World) (fuel : Nat) : Prop := ∀ (cs : List Value) (x : DataW H × List MemPlace), DataW.trod enc Tryz.prog W 0 (fun _ => true) true fuel 30 cs = some x → ∃ t : Dt, cs = t.cells ∧ t.rd W ∧ t.tr.bulk ≤ Rows.uptoBulk x.1
theorem zig {fuel : Nat} {v : Value} {x : DataW H × List MemPlace} (ih : ∀ n, n < fuel → OpenD H enc W n) (h : DataW.trod enc Tryz.prog W 0 (fun _ => true) true fuel 22 [v] = some x) :
    ∃ lo lc ts, v = .slice lo (ts : List Dt).length lc ∧ ts.length ≤ lc ∧ lc ≤ 9223372036854775807 ∧ Rt W lo ts ∧ (∀ t ∈ ts, t.rd W) ∧ Tr.bulks (ts.map Dt.tr) ≤ Rows.uptoBulk x.1 := by
  rcases DataW.trod_slice Tryz.underlying22 h with ⟨hcs, _⟩ | ⟨a, len, cap, elems, rest, n, hf, hcs, hx, _, hl, hm, hlen, hel, _, _⟩
  · simp only [List.cons.injEq, and_true] at hcs
    subst hcs
    exact ⟨none, 0, [], rfl, Nat.le_refl _, by decide, fun k => absurd rfl k, fun _ k => by simp at k, Nat.zero_le _⟩
  · simp only [List.cons.injEq, and_true] at hcs
    subst hcs
    rw [show Tryz.prog.cellsOf 30 = 11 from by kernel_rfl] at hel
    have each : ∀ i, ∃ t : Dt, i < len → t.rd W ∧ (∀ j v, t.cells[j]? = some v → W.cell? ((a.add (i * 11)).add j) = some v) ∧ ∃ y, elems[i]? = some y ∧ t.tr.bulk ≤ Rows.uptoBulk y.1 := by
      intro i
      by_cases hi : i < len
      · have h1 := hel i hi
        rw [List.getElem?_eq_getElem (by omega)] at h1
        obtain ⟨cs, h2, h3⟩ := Option.bind_eq_some_iff.1 h1
        obtain ⟨_, hlc, hcell⟩ := World.cells?_some h2
        obtain ⟨t, rfl, hr, hb⟩ := ih n (by omega) cs _ h3
        exact ⟨t, fun _ => ⟨hr, fun j v hj => by rw [hcell j (by have := (List.getElem?_eq_some_iff.1 hj).1; rw [hlc] at this; exact this)]; exact hj, _, List.getElem?_eq_getElem (by omega), hb⟩⟩
      · exact ⟨.mk ⟨0, 0, ⟨⟨false, [], [], false, [], []⟩, none, 0, none, 0, none, 0, none, 0⟩, ⟨#[]⟩, none, 0, [], none, 0⟩ [], fun k => absurd k hi⟩
    obtain ⟨F, hF⟩ := Classical.skolem.1 each
    have hget : ∀ (j : Nat) (q : Dt), ((List.range len).map F)[j]? = some q → j < len ∧ q = F j := by
      intro j q hq
      rw [List.getElem?_map] at hq
      obtain ⟨y, h1, h2⟩ := Option.map_eq_some_iff.1 hq
      obtain ⟨h3, h4⟩ := List.getElem?_eq_some_iff.1 h1
      rw [List.length_range] at h3
      rw [List.getElem_range] at h4
      subst h4
      exact ⟨h3, h2.symm⟩
    refine ⟨some a, cap, (List.range len).map F, by simp, by simpa using hl, hm, fun hne => ?_, fun t ht => ?_, ?_⟩
    · have hn : 0 < len := by
        apply Classical.byContradiction
        intro k
        exact hne (by rw [show len = 0 from by omega]; rfl)
      obtain ⟨b, off, spot⟩ := a
      have h0 := (hF 0 hn).2.1 0 _ rfl
      have hspot : spot = none := by simpa [Addr.add] using World.cell?_spot h0
      subst hspot
      refine ⟨b, off, rfl, fun i t hi => ?_⟩
      obtain ⟨hlt, rfl⟩ := hget i t hi
      have hat : ∀ j v, (F i).cells[j]? = some v → W.cell? ⟨b, off + i * 11 + j, none⟩ = some v := fun j v hj => by
        have := (hF i hlt).2.1 j v hj
        rwa [Addr.add_lit, Addr.add_lit] at this
      exact ⟨zwe (hat 0 _ rfl), hat⟩
    · obtain ⟨j, hj⟩ := List.mem_iff_getElem?.1 ht
      obtain ⟨h1, rfl⟩ := hget j t hj
      exact (hF j h1).1
    · rw [hx]
      have key : ∀ m, m ≤ len → Tr.bulks (((List.range m).map F).map Dt.tr) ≤ Rows.uptoBulkAll ((elems.map (·.1)).take m) := by
        intro m
        induction m with
        | zero => intro _; simp [Tr.bulks]
        | succ m ih2 =>
          intro hm2
          have hs : ∀ (l : List Tr) (t : Tr), Tr.bulks (l ++ [t]) = Tr.bulks l + t.bulk := by
            intro l t
            induction l with
            | nil => simp [Tr.bulks]
            | cons u l ih3 => simp only [List.cons_append, Tr.bulks, ih3]; omega
          have hu : ∀ (l : List (DataW H)) (d : DataW H), Rows.uptoBulkAll (l ++ [d]) = Rows.uptoBulkAll l + Rows.uptoBulk d := by
            intro l d
            induction l with
            | nil => simp [Rows.uptoBulkAll]
            | cons u l ih3 => simp only [List.cons_append, Rows.uptoBulkAll, ih3]; omega
          obtain ⟨_, _, y, hy, hb⟩ := hF m (by omega)
          have := ih2 (by omega)
          rw [List.range_succ, List.map_append, List.map_append, List.take_add_one, List.getElem?_map, hy]
          simp only [List.map_cons, List.map_nil, Option.map_some, Option.toList_some]
          rw [hs, hu]
          omega
      have h1 := key len (Nat.le_refl _)
      rw [List.take_of_length_le (by rw [List.length_map]; omega)] at h1
      simp only [Rows.uptoBulk]
      omega
theorem jaa : ∀ fuel, OpenD H enc W fuel := by
  intro fuel
  induction fuel using Nat.strongRecOn with
  | ind fuel ih =>
    intro cs x h
    obtain ⟨xs, n, hfu, hx, hl, hxl, hf⟩ := DataW.trod_struct Tryz.underlying30 h
    rw [show Tryz.prog.cellsOf 30 = 11 from by kernel_rfl] at hl
    match cs, hl with
    | [v0, v1, v2, v3, v4, v5, v6, v7, v8, v9, v10], _ =>
      match xs, hxl with
      | [x0, x1, x2, x3, x4, x5], _ =>
        have g0 := hf 0 _ rfl
        have g1 := hf 1 _ rfl
        have g2 := hf 2 _ rfl
        have g3 := hf 3 _ rfl
        have g4 := hf 4 _ rfl
        have g5 := hf 5 _ rfl
        have c1 : Tryz.prog.cellsOf 3 = 1 := by kernel_rfl
        have c2 : Tryz.prog.cellsOf 27 = 6 := by kernel_rfl
        have c3 : Tryz.prog.cellsOf 9 = 1 := by kernel_rfl
        have c4 : Tryz.prog.cellsOf 28 = 1 := by kernel_rfl
        have c5 : Tryz.prog.cellsOf 22 = 1 := by kernel_rfl
        simp only [c1, c2, c3, c4, c5, List.drop_zero, List.take_succ_cons, List.take_zero, List.drop_succ_cons, List.getElem?_cons_zero, List.getElem?_cons_succ] at g0 g1 g2 g3 g4 g5
        obtain ⟨k, e0, _, w0⟩ := DataW.trod_int Tryz.underlying3 g0
        obtain ⟨m, e1, _, w1⟩ := DataW.trod_int Tryz.underlying3 g1
        obtain ⟨y, e2, hy, hq, b2⟩ := zqc rfl g2
        obtain ⟨s, e3, hs, hsm⟩ := DataW.trod_string Tryz.underlying9 g3
        obtain ⟨ro, rc, rl, e4, hr, hrc, hrm, b4⟩ := zec g4
        obtain ⟨lo, lc, ts, e5, hlc, hlm, hrt, hrd, b5⟩ := zig (fun n' hn' => ih n' (by omega)) g5
        have bk := bounds_i64 w0
        have bm := bounds_i64 w1
        refine ⟨.mk ⟨k, m, y, s, ro, rc, rl, lo, lc⟩ ts, ?_, ?_, ?_⟩
        · injection e0 with f0
          injection e1 with f1
          injection e3 with f3
          injection e2 with e20 g
          injection g with e21 g
          injection g with e22 g
          injection g with e23 g
          injection g with e24 g
          injection g with e25 g
          subst f0 f1 f3 e4 e5 e20 e21 e22 e23 e24 e25
          rfl
        · rw [Dt.rd_iff]
          exact ⟨⟨hy, hq, hr, hrc, hrm, bk.1, bk.2, bm.1, bm.2, hsm⟩, hlc, hlm, hrt, hrd⟩
        · rw [Dt.tr_mk, ka, hx, qqh]
          have h3 : Rows.uptoBulk x3.1 = s.size + 1 := by
            rw [hs]
            rw [show Rows.uptoBulk (DataW.lit (H := H) (.string s.data.toList)) = s.data.toList.length + 1 from by simp only [Rows.uptoBulk], Array.length_toList]
            rfl
          simp only [List.map_cons, List.map_nil, Rows.uptoBulkAll]
          have := zdj x0.1
          omega
theorem qqi {base : Nat} {v : Value} {d : DataW H} {p : List MemPlace} (hv : Value.okWide Tryz.prog W .any base 30 v) (h : DataW.Trod enc Tryz.prog W 0 (fun _ => true) true 30 v d p) :
    ∃ t : Dt, v = .agg t.cells.toArray ∧ t.rd W ∧ t.tr.bulk ≤ Rows.uptoBulk d := by
  obtain ⟨cs, rfl, hsz⟩ := okWide_struct Tryz.underlying30 hv
  obtain ⟨fuel, hf⟩ := h
  obtain ⟨t, e, hr, hb⟩ := jaa fuel _ _ hf
  refine ⟨t, ?_, hr, hb⟩
  rw [← e]
  rfl
end
end Go.Proofs.YtipikhcmieboaaaGreatDoor.G
