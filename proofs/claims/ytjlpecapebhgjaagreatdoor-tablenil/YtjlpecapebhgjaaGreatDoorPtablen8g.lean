/- Walks of the order of data. Walks of Equal, Cmp and Hash. Plain functions on characters: what the program's functions and the document's answers give, and that they agree. Walks of the program's small functions on characters. The library's contracts, as theorems of this program. Walks of the program's Up, Down and Fold. Walks of the small functions of table, and of marks. Walks of where a key is looked for. Walks of Get, and of calls on a nil table. Walks of a new table, and of Set. -/
import Derived.Test.YtjlpecapebhgjaaGreatDoorPtablen8f
import Derived.Lib.RuneBytes
import Derived.RowKit
import Derived.Test.YtjlpecapebhgjaaGreatDoorProg
import Derived.WalkKit
import Derived.WalkSpells
import Derived.Deep.Light
import Derived.Shelf.Strings.Builder1
import Derived.Shelf.Small.Utf8
import Derived.Shelf.Small.Bits
import Derived.Shelf.Small.Strs
import Derived.Shelf.Strings.BuilderF
import Derived.Shelf.Strings.BuilderK
import Derived.Shelf.Strings.BuilderRune
import Derived.Shelf.Utf8.AppendRunePlain
import Derived.Shelf.Strconv.Itoa0
import Derived.Shelf.LaysM
import Derived.Shelf.Strconv.Clone
import Derived.Test.YtjlpecapebhgjaaGreatDoorText
import Derived.BigCall
namespace Go.Proofs.YtjlpecapebhgjaaGreatDoor.G
open Go.RowKit
set_option linter.unusedVariables false
set_option linter.unusedSimpArgs false
set_option maxRecDepth 100000
theorem EqB_is1_28 : Is1 Tryz.prog 28 := ⟨⟨_, Tryz.underlying28, rfl⟩, by kernel_rfl⟩
theorem EqB_is1_3 : Is1 Tryz.prog 3 := ⟨⟨_, Tryz.underlying3, rfl⟩, by kernel_rfl⟩
theorem EqB_is1_36 : Is1 Tryz.prog 36 := ⟨⟨_, Tryz.underlying36, rfl⟩, by kernel_rfl⟩
theorem EqB_is1_9 : Is1 Tryz.prog 9 := ⟨⟨_, Tryz.underlying9, rfl⟩, by kernel_rfl⟩
theorem EqB_fld_38_0 : FieldAt Tryz.prog 38 0 0 := ⟨_, _, Tryz.underlying38, rfl, rfl, by kernel_rfl⟩
theorem EqB_fld_38_1 : FieldAt Tryz.prog 38 1 1 := ⟨_, _, Tryz.underlying38, rfl, rfl, by kernel_rfl⟩
theorem EqB_fld_38_2 : FieldAt Tryz.prog 38 2 2 := ⟨_, _, Tryz.underlying38, rfl, rfl, by kernel_rfl⟩
theorem EqB_fld_38_3 : FieldAt Tryz.prog 38 3 8 := ⟨_, _, Tryz.underlying38, rfl, rfl, by kernel_rfl⟩
theorem EqB_fld_38_4 : FieldAt Tryz.prog 38 4 9 := ⟨_, _, Tryz.underlying38, rfl, rfl, by kernel_rfl⟩
theorem EqB_fld_38_5 : FieldAt Tryz.prog 38 5 10 := ⟨_, _, Tryz.underlying38, rfl, rfl, by kernel_rfl⟩
theorem EqB_isS_35 : IsS Tryz.prog 35 6 := ⟨⟨_, Tryz.underlying35⟩, by kernel_rfl⟩
theorem EqB_isS_38 : IsS Tryz.prog 38 11 := ⟨⟨_, Tryz.underlying38⟩, by kernel_rfl⟩
def Orders (n : Nat) : Prop := ∀ {w : World} {t u : Dt}, t.tr.bulk < n → t.rd w → u.rd w → t.tr.good → u.tr.good → Calls Tryz.prog 77 #[.agg (t.d.cells t.ts.length).toArray, .agg (u.d.cells u.ts.length).toArray] w fun e w' => e = .returned (.int .i64 (ordT t.tr u.tr)) ∧ Below w.heap.size w w'
theorem cmpF_any {n : Nat} (ih : Orders n) {w : World} {t u : Dt} (ht : t.rd w) (hu : u.rd w) (gt : t.tr.good) (gu : u.tr.good) (hb : t.tr.bulk ≤ n) (hlen : t.ts.length = u.ts.length) : Calls Tryz.prog 151 #[.slice t.d.lo t.ts.length t.d.lc, .slice u.d.lo u.ts.length u.d.lc, .func (.func 77) #[] #[]] w fun e w' => e = .returned (.int .i64 (ordL (t.ts.map Dt.tr) (u.ts.map Dt.tr))) ∧ Below w.heap.size w w' := by
 have hlt := (Dt.okT ht).2
 have M : Mg w w ([]) := Mg.start w
 refine walk_of (l := [(0, .slice t.d.lo t.ts.length t.d.lc), (1, .slice u.d.lo u.ts.length u.d.lc), (2, .func (.func 77) #[] #[])]) Tryz.func151 rfl Tryz.ntmps151 rfl rfl ?_
 intro Q hret hnorm hP a A
 refine wsk fun K1 hK1 => wrl (sda A λa A↦?_)
 refine seq_end (hK1 _ _ (wsk fun K2 hK2 => wsk fun K3 hK3 => wrl (sdm A λa A↦?_)))
 refine sdo A (does_len Tryz.underlying28 rfl) λa A↦?_
 refine sdm A λa A↦?_
 refine seq_end (hK3 _ _ (wp_block (wp_loop_n (fun m_ a w1 => ∃ (i : Nat), m_ = 1 + (t.ts.length - i) ∧ (i ≤ t.ts.length ∧ ordL (t.ts.map Dt.tr) (u.ts.map Dt.tr) = ordL ((t.ts.map Dt.tr).drop i) ((u.ts.map Dt.tr).drop i)) ∧ Sl a 39 [(0, .slice t.d.lo t.ts.length t.d.lc), (1, .slice u.d.lo u.ts.length u.d.lc), (2, .func (.func 77) #[] #[]), (11, .slice t.d.lo t.ts.length t.d.lc), (12, .int .i64 (((t.ts.length : Nat) : Int))), (13, .int .i64 (((i : Nat) : Int)))] ∧ Mg w w1 ([])) _ ⟨0, rfl, ⟨Nat.zero_le _, rfl⟩, A.keep _ ⟨rfl, rfl, rfl, rfl, rfl, rfl, trivial⟩, M⟩ ?_)))
 clear M A
 rintro m_ a w4 ⟨i, rfl, hinv6, A, M⟩ K5 hK5
 obtain ⟨hi0, hin9⟩ := hinv6
 refine wsk fun K7 hK7 => wrl ?_
 rcases tf (decide (((i : Nat) : Int) < ((t.ts.length : Nat) : Int))) with hb8 | hb8
 ·
  have hb8' := of_decide_eq_true hb8
  refine sdc A bin_lss hb8 λa A↦?_
  refine seq_end (hK7 _ _ (wsk fun K9 hK9 => wp_cond_true (A.ev rfl) ?_))
  refine wp_skip (hK9 _ _ (wsk fun K10 hK10 => wp_block (wsk fun K11 hK11 => ?_)))
  obtain ⟨t1, bt1, ot1, it1, mt1, rt1_, lt1, Ht1⟩ := kidT ht (i := i) (by omega)
  obtain ⟨u1, bu1, ou1, iu1, mu1, ru1_, lu1, Hu1⟩ := kidT hu (i := i) (by omega)
  refine wrl (sdm A λa A↦?_)
  refine sdo (v := .pointer (some ⟨bt1, ot1 + i * 11, none⟩)) A (does_indexD (k := i) Tryz.underlying28 (by kernel_rfl) rfl rfl rfl lt1 (by omega)) λa A↦?_
  refine sdo A (m_loadHS M Ht1 EqB_isS_38 rfl rfl) λa A↦?_
  refine s_new (vs := [.int .i64 0, .int .i64 0, .bool false, .slice none 0 0, .slice none 0 0, .bool false, .slice none 0 0, .slice none 0 0, .string (⟨#[]⟩), .slice none 0 0, .slice none 0 0]) (t := 38) A M rfl rfl rfl pg (does_alloc (z := .agg #[.int .i64 0, .int .i64 0, .bool false, .slice none 0 0, .slice none 0 0, .bool false, .slice none 0 0, .slice none 0 0, .string (⟨#[]⟩), .slice none 0 0, .slice none 0 0]) (by kernel_rfl) rfl) (by decide) ?_
  intro g12 w13 M a A
  refine sda A λa A↦?_
  refine s_store (us := (t1.d.cells t1.ts.length)) (L' := (.obj g12 (.cells (t1.d.cells t1.ts.length).toArray 38) :: [])) A M rfl rfl (m_store rfl rfl rfl (by kernel_rfl) M 0 rfl rfl rfl) 0 rfl rfl rfl ?_
  intro w14 M
  refine seq_end (hK11 _ _ (wsk fun K15 hK15 => wsk fun K16 hK16 => wrl ?_))
  iterate 2 refine sdm A λa A↦?_
  refine sdo A (does_len Tryz.underlying28 rfl) λa A↦?_
  refine sdo (v := .bool false) A (does_bin rfl rfl (fun w => (bin_geq w).trans (by rw [show (decide (((u.ts.length : Nat) : Int) ≤ ((i : Nat) : Int))) = false from (decide_eq_false (by omega))]))) λa A↦?_
  refine seq_end (hK16 _ _ (wp_cond_false (A.ev rfl) ?_))
  refine wp_skip (hK15 _ _ (wsk fun K17 hK17 => wrl ?_))
  iterate 2 refine sdm A λa A↦?_
  refine sdo (v := .pointer (some ⟨bu1, ou1 + i * 11, none⟩)) A (does_indexD (k := i) Tryz.underlying28 (by kernel_rfl) rfl rfl rfl lu1 (by omega)) λa A↦?_
  refine sdo A (m_loadHS M Hu1 EqB_isS_38 rfl rfl) λa A↦?_
  refine s_new (vs := [.int .i64 0, .int .i64 0, .bool false, .slice none 0 0, .slice none 0 0, .bool false, .slice none 0 0, .slice none 0 0, .string (⟨#[]⟩), .slice none 0 0, .slice none 0 0]) (t := 38) A M rfl rfl rfl pg (does_alloc (z := .agg #[.int .i64 0, .int .i64 0, .bool false, .slice none 0 0, .slice none 0 0, .bool false, .slice none 0 0, .slice none 0 0, .string (⟨#[]⟩), .slice none 0 0, .slice none 0 0]) (by kernel_rfl) rfl) (by decide) ?_
  intro g18 w19 M a A
  refine s_store (us := (u1.d.cells u1.ts.length)) (L' := (.obj g18 (.cells (u1.d.cells u1.ts.length).toArray 38) :: .obj g12 (.cells (t1.d.cells t1.ts.length).toArray 38) :: [])) A M rfl rfl (m_store rfl rfl rfl (by kernel_rfl) M 0 rfl rfl rfl) 0 rfl rfl rfl ?_
  intro w20 M
  refine seq_end (hK17 _ _ (wsk fun K21 hK21 => wrl (sdm A λa A↦?_)))
  refine sdo A (m_loadS M EqB_isS_38 rfl 1 rfl (cs := (t1.d.cells t1.ts.length)) rfl rfl) λa A↦?_
  refine sdo A (m_loadS M EqB_isS_38 rfl 0 rfl (cs := (u1.d.cells u1.ts.length)) rfl rfl) λa A↦?_
  refine gcl A M (ef rfl rfl) (ih (by have := bulkT mt1; omega) (Dt.keep M.bel _ rt1_) (Dt.keep M.bel _ ru1_) ((good_at gt).2.2 _ mt1) ((good_at gu).2.2 _ mu1)) fun w23 hb22 M a A => ?_
  refine sda A λa A↦?_
  refine seq_end (hK21 _ _ (wsk fun K24 hK24 => wrl (sdm A λa A↦?_)))
  rcases tf ((ordT t1.tr u1.tr != 0)) with hb25 | hb25
  ·
   have hb25' := bne_iff_ne.1 hb25
   refine sdc A bin_neq hb25 λa A↦?_
   refine seq_end (hK24 _ _ (wp_cond_true (A.ev rfl) ?_))
   refine wsk fun K26 hK26 => wrl (sdm A λa A↦?_)
   refine sda A λa A↦?_
   refine seq_end (hK26 _ _ (wp_ret (hret _ _ (en1 A rfl (res_tmp rfl) ?_))))
   exact ⟨by rw [hin9, ordL_go it1 iu1, lex_n hb25'], M.bel⟩
  ·
   have hb25' := bne_eq_false_iff_eq.1 hb25
   refine sdc A bin_neq hb25 λa A↦?_
   refine seq_end (hK24 _ _ (wp_cond_false (A.ev rfl) ?_))
   refine wp_skip (hK10 _ _ (wrl (sdo (v := .int .i64 (((i + 1 : Nat) : Int))) A (does_bin rfl rfl (fun w => (bin_add (i64In (by omega) (by omega)) w).trans (by rw [show (((i : Nat) : Int) + 1 : Int) = ((i + 1 : Nat) : Int) from by omega]))) λa A↦?_)))
   refine sdm A λa A↦?_
   refine seq_end ?_
   replace M : Mg w w23 ([]) := by
    have h9 := M.sub (.cons _ (.cons _ (.refl _)))
    exact h9
   refine hK5 _ _ _ (by omega) ⟨i + 1, rfl, ⟨by omega, by rw [hin9, ordL_go it1 iu1, hb25', lex_0]⟩, A.keep _ ⟨rfl, rfl, rfl, rfl, rfl, rfl, trivial⟩, M⟩
 ·
  have hb8' := of_decide_eq_false hb8
  refine sdc A bin_lss hb8 λa A↦?_
  refine seq_end (hK7 _ _ (wsk fun K27 hK27 => wp_cond_false (A.ev rfl) ?_))
  refine wp_exit (hK2 _ _ (wsk fun K28 hK28 => wsk fun K29 hK29 => wrl (sdm A λa A↦?_)))
  refine sdo A (does_len Tryz.underlying28 rfl) λa A↦?_
  refine sdm A λa A↦?_
  refine sdo A (does_len Tryz.underlying28 rfl) λa A↦?_
  refine sdo (v := .bool false) A (does_bin rfl rfl (fun w => (bin_lss w).trans (by rw [show (decide (((t.ts.length : Nat) : Int) < ((u.ts.length : Nat) : Int))) = false from (decide_eq_false (by omega))]))) λa A↦?_
  refine seq_end (hK29 _ _ (wp_cond_false (A.ev rfl) ?_))
  refine wp_skip (hK28 _ _ (wsk fun K30 hK30 => wrl (sda A λa A↦?_)))
  refine seq_end (hK30 _ _ (wp_ret (hret _ _ (en1 A rfl (res_tmp rfl) ?_))))
  exact ⟨by rw [hin9, ordL_end (by omega)], M.bel⟩
theorem vec_any {n : Nat} (ih : Orders n) {w : World} {t u : Dt} (ht : t.rd w) (hu : u.rd w) (gt : t.tr.good) (gu : u.tr.good) (hb : t.tr.bulk ≤ n) : Calls Tryz.prog 118 #[.slice t.d.lo t.ts.length t.d.lc, .slice u.d.lo u.ts.length u.d.lc] w fun e w' => e = .returned (.int .i64 (lex (cmpI (t.ts.length : Int) (u.ts.length : Int)) (ordL (t.ts.map Dt.tr) (u.ts.map Dt.tr)))) ∧ Below w.heap.size w w' := by
 have M : Mg w w ([]) := Mg.start w
 refine walk_of (l := [(0, .slice t.d.lo t.ts.length t.d.lc), (1, .slice u.d.lo u.ts.length u.d.lc)]) Tryz.func118 rfl Tryz.ntmps118 rfl rfl ?_
 intro Q hret hnorm hP a A
 refine wsk fun K1 hK1 => wrl (sda A λa A↦?_)
 refine seq_end (hK1 _ _ (wsk fun K2 hK2 => wsk fun K3 hK3 => wrl (sdm A λa A↦?_)))
 refine sdo A (does_len Tryz.underlying28 rfl) λa A↦?_
 refine sdm A λa A↦?_
 refine sdo A (does_len Tryz.underlying28 rfl) λa A↦?_
 rcases tf ((((t.ts.length : Nat) : Int) != ((u.ts.length : Nat) : Int))) with hb4 | hb4
 ·
  have hb4' := bne_iff_ne.1 hb4
  refine sdc A bin_neq hb4 λa A↦?_
  refine seq_end (hK3 _ _ (wp_cond_true (A.ev rfl) ?_))
  refine wsk fun K5 hK5 => wrl (sdm A λa A↦?_)
  refine sdo A (does_len Tryz.underlying28 rfl) λa A↦?_
  refine sdm A λa A↦?_
  refine sdo A (does_len Tryz.underlying28 rfl) λa A↦?_
  refine gcl A M (ef rfl rfl) (cmpi_any) fun w7 hb6 M a A => ?_
  refine sda A λa A↦?_
  refine seq_end (hK5 _ _ (wp_ret (hret _ _ (en1 A rfl (res_tmp rfl) ?_))))
  exact ⟨by rw [lex_n (fun e => hb4' (cmpI_zero e))], M.bel⟩
 ·
  have hb4' := bne_eq_false_iff_eq.1 hb4
  refine sdc A bin_neq hb4 λa A↦?_
  refine seq_end (hK3 _ _ (wp_cond_false (A.ev rfl) ?_))
  refine wp_skip (hK2 _ _ (wsk fun K8 hK8 => wrl ?_))
  iterate 2 refine sdm A λa A↦?_
  refine gcl A M (ef rfl rfl) (cmpF_any ih (Dt.keep M.bel _ ht) (Dt.keep M.bel _ hu) gt gu hb (by omega)) fun w9 hbv M a A => ?_
  refine sda A λa A↦?_
  refine seq_end (hK8 _ _ (wp_ret (hret _ _ (en1 A rfl (res_tmp rfl) ?_))))
  exact ⟨by rw [hb4', cmpI_self, lex_0], M.bel⟩
theorem orders_step {n : Nat} (ih : Orders n) : Orders (n + 1) := by
 intro w t u hn ht hu gt gu
 have M : Mg w w ([]) := Mg.start w
 refine walk_of (l := [(0, .agg (t.d.cells t.ts.length).toArray), (1, .agg (u.d.cells u.ts.length).toArray)]) Tryz.func77 rfl Tryz.ntmps77 rfl rfl ?_
 intro Q hret hnorm hP a A
 refine wsk fun K1 hK1 => wrl (s_new (vs := (t.d.cells t.ts.length)) (t := 38) A M rfl rfl rfl pg (does_box rfl rfl) (by decide) ?_)
 intro g2 w3 M a A
 refine s_new (vs := (u.d.cells u.ts.length)) (t := 38) A M rfl rfl rfl pg (does_box rfl rfl) (by decide) ?_
 intro g4 w5 M a A
 refine sda A λa A↦?_
 refine seq_end (hK1 _ _ (wsk fun K6 hK6 => wp_block (wp_loop_n (fun m_ a w1 => ∃ (p : Dt) (r : Dt), m_ = 1 + p.tr.bulk ∧ (p.rd w ∧ r.rd w ∧ p.tr.good ∧ r.tr.good ∧ p.tr.bulk ≤ t.tr.bulk ∧ ordT t.tr u.tr = ordT p.tr r.tr) ∧ Sl a 84 [(0, .agg (t.d.cells t.ts.length).toArray), (1, .agg (u.d.cells u.ts.length).toArray), (2, .pointer (some ⟨g2, 0, none⟩)), (3, .pointer (some ⟨g4, 0, none⟩))] ∧ Mg w w1 (.obj g4 (.cells (r.d.cells r.ts.length).toArray 38) :: .obj g2 (.cells (p.d.cells p.ts.length).toArray 38) :: [])) _ ⟨t, u, rfl, ⟨ht, hu, gt, gu, Nat.le_refl _, rfl⟩, A.keep _ ⟨rfl, rfl, rfl, rfl, trivial⟩, M⟩ ?_)))
 clear M A
 rintro m_ a w7 ⟨p, r, rfl, hinv9, A, M⟩ K8 hK8
 obtain ⟨hp, hr, gp, gr, hbk, hin9⟩ := hinv9
 refine wsk fun K10 hK10 => wsk fun K11 hK11 => wrl (sdo (v := .pointer (some ⟨g2, 0, none⟩)) A (does_field EqB_fld_38_0 rfl rfl) λa A↦?_)
 refine sdo A (m_load1 M EqB_is1_3 rfl 1 rfl rfl) λa A↦?_
 rcases tf ((p.d.k == 8)) with hb12 | hb12
 ·
  have hb12' := eq_of_beq hb12
  refine sdc A bin_eql hb12 λa A↦?_
  refine sdm A λa A↦?_
  refine sdo (v := .pointer (some ⟨g4, 0, none⟩)) A (does_field EqB_fld_38_0 rfl rfl) λa A↦?_
  refine sdo A (m_load1 M EqB_is1_3 rfl 0 rfl rfl) λa A↦?_
  rcases tf ((r.d.k == 8)) with hb13 | hb13
  ·
   have hb13' := eq_of_beq hb13
   refine sdc A bin_eql hb13 λa A↦?_
   refine sdk (v := .bool true) A λa A↦?_
   refine seq_end (hK11 _ _ (wp_cond_true (A.ev rfl) ?_))
   refine wp_skip (hK10 _ _ (wp_block (wsk fun K14 hK14 => wsk fun K15 hK15 => ?_)))
   have l2p := (good_at gp).1.h8 hb12'
   have l2r := (good_at gr).1.h8 hb13'
   obtain ⟨p0, bp0, op0, ip0, mp0, rp0_, lp0, Hp0⟩ := kidT hp (i := 0) (by omega)
   obtain ⟨p1, bp1, op1, ip1, mp1, rp1_, lp1, Hp1⟩ := kidT hp (i := 1) (by omega)
   obtain ⟨r0, br0, or0, ir0, mr0, rr0_, lr0, Hr0⟩ := kidT hr (i := 0) (by omega)
   obtain ⟨r1, br1, or1, ir1, mr1, rr1_, lr1, Hr1⟩ := kidT hr (i := 1) (by omega)
   have hpq := ord_pair hb12' hb13' l2p l2r ip0 ip1 ir0 ir1
   refine wp_draw (S := fun w1 => Mg w w1 (.obj g4 (.cells (r.d.cells r.ts.length).toArray 38) :: .obj g2 (.cells (p.d.cells p.ts.length).toArray 38) :: [])) (by kernel_rfl) ?_
   replace M := M.drew
   refine any_tk (v := .pointer (some ⟨g2, 10, none⟩)) A 0 rfl rfl rfl rfl hP (M.sub (.cons_cons _ (.cons_cons _ (List.nil_sublist _)))) (fun w1 M => does_field EqB_fld_38_5 rfl rfl) λa A↦?_
   refine any_tk A 1 rfl rfl rfl rfl hP (M.sub (.cons_cons _ (.cons_cons _ (List.nil_sublist _)))) (fun w1 M => m_load1 M EqB_is1_28 rfl 1 rfl rfl) λa A↦?_
   refine any_tk (v := .pointer (some ⟨bp0, op0 + 0 * 11, none⟩)) A 2 rfl rfl rfl rfl hP (M.sub (.cons_cons _ (.cons_cons _ (List.nil_sublist _)))) (fun w1 M => does_indexD (k := 0) Tryz.underlying28 (by kernel_rfl) rfl rfl rfl lp0 (by omega)) λa A↦?_
   refine any_tk A 3 rfl rfl rfl rfl hP (M.sub (.cons_cons _ (.cons_cons _ (List.nil_sublist _)))) (fun w1 M => m_loadHS M Hp0 EqB_isS_38 rfl rfl) λa A↦?_
   refine any_tk (v := .pointer (some ⟨g4, 10, none⟩)) A 4 rfl rfl rfl rfl hP (M.sub (.cons_cons _ (.cons_cons _ (List.nil_sublist _)))) (fun w1 M => does_field EqB_fld_38_5 rfl rfl) λa A↦?_
   refine any_tk A 5 rfl rfl rfl rfl hP (M.sub (.cons_cons _ (.cons_cons _ (List.nil_sublist _)))) (fun w1 M => m_load1 M EqB_is1_28 rfl 0 rfl rfl) λa A↦?_
   refine any_tk (v := .pointer (some ⟨br0, or0 + 0 * 11, none⟩)) A 6 rfl rfl rfl rfl hP (M.sub (.cons_cons _ (.cons_cons _ (List.nil_sublist _)))) (fun w1 M => does_indexD (k := 0) Tryz.underlying28 (by kernel_rfl) rfl rfl rfl lr0 (by omega)) λa A↦?_
   refine any_tk A 7 rfl rfl rfl rfl hP (M.sub (.cons_cons _ (.cons_cons _ (List.nil_sublist _)))) (fun w1 M => m_loadHS M Hr0 EqB_isS_38 rfl rfl) λa A↦?_
   refine any_one (by kernel_rfl) (op_call A 8 rfl rfl rfl rfl (enters_func rfl rfl (fun w => by kernel_rfl)) (ih (by have := bulkT mp0; omega) (Dt.keep M.bel _ rp0_) (Dt.keep M.bel _ rr0_) ((good_at gp).2.2 _ mp0) ((good_at gr).2.2 _ mr0)) ?_)
   rintro _ w17 ⟨rfl, hb16⟩
   replace M := M.call hb16
   refine ⟨_, rfl, (M.sub (.cons_cons _ (.cons_cons _ (List.nil_sublist _)))), ?_⟩
   intro a A
   refine any_tk A 9 rfl rfl rfl rfl hP (M.sub (.cons_cons _ (.cons_cons _ (List.nil_sublist _)))) (fun w1 M => does_assign rfl) λa A↦?_
   refine any_end (by kernel_rfl) ?_
   refine hK15 _ _ (wsk fun K18 hK18 => wrl (sdm A λa A↦?_))
   rcases tf ((ordT p0.tr r0.tr != 0)) with hb19 | hb19
   ·
    have hb19' := bne_iff_ne.1 hb19
    refine sdc A bin_neq hb19 λa A↦?_
    refine seq_end (hK18 _ _ (wp_cond_true (A.ev rfl) ?_))
    refine wsk fun K20 hK20 => wrl (sdm A λa A↦?_)
    refine sda A λa A↦?_
    refine seq_end (hK20 _ _ (wp_ret (hret _ _ (en1 A rfl (res_tmp rfl) ?_))))
    exact ⟨by rw [hin9, hpq, lex_n hb19'], M.bel⟩
   ·
    have hb19' := bne_eq_false_iff_eq.1 hb19
    refine sdc A bin_neq hb19 λa A↦?_
    refine seq_end (hK18 _ _ (wp_cond_false (A.ev rfl) ?_))
    refine wp_skip (hK14 _ _ ?_)
    have hJ21 : ∀ a w1, (∃ (z_ : Unit), Sl a 84 [(0, .agg (t.d.cells t.ts.length).toArray), (1, .agg (u.d.cells u.ts.length).toArray), (2, .pointer (some ⟨g2, 0, none⟩)), (3, .pointer (some ⟨g4, 0, none⟩)), (5, .int .i64 (ordT p0.tr r0.tr)), (6, .pointer (some ⟨g2, 0, none⟩)), (7, .int .i64 p.d.k), (8, .bool true), (9, .bool true), (10, .pointer (some ⟨g4, 0, none⟩)), (11, .int .i64 r.d.k), (12, .bool true), (13, .bool true), (14, .pointer (some ⟨g2, 10, none⟩)), (15, .slice p.d.lo p.ts.length p.d.lc), (16, .pointer (some ⟨bp0, op0 + 0 * 11, none⟩)), (17, .agg (p0.d.cells p0.ts.length).toArray), (18, .pointer (some ⟨g4, 10, none⟩)), (19, .slice r.d.lo r.ts.length r.d.lc), (20, .pointer (some ⟨br0, or0 + 0 * 11, none⟩)), (21, .agg (r0.d.cells r0.ts.length).toArray), (22, .int .i64 (ordT p0.tr r0.tr)), (23, .int .i64 (ordT p0.tr r0.tr)), (24, .bool false)] ∧ Mg w w1 (.obj g4 (.cells (r1.d.cells r1.ts.length).toArray 38) :: .obj g2 (.cells (p1.d.cells p1.ts.length).toArray 38) :: [])) → K8 a w1 := by
     clear A M
     rintro a w22 ⟨z_, A, M⟩
     refine hK8 _ _ _ (by have := bulkT mp1; omega) ⟨p1, r1, rfl, ⟨rp1_, rr1_, (good_at gp).2.2 _ mp1, (good_at gr).2.2 _ mr1, by have := bulkT mp1; omega, by rw [hin9, hpq, hb19', lex_0]⟩, A.keep _ ⟨rfl, rfl, rfl, rfl, trivial⟩, M⟩
    refine wp_draw (S := fun w1 => Mg w w1 ([])) (by kernel_rfl) ?_
    replace M := M.drew
    refine any_tk (v := .pointer (some ⟨g2, 10, none⟩)) A 0 rfl rfl rfl rfl hP (M.sub (.cons _ (.cons _ (List.nil_sublist _)))) (fun w1 M => does_field EqB_fld_38_5 rfl rfl) λa A↦?_
    refine any_tk (v := .pointer (some ⟨g4, 10, none⟩)) A 4 rfl rfl rfl rfl hP (M.sub (.cons _ (.cons _ (List.nil_sublist _)))) (fun w1 M => does_field EqB_fld_38_5 rfl rfl) λa A↦?_
    refine any_many (rs := [1, 5]) (by kernel_rfl) (by simp) ⟨?_, ?_, trivial⟩
    ·
     refine op_do A 1 rfl rfl rfl rfl (m_load1 M EqB_is1_28 rfl 1 rfl rfl) (M.sub (.cons _ (.cons _ (List.nil_sublist _)))) λa A↦?_
     refine any_tk (v := .pointer (some ⟨bp1, op1 + 1 * 11, none⟩)) A 2 rfl rfl rfl rfl hP (M.sub (.cons _ (.cons _ (List.nil_sublist _)))) (fun w1 M => does_indexD (k := 1) Tryz.underlying28 (by kernel_rfl) rfl rfl rfl lp1 (by omega)) λa A↦?_
     refine any_tk A 3 rfl rfl rfl rfl hP (M.sub (.cons _ (.cons _ (List.nil_sublist _)))) (fun w1 M => m_loadHS M Hp1 EqB_isS_38 rfl rfl) λa A↦?_
     refine any_many (rs := [5, 8]) (by kernel_rfl) (by simp) ⟨?_, ?_, trivial⟩
     ·
      refine op_do A 5 rfl rfl rfl rfl (m_load1 M EqB_is1_28 rfl 0 rfl rfl) (M.sub (.cons _ (.cons _ (List.nil_sublist _)))) λa A↦?_
      refine any_tk (v := .pointer (some ⟨br1, or1 + 1 * 11, none⟩)) A 6 rfl rfl rfl rfl hP (M.sub (.cons _ (.cons _ (List.nil_sublist _)))) (fun w1 M => does_indexD (k := 1) Tryz.underlying28 (by kernel_rfl) rfl rfl rfl lr1 (by omega)) λa A↦?_
      refine any_tk A 7 rfl rfl rfl rfl hP (M.sub (.cons _ (.cons _ (List.nil_sublist _)))) (fun w1 M => m_loadHS M Hr1 EqB_isS_38 rfl rfl) λa A↦?_
      refine any_one (by kernel_rfl) (g_store (us := (p1.d.cells p1.ts.length)) (L' := (.obj g4 (.cells (r.d.cells r.ts.length).toArray 38) :: .obj g2 (.cells (p1.d.cells p1.ts.length).toArray 38) :: [])) A M 8 rfl rfl rfl (m_store rfl rfl rfl (by kernel_rfl) M 1 rfl rfl rfl) 1 rfl rfl rfl ?_)
      intro w23 M
      refine ⟨(M.sub (.cons _ (.cons _ (List.nil_sublist _)))), ?_⟩
      refine any_one (by kernel_rfl) (g_store (us := (r1.d.cells r1.ts.length)) (L' := (.obj g4 (.cells (r1.d.cells r1.ts.length).toArray 38) :: .obj g2 (.cells (p1.d.cells p1.ts.length).toArray 38) :: [])) A M 9 rfl rfl rfl (m_store rfl rfl rfl (by kernel_rfl) M 0 rfl rfl rfl) 0 rfl rfl rfl ?_)
      intro w24 M
      refine ⟨(M.sub (.cons _ (.cons _ (List.nil_sublist _)))), ?_⟩
      refine any_end (by kernel_rfl) ?_
      exact hJ21 _ _ ⟨(), A.keep _ ⟨rfl, rfl, rfl, rfl, rfl, rfl, rfl, rfl, rfl, rfl, rfl, rfl, rfl, rfl, rfl, rfl, rfl, rfl, rfl, rfl, rfl, rfl, rfl, rfl, trivial⟩, M⟩
     ·
      refine g_store (us := (p1.d.cells p1.ts.length)) (L' := (.obj g4 (.cells (r.d.cells r.ts.length).toArray 38) :: .obj g2 (.cells (p1.d.cells p1.ts.length).toArray 38) :: [])) A M 8 rfl rfl rfl (m_store rfl rfl rfl (by kernel_rfl) M 1 rfl rfl rfl) 1 rfl rfl rfl ?_
      intro w25 M
      refine ⟨(M.sub (.cons _ (.cons _ (List.nil_sublist _)))), ?_⟩
      refine any_one (by kernel_rfl) (op_do A 5 rfl rfl rfl rfl (m_load1 M EqB_is1_28 rfl 0 rfl rfl) (M.sub (.cons _ (.cons _ (List.nil_sublist _)))) ?_)
      intro a A
      refine any_tk (v := .pointer (some ⟨br1, or1 + 1 * 11, none⟩)) A 6 rfl rfl rfl rfl hP (M.sub (.cons _ (.cons _ (List.nil_sublist _)))) (fun w1 M => does_indexD (k := 1) Tryz.underlying28 (by kernel_rfl) rfl rfl rfl lr1 (by omega)) λa A↦?_
      refine any_tk A 7 rfl rfl rfl rfl hP (M.sub (.cons _ (.cons _ (List.nil_sublist _)))) (fun w1 M => m_loadHS M Hr1 EqB_isS_38 rfl rfl) λa A↦?_
      refine any_one (by kernel_rfl) (g_store (us := (r1.d.cells r1.ts.length)) (L' := (.obj g4 (.cells (r1.d.cells r1.ts.length).toArray 38) :: .obj g2 (.cells (p1.d.cells p1.ts.length).toArray 38) :: [])) A M 9 rfl rfl rfl (m_store rfl rfl rfl (by kernel_rfl) M 0 rfl rfl rfl) 0 rfl rfl rfl ?_)
      intro w26 M
      refine ⟨(M.sub (.cons _ (.cons _ (List.nil_sublist _)))), ?_⟩
      refine any_end (by kernel_rfl) ?_
      exact hJ21 _ _ ⟨(), A.keep _ ⟨rfl, rfl, rfl, rfl, rfl, rfl, rfl, rfl, rfl, rfl, rfl, rfl, rfl, rfl, rfl, rfl, rfl, rfl, rfl, rfl, rfl, rfl, rfl, rfl, trivial⟩, M⟩
    ·
     refine op_do A 5 rfl rfl rfl rfl (m_load1 M EqB_is1_28 rfl 0 rfl rfl) (M.sub (.cons _ (.cons _ (List.nil_sublist _)))) λa A↦?_
     refine any_tk (v := .pointer (some ⟨br1, or1 + 1 * 11, none⟩)) A 6 rfl rfl rfl rfl hP (M.sub (.cons _ (.cons _ (List.nil_sublist _)))) (fun w1 M => does_indexD (k := 1) Tryz.underlying28 (by kernel_rfl) rfl rfl rfl lr1 (by omega)) λa A↦?_
     refine any_tk A 7 rfl rfl rfl rfl hP (M.sub (.cons _ (.cons _ (List.nil_sublist _)))) (fun w1 M => m_loadHS M Hr1 EqB_isS_38 rfl rfl) λa A↦?_
     refine any_one (by kernel_rfl) (op_do A 1 rfl rfl rfl rfl (m_load1 M EqB_is1_28 rfl 1 rfl rfl) (M.sub (.cons _ (.cons _ (List.nil_sublist _)))) ?_)
     intro a A
     refine any_tk (v := .pointer (some ⟨bp1, op1 + 1 * 11, none⟩)) A 2 rfl rfl rfl rfl hP (M.sub (.cons _ (.cons _ (List.nil_sublist _)))) (fun w1 M => does_indexD (k := 1) Tryz.underlying28 (by kernel_rfl) rfl rfl rfl lp1 (by omega)) λa A↦?_
     refine any_tk A 3 rfl rfl rfl rfl hP (M.sub (.cons _ (.cons _ (List.nil_sublist _)))) (fun w1 M => m_loadHS M Hp1 EqB_isS_38 rfl rfl) λa A↦?_
     refine any_one (by kernel_rfl) (g_store (us := (p1.d.cells p1.ts.length)) (L' := (.obj g4 (.cells (r.d.cells r.ts.length).toArray 38) :: .obj g2 (.cells (p1.d.cells p1.ts.length).toArray 38) :: [])) A M 8 rfl rfl rfl (m_store rfl rfl rfl (by kernel_rfl) M 1 rfl rfl rfl) 1 rfl rfl rfl ?_)
     intro w27 M
     refine ⟨(M.sub (.cons _ (.cons _ (List.nil_sublist _)))), ?_⟩
     refine any_one (by kernel_rfl) (g_store (us := (r1.d.cells r1.ts.length)) (L' := (.obj g4 (.cells (r1.d.cells r1.ts.length).toArray 38) :: .obj g2 (.cells (p1.d.cells p1.ts.length).toArray 38) :: [])) A M 9 rfl rfl rfl (m_store rfl rfl rfl (by kernel_rfl) M 0 rfl rfl rfl) 0 rfl rfl rfl ?_)
     intro w28 M
     refine ⟨(M.sub (.cons _ (.cons _ (List.nil_sublist _)))), ?_⟩
     refine any_end (by kernel_rfl) ?_
     exact hJ21 _ _ ⟨(), A.keep _ ⟨rfl, rfl, rfl, rfl, rfl, rfl, rfl, rfl, rfl, rfl, rfl, rfl, rfl, rfl, rfl, rfl, rfl, rfl, rfl, rfl, rfl, rfl, rfl, rfl, trivial⟩, M⟩
  ·
   have hb13' := ne_of_beq_false hb13
   refine sdc A bin_eql hb13 λa A↦?_
   refine sdk (v := .bool false) A λa A↦?_
   refine seq_end (hK11 _ _ (wp_cond_false (A.ev rfl) ?_))
   refine wp_exit (hK6 _ _ (wsk fun K29 hK29 => wsk fun K30 hK30 => wrl (sdo (v := .pointer (some ⟨g2, 0, none⟩)) A (does_field EqB_fld_38_0 rfl rfl) λa A↦?_)))
   refine sdo A (m_load1 M EqB_is1_3 rfl 1 rfl rfl) λa A↦?_
   refine sdo (v := .pointer (some ⟨g4, 0, none⟩)) A (does_field EqB_fld_38_0 rfl rfl) λa A↦?_
   refine sdo A (m_load1 M EqB_is1_3 rfl 0 rfl rfl) λa A↦?_
   refine sdo (v := .bool true) A (does_bin rfl rfl (fun w => (bin_neq w).trans (by rw [show ((p.d.k != r.d.k)) = true from (bne_iff_ne.2 (by omega))]))) λa A↦?_
   refine seq_end (hK30 _ _ (wp_cond_true (A.ev rfl) ?_))
   refine wsk fun K31 hK31 => wrl (sdo (v := .pointer (some ⟨g2, 0, none⟩)) A (does_field EqB_fld_38_0 rfl rfl) λa A↦?_)
   refine sdo A (m_load1 M EqB_is1_3 rfl 1 rfl rfl) λa A↦?_
   refine sdo (v := .pointer (some ⟨g4, 0, none⟩)) A (does_field EqB_fld_38_0 rfl rfl) λa A↦?_
   refine sdo A (m_load1 M EqB_is1_3 rfl 0 rfl rfl) λa A↦?_
   refine gcl A M (ef rfl rfl) (cmpi_any) fun w33 hb32 M a A => ?_
   refine sda A λa A↦?_
   refine seq_end (hK31 _ _ (wp_ret (hret _ _ (en1 A rfl (res_tmp rfl) ?_))))
   exact ⟨by rw [hin9, ord_kind (by omega)], M.bel⟩
 ·
  have hb12' := ne_of_beq_false hb12
  refine sdc A bin_eql hb12 λa A↦?_
  refine sdm A λa A↦?_
  iterate 3 refine seq_skip A rfl rfl rfl λa A↦?_
  refine sdk (v := .bool false) A λa A↦?_
  refine seq_end (hK11 _ _ (wp_cond_false (A.ev rfl) ?_))
  refine wp_exit (hK6 _ _ (wsk fun K34 hK34 => wsk fun K35 hK35 => wrl (sdo (v := .pointer (some ⟨g2, 0, none⟩)) A (does_field EqB_fld_38_0 rfl rfl) λa A↦?_)))
  refine sdo A (m_load1 M EqB_is1_3 rfl 1 rfl rfl) λa A↦?_
  refine sdo (v := .pointer (some ⟨g4, 0, none⟩)) A (does_field EqB_fld_38_0 rfl rfl) λa A↦?_
  refine sdo A (m_load1 M EqB_is1_3 rfl 0 rfl rfl) λa A↦?_
  rcases tf ((p.d.k != r.d.k)) with hb36 | hb36
  ·
   have hb36' := bne_iff_ne.1 hb36
   refine sdc A bin_neq hb36 λa A↦?_
   refine seq_end (hK35 _ _ (wp_cond_true (A.ev rfl) ?_))
   refine wsk fun K37 hK37 => wrl (sdo (v := .pointer (some ⟨g2, 0, none⟩)) A (does_field EqB_fld_38_0 rfl rfl) λa A↦?_)
   refine sdo A (m_load1 M EqB_is1_3 rfl 1 rfl rfl) λa A↦?_
   refine sdo (v := .pointer (some ⟨g4, 0, none⟩)) A (does_field EqB_fld_38_0 rfl rfl) λa A↦?_
   refine sdo A (m_load1 M EqB_is1_3 rfl 0 rfl rfl) λa A↦?_
   refine gcl A M (ef rfl rfl) (cmpi_any) fun w39 hb38 M a A => ?_
   refine sda A λa A↦?_
   refine seq_end (hK37 _ _ (wp_ret (hret _ _ (en1 A rfl (res_tmp rfl) ?_))))
   exact ⟨by rw [hin9, ord_kind (by omega)], M.bel⟩
  ·
   have hb36' := bne_eq_false_iff_eq.1 hb36
   refine sdc A bin_neq hb36 λa A↦?_
   refine seq_end (hK35 _ _ (wp_cond_false (A.ev rfl) ?_))
   refine wp_skip (hK34 _ _ (wsk fun K40 hK40 => wsk fun K41 hK41 => wrl (sdo (v := .pointer (some ⟨g2, 0, none⟩)) A (does_field EqB_fld_38_0 rfl rfl) λa A↦?_)))
   refine sdo A (m_load1 M EqB_is1_3 rfl 1 rfl rfl) λa A↦?_
   refine seq_end (hK41 _ _ (wp_block (wsk fun K42 hK42 => wsk fun K43 hK43 => wrl ?_)))
   rcases tf ((p.d.k == 2)) with hb44 | hb44
   ·
    have hb44' := eq_of_beq hb44
    refine sdc A bin_eql hb44 λa A↦?_
    refine sda A λa A↦?_
    refine seq_end (hK43 _ _ (wp_cond_true (A.ev rfl) ?_))
    refine wp_skip (hK42 _ _ (wp_cond_true (A.ev rfl) ?_))
    refine wsk fun K45 hK45 => wrl (sdo (v := .pointer (some ⟨g2, 1, none⟩)) A (does_field EqB_fld_38_1 rfl rfl) λa A↦?_)
    refine sdo A (m_load1 M EqB_is1_3 rfl 1 rfl rfl) λa A↦?_
    refine sdo (v := .pointer (some ⟨g4, 1, none⟩)) A (does_field EqB_fld_38_1 rfl rfl) λa A↦?_
    refine sdo A (m_load1 M EqB_is1_3 rfl 0 rfl rfl) λa A↦?_
    refine gcl A M (ef rfl rfl) (cmpi_any) fun w47 hb46 M a A => ?_
    refine sda A λa A↦?_
    refine seq_end (hK45 _ _ (wp_ret (hret _ _ (en1 A rfl (res_tmp rfl) ?_))))
    exact ⟨by
     rw [hin9, ord_end gp gr (by omega) (by omega)]
     repeat (first | rw [if_pos (by omega)] | rw [if_neg (by omega)]), M.bel⟩
   ·
    have hb44' := ne_of_beq_false hb44
    refine sdc A bin_eql hb44 λa A↦?_
    refine sda A λa A↦?_
    refine seq_end (hK43 _ _ (wp_cond_false (A.ev rfl) ?_))
    refine wrl ?_
    rcases tf ((p.d.k == 4)) with hb48 | hb48
    ·
     have hb48' := eq_of_beq hb48
     refine sdc A bin_eql hb48 λa A↦?_
     refine sda A λa A↦?_
     refine seq_end (hK42 _ _ (wp_cond_true (A.ev rfl) ?_))
     refine wsk fun K49 hK49 => wrl (sdo (v := .pointer (some ⟨g2, 1, none⟩)) A (does_field EqB_fld_38_1 rfl rfl) λa A↦?_)
     refine sdo A (m_load1 M EqB_is1_3 rfl 1 rfl rfl) λa A↦?_
     refine sdo (v := .pointer (some ⟨g4, 1, none⟩)) A (does_field EqB_fld_38_1 rfl rfl) λa A↦?_
     refine sdo A (m_load1 M EqB_is1_3 rfl 0 rfl rfl) λa A↦?_
     refine gcl A M (ef rfl rfl) (cmpi_any) fun w51 hb50 M a A => ?_
     refine sda A λa A↦?_
     refine seq_end (hK49 _ _ (wp_ret (hret _ _ (en1 A rfl (res_tmp rfl) ?_))))
     exact ⟨by
      rw [hin9, ord_end gp gr (by omega) (by omega)]
      repeat (first | rw [if_pos (by omega)] | rw [if_neg (by omega)]), M.bel⟩
    ·
     have hb48' := ne_of_beq_false hb48
     refine sdc A bin_eql hb48 λa A↦?_
     refine sda A λa A↦?_
     refine seq_end (hK42 _ _ (wp_cond_false (A.ev rfl) ?_))
     refine wsk fun K52 hK52 => wrl ?_
     rcases tf ((p.d.k == 3)) with hb53 | hb53
     ·
      have hb53' := eq_of_beq hb53
      refine sdc A bin_eql hb53 λa A↦?_
      refine sda A λa A↦?_
      refine seq_end (hK52 _ _ (wp_cond_true (A.ev rfl) ?_))
      refine wsk fun K54 hK54 => wrl (sdo (v := .pointer (some ⟨g2, 2, none⟩)) A (does_field EqB_fld_38_2 rfl rfl) λa A↦?_)
      refine sdo A (m_loadS M EqB_isS_35 rfl 1 rfl (cs := [.bool p.d.y.q.b1, .slice p.d.y.o1 p.d.y.q.t1.length p.d.y.c1, .slice p.d.y.o2 p.d.y.q.q1.length p.d.y.c2, .bool p.d.y.q.b2, .slice p.d.y.o3 p.d.y.q.t2.length p.d.y.c3, .slice p.d.y.o4 p.d.y.q.q2.length p.d.y.c4]) rfl rfl) λa A↦?_
      refine sdo (v := .pointer (some ⟨g4, 2, none⟩)) A (does_field EqB_fld_38_2 rfl rfl) λa A↦?_
      refine sdo A (m_loadS M EqB_isS_35 rfl 0 rfl (cs := [.bool r.d.y.q.b1, .slice r.d.y.o1 r.d.y.q.t1.length r.d.y.c1, .slice r.d.y.o2 r.d.y.q.q1.length r.d.y.c2, .bool r.d.y.q.b2, .slice r.d.y.o3 r.d.y.q.t2.length r.d.y.c3, .slice r.d.y.o4 r.d.y.q.q2.length r.d.y.c4]) rfl rfl) λa A↦?_
      refine gcl A M (ef rfl rfl) (ordQ_any (y := p.d.y) (z := r.d.y) (Nu.below (Dt.okT hp).1.num M.bel) (Nu.below (Dt.okT hr).1.num M.bel) ((good_at gp).2.1 (by omega)) ((good_at gr).2.1 (by omega))) fun w55 hbn M a A => ?_
      refine sda A λa A↦?_
      refine seq_end (hK54 _ _ (wp_ret (hret _ _ (en1 A rfl (res_tmp rfl) ?_))))
      exact ⟨by
       rw [hin9, ord_end gp gr (by omega) (by omega)]
       repeat (first | rw [if_pos (by omega)] | rw [if_neg (by omega)]), M.bel⟩
     ·
      have hb53' := ne_of_beq_false hb53
      refine sdc A bin_eql hb53 λa A↦?_
      refine sda A λa A↦?_
      refine seq_end (hK52 _ _ (wp_cond_false (A.ev rfl) ?_))
      refine wsk fun K56 hK56 => wsk fun K57 hK57 => wrl ?_
      rcases tf ((p.d.k == 5)) with hb58 | hb58
      ·
       have hb58' := eq_of_beq hb58
       refine sdc A bin_eql hb58 λa A↦?_
       refine sda A λa A↦?_
       refine seq_end (hK57 _ _ (wp_cond_true (A.ev rfl) ?_))
       refine wp_skip (hK56 _ _ (wp_cond_true (A.ev rfl) ?_))
       refine wsk fun K59 hK59 => wrl (sdo (v := .pointer (some ⟨g2, 8, none⟩)) A (does_field EqB_fld_38_3 rfl rfl) λa A↦?_)
       refine sdo A (m_load1 M EqB_is1_9 rfl 1 rfl rfl) λa A↦?_
       refine sdo (v := .pointer (some ⟨g4, 8, none⟩)) A (does_field EqB_fld_38_3 rfl rfl) λa A↦?_
       refine sdo A (m_load1 M EqB_is1_9 rfl 0 rfl rfl) λa A↦?_
       refine gcl A M (ef rfl rfl) (scmp_any) fun w61 hb60 M a A => ?_
       refine sda A λa A↦?_
       refine seq_end (hK59 _ _ (wp_ret (hret _ _ (en1 A rfl (res_tmp rfl) ?_))))
       exact ⟨by
        rw [hin9, ord_end gp gr (by omega) (by omega)]
        repeat (first | rw [if_pos (by omega)] | rw [if_neg (by omega)]), M.bel⟩
      ·
       have hb58' := ne_of_beq_false hb58
       refine sdc A bin_eql hb58 λa A↦?_
       refine sda A λa A↦?_
       refine seq_end (hK57 _ _ (wp_cond_false (A.ev rfl) ?_))
       refine wsk fun K62 hK62 => wrl ?_
       rcases tf ((p.d.k == 6)) with hb63 | hb63
       ·
        have hb63' := eq_of_beq hb63
        refine sdc A bin_eql hb63 λa A↦?_
        refine sda A λa A↦?_
        refine seq_end (hK62 _ _ (wp_cond_true (A.ev rfl) ?_))
        refine wp_skip (hK56 _ _ (wp_cond_true (A.ev rfl) ?_))
        refine wsk fun K64 hK64 => wrl (sdo (v := .pointer (some ⟨g2, 8, none⟩)) A (does_field EqB_fld_38_3 rfl rfl) λa A↦?_)
        refine sdo A (m_load1 M EqB_is1_9 rfl 1 rfl rfl) λa A↦?_
        refine sdo (v := .pointer (some ⟨g4, 8, none⟩)) A (does_field EqB_fld_38_3 rfl rfl) λa A↦?_
        refine sdo A (m_load1 M EqB_is1_9 rfl 0 rfl rfl) λa A↦?_
        refine gcl A M (ef rfl rfl) (scmp_any) fun w66 hb65 M a A => ?_
        refine sda A λa A↦?_
        refine seq_end (hK64 _ _ (wp_ret (hret _ _ (en1 A rfl (res_tmp rfl) ?_))))
        exact ⟨by
         rw [hin9, ord_end gp gr (by omega) (by omega)]
         repeat (first | rw [if_pos (by omega)] | rw [if_neg (by omega)]), M.bel⟩
       ·
        have hb63' := ne_of_beq_false hb63
        refine sdc A bin_eql hb63 λa A↦?_
        refine sda A λa A↦?_
        refine seq_end (hK62 _ _ (wp_cond_false (A.ev rfl) ?_))
        refine wrl ?_
        rcases tf ((p.d.k == 11)) with hb67 | hb67
        ·
         have hb67' := eq_of_beq hb67
         refine sdc A bin_eql hb67 λa A↦?_
         refine sda A λa A↦?_
         refine seq_end (hK56 _ _ (wp_cond_true (A.ev rfl) ?_))
         refine wsk fun K68 hK68 => wrl (sdo (v := .pointer (some ⟨g2, 8, none⟩)) A (does_field EqB_fld_38_3 rfl rfl) λa A↦?_)
         refine sdo A (m_load1 M EqB_is1_9 rfl 1 rfl rfl) λa A↦?_
         refine sdo (v := .pointer (some ⟨g4, 8, none⟩)) A (does_field EqB_fld_38_3 rfl rfl) λa A↦?_
         refine sdo A (m_load1 M EqB_is1_9 rfl 0 rfl rfl) λa A↦?_
         refine gcl A M (ef rfl rfl) (scmp_any) fun w70 hb69 M a A => ?_
         refine sda A λa A↦?_
         refine seq_end (hK68 _ _ (wp_ret (hret _ _ (en1 A rfl (res_tmp rfl) ?_))))
         exact ⟨by
          rw [hin9, ord_end gp gr (by omega) (by omega)]
          repeat (first | rw [if_pos (by omega)] | rw [if_neg (by omega)]), M.bel⟩
        ·
         have hb67' := ne_of_beq_false hb67
         refine sdc A bin_eql hb67 λa A↦?_
         refine sda A λa A↦?_
         refine seq_end (hK56 _ _ (wp_cond_false (A.ev rfl) ?_))
         refine wsk fun K71 hK71 => wrl ?_
         rcases tf ((p.d.k == 7)) with hb72 | hb72
         ·
          have hb72' := eq_of_beq hb72
          refine sdc A bin_eql hb72 λa A↦?_
          refine sda A λa A↦?_
          refine seq_end (hK71 _ _ (wp_cond_true (A.ev rfl) ?_))
          refine wsk fun K73 hK73 => wrl (sdo (v := .pointer (some ⟨g2, 9, none⟩)) A (does_field EqB_fld_38_4 rfl rfl) λa A↦?_)
          refine sdo A (m_load1 M EqB_is1_36 rfl 1 rfl rfl) λa A↦?_
          refine sdo (v := .pointer (some ⟨g4, 9, none⟩)) A (does_field EqB_fld_38_4 rfl rfl) λa A↦?_
          refine sdo A (m_load1 M EqB_is1_36 rfl 0 rfl rfl) λa A↦?_
          refine gcl A M (ef rfl rfl) (bcmp_any ((Dt.okT hp).1.raw.below M.bel) ((Dt.okT hr).1.raw.below M.bel)) fun w75 hb74 M a A => ?_
          refine sda A λa A↦?_
          refine seq_end (hK73 _ _ (wp_ret (hret _ _ (en1 A rfl (res_tmp rfl) ?_))))
          exact ⟨by
           rw [hin9, ord_end gp gr (by omega) (by omega)]
           repeat (first | rw [if_pos (by omega)] | rw [if_neg (by omega)]), M.bel⟩
         ·
          have hb72' := ne_of_beq_false hb72
          refine sdc A bin_eql hb72 λa A↦?_
          refine sda A λa A↦?_
          refine seq_end (hK71 _ _ (wp_cond_false (A.ev rfl) ?_))
          refine wsk fun K76 hK76 => wrl ?_
          rcases tf ((p.d.k == 9)) with hb77 | hb77
          ·
           have hb77' := eq_of_beq hb77
           refine sdc A bin_eql hb77 λa A↦?_
           refine sda A λa A↦?_
           refine seq_end (hK76 _ _ (wp_cond_true (A.ev rfl) ?_))
           refine wsk fun K78 hK78 => wrl (sdo (v := .pointer (some ⟨g2, 10, none⟩)) A (does_field EqB_fld_38_5 rfl rfl) λa A↦?_)
           refine sdo A (m_load1 M EqB_is1_28 rfl 1 rfl rfl) λa A↦?_
           refine sdo (v := .pointer (some ⟨g4, 10, none⟩)) A (does_field EqB_fld_38_5 rfl rfl) λa A↦?_
           refine sdo A (m_load1 M EqB_is1_28 rfl 0 rfl rfl) λa A↦?_
           refine gcl A M (ef rfl rfl) (vec_any ih (Dt.keep M.bel _ hp) (Dt.keep M.bel _ hr) gp gr (by omega)) fun w80 hb79 M a A => ?_
           refine sda A λa A↦?_
           refine seq_end (hK78 _ _ (wp_ret (hret _ _ (en1 A rfl (res_tmp rfl) ?_))))
           exact ⟨by
            rw [hin9, ord_end gp gr (by omega) (by omega)]
            repeat (first | rw [if_pos (by omega)] | rw [if_neg (by omega)]), M.bel⟩
          ·
           have hb77' := ne_of_beq_false hb77
           refine sdc A bin_eql hb77 λa A↦?_
           refine sda A λa A↦?_
           refine seq_end (hK76 _ _ (wp_cond_false (A.ev rfl) ?_))
           refine wp_skip (hK40 _ _ (wsk fun K81 hK81 => wrl (sda A λa A↦?_)))
           refine seq_end (hK81 _ _ (wp_ret (hret _ _ (en1 A rfl (res_tmp rfl) ?_))))
           exact ⟨by
            rw [hin9, ord_end gp gr (by omega) (by omega)]
            repeat (first | rw [if_pos (by omega)] | rw [if_neg (by omega)]), M.bel⟩
theorem orders_all : ∀ n, Orders n
 | 0 => fun h => absurd h (Nat.not_lt_zero _)
 | n + 1 => orders_step (orders_all n)
theorem EqC_is1_28 : Is1 Tryz.prog 28 := ⟨⟨_, Tryz.underlying28, rfl⟩, by kernel_rfl⟩
theorem EqC_is1_3 : Is1 Tryz.prog 3 := ⟨⟨_, Tryz.underlying3, rfl⟩, by kernel_rfl⟩
theorem EqC_is1_36 : Is1 Tryz.prog 36 := ⟨⟨_, Tryz.underlying36, rfl⟩, by kernel_rfl⟩
theorem EqC_is1_9 : Is1 Tryz.prog 9 := ⟨⟨_, Tryz.underlying9, rfl⟩, by kernel_rfl⟩
theorem EqC_fld_35_0 : FieldAt Tryz.prog 35 0 0 := ⟨_, _, Tryz.underlying35, rfl, rfl, by kernel_rfl⟩
theorem EqC_fld_35_1 : FieldAt Tryz.prog 35 1 3 := ⟨_, _, Tryz.underlying35, rfl, rfl, by kernel_rfl⟩
theorem EqC_fld_38_0 : FieldAt Tryz.prog 38 0 0 := ⟨_, _, Tryz.underlying38, rfl, rfl, by kernel_rfl⟩
theorem EqC_fld_38_1 : FieldAt Tryz.prog 38 1 1 := ⟨_, _, Tryz.underlying38, rfl, rfl, by kernel_rfl⟩
theorem EqC_fld_38_2 : FieldAt Tryz.prog 38 2 2 := ⟨_, _, Tryz.underlying38, rfl, rfl, by kernel_rfl⟩
theorem EqC_fld_38_3 : FieldAt Tryz.prog 38 3 8 := ⟨_, _, Tryz.underlying38, rfl, rfl, by kernel_rfl⟩
theorem EqC_fld_38_4 : FieldAt Tryz.prog 38 4 9 := ⟨_, _, Tryz.underlying38, rfl, rfl, by kernel_rfl⟩
theorem EqC_fld_38_5 : FieldAt Tryz.prog 38 5 10 := ⟨_, _, Tryz.underlying38, rfl, rfl, by kernel_rfl⟩
theorem EqC_isS_33 : IsS Tryz.prog 33 3 := ⟨⟨_, Tryz.underlying33⟩, by kernel_rfl⟩
theorem EqC_isS_38 : IsS Tryz.prog 38 11 := ⟨⟨_, Tryz.underlying38⟩, by kernel_rfl⟩
theorem both_any {w : World} {t u : Dt} (ht : t.rd w) (hu : u.rd w) (hT : Tabs8 w) : Calls Tryz.prog 76 #[.agg (t.d.cells t.ts.length).toArray, .agg (u.d.cells u.ts.length).toArray] w fun e w' => e = .returned (.bool (soundT shapeT t.tr && soundT shapeT u.tr : Bool)) ∧ Below w.heap.size w w' := by
 have M : Mg w w ([]) := Mg.start w
 refine walk_of (l := [(0, .agg (t.d.cells t.ts.length).toArray), (1, .agg (u.d.cells u.ts.length).toArray)]) Tryz.func76 rfl Tryz.ntmps76 rfl rfl ?_
 intro Q hret hnorm hP a A
 refine wsk fun K1 hK1 => wrl (s_new (vs := (t.d.cells t.ts.length)) (t := 38) A M rfl rfl rfl pg (does_box rfl rfl) (by decide) ?_)
 intro g2 w3 M a A
 refine s_new (vs := (u.d.cells u.ts.length)) (t := 38) A M rfl rfl rfl pg (does_box rfl rfl) (by decide) ?_
 intro g4 w5 M a A
 refine sda A λa A↦?_
 refine seq_end (hK1 _ _ (wsk fun K6 hK6 => wrl (sdo A (m_loadS M EqC_isS_38 rfl 1 rfl (cs := (t.d.cells t.ts.length)) rfl rfl) λa A↦?_)))
 rcases tf (soundT shapeT t.tr) with hb7 | hb7
 ·
  refine gcl A M (ef rfl rfl) ((hb7 ▸ sound_any (t := t) (Dt.keep M.bel _ ht) (hT.below M.bel))) fun w9 hb8 M a A => ?_
  refine sdm A λa A↦?_
  refine sdo A (m_loadS M EqC_isS_38 rfl 0 rfl (cs := (u.d.cells u.ts.length)) rfl rfl) λa A↦?_
  rcases tf (soundT shapeT u.tr) with hb10 | hb10
  ·
   refine gcl A M (ef rfl rfl) ((hb10 ▸ sound_any (t := u) (Dt.keep M.bel _ hu) (hT.below M.bel))) fun w12 hb11 M a A => ?_
   refine sdk (v := .bool true) A λa A↦?_
   refine sda A λa A↦?_
   refine seq_end (hK6 _ _ (wp_ret (hret _ _ (en1 A rfl (res_tmp rfl) ?_))))
   exact ⟨by simp_all, M.bel⟩
  ·
   refine gcl A M (ef rfl rfl) ((hb10 ▸ sound_any (t := u) (Dt.keep M.bel _ hu) (hT.below M.bel))) fun w14 hb13 M a A => ?_
   refine sdk (v := .bool false) A λa A↦?_
   refine sda A λa A↦?_
   refine seq_end (hK6 _ _ (wp_ret (hret _ _ (en1 A rfl (res_tmp rfl) ?_))))
   exact ⟨by simp_all, M.bel⟩
 ·
  refine gcl A M (ef rfl rfl) ((hb7 ▸ sound_any (t := t) (Dt.keep M.bel _ ht) (hT.below M.bel))) fun w16 hb15 M a A => ?_
  refine sdm A λa A↦?_
  iterate 2 refine seq_skip A rfl rfl rfl λa A↦?_
  refine sdk (v := .bool false) A λa A↦?_
  refine sda A λa A↦?_
  refine seq_end (hK6 _ _ (wp_ret (hret _ _ (en1 A rfl (res_tmp rfl) ?_))))
  exact ⟨by simp_all, M.bel⟩
theorem equal_any {w : World} {t u : Dt} (ht : t.rd w) (hu : u.rd w) (hT : Tabs8 w) : Calls Tryz.prog 52 #[.agg (t.d.cells t.ts.length).toArray, .agg (u.d.cells u.ts.length).toArray] w fun e w' => e = .returned (.bool (equT t.tr u.tr)) ∧ Below w.heap.size w w' := by
 have M : Mg w w ([]) := Mg.start w
 refine walk_of (l := [(0, .agg (t.d.cells t.ts.length).toArray), (1, .agg (u.d.cells u.ts.length).toArray)]) Tryz.func52 rfl Tryz.ntmps52 rfl rfl ?_
 intro Q hret hnorm hP a A
 refine wsk fun K1 hK1 => wrl (s_new (vs := (t.d.cells t.ts.length)) (t := 38) A M rfl rfl rfl pg (does_box rfl rfl) (by decide) ?_)
 intro g2 w3 M a A
 refine s_new (vs := (u.d.cells u.ts.length)) (t := 38) A M rfl rfl rfl pg (does_box rfl rfl) (by decide) ?_
 intro g4 w5 M a A
 refine sda A λa A↦?_
 refine seq_end (hK1 _ _ (wsk fun K6 hK6 => wrl (sdo A (m_loadS M EqC_isS_38 rfl 1 rfl (cs := (t.d.cells t.ts.length)) rfl rfl) λa A↦?_)))
 refine sdo A (m_loadS M EqC_isS_38 rfl 0 rfl (cs := (u.d.cells u.ts.length)) rfl rfl) λa A↦?_
 rcases tf ((soundT shapeT t.tr && soundT shapeT u.tr)) with hb7 | hb7
 ·
  refine gcl A M (ef rfl rfl) ((hb7 ▸ both_any (Dt.keep M.bel _ ht) (Dt.keep M.bel _ hu) (hT.below M.bel))) fun w9 hb8 M a A => ?_
  refine sdm A λa A↦?_
  refine sdo A (m_loadS M EqC_isS_38 rfl 1 rfl (cs := (t.d.cells t.ts.length)) rfl rfl) λa A↦?_
  refine sdo A (m_loadS M EqC_isS_38 rfl 0 rfl (cs := (u.d.cells u.ts.length)) rfl rfl) λa A↦?_
  refine gcl A M (ef rfl rfl) (orders_all (t.tr.bulk + 1) (Nat.lt_succ_self _) (Dt.keep M.bel _ ht) (Dt.keep M.bel _ hu) (good_of ht (both_ok hb7).1) (good_of hu (both_ok hb7).2)) fun w11 hb10 M a A => ?_
  rcases tf ((ordT t.tr u.tr == 0)) with hb12 | hb12
  ·
   have hb12' := eq_of_beq hb12
   refine sdc A bin_eql hb12 λa A↦?_
   refine sdk (v := .bool true) A λa A↦?_
   refine sda A λa A↦?_
   refine seq_end (hK6 _ _ (wp_ret (hret _ _ (en1 A rfl (res_tmp rfl) ?_))))
   exact ⟨by unfold equT; simp_all, M.bel⟩
  ·
   have hb12' := ne_of_beq_false hb12
   refine sdc A bin_eql hb12 λa A↦?_
   refine sdk (v := .bool false) A λa A↦?_
   refine sda A λa A↦?_
   refine seq_end (hK6 _ _ (wp_ret (hret _ _ (en1 A rfl (res_tmp rfl) ?_))))
   exact ⟨by unfold equT; simp_all, M.bel⟩
 ·
  refine gcl A M (ef rfl rfl) ((hb7 ▸ both_any (Dt.keep M.bel _ ht) (Dt.keep M.bel _ hu) (hT.below M.bel))) fun w14 hb13 M a A => ?_
  refine sdm A λa A↦?_
  iterate 4 refine seq_skip A rfl rfl rfl λa A↦?_
  refine sdk (v := .bool false) A λa A↦?_
  refine sda A λa A↦?_
  refine seq_end (hK6 _ _ (wp_ret (hret _ _ (en1 A rfl (res_tmp rfl) ?_))))
  exact ⟨by unfold equT; simp_all, M.bel⟩
def Hashes (n : Nat) : Prop := ∀ {w : World} {t : Dt} {h : Int}, t.tr.bulk < n → t.rd w → t.tr.good → Calls Tryz.prog 75 #[.int .u64 h, .agg (t.d.cells t.ts.length).toArray] w fun e w' => e = .returned (.int .u64 (hashT h t.tr)) ∧ Below w.heap.size w w'
theorem hvec_any {n : Nat} (ih : Hashes n) {w : World} {t : Dt} {h : Int} (ht : t.rd w) (gt : t.tr.good) (hb : t.tr.bulk ≤ n) : Calls Tryz.prog 114 #[.int .u64 h, .slice t.d.lo t.ts.length t.d.lc] w fun e w' => e = .returned (.int .u64 (hashL (hw h (t.ts.length : Int)) (t.ts.map Dt.tr))) ∧ Below w.heap.size w w' := by
 have hlt := (Dt.okT ht).2
 have M : Mg w w ([]) := Mg.start w
 refine walk_of (l := [(0, .int .u64 h), (1, .slice t.d.lo t.ts.length t.d.lc)]) Tryz.func114 rfl Tryz.ntmps114 rfl rfl ?_
 intro Q hret hnorm hP a A
 refine wsk fun K1 hK1 => wrl (sda A λa A↦?_)
 refine seq_end (hK1 _ _ (wsk fun K2 hK2 => wrl ?_))
 iterate 2 refine sdm A λa A↦?_
 refine sdo A (does_len Tryz.underlying28 rfl) λa A↦?_
 refine sdo (v := .int .u64 (((t.ts.length : Nat) : Int))) A (does_convert rfl (ar_conv Tryz.underlying3 Tryz.underlying67 (in_u64 (by omega) (by omega)))) λa A↦?_
 refine gcl A M (ef rfl rfl) (with_any) fun w4 hb3 M a A => ?_
 refine sda A λa A↦?_
 refine seq_end (hK2 _ _ (wsk fun K5 hK5 => wsk fun K6 hK6 => wrl (sdm A λa A↦?_)))
 refine sdo A (does_len Tryz.underlying28 rfl) λa A↦?_
 refine sdm A λa A↦?_
 refine seq_end (hK6 _ _ (wp_block (wp_loop_n (fun m_ a w1 => ∃ (i : Nat) (m : Int), m_ = 1 + (t.ts.length - i) ∧ (i ≤ t.ts.length ∧ hashL (hw h (t.ts.length : Int)) (t.ts.map Dt.tr) = hashL m ((t.ts.map Dt.tr).drop i)) ∧ Sl a 23 [(0, .int .u64 m), (1, .slice t.d.lo t.ts.length t.d.lc), (4, .int .u64 0), (7, .int .u64 h), (8, .slice t.d.lo t.ts.length t.d.lc), (9, .int .i64 (((t.ts.length : Nat) : Int))), (10, .int .u64 (((t.ts.length : Nat) : Int))), (11, .int .u64 (hw h (((t.ts.length : Nat) : Int)))), (12, .slice t.d.lo t.ts.length t.d.lc), (13, .int .i64 (((t.ts.length : Nat) : Int))), (14, .int .i64 (((i : Nat) : Int)))] ∧ Mg w w1 ([])) _ ⟨0, hw h ((t.ts.length : Nat) : Int), rfl, ⟨Nat.zero_le _, rfl⟩, A.keep _ ⟨rfl, rfl, rfl, rfl, rfl, rfl, rfl, rfl, rfl, rfl, rfl, trivial⟩, M⟩ ?_)))
 clear M A
 rintro m_ a w7 ⟨i, m, rfl, hinv9, A, M⟩ K8 hK8
 obtain ⟨hi0, hin9⟩ := hinv9
 refine wsk fun K10 hK10 => wrl ?_
 rcases tf (decide (((i : Nat) : Int) < ((t.ts.length : Nat) : Int))) with hb11 | hb11
 ·
  have hb11' := of_decide_eq_true hb11
  refine sdc A bin_lss hb11 λa A↦?_
  refine seq_end (hK10 _ _ (wsk fun K12 hK12 => wp_cond_true (A.ev rfl) ?_))
  refine wp_skip (hK12 _ _ (wsk fun K13 hK13 => wp_block (wsk fun K14 hK14 => ?_)))
  obtain ⟨t1, bt1, ot1, it1, mt1, rt1_, lt1, Ht1⟩ := kidT ht (i := i) (by omega)
  refine wrl (sdo (v := .pointer (some ⟨bt1, ot1 + i * 11, none⟩)) A (does_indexD (k := i) Tryz.underlying28 (by kernel_rfl) rfl rfl rfl lt1 (by omega)) λa A↦?_)
  refine sdo A (m_loadHS M Ht1 EqC_isS_38 rfl rfl) λa A↦?_
  refine s_new (vs := [.int .i64 0, .int .i64 0, .bool false, .slice none 0 0, .slice none 0 0, .bool false, .slice none 0 0, .slice none 0 0, .string (⟨#[]⟩), .slice none 0 0, .slice none 0 0]) (t := 38) A M rfl rfl rfl pg (does_alloc (z := .agg #[.int .i64 0, .int .i64 0, .bool false, .slice none 0 0, .slice none 0 0, .bool false, .slice none 0 0, .slice none 0 0, .string (⟨#[]⟩), .slice none 0 0, .slice none 0 0]) (by kernel_rfl) rfl) (by decide) ?_
  intro g15 w16 M a A
  refine s_store (us := (t1.d.cells t1.ts.length)) (L' := (.obj g15 (.cells (t1.d.cells t1.ts.length).toArray 38) :: [])) A M rfl rfl (m_store rfl rfl rfl (by kernel_rfl) M 0 rfl rfl rfl) 0 rfl rfl rfl ?_
  intro w17 M
  refine seq_end (hK14 _ _ (wrl (sdm A λa A↦?_)))
  refine sdo A (m_loadS M EqC_isS_38 rfl 0 rfl (cs := (t1.d.cells t1.ts.length)) rfl rfl) λa A↦?_
  refine gcl A M (ef rfl rfl) (ih (by have := bulkT mt1; omega) (Dt.keep M.bel _ rt1_) ((good_at gt).2.2 _ mt1)) fun w19 hb18 M a A => ?_
  refine sda A λa A↦?_
  refine seq_end (hK13 _ _ (wrl (sdo (v := .int .i64 (((i + 1 : Nat) : Int))) A (does_bin rfl rfl (fun w => (bin_add (i64In (by omega) (by omega)) w).trans (by rw [show (((i : Nat) : Int) + 1 : Int) = ((i + 1 : Nat) : Int) from by omega]))) λa A↦?_)))
  refine sdm A λa A↦?_
  refine seq_end ?_
  replace M : Mg w w19 ([]) := by
   have h9 := M.sub (.cons _ (.refl _))
   exact h9
  refine hK8 _ _ _ (by omega) ⟨i + 1, hashT m t1.tr, rfl, ⟨by omega, by rw [hin9, hashL_go it1]⟩, A.keep _ ⟨rfl, rfl, rfl, rfl, rfl, rfl, rfl, rfl, rfl, rfl, rfl, trivial⟩, M⟩
 ·
  have hb11' := of_decide_eq_false hb11
  refine sdc A bin_lss hb11 λa A↦?_
  refine seq_end (hK10 _ _ (wsk fun K20 hK20 => wp_cond_false (A.ev rfl) ?_))
  refine wp_exit (hK5 _ _ (wsk fun K21 hK21 => wrl (sdm A λa A↦?_)))
  refine sda A λa A↦?_
  refine seq_end (hK21 _ _ (wp_ret (hret _ _ (en1 A rfl (res_tmp rfl) ?_))))
  exact ⟨by rw [hin9, hashL_end (by omega)], M.bel⟩
theorem hashes_step {n : Nat} (ih : Hashes n) : Hashes (n + 1) := by
 intro w t h hn ht gt
 have M : Mg w w ([]) := Mg.start w
 refine walk_of (l := [(0, .int .u64 h), (1, .agg (t.d.cells t.ts.length).toArray)]) Tryz.func75 rfl Tryz.ntmps75 rfl rfl ?_
 intro Q hret hnorm hP a A
 refine wsk fun K1 hK1 => wrl (s_new (vs := (t.d.cells t.ts.length)) (t := 38) A M rfl rfl rfl pg (does_box rfl rfl) (by decide) ?_)
 intro g2 w3 M a A
 refine sda A λa A↦?_
 refine seq_end (hK1 _ _ (wsk fun K4 hK4 => wp_block (wp_loop_n (fun m_ a w1 => ∃ (p : Dt) (m : Int), m_ = 1 + p.tr.bulk ∧ (p.rd w ∧ p.tr.good ∧ p.tr.bulk ≤ t.tr.bulk ∧ hashT h t.tr = hashT m p.tr) ∧ Sl a 67 [(0, .int .u64 m), (1, .agg (t.d.cells t.ts.length).toArray), (3, .pointer (some ⟨g2, 0, none⟩)), (4, .int .u64 0)] ∧ Mg w w1 (.obj g2 (.cells (p.d.cells p.ts.length).toArray 38) :: [])) _ ⟨t, h, rfl, ⟨ht, gt, Nat.le_refl _, rfl⟩, A.keep _ ⟨rfl, rfl, rfl, rfl, trivial⟩, M⟩ ?_)))
 clear M A
 rintro m_ a w5 ⟨p, m, rfl, hinv7, A, M⟩ K6 hK6
 obtain ⟨hp, gp, hbk, hin9⟩ := hinv7
 have hk0 := (good_at gp).1.h0
 have hk1 := (good_at gp).1.h1
 have hn9 := n_rng (good_at gp).1
 refine wsk fun K8 hK8 => wsk fun K9 hK9 => wrl (sdo (v := .pointer (some ⟨g2, 0, none⟩)) A (does_field EqC_fld_38_0 rfl rfl) λa A↦?_)
 refine sdo A (m_load1 M EqC_is1_3 rfl 0 rfl rfl) λa A↦?_
 rcases tf ((p.d.k == 8)) with hb10 | hb10
 ·
  have hb10' := eq_of_beq hb10
  refine sdc A bin_eql hb10 λa A↦?_
  refine seq_end (hK9 _ _ (wp_cond_true (A.ev rfl) ?_))
  refine wp_skip (hK8 _ _ (wp_block (wsk fun K11 hK11 => ?_)))
  have l2p := (good_at gp).1.h8 hb10'
  obtain ⟨p0, bp0, op0, ip0, mp0, rp0_, lp0, Hp0⟩ := kidT hp (i := 0) (by omega)
  obtain ⟨p1, bp1, op1, ip1, mp1, rp1_, lp1, Hp1⟩ := kidT hp (i := 1) (by omega)
  have hpq := hash_pair (h := m) hb10' l2p ip0 ip1
  refine wp_draw (S := fun w1 => Mg w w1 (.obj g2 (.cells (p.d.cells p.ts.length).toArray 38) :: [])) (by kernel_rfl) ?_
  replace M := M.drew
  refine any_tk A 0 rfl rfl rfl rfl hP (M.sub (.cons_cons _ (List.nil_sublist _))) (fun w1 M => does_move rfl) λa A↦?_
  refine any_tk (v := .pointer (some ⟨g2, 10, none⟩)) A 2 rfl rfl rfl rfl hP (M.sub (.cons_cons _ (List.nil_sublist _))) (fun w1 M => does_field EqC_fld_38_5 rfl rfl) λa A↦?_
  refine any_tk A 3 rfl rfl rfl rfl hP (M.sub (.cons_cons _ (List.nil_sublist _))) (fun w1 M => m_load1 M EqC_is1_28 rfl 0 rfl rfl) λa A↦?_
  refine any_tk (v := .pointer (some ⟨bp0, op0 + 0 * 11, none⟩)) A 4 rfl rfl rfl rfl hP (M.sub (.cons_cons _ (List.nil_sublist _))) (fun w1 M => does_indexD (k := 0) Tryz.underlying28 (by kernel_rfl) rfl rfl rfl lp0 (by omega)) λa A↦?_
  refine any_tk A 5 rfl rfl rfl rfl hP (M.sub (.cons_cons _ (List.nil_sublist _))) (fun w1 M => m_loadHS M Hp0 EqC_isS_38 rfl rfl) λa A↦?_
  refine any_one (by kernel_rfl) (op_call A 1 rfl rfl rfl rfl (enters_func rfl rfl (fun w => by kernel_rfl)) (with_any) ?_)
  rintro _ w13 ⟨rfl, hb12⟩
  replace M := M.call hb12
  refine ⟨_, rfl, (M.sub (.cons_cons _ (List.nil_sublist _))), ?_⟩
  intro a A
  refine any_one (by kernel_rfl) (op_call A 6 rfl rfl rfl rfl (enters_func rfl rfl (fun w => by kernel_rfl)) (ih (by have := bulkT mp0; omega) (Dt.keep M.bel _ rp0_) ((good_at gp).2.2 _ mp0)) ?_)
  rintro _ w15 ⟨rfl, hb14⟩
  replace M := M.call hb14
  refine ⟨_, rfl, (M.sub (.cons_cons _ (List.nil_sublist _))), ?_⟩
  intro a A
  refine any_tk A 7 rfl rfl rfl rfl hP (M.sub (.cons_cons _ (List.nil_sublist _))) (fun w1 M => does_assign rfl) λa A↦?_
  refine any_end (by kernel_rfl) ?_
  refine hK11 _ _ (wrl (sdo (v := .pointer (some ⟨g2, 10, none⟩)) A (does_field EqC_fld_38_5 rfl rfl) λa A↦?_))
  refine sdo A (m_load1 M EqC_is1_28 rfl 0 rfl rfl) λa A↦?_
  refine sdo (v := .pointer (some ⟨bp1, op1 + 1 * 11, none⟩)) A (does_indexD (k := 1) Tryz.underlying28 (by kernel_rfl) rfl rfl rfl lp1 (by omega)) λa A↦?_
  refine sdo A (m_loadHS M Hp1 EqC_isS_38 rfl rfl) λa A↦?_
  refine s_store (us := (p1.d.cells p1.ts.length)) (L' := (.obj g2 (.cells (p1.d.cells p1.ts.length).toArray 38) :: [])) A M rfl rfl (m_store rfl rfl rfl (by kernel_rfl) M 0 rfl rfl rfl) 0 rfl rfl rfl ?_
  intro w16 M
  refine seq_end ?_
  refine hK6 _ _ _ (by have := bulkT mp1; omega) ⟨p1, hashT (hw m 8) p0.tr, rfl, ⟨rp1_, (good_at gp).2.2 _ mp1, by have := bulkT mp1; omega, by rw [hin9, hpq]⟩, A.keep _ ⟨rfl, rfl, rfl, rfl, trivial⟩, M⟩
 ·
  have hb10' := ne_of_beq_false hb10
  refine sdc A bin_eql hb10 λa A↦?_
  refine seq_end (hK9 _ _ (wp_cond_false (A.ev rfl) ?_))
  refine wp_exit (hK4 _ _ (wsk fun K17 hK17 => wrl (sdm A λa A↦?_)))
  refine sdo (v := .pointer (some ⟨g2, 0, none⟩)) A (does_field EqC_fld_38_0 rfl rfl) λa A↦?_
  refine sdo A (m_load1 M EqC_is1_3 rfl 0 rfl rfl) λa A↦?_
  refine sdo (v := .int .u64 p.d.k) A (does_convert rfl (ar_conv Tryz.underlying3 Tryz.underlying67 (in_u64 (by omega) (by omega)))) λa A↦?_
  refine gcl A M (ef rfl rfl) (with_any) fun w19 hb18 M a A => ?_
  refine sda A λa A↦?_
  refine seq_end (hK17 _ _ (wsk fun K20 hK20 => wsk fun K21 hK21 => wrl (sdo (v := .pointer (some ⟨g2, 0, none⟩)) A (does_field EqC_fld_38_0 rfl rfl) λa A↦?_)))
  refine sdo A (m_load1 M EqC_is1_3 rfl 0 rfl rfl) λa A↦?_
  refine seq_end (hK21 _ _ (wp_block (wsk fun K22 hK22 => wsk fun K23 hK23 => wrl ?_)))
  rcases tf ((p.d.k == 2)) with hb24 | hb24
  ·
   have hb24' := eq_of_beq hb24
   refine sdc A bin_eql hb24 λa A↦?_
   refine sda A λa A↦?_
   refine seq_end (hK23 _ _ (wp_cond_true (A.ev rfl) ?_))
   refine wp_skip (hK22 _ _ (wp_cond_true (A.ev rfl) ?_))
   refine wsk fun K25 hK25 => wrl (sdm A λa A↦?_)
   refine sdo (v := .pointer (some ⟨g2, 1, none⟩)) A (does_field EqC_fld_38_1 rfl rfl) λa A↦?_
   refine sdo A (m_load1 M EqC_is1_3 rfl 0 rfl rfl) λa A↦?_
   refine sdo (v := .int .u64 p.d.n) A (does_convert rfl (ar_conv Tryz.underlying3 Tryz.underlying67 (in_u64 (by omega) (by omega)))) λa A↦?_
   refine gcl A M (ef rfl rfl) (with_any) fun w27 hb26 M a A => ?_
   refine sda A λa A↦?_
   refine seq_end (hK25 _ _ (wp_ret (hret _ _ (en1 A rfl (res_tmp rfl) ?_))))
   exact ⟨by
    rw [hin9, hash_at]
    repeat (first | rw [if_pos (by omega)] | rw [if_neg (by omega)])
    try rfl, M.bel⟩
  ·
   have hb24' := ne_of_beq_false hb24
   refine sdc A bin_eql hb24 λa A↦?_
   refine sda A λa A↦?_
   refine seq_end (hK23 _ _ (wp_cond_false (A.ev rfl) ?_))
   refine wrl ?_
   rcases tf ((p.d.k == 4)) with hb28 | hb28
   ·
    have hb28' := eq_of_beq hb28
    refine sdc A bin_eql hb28 λa A↦?_
    refine sda A λa A↦?_
    refine seq_end (hK22 _ _ (wp_cond_true (A.ev rfl) ?_))
    refine wsk fun K29 hK29 => wrl (sdm A λa A↦?_)
    refine sdo (v := .pointer (some ⟨g2, 1, none⟩)) A (does_field EqC_fld_38_1 rfl rfl) λa A↦?_
    refine sdo A (m_load1 M EqC_is1_3 rfl 0 rfl rfl) λa A↦?_
    refine sdo (v := .int .u64 p.d.n) A (does_convert rfl (ar_conv Tryz.underlying3 Tryz.underlying67 (in_u64 (by omega) (by omega)))) λa A↦?_
    refine gcl A M (ef rfl rfl) (with_any) fun w31 hb30 M a A => ?_
    refine sda A λa A↦?_
    refine seq_end (hK29 _ _ (wp_ret (hret _ _ (en1 A rfl (res_tmp rfl) ?_))))
    exact ⟨by
     rw [hin9, hash_at]
     repeat (first | rw [if_pos (by omega)] | rw [if_neg (by omega)])
     try rfl, M.bel⟩
   ·
    have hb28' := ne_of_beq_false hb28
    refine sdc A bin_eql hb28 λa A↦?_
    refine sda A λa A↦?_
    refine seq_end (hK22 _ _ (wp_cond_false (A.ev rfl) ?_))
    refine wsk fun K32 hK32 => wrl ?_
    rcases tf ((p.d.k == 3)) with hb33 | hb33
    ·
     have hb33' := eq_of_beq hb33
     refine sdc A bin_eql hb33 λa A↦?_
     refine sda A λa A↦?_
     refine seq_end (hK32 _ _ (wp_cond_true (A.ev rfl) ?_))
     refine wsk fun K34 hK34 => wp_draw (S := fun w1 => Mg w w1 (.obj g2 (.cells (p.d.cells p.ts.length).toArray 38) :: [])) (by kernel_rfl) ?_
     replace M := M.drew
     refine any_tk A 0 rfl rfl rfl rfl hP (M.sub (.cons_cons _ (List.nil_sublist _))) (fun w1 M => does_move rfl) λa A↦?_
     refine any_tk (v := .pointer (some ⟨g2, 2, none⟩)) A 1 rfl rfl rfl rfl hP (M.sub (.cons_cons _ (List.nil_sublist _))) (fun w1 M => does_field EqC_fld_38_2 rfl rfl) λa A↦?_
     refine any_tk (v := .pointer (some ⟨g2, 2, none⟩)) A 2 rfl rfl rfl rfl hP (M.sub (.cons_cons _ (List.nil_sublist _))) (fun w1 M => does_field EqC_fld_35_0 rfl rfl) λa A↦?_
     refine any_tk A 3 rfl rfl rfl rfl hP (M.sub (.cons_cons _ (List.nil_sublist _))) (fun w1 M => m_loadS M EqC_isS_33 rfl 0 rfl (cs := [.bool p.d.y.q.b1, .slice p.d.y.o1 p.d.y.q.t1.length p.d.y.c1, .slice p.d.y.o2 p.d.y.q.q1.length p.d.y.c2]) rfl rfl) λa A↦?_
     refine any_tk (v := .pointer (some ⟨g2, 2, none⟩)) A 5 rfl rfl rfl rfl hP (M.sub (.cons_cons _ (List.nil_sublist _))) (fun w1 M => does_field EqC_fld_38_2 rfl rfl) λa A↦?_
     refine any_tk (v := .pointer (some ⟨g2, 5, none⟩)) A 6 rfl rfl rfl rfl hP (M.sub (.cons_cons _ (List.nil_sublist _))) (fun w1 M => does_field EqC_fld_35_1 rfl rfl) λa A↦?_
     refine any_tk A 7 rfl rfl rfl rfl hP (M.sub (.cons_cons _ (List.nil_sublist _))) (fun w1 M => m_loadS M EqC_isS_33 rfl 0 rfl (cs := [.bool p.d.y.q.b2, .slice p.d.y.o3 p.d.y.q.t2.length p.d.y.c3, .slice p.d.y.o4 p.d.y.q.q2.length p.d.y.c4]) rfl rfl) λa A↦?_
     refine any_one (by kernel_rfl) (op_call A 4 rfl rfl rfl rfl (enters_func rfl rfl (fun w => by kernel_rfl)) (hwF_any ((Dt.okT hp).1.num.s1.rd.below M.bel) ((Dt.okT hp).1.num.s2.rd.below M.bel) (Dt.okT hp).1.len.l1 (Dt.okT hp).1.len.l2) ?_)
     rintro _ w36 ⟨rfl, hb35⟩
     replace M := M.call hb35
     refine ⟨_, rfl, (M.sub (.cons_cons _ (List.nil_sublist _))), ?_⟩
     intro a A
     refine any_one (by kernel_rfl) (op_call A 8 rfl rfl rfl rfl (enters_func rfl rfl (fun w => by kernel_rfl)) (hwF_any ((Dt.okT hp).1.num.s3.rd.below M.bel) ((Dt.okT hp).1.num.s4.rd.below M.bel) (Dt.okT hp).1.len.l3 (Dt.okT hp).1.len.l4) ?_)
     rintro _ w38 ⟨rfl, hb37⟩
     replace M := M.call hb37
     refine ⟨_, rfl, (M.sub (.cons_cons _ (List.nil_sublist _))), ?_⟩
     intro a A
     refine any_tk A 9 rfl rfl rfl rfl hP (M.sub (.cons_cons _ (List.nil_sublist _))) (fun w1 M => does_assign rfl) λa A↦?_
     refine any_end (by kernel_rfl) ?_
     refine hK34 _ _ (wp_ret (hret _ _ (en1 A rfl (res_tmp rfl) ?_)))
     exact ⟨by
      rw [hin9, hash_at]
      repeat (first | rw [if_pos (by omega)] | rw [if_neg (by omega)])
      try rfl, M.bel⟩
    ·
     have hb33' := ne_of_beq_false hb33
     refine sdc A bin_eql hb33 λa A↦?_
     refine sda A λa A↦?_
     refine seq_end (hK32 _ _ (wp_cond_false (A.ev rfl) ?_))
     refine wsk fun K39 hK39 => wsk fun K40 hK40 => wrl ?_
     rcases tf ((p.d.k == 5)) with hb41 | hb41
     ·
      have hb41' := eq_of_beq hb41
      refine sdc A bin_eql hb41 λa A↦?_
      refine sda A λa A↦?_
      refine seq_end (hK40 _ _ (wp_cond_true (A.ev rfl) ?_))
      refine wp_skip (hK39 _ _ (wp_cond_true (A.ev rfl) ?_))
      refine wsk fun K42 hK42 => wrl (sdm A λa A↦?_)
      refine sdo (v := .pointer (some ⟨g2, 8, none⟩)) A (does_field EqC_fld_38_3 rfl rfl) λa A↦?_
      refine sdo A (m_load1 M EqC_is1_9 rfl 0 rfl rfl) λa A↦?_
      refine s_bytes A M rfl Tryz.underlying9 Tryz.underlying36 Tryz.underlying5 rfl rfl rfl rfl ?_
      intro so43 ca44 w45 hrb46 M a A
      refine gcl A M (ef rfl rfl) (hwS_any hrb46 (by rw [size_toList]; exact (Dt.okT hp).1.smax)) fun w48 hb47 M a A => ?_
      refine sda A λa A↦?_
      refine seq_end (hK42 _ _ (wp_ret (hret _ _ (en1 A rfl (res_tmp rfl) ?_))))
      exact ⟨by
       rw [hin9, hash_at]
       repeat (first | rw [if_pos (by omega)] | rw [if_neg (by omega)])
       try rfl, M.bel⟩
     ·
      have hb41' := ne_of_beq_false hb41
      refine sdc A bin_eql hb41 λa A↦?_
      refine sda A λa A↦?_
      refine seq_end (hK40 _ _ (wp_cond_false (A.ev rfl) ?_))
      refine wsk fun K49 hK49 => wrl ?_
      rcases tf ((p.d.k == 6)) with hb50 | hb50
      ·
       have hb50' := eq_of_beq hb50
       refine sdc A bin_eql hb50 λa A↦?_
       refine sda A λa A↦?_
       refine seq_end (hK49 _ _ (wp_cond_true (A.ev rfl) ?_))
       refine wp_skip (hK39 _ _ (wp_cond_true (A.ev rfl) ?_))
       refine wsk fun K51 hK51 => wrl (sdm A λa A↦?_)
       refine sdo (v := .pointer (some ⟨g2, 8, none⟩)) A (does_field EqC_fld_38_3 rfl rfl) λa A↦?_
       refine sdo A (m_load1 M EqC_is1_9 rfl 0 rfl rfl) λa A↦?_
       refine s_bytes A M rfl Tryz.underlying9 Tryz.underlying36 Tryz.underlying5 rfl rfl rfl rfl ?_
       intro so52 ca53 w54 hrb55 M a A
       refine gcl A M (ef rfl rfl) (hwS_any hrb55 (by rw [size_toList]; exact (Dt.okT hp).1.smax)) fun w57 hb56 M a A => ?_
       refine sda A λa A↦?_
       refine seq_end (hK51 _ _ (wp_ret (hret _ _ (en1 A rfl (res_tmp rfl) ?_))))
       exact ⟨by
        rw [hin9, hash_at]
        repeat (first | rw [if_pos (by omega)] | rw [if_neg (by omega)])
        try rfl, M.bel⟩
      ·
       have hb50' := ne_of_beq_false hb50
       refine sdc A bin_eql hb50 λa A↦?_
       refine sda A λa A↦?_
       refine seq_end (hK49 _ _ (wp_cond_false (A.ev rfl) ?_))
       refine wrl ?_
       rcases tf ((p.d.k == 11)) with hb58 | hb58
       ·
        have hb58' := eq_of_beq hb58
        refine sdc A bin_eql hb58 λa A↦?_
        refine sda A λa A↦?_
        refine seq_end (hK39 _ _ (wp_cond_true (A.ev rfl) ?_))
        refine wsk fun K59 hK59 => wrl (sdm A λa A↦?_)
        refine sdo (v := .pointer (some ⟨g2, 8, none⟩)) A (does_field EqC_fld_38_3 rfl rfl) λa A↦?_
        refine sdo A (m_load1 M EqC_is1_9 rfl 0 rfl rfl) λa A↦?_
        refine s_bytes A M rfl Tryz.underlying9 Tryz.underlying36 Tryz.underlying5 rfl rfl rfl rfl ?_
        intro so60 ca61 w62 hrb63 M a A
        refine gcl A M (ef rfl rfl) (hwS_any hrb63 (by rw [size_toList]; exact (Dt.okT hp).1.smax)) fun w65 hb64 M a A => ?_
        refine sda A λa A↦?_
        refine seq_end (hK59 _ _ (wp_ret (hret _ _ (en1 A rfl (res_tmp rfl) ?_))))
        exact ⟨by
         rw [hin9, hash_at]
         repeat (first | rw [if_pos (by omega)] | rw [if_neg (by omega)])
         try rfl, M.bel⟩
       ·
        have hb58' := ne_of_beq_false hb58
        refine sdc A bin_eql hb58 λa A↦?_
        refine sda A λa A↦?_
        refine seq_end (hK39 _ _ (wp_cond_false (A.ev rfl) ?_))
        refine wsk fun K66 hK66 => wrl ?_
        rcases tf ((p.d.k == 7)) with hb67 | hb67
        ·
         have hb67' := eq_of_beq hb67
         refine sdc A bin_eql hb67 λa A↦?_
         refine sda A λa A↦?_
         refine seq_end (hK66 _ _ (wp_cond_true (A.ev rfl) ?_))
         refine wsk fun K68 hK68 => wrl (sdm A λa A↦?_)
         refine sdo (v := .pointer (some ⟨g2, 9, none⟩)) A (does_field EqC_fld_38_4 rfl rfl) λa A↦?_
         refine sdo A (m_load1 M EqC_is1_36 rfl 0 rfl rfl) λa A↦?_
         refine gcl A M (ef rfl rfl) (hwS_any ((Dt.okT hp).1.raw.below M.bel) (Nat.le_trans (Dt.okT hp).1.rcap (Dt.okT hp).1.rmax)) fun w70 hb69 M a A => ?_
         refine sda A λa A↦?_
         refine seq_end (hK68 _ _ (wp_ret (hret _ _ (en1 A rfl (res_tmp rfl) ?_))))
         exact ⟨by
          rw [hin9, hash_at]
          repeat (first | rw [if_pos (by omega)] | rw [if_neg (by omega)])
          try rfl, M.bel⟩
        ·
         have hb67' := ne_of_beq_false hb67
         refine sdc A bin_eql hb67 λa A↦?_
         refine sda A λa A↦?_
         refine seq_end (hK66 _ _ (wp_cond_false (A.ev rfl) ?_))
         refine wsk fun K71 hK71 => wrl ?_
         rcases tf ((p.d.k == 9)) with hb72 | hb72
         ·
          have hb72' := eq_of_beq hb72
          refine sdc A bin_eql hb72 λa A↦?_
          refine sda A λa A↦?_
          refine seq_end (hK71 _ _ (wp_cond_true (A.ev rfl) ?_))
          refine wsk fun K73 hK73 => wrl (sdm A λa A↦?_)
          refine sdo (v := .pointer (some ⟨g2, 10, none⟩)) A (does_field EqC_fld_38_5 rfl rfl) λa A↦?_
          refine sdo A (m_load1 M EqC_is1_28 rfl 0 rfl rfl) λa A↦?_
          refine gcl A M (ef rfl rfl) (hvec_any ih (Dt.keep M.bel _ hp) gp (by omega)) fun w75 hb74 M a A => ?_
          refine sda A λa A↦?_
          refine seq_end (hK73 _ _ (wp_ret (hret _ _ (en1 A rfl (res_tmp rfl) ?_))))
          exact ⟨by
           rw [hin9, hash_at]
           repeat (first | rw [if_pos (by omega)] | rw [if_neg (by omega)])
           try rfl, M.bel⟩
         ·
          have hb72' := ne_of_beq_false hb72
          refine sdc A bin_eql hb72 λa A↦?_
          refine sda A λa A↦?_
          refine seq_end (hK71 _ _ (wp_cond_false (A.ev rfl) ?_))
          refine wp_skip (hK20 _ _ (wsk fun K76 hK76 => wrl (sdm A λa A↦?_)))
          refine sda A λa A↦?_
          refine seq_end (hK76 _ _ (wp_ret (hret _ _ (en1 A rfl (res_tmp rfl) ?_))))
          exact ⟨by
           rw [hin9, hash_at]
           repeat (first | rw [if_pos (by omega)] | rw [if_neg (by omega)])
           try rfl, M.bel⟩
theorem hashes_all : ∀ n, Hashes n
 | 0 => fun h => absurd h (Nat.not_lt_zero _)
 | n + 1 => hashes_step (hashes_all n)
theorem hash_any {w : World} {t : Dt} (ht : t.rd w) (hT : Tabs8 w) : Calls Tryz.prog 49 #[.agg (t.d.cells t.ts.length).toArray] w fun e w' => e = .returned (.int .u64 (hshT t.tr)) ∧ Below w.heap.size w w' := by
 have M : Mg w w ([]) := Mg.start w
 refine walk_of (l := [(0, .agg (t.d.cells t.ts.length).toArray)]) Tryz.func49 rfl Tryz.ntmps49 rfl rfl ?_
 intro Q hret hnorm hP a A
 refine wsk fun K1 hK1 => wrl (s_new (vs := (t.d.cells t.ts.length)) (t := 38) A M rfl rfl rfl pg (does_box rfl rfl) (by decide) ?_)
 intro g2 w3 M a A
 refine sda A λa A↦?_
 refine seq_end (hK1 _ _ (wsk fun K4 hK4 => wsk fun K5 hK5 => wrl (sdo A (m_loadS M EqC_isS_38 rfl 0 rfl (cs := (t.d.cells t.ts.length)) rfl rfl) λa A↦?_)))
 rcases tf (soundT shapeT t.tr) with hb6 | hb6
 ·
  refine gcl A M (ef rfl rfl) ((hb6 ▸ sound_any (t := t) (Dt.keep M.bel _ ht) (hT.below M.bel))) fun w8 hb7 M a A => ?_
  refine sdo (v := .bool false) A (does_un rfl un_not) λa A↦?_
  refine seq_end (hK5 _ _ (wp_cond_false (A.ev rfl) ?_))
  refine wp_skip (hK4 _ _ (wsk fun K9 hK9 => wrl (sdo A (m_loadS M EqC_isS_38 rfl 0 rfl (cs := (t.d.cells t.ts.length)) rfl rfl) λa A↦?_)))
  refine gcl A M (ef rfl rfl) (hashes_all (t.tr.bulk + 1) (Nat.lt_succ_self _) (Dt.keep M.bel _ ht) (good_of ht hb6)) fun w10 hbh M a A => ?_
  refine sda A λa A↦?_
  refine seq_end (hK9 _ _ (wp_ret (hret _ _ (en1 A rfl (res_tmp rfl) ?_))))
  exact ⟨by rw [hsh_ok hb6], M.bel⟩
 ·
  refine gcl A M (ef rfl rfl) ((hb6 ▸ sound_any (t := t) (Dt.keep M.bel _ ht) (hT.below M.bel))) fun w12 hb11 M a A => ?_
  refine sdo (v := .bool true) A (does_un rfl un_not) λa A↦?_
  refine seq_end (hK5 _ _ (wp_cond_true (A.ev rfl) ?_))
  refine wsk fun K13 hK13 => wrl (sda A λa A↦?_)
  refine seq_end (hK13 _ _ (wp_ret (hret _ _ (en1 A rfl (res_tmp rfl) ?_))))
  exact ⟨by rw [hsh_no hb6], M.bel⟩
end Go.Proofs.YtjlpecapebhgjaaGreatDoor.G
namespace Go.Proofs.YtjlpecapebhgjaaGreatDoor.C
open Go.RowKit

def evenB (r : Int) : Bool := decide ((r ≠ 304 ∧ r ≠ 305 ∧ 256 ≤ r ∧ r ≤ 311) ∨ (330 ≤ r ∧ r ≤ 375))
def oddB (r : Int) : Bool := decide ((313 ≤ r ∧ r ≤ 328) ∨ (377 ≤ r ∧ r ≤ 382))
/-- how far below a small letter its capital stands -/
def capB (r : Int) : Int :=
  if 97 ≤ r ∧ r ≤ 122 then 32
  else if 224 ≤ r ∧ r ≤ 254 ∧ r ≠ 247 then 32
  else if evenB r = true ∧ r % 2 = 1 then 1
  else if oddB r = true ∧ r % 2 = 0 then 1
  else if 945 ≤ r ∧ r ≤ 969 ∧ r ≠ 962 then 32
  else if 1072 ≤ r ∧ r ≤ 1103 then 32
  else if 1104 ≤ r ∧ r ≤ 1119 then 80
  else 0

def smallA (r : Int) : Int :=
  if capB (wrap32 (r + 1)) = 1 then 1 else if capB (wrap32 (r + 32)) = 32 then 32 else if capB (wrap32 (r + 80)) = 80 then 80 else 0
theorem capB_out (r : Int) (h : r < 97 ∨ 1119 < r) : capB r = 0 := by
  unfold capB evenB oddB
  simp only [decide_eq_true_eq]
  rw [if_neg (by omega), if_neg (by omega), if_neg (by omega), if_neg (by omega), if_neg (by omega), if_neg (by omega), if_neg (by omega)]
theorem wrap32_in (x : Int) (h0 : -2147483648 ≤ x) (h1 : x ≤ 2147483647) : wrap32 x = x := by unfold wrap32; omega
theorem capB_wr (r k : Int) (h0 : -2147483648 ≤ r) (h1 : r ≤ 2147483647) (hk : 0 ≤ k) (hk' : k ≤ 80) : capB (wrap32 (r + k)) = capB (r + k) := by
  by_cases h : r + k ≤ 2147483647
  · rw [wrap32_in _ (by omega) h]
  · rw [capB_out (wrap32 (r + k)) (by unfold wrap32; omega), capB_out (r + k) (by omega)]
def smallP (r : Int) : Int := if capB (r + 1) = 1 then 1 else if capB (r + 32) = 32 then 32 else if capB (r + 80) = 80 then 80 else 0
theorem smallA_eq (r : Int) (h0 : -2147483648 ≤ r) (h1 : r ≤ 2147483647) : smallA r = smallP r := by
  unfold smallA smallP
  rw [capB_wr r 1 h0 h1 (by omega) (by omega), capB_wr r 32 h0 h1 (by omega) (by omega), capB_wr r 80 h0 h1 (by omega) (by omega)]
theorem smallP_out (r : Int) (h : r < 17 ∨ 1119 < r) : smallP r = 0 := by
  unfold smallP
  rw [capB_out (r + 1) (by omega), if_neg (by omega)]
  by_cases a : r + 32 < 97 ∨ 1119 < r + 32
  · rw [capB_out (r + 32) a, if_neg (by omega)]
    rw [capB_out (r + 80) (by omega), if_neg (by omega)]
  · omega

theorem evenB_t (r : Int) : (evenB r = true) = ((r ≠ 304 ∧ r ≠ 305 ∧ 256 ≤ r ∧ r ≤ 311) ∨ (330 ≤ r ∧ r ≤ 375)) := by simp [evenB]
theorem evenB_f (r : Int) : (evenB r = false) = ¬ ((r ≠ 304 ∧ r ≠ 305 ∧ 256 ≤ r ∧ r ≤ 311) ∨ (330 ≤ r ∧ r ≤ 375)) := by rw [← evenB_t]; simp
theorem oddB_t (r : Int) : (oddB r = true) = ((313 ≤ r ∧ r ≤ 328) ∨ (377 ≤ r ∧ r ≤ 382)) := by simp [oddB]
theorem oddB_f (r : Int) : (oddB r = false) = ¬ ((313 ≤ r ∧ r ≤ 328) ∨ (377 ≤ r ∧ r ≤ 382)) := by rw [← oddB_t]; simp

/-- Which distance at which character. -/
theorem capB_cases (r : Int) :
    (capB r = 32 ∧ ((97 ≤ r ∧ r ≤ 122) ∨ (224 ≤ r ∧ r ≤ 254 ∧ r ≠ 247) ∨ (945 ≤ r ∧ r ≤ 969 ∧ r ≠ 962) ∨ (1072 ≤ r ∧ r ≤ 1103)))
    ∨ (capB r = 1 ∧ ((((r ≠ 304 ∧ r ≠ 305 ∧ 256 ≤ r ∧ r ≤ 311) ∨ (330 ≤ r ∧ r ≤ 375)) ∧ r % 2 = 1) ∨ (((313 ≤ r ∧ r ≤ 328) ∨ (377 ≤ r ∧ r ≤ 382)) ∧ r % 2 = 0)))
    ∨ (capB r = 80 ∧ 1104 ≤ r ∧ r ≤ 1119)
    ∨ (capB r = 0 ∧ ¬ (97 ≤ r ∧ r ≤ 122) ∧ ¬ (224 ≤ r ∧ r ≤ 254 ∧ r ≠ 247) ∧ ¬ (945 ≤ r ∧ r ≤ 969 ∧ r ≠ 962) ∧ ¬ (1072 ≤ r ∧ r ≤ 1119)
        ∧ ¬ (((r ≠ 304 ∧ r ≠ 305 ∧ 256 ≤ r ∧ r ≤ 311) ∨ (330 ≤ r ∧ r ≤ 375)) ∧ r % 2 = 1) ∧ ¬ (((313 ≤ r ∧ r ≤ 328) ∨ (377 ≤ r ∧ r ≤ 382)) ∧ r % 2 = 0)) := by
  unfold capB
  simp only [evenB_t, oddB_t]
  split
  · omega
  · split
    · omega
    · split
      · omega
      · split
        · omega
        · split
          · omega
          · split
            · omega
            · split <;> omega

/-- Which distance at which capital. -/
def SmallAt (r s : Int) : Prop :=
    (s = 1 ∧ ((((r ≠ 304 ∧ 256 ≤ r ∧ r ≤ 310) ∨ (330 ≤ r ∧ r ≤ 374)) ∧ r % 2 = 0) ∨ (((313 ≤ r ∧ r ≤ 327) ∨ (377 ≤ r ∧ r ≤ 381)) ∧ r % 2 = 1)))
    ∨ (s = 32 ∧ ((65 ≤ r ∧ r ≤ 90) ∨ (192 ≤ r ∧ r ≤ 222 ∧ r ≠ 215) ∨ (913 ≤ r ∧ r ≤ 937 ∧ r ≠ 930) ∨ (1040 ≤ r ∧ r ≤ 1071)))
    ∨ (s = 80 ∧ 1024 ≤ r ∧ r ≤ 1039)
    ∨ (s = 0 ∧ ¬ (65 ≤ r ∧ r ≤ 90) ∧ ¬ (192 ≤ r ∧ r ≤ 222 ∧ r ≠ 215) ∧ ¬ (913 ≤ r ∧ r ≤ 937 ∧ r ≠ 930) ∧ ¬ (1024 ≤ r ∧ r ≤ 1071)
        ∧ ¬ (((r ≠ 304 ∧ 256 ≤ r ∧ r ≤ 310) ∨ (330 ≤ r ∧ r ≤ 374)) ∧ r % 2 = 0) ∧ ¬ (((313 ≤ r ∧ r ≤ 327) ∨ (377 ≤ r ∧ r ≤ 381)) ∧ r % 2 = 1))
def smallS (r : Int) : Int :=
  if (((r ≠ 304 ∧ 256 ≤ r ∧ r ≤ 310) ∨ (330 ≤ r ∧ r ≤ 374)) ∧ r % 2 = 0) ∨ (((313 ≤ r ∧ r ≤ 327) ∨ (377 ≤ r ∧ r ≤ 381)) ∧ r % 2 = 1) then 1
  else if (65 ≤ r ∧ r ≤ 90) ∨ (192 ≤ r ∧ r ≤ 222 ∧ r ≠ 215) ∨ (913 ≤ r ∧ r ≤ 937 ∧ r ≠ 930) ∨ (1040 ≤ r ∧ r ≤ 1071) then 32
  else if 1024 ≤ r ∧ r ≤ 1039 then 80 else 0
theorem smallS_dec : ∀ k : Nat, k < 1200 → smallP (k : Int) = smallS (k : Int) := by decide +kernel
theorem smallS_cases (r : Int) : SmallAt r (smallS r) := by
  unfold smallS SmallAt
  split
  · omega
  · split
    · omega
    · split <;> omega
theorem smallP_cases (r : Int) : SmallAt r (smallP r) := by
  by_cases h : 0 ≤ r ∧ r < 1200
  · have := smallS_dec r.toNat (by omega)
    rw [Int.toNat_of_nonneg h.1] at this
    rw [this]
    exact smallS_cases r
  · rw [smallP_out r (by omega)]
    unfold SmallAt
    omega
set_option linter.unusedSimpArgs false
set_option linter.unusedVariables false
theorem ret_int {k : IntKind} {a b : Int} (h : a = b) : Ending.returned (.int k a) = .returned (.int k b) := by rw [h]
theorem ret_bool {a b : Bool} (h : a = b) : Ending.returned (.bool a) = .returned (.bool b) := by rw [h]
set_option maxHeartbeats 400000 in
theorem even_any (r : Int) (w : World) :
    Calls Tryz.prog 104 #[.int .i32 r] w fun e w' => e = .returned (.bool (evenB r)) ∧ w' = w := by
  go_enter Tryz.func104, Tryz.ntmps104
  go_wp2
  all_goals go_ret
  all_goals refine ⟨ret_bool ?_, rfl⟩
  all_goals (unfold evenB; rw [Bool.eq_iff_iff]; simp at *; omega)
set_option maxHeartbeats 400000 in
theorem odd_any (r : Int) (w : World) :
    Calls Tryz.prog 105 #[.int .i32 r] w fun e w' => e = .returned (.bool (oddB r)) ∧ w' = w := by
  go_enter Tryz.func105, Tryz.ntmps105
  go_wp2
  all_goals go_ret
  all_goals refine ⟨ret_bool ?_, rfl⟩
  all_goals (unfold oddB; rw [Bool.eq_iff_iff]; simp at *; try omega)
set_option maxHeartbeats 1000000 in
theorem cap_any (r : Int) (w : World) :
    Calls Tryz.prog 68 #[.int .i32 r] w fun e w' => e = .returned (.int .i32 (capB r)) ∧ w' = w := by
  have HC : Hid _ := capB_cases r
  have h0 : evenB r = true → 0 ≤ r := by rw [evenB_t]; omega
  have h1 : oddB r = true → 0 ≤ r := by rw [oddB_t]; omega
  by_cases he : evenB r = true
  · have hr := h0 he
    clear h0 h1
    go_enter Tryz.func68, Tryz.ntmps68
    go_wp2_with (first | (go_at_call 104; refine (even_any _ _).mono ?_; rintro e w' ⟨rfl, rfl⟩) | (go_at_call 105; refine (odd_any _ _).mono ?_; rintro e w' ⟨rfl, rfl⟩))
    all_goals go_ret
    all_goals refine ⟨ret_int ?_, rfl⟩
    all_goals (have hc := HC.out; go_light; simp only [evenB_t, oddB_t, evenB_f, oddB_f, Bool.not_eq_true, beq_iff_eq, bne_iff_ne, beq_eq_false_iff_ne, bne_eq_false_iff_eq, ne_eq] at *; omega)
  · by_cases ho : oddB r = true
    · have hr := h1 ho
      clear h0 h1
      go_enter Tryz.func68, Tryz.ntmps68
      go_wp2_with (first | (go_at_call 104; refine (even_any _ _).mono ?_; rintro e w' ⟨rfl, rfl⟩) | (go_at_call 105; refine (odd_any _ _).mono ?_; rintro e w' ⟨rfl, rfl⟩))
      all_goals go_ret
      all_goals refine ⟨ret_int ?_, rfl⟩
      all_goals (have hc := HC.out; go_light; simp only [evenB_t, oddB_t, evenB_f, oddB_f, Bool.not_eq_true, beq_iff_eq, bne_iff_ne, beq_eq_false_iff_ne, bne_eq_false_iff_eq, ne_eq] at *; omega)
    · clear h0 h1
      go_enter Tryz.func68, Tryz.ntmps68
      go_wp2_with (first | (go_at_call 104; refine (even_any _ _).mono ?_; rintro e w' ⟨rfl, rfl⟩) | (go_at_call 105; refine (odd_any _ _).mono ?_; rintro e w' ⟨rfl, rfl⟩))
      all_goals go_ret
      all_goals refine ⟨ret_int ?_, rfl⟩
      all_goals (have hc := HC.out; go_light; simp only [evenB_t, oddB_t, evenB_f, oddB_f, Bool.not_eq_true, beq_iff_eq, bne_iff_ne, beq_eq_false_iff_ne, bne_eq_false_iff_eq, ne_eq] at *; omega)
set_option maxHeartbeats 1000000 in
theorem smallA_any (r : Int) (w : World) :
    Calls Tryz.prog 67 #[.int .i32 r] w fun e w' => e = .returned (.int .i32 (smallA r)) ∧ w' = w := by
  go_enter Tryz.func67, Tryz.ntmps67
  go_wp2_with (go_at_call 68; refine (cap_any _ _).mono ?_; rintro e w' ⟨rfl, rfl⟩)
  all_goals go_ret
  all_goals refine ⟨ret_int ?_, rfl⟩
  all_goals (unfold smallA; simp at *; simp [*])
end Go.Proofs.YtjlpecapebhgjaaGreatDoor.C
namespace Go.Proofs
open Go.Shelf
def Tryz.lays166_ren : Go.Shelf.Ren := ⟨fun | 166 => 39 | 240 => 65 | 276 => 102 | n => n, fun | 70 => 86 | 9 => 9 | 3 => 3 | 75 => 90 | 0 => 0 | 72 => 88 | 37 => 36 | 4 => 4 | 164 => 134 | 80 => 95 | 5 => 5 | 20 => 20 | n => n, fun | n => n⟩
theorem Tryz.lays166 : Go.Proofs.Lays.n166 Tryz.prog Tryz.lays166_ren := {
  mixed := by kernel_rfl
  f166 := Tryz.func39.trans (congrArg some (by kernel_rfl))
  f240 := Tryz.func65.trans (congrArg some (by kernel_rfl))
  f276 := Tryz.func102.trans (congrArg some (by kernel_rfl))
  t0 := Tryz.underlying0
  a0 := Tryz.isAgg0
  z0 := Tryz.sizeOf0
  v0 := Tryz.zeroValue0
  t3 := Tryz.underlying3
  a3 := Tryz.isAgg3
  z3 := Tryz.sizeOf3
  v3 := Tryz.zeroValue3
  t4 := Tryz.underlying4
  a4 := Tryz.isAgg4
  z4 := Tryz.sizeOf4
  v4 := Tryz.zeroValue4
  t9 := Tryz.underlying9
  a9 := Tryz.isAgg9
  z9 := Tryz.sizeOf9
  v9 := Tryz.zeroValue9
  t20 := Tryz.underlying20
  a20 := Tryz.isAgg20
  z20 := Tryz.sizeOf20
  v20 := Tryz.zeroValue20
  t37 := Tryz.underlying36
  a37 := Tryz.isAgg36
  z37 := Tryz.sizeOf36
  v37 := Tryz.zeroValue36
  t70 := Tryz.underlying86
  a70 := Tryz.isAgg86
  z70 := Tryz.sizeOf86
  v70 := Tryz.zeroValue86
  t72 := Tryz.underlying88
  a72 := Tryz.isAgg88
  z72 := Tryz.sizeOf88
  v72 := Tryz.zeroValue88
  t75 := Tryz.underlying90
  a75 := Tryz.isAgg90
  z75 := Tryz.sizeOf90
  v75 := Tryz.zeroValue90
  t164 := Tryz.underlying134
  a164 := Tryz.isAgg134
  z164 := Tryz.sizeOf134
  v164 := Tryz.zeroValue134 }
theorem Tryz.Builder_Extra_166 : Builder.Extra Tryz.prog Tryz.lays166_ren := {
  sizeBuilder := by kernel_rfl
  liesBuilder := by kernel_rfl
  t5 := Tryz.underlying5
  a5 := Tryz.isAgg5
  z5 := Tryz.sizeOf5
  v5 := Tryz.zeroValue5
  infoByte := by kernel_rfl
  cellsByte := by kernel_rfl
  sizeByte := by kernel_rfl
  neB5 := by decide }
def Tryz.lays169_ren : Go.Shelf.Ren := ⟨fun | 169 => 43 | n => n, fun | 70 => 86 | 9 => 9 | 0 => 0 | 72 => 88 | 37 => 36 | 127 => 113 | 3 => 3 | 5 => 5 | n => n, fun | n => n⟩
theorem Tryz.lays169 : Go.Proofs.Lays.n169 Tryz.prog Tryz.lays169_ren := {
  mixed := by kernel_rfl
  f169 := Tryz.func43.trans (congrArg some (by kernel_rfl))
  t0 := Tryz.underlying0
  a0 := Tryz.isAgg0
  z0 := Tryz.sizeOf0
  v0 := Tryz.zeroValue0
  t3 := Tryz.underlying3
  a3 := Tryz.isAgg3
  z3 := Tryz.sizeOf3
  v3 := Tryz.zeroValue3
  t9 := Tryz.underlying9
  a9 := Tryz.isAgg9
  z9 := Tryz.sizeOf9
  v9 := Tryz.zeroValue9
  t37 := Tryz.underlying36
  a37 := Tryz.isAgg36
  z37 := Tryz.sizeOf36
  v37 := Tryz.zeroValue36
  t70 := Tryz.underlying86
  a70 := Tryz.isAgg86
  z70 := Tryz.sizeOf86
  v70 := Tryz.zeroValue86
  t72 := Tryz.underlying88
  a72 := Tryz.isAgg88
  z72 := Tryz.sizeOf88
  v72 := Tryz.zeroValue88
  t127 := Tryz.underlying113
  a127 := Tryz.isAgg113
  z127 := Tryz.sizeOf113
  v127 := Tryz.zeroValue113 }
theorem Tryz.Builder_Extra_169 : Builder.Extra Tryz.prog Tryz.lays169_ren := {
  sizeBuilder := by kernel_rfl
  liesBuilder := by kernel_rfl
  t5 := Tryz.underlying5
  a5 := Tryz.isAgg5
  z5 := Tryz.sizeOf5
  v5 := Tryz.zeroValue5
  infoByte := by kernel_rfl
  cellsByte := by kernel_rfl
  sizeByte := by kernel_rfl
  neB5 := by decide }
open Go.RowKit in
theorem Tryz.Builder_WriteString_k (B b : Nat) (bs : List Value) (s : ByteArray) (w : World) (h : Lib.IsBuilderF 88 5 B b bs w) (hlen : bs.length + s.size ≤ 140737488355328) (hBw : B ≤ w.heap.size) :
    Calls Tryz.prog 39 #[.pointer (some ⟨b, 0, none⟩), .string s] w fun e w' => e = .returned (.tuple #[.int .i64 s.size, .nilIface]) ∧ (Lib.BuilderAtF 88 5 B b (.pointer (some ⟨b, 0, none⟩)) (bs ++ Lib.strCells s) w' ∧ Below B w w' ∧ Lib.OthersKept 5 (some b) w w') := Any.Builder_WriteString_k Tryz.lays166 Tryz.Builder_Extra_166 B b bs s w h hlen hBw
open Go.RowKit in
theorem Tryz.Builder_String_any_k (B b : Nat) (l : List UInt8) (w : World) (h : Lib.IsBuilderF 88 5 B b (Lib.byteCells l) w) (hBw : B ≤ w.heap.size) :
    Calls Tryz.prog 43 #[.pointer (some ⟨b, 0, none⟩)] w fun e w' => e = .returned (.string ⟨l.toArray⟩) ∧ (Lib.IsBuilderF 88 5 B b (Lib.byteCells l) w' ∧ Below B w w' ∧ Lib.OthersKept 5 (some b) w w') := Any.Builder_String_any_k Tryz.lays169 Tryz.Builder_Extra_169 B b l w h hBw
def Tryz.lays168_ren : Go.Shelf.Ren := ⟨fun | 168 => 40 | 240 => 65 | 242 => 66 | 276 => 102 | 278 => 103 | n => n, fun | 70 => 86 | 21 => 21 | 3 => 3 | 75 => 90 | 0 => 0 | 72 => 88 | 37 => 36 | 4 => 4 | 164 => 134 | 51 => 118 | 5 => 5 | 46 => 111 | 80 => 95 | 9 => 9 | 20 => 20 | n => n, fun | n => n⟩
theorem Tryz.lays168 : Go.Proofs.Lays.n168 Tryz.prog Tryz.lays168_ren := {
  mixed := by kernel_rfl
  f168 := Tryz.func40.trans (congrArg some (by kernel_rfl))
  f240 := Tryz.func65.trans (congrArg some (by kernel_rfl))
  f242 := Tryz.func66.trans (congrArg some (by kernel_rfl))
  f276 := Tryz.func102.trans (congrArg some (by kernel_rfl))
  f278 := Tryz.func103.trans (congrArg some (by kernel_rfl))
  t0 := Tryz.underlying0
  a0 := Tryz.isAgg0
  z0 := Tryz.sizeOf0
  v0 := Tryz.zeroValue0
  t3 := Tryz.underlying3
  a3 := Tryz.isAgg3
  z3 := Tryz.sizeOf3
  v3 := Tryz.zeroValue3
  t4 := Tryz.underlying4
  a4 := Tryz.isAgg4
  z4 := Tryz.sizeOf4
  v4 := Tryz.zeroValue4
  t5 := Tryz.underlying5
  a5 := Tryz.isAgg5
  z5 := Tryz.sizeOf5
  v5 := Tryz.zeroValue5
  t9 := Tryz.underlying9
  a9 := Tryz.isAgg9
  z9 := Tryz.sizeOf9
  v9 := Tryz.zeroValue9
  t20 := Tryz.underlying20
  a20 := Tryz.isAgg20
  z20 := Tryz.sizeOf20
  v20 := Tryz.zeroValue20
  t21 := Tryz.underlying21
  a21 := Tryz.isAgg21
  z21 := Tryz.sizeOf21
  v21 := Tryz.zeroValue21
  t37 := Tryz.underlying36
  a37 := Tryz.isAgg36
  z37 := Tryz.sizeOf36
  v37 := Tryz.zeroValue36
  t46 := Tryz.underlying111
  a46 := Tryz.isAgg111
  z46 := Tryz.sizeOf111
  v46 := Tryz.zeroValue111
  t51 := Tryz.underlying118
  a51 := Tryz.isAgg118
  z51 := Tryz.sizeOf118
  v51 := Tryz.zeroValue118
  t70 := Tryz.underlying86
  a70 := Tryz.isAgg86
  z70 := Tryz.sizeOf86
  v70 := Tryz.zeroValue86
  t72 := Tryz.underlying88
  a72 := Tryz.isAgg88
  z72 := Tryz.sizeOf88
  v72 := Tryz.zeroValue88
  t75 := Tryz.underlying90
  a75 := Tryz.isAgg90
  z75 := Tryz.sizeOf90
  v75 := Tryz.zeroValue90
  t164 := Tryz.underlying134
  a164 := Tryz.isAgg134
  z164 := Tryz.sizeOf134
  v164 := Tryz.zeroValue134 }
theorem Tryz.Builder_Extra_168 : Builder.Extra Tryz.prog Tryz.lays168_ren := {
  sizeBuilder := by kernel_rfl
  liesBuilder := by kernel_rfl
  t5 := Tryz.underlying5
  a5 := Tryz.isAgg5
  z5 := Tryz.sizeOf5
  v5 := Tryz.zeroValue5
  infoByte := by kernel_rfl
  cellsByte := by kernel_rfl
  sizeByte := by kernel_rfl
  neB5 := by decide }
open Go.RowKit in
theorem Tryz.Builder_WriteRune_k (B b : Nat) (bs : List Value) (r : Int) (hr0 : -2147483648 ≤ r) (hr1 : r ≤ 2147483647) (w : World) (h : Lib.IsBuilderF 88 5 B b bs w) (hlen : bs.length + 4 ≤ 140737488355328) (hBw : B ≤ w.heap.size) :
    Calls Tryz.prog 40 #[.pointer (some ⟨b, 0, none⟩), .int .i32 r] w fun e w' => e = .returned (.tuple #[.int .i64 (Lib.runeCells r).length, .nilIface]) ∧ (Lib.BuilderAtF 88 5 B b (.pointer (some ⟨b, 0, none⟩)) (bs ++ Lib.runeCells r) w' ∧ Below B w w' ∧ Lib.OthersKept 5 (some b) w w') := Any.Builder_WriteRune_k Tryz.lays168 Tryz.Builder_Extra_168 B b bs r hr0 hr1 w h hlen hBw
end Go.Proofs
namespace Go.Proofs.YtjlpecapebhgjaaGreatDoor.C
open Go.RowKit
set_option linter.unusedSimpArgs false
set_option linter.unusedVariables false

def upZ (r : Int) : Int := if r = 962 then 931 else if r = 383 then 83 else if r = 255 then 376 else r - capB r
def downZ (r : Int) : Int := if r = 376 then 255 else r + smallA r
set_option maxHeartbeats 1000000 in
theorem up_any (r : Int) (h0 : -2147483648 ≤ r) (h1 : r ≤ 2147483647) (w : World) :
    Calls Tryz.prog 42 #[.int .i32 r] w fun e w' => e = .returned (.int .i32 (upZ r)) ∧ w' = w := by
  have HC : Hid _ := capB_cases r
  have hb : -2147483648 ≤ r - capB r ∧ r - capB r ≤ 2147483647 := by
    have := HC.out
    omega
  go_enter Tryz.func42, Tryz.ntmps42
  go_wp2_with (go_at_call 68; refine (cap_any _ _).mono ?_; rintro e w' ⟨rfl, rfl⟩)
  all_goals go_ret
  all_goals refine ⟨ret_int ?_, rfl⟩
  all_goals (unfold upZ; simp at *; first | omega | simp [*])

set_option maxHeartbeats 1000000 in
theorem down_any (r : Int) (h0 : -2147483648 ≤ r) (h1 : r ≤ 2147483647) (w : World) :
    Calls Tryz.prog 41 #[.int .i32 r] w fun e w' => e = .returned (.int .i32 (downZ r)) ∧ w' = w := by
  have hb : -2147483648 ≤ r + smallA r ∧ r + smallA r ≤ 2147483647 := by
    rw [smallA_eq r h0 h1]
    have := smallP_cases r
    unfold SmallAt at this
    omega
  go_enter Tryz.func41, Tryz.ntmps41
  go_wp2_with (go_at_call 67; refine (smallA_any _ _).mono ?_; rintro e w' ⟨rfl, rfl⟩)
  all_goals go_ret
  all_goals refine ⟨ret_int ?_, rfl⟩
  all_goals (unfold downZ; simp at *; first | omega | simp [*])

def foldC (r : Int) : List Int := if r = 223 then [115, 115] else [downZ (upZ r)]
def fold (l : List UInt8) : List UInt8 := encs ((runes l).flatMap foldC)

theorem upZ_bd (r : Int) (h0 : -2147483648 ≤ r) (h1 : r ≤ 2147483647) : -2147483648 ≤ upZ r ∧ upZ r ≤ 2147483647 := by
  have := capB_cases r
  unfold upZ
  repeat' split
  all_goals omega
theorem downZ_bd (r : Int) (h0 : -2147483648 ≤ r) (h1 : r ≤ 2147483647) : -2147483648 ≤ downZ r ∧ downZ r ≤ 2147483647 := by
  have := smallP_cases r
  unfold SmallAt at this
  unfold downZ
  rw [smallA_eq r h0 h1]
  split <;> omega

/-- One step of a text that is gone through character by character. -/
theorem text_step (s : ByteArray) (pos : Nat) (hp : pos < s.size) (F : Int → List Int) :
    encs ((runes (s.data.toList.drop pos)).flatMap F) = encs (F (Utf8.decode s pos).1) ++ encs ((runes (s.data.toList.drop (pos + (Utf8.decode s pos).2))).flatMap F) := by
  have hne : s.data.toList.drop pos ≠ [] := by
    intro h
    have := congrArg List.length h
    rw [List.length_drop, ← Lib.size_eq] at this
    simp at this
    omega
  rw [runes_step _ hne, Lib.decodeL_drop, List.drop_drop, List.flatMap_cons, encs_app]
theorem text_end (s : ByteArray) (pos : Nat) (hp : ¬ pos < s.size) (F : Int → List Int) : encs ((runes (s.data.toList.drop pos)).flatMap F) = [] := by
  have : s.data.toList.drop pos = [] := List.drop_eq_nil_of_le (by rw [← Lib.size_eq]; omega)
  rw [this]
  rfl
theorem width_pos (s : ByteArray) (pos : Nat) (h : pos < s.size) : 1 ≤ (Utf8.decode s pos).2 := by
  by_cases ha : (s[pos]'h).toNat < 128
  · rw [decode_ascii s pos h ha]
    exact Nat.le_refl _
  · exact (decode_high s pos h (by omega)).2

set_option maxHeartbeats 4000000 in
set_option maxRecDepth 1000000 in
theorem fold_any (s : ByteArray) (w : World) (hs : s.size ≤ 35184372088832) :
    Calls Tryz.prog 23 #[.string s] w fun e w' => e = .returned (.string ⟨(fold s.data.toList).toArray⟩) ∧ Below w.heap.size w w' := by
  go_enter Tryz.func23, Tryz.ntmps23
  go_wp2
  go_loopw [] (fun wr => ∃ (pos : Nat) (acc : List UInt8), Lib.IsBuilderF 88 5 w.heap.size w.heap.size (Lib.byteCells acc) wr ∧ wr.heap[w.heap.size + 1]? = some (.stringIter s pos) ∧ Below w.heap.size w wr ∧ acc ++ encs ((runes (s.data.toList.drop pos)).flatMap foldC) = fold s.data.toList ∧ acc.length ≤ 4 * pos) (fun wr => s.size - wr.iterPos (w.heap.size + 1))
  case atStart =>
    refine ⟨0, [], (Lib.IsBuilderF.of (Lib.fresh_isBuilder 88 5 w)).alloc _, ?_, ((Below.refl _ w).alloc (Nat.le_refl _) _).alloc (by simp) _, rfl, by simp⟩
    have := World.iter_heap (w.alloc (.cells #[.pointer none, .slice none 0 0] 88)) s 0
    simpa using this
  case round =>
    obtain ⟨pos, acc, hI, hit, hbw, hacc, hal⟩ := hrel
    have hsz : w.heap.size + 1 < wr.heap.size := (Array.getElem?_eq_some_iff.1 hit).1
    by_cases hp : pos < s.size
    · have hnx : ∀ ty, (Instr.next (.pointer (some ⟨w.heap.size + 1, 0, none⟩)) true ty).run Tryz.prog wr = _ := fun ty => Lib.run_next_any_at wr (w.heap.size + 1) s pos ty hit hp
      have hwd := width_pos s pos hp
      have hd1 := decode_le s pos
      have hI2 := hI.iterAt hit (pos + (Utf8.decode s pos).2)
      have hit2 := Lib.iterAt_heap wr (w.heap.size + 1) s pos (pos + (Utf8.decode s pos).2) hit
      have hbw2 := Lib.below_iterAt hbw (k := w.heap.size + 1) (by omega) s (pos + (Utf8.decode s pos).2)
      have hsz2 : w.heap.size ≤ (wr.iterAt (w.heap.size + 1) s (pos + (Utf8.decode s pos).2)).heap.size := by rw [Lib.iterAt_size]; omega
      have HS : Hid _ := text_step s pos hp foldC
      have HA : Hid _ := hacc
      clear hacc
      by_cases h223 : (Utf8.decode s pos).1 = 223
      · go_wp2_with (go_at_call 39; refine (Tryz.Builder_WriteString_k w.heap.size w.heap.size _ ⟨#[115, 115]⟩ _ hI2 (by rw [Lib.byteCells_length]; show acc.length + 2 ≤ _; omega) hsz2).mono ?_)
        rintro e W1 ⟨rfl, h1, b1, k1⟩
        go_wp2
        go_roundw
        case rel =>
          refine ⟨pos + (Utf8.decode s pos).2, acc ++ [115, 115], ?_, k1.iter hit2 (by omega), hbw2.trans b1, ?_, by simp; omega⟩
          · rw [Lib.byteCells_append]; exact Or.inr h1
          · rw [← HA.out, HS.out, h223]; simp [foldC]; rfl
        case measure =>
          simp only [World.iterPos, k1.iter hit2 (by omega), hit]
          omega
      · have hub := upZ_bd ((Utf8.decode s pos).1 : Int) (by omega) (by omega)
        have hdb := downZ_bd (upZ ((Utf8.decode s pos).1 : Int)) hub.1 hub.2
        go_wp2_with (first | (go_at_call 42; refine (up_any _ (by omega) (by omega) _).mono ?_; rintro e w' ⟨rfl, rfl⟩) | (go_at_call 41; refine (down_any _ (by omega) (by omega) _).mono ?_; rintro e w' ⟨rfl, rfl⟩) | (go_at_call 40; refine (Tryz.Builder_WriteRune_k w.heap.size w.heap.size _ _ (by omega) (by omega) _ hI2 (by rw [Lib.byteCells_length]; omega) hsz2).mono ?_))
        rintro e W1 ⟨rfl, h1, b1, k1⟩
        go_wp2
        go_roundw
        case rel =>
          have hl4 := encodeRune_len (downZ (upZ ((Utf8.decode s pos).1 : Int)))
          refine ⟨pos + (Utf8.decode s pos).2, acc ++ Lib.encodeRune (downZ (upZ (Utf8.decode s pos).1)), ?_, k1.iter hit2 (by omega), hbw2.trans b1, ?_, by simp; omega⟩
          · rw [Lib.byteCells_append, Lib.byteCells_encodeRune]; exact Or.inr h1
          · rw [← HA.out, HS.out]; have : ¬ ((Utf8.decode s pos).1 : Int) = 223 := by omega
            simp [foldC, this, encs]
        case measure =>
          simp only [World.iterPos, k1.iter hit2 (by omega), hit]
          omega
    · have hnx : ∀ ty, (Instr.next (.pointer (some ⟨w.heap.size + 1, 0, none⟩)) true ty).run Tryz.prog wr = _ := fun ty => Lib.run_next_end_at wr (w.heap.size + 1) s pos ty hit hp
      rw [text_end s pos hp, List.append_nil] at hacc
      go_wp2_with (go_at_call 43; refine (Tryz.Builder_String_any_k w.heap.size w.heap.size acc _ hI (by omega)).mono ?_)
      rintro e W1 ⟨rfl, _, b1, _⟩
      go_wp2
      go_ret
      subst hacc
      exact ⟨rfl, hbw.trans b1⟩
theorem foldC_len (r : Int) : (encs (foldC r)).length ≤ 4 := by
  unfold foldC
  split
  · decide
  · rw [show encs [downZ (upZ r)] = Lib.encodeRune (downZ (upZ r)) from by simp [encs]]
    exact (encodeRune_len _).2
theorem fold_at (s : ByteArray) : ∀ (n pos : Nat), s.size - pos ≤ n → (encs ((runes (s.data.toList.drop pos)).flatMap foldC)).length ≤ 4 * n
  | 0, pos, h => by rw [text_end s pos (by omega)]; simp
  | n + 1, pos, h => by
    by_cases hp : pos < s.size
    · rw [text_step s pos hp, List.length_append]
      have h1 := foldC_len ((Utf8.decode s pos).1 : Int)
      have h2 := width_pos s pos hp
      have h3 := fold_at s n (pos + (Utf8.decode s pos).2) (by omega)
      omega
    · rw [text_end s pos hp]; simp
theorem fold_len (l : List UInt8) : (fold l).length ≤ 4 * l.length := by
  have h := fold_at ⟨l.toArray⟩ l.length 0 (by simp [ByteArray.size])
  simpa [fold] using h
end Go.Proofs.YtjlpecapebhgjaaGreatDoor.C
namespace Go.Proofs.YtjlpecapebhgjaaGreatDoor.G
open Go.RowKit
set_option linter.unusedVariables false
set_option linter.unusedSimpArgs false
set_option maxRecDepth 100000
theorem TeA_is1_3 : Is1 Tryz.prog 3 := ⟨⟨_, Tryz.underlying3, rfl⟩, by kernel_rfl⟩
theorem TeA_is1_9 : Is1 Tryz.prog 9 := ⟨⟨_, Tryz.underlying9, rfl⟩, by kernel_rfl⟩
theorem TeA_fld_38_0 : FieldAt Tryz.prog 38 0 0 := ⟨_, _, Tryz.underlying38, rfl, rfl, by kernel_rfl⟩
theorem TeA_fld_38_3 : FieldAt Tryz.prog 38 3 8 := ⟨_, _, Tryz.underlying38, rfl, rfl, by kernel_rfl⟩
theorem TeA_fld_69_1 : FieldAt Tryz.prog 69 1 1 := ⟨_, _, Tryz.underlying69, rfl, rfl, by kernel_rfl⟩
theorem TeA_isS_38 : IsS Tryz.prog 38 11 := ⟨⟨_, Tryz.underlying38⟩, by kernel_rfl⟩
def isK (k : Int) : Bool := (k == 1) || (k == 2) || (k == 3)
/-- A folded text as a datum. -/
def foldS (s : ByteArray) : ByteArray := ⟨(C.fold s.data.toList).toArray⟩
def foldD (s : ByteArray) : Dt := .mk ⟨5, 0, ⟨Q6.zero, none, 0, none, 0, none, 0, none, 0⟩, foldS s, none, 0, [], none, 0⟩ []
def foldT (t : Tr) : Tr := .mk 5 0 Q6.zero (foldS t.s) [] []
theorem foldD_tr (s : ByteArray) : (foldD s).tr = .mk 5 0 Q6.zero (foldS s) [] [] := by unfold foldD; rw [Dt.tr_mk]; rfl
theorem tr_s (t : Dt) : t.tr.s = t.d.s := by cases t; rw [Dt.tr_mk]; rfl
theorem foldD_rd (w : World) (s : ByteArray) (h : (foldS s).size ≤ 9223372036854775807) : (foldD s).rd w :=
 Dt.rd_iff.2 ⟨⟨⟨Sc.none w, Sc.none w, Sc.none w, Sc.none w⟩, lenQ_zero, ⟨fun h => absurd rfl h⟩, Nat.le_refl _, by show (0 : Nat) ≤ _; omega, by show (-9223372036854775808 : Int) ≤ 5; omega, by show (5 : Int) ≤ 9223372036854775807; omega, by show (-9223372036854775808 : Int) ≤ 0; omega, by show (0 : Int) ≤ 9223372036854775807; omega, h⟩, Nat.le_refl _, by show (0 : Nat) ≤ _; omega, fun h => absurd rfl h, fun t h => by cases h⟩
theorem foldD_at (p : Nat → Prop) (s : ByteArray) : (foldD s).at_ p :=
 Dt.at_iff.2 ⟨⟨fun h => absurd rfl h, fun h => absurd rfl h, fun h => absurd rfl h, fun h => absurd rfl h, fun h => absurd rfl h⟩, fun h => absurd rfl h, fun t h => by cases h⟩
/-- What a kind's marks are: how they are made, and of which keys. -/
structure Marks (kind : Int) (mk : Tr → Tr) (ok : Tr → Bool) : Prop where
 kd : isK kind = true
 run : ∀ {w : World} {t : Dt}, t.rd w → t.tr.bulk ≤ 4000000 → ok t.tr = true → Calls Tryz.prog 48 #[.int .i64 kind, .agg (t.d.cells t.ts.length).toArray] w fun e w' => ∃ m : Dt, e = .returned (.tuple #[.agg (m.d.cells m.ts.length).toArray, .int .i64 0]) ∧ (m.rd w' ∧ m.tr = mk t.tr ∧ (m = t ∨ m.at_ (w.heap.size ≤ ·))) ∧ Below w.heap.size w w'
 no : ∀ {w : World} {t : Dt}, t.rd w → t.tr.bulk ≤ 4000000 → ok t.tr = false → Calls Tryz.prog 48 #[.int .i64 kind, .agg (t.d.cells t.ts.length).toArray] w fun e w' => e = .returned (.tuple #[.agg (zeroD.d.cells zeroD.ts.length).toArray, .int .i64 10]) ∧ Below w.heap.size w w'
theorem text_bulk (t : Dt) : t.d.s.size ≤ t.tr.bulk := by
 cases t; rw [Dt.tr_mk, trbulk_mk]; simp only [Dt.d]; omega
theorem isKind_any {w : World} {k : Int} : Calls Tryz.prog 25 #[.int .i64 k] w fun e w' => e = .returned (.bool (isK k)) ∧ Below w.heap.size w w' := by
 have M : Mg w w ([]) := Mg.start w
 refine walk_of (l := [(0, .int .i64 k)]) Tryz.func25 rfl Tryz.ntmps25 rfl rfl ?_
 intro Q hret hnorm hP a H
 refine wsk fun K1 hK1 => wrl (sda H λa H↦?_)
 refine seq_end (hK1 _ _ (wsk fun K2 hK2 => wrl (sdm H λa H↦?_)))
 rcases tf ((k == 1)) with hb3 | hb3
 ·
  have hb3' := eq_of_beq hb3
  refine sdc H bin_eql hb3 λa H↦?_
  refine sdm H λa H↦?_
  iterate 2 refine seq_skip H rfl rfl rfl λa H↦?_
  refine sdk (v := .bool true) H λa H↦?_
  refine sdm H λa H↦?_
  iterate 2 refine seq_skip H rfl rfl rfl λa H↦?_
  refine sdk (v := .bool true) H λa H↦?_
  refine sda H λa H↦?_
  refine seq_end (hK2 _ _ (wp_ret (hret _ _ (en1 H rfl (res_tmp rfl) ?_))))
  exact ⟨by unfold isK; simp_all, M.bel⟩
 ·
  have hb3' := ne_of_beq_false hb3
  refine sdc H bin_eql hb3 λa H↦?_
  iterate 2 refine sdm H λa H↦?_
  rcases tf ((k == 2)) with hb4 | hb4
  ·
   have hb4' := eq_of_beq hb4
   refine sdc H bin_eql hb4 λa H↦?_
   refine sdk (v := .bool true) H λa H↦?_
   refine sdm H λa H↦?_
   iterate 2 refine seq_skip H rfl rfl rfl λa H↦?_
   refine sdk (v := .bool true) H λa H↦?_
   refine sda H λa H↦?_
   refine seq_end (hK2 _ _ (wp_ret (hret _ _ (en1 H rfl (res_tmp rfl) ?_))))
   exact ⟨by unfold isK; simp_all, M.bel⟩
  ·
   have hb4' := ne_of_beq_false hb4
   refine sdc H bin_eql hb4 λa H↦?_
   refine sdk (v := .bool false) H λa H↦?_
   iterate 2 refine sdm H λa H↦?_
   rcases tf ((k == 3)) with hb5 | hb5
   ·
    have hb5' := eq_of_beq hb5
    refine sdc H bin_eql hb5 λa H↦?_
    refine sdk (v := .bool true) H λa H↦?_
    refine sda H λa H↦?_
    refine seq_end (hK2 _ _ (wp_ret (hret _ _ (en1 H rfl (res_tmp rfl) ?_))))
    exact ⟨by unfold isK; simp_all, M.bel⟩
   ·
    have hb5' := ne_of_beq_false hb5
    refine sdc H bin_eql hb5 λa H↦?_
    refine sdk (v := .bool false) H λa H↦?_
    refine sda H λa H↦?_
    refine seq_end (hK2 _ _ (wp_ret (hret _ _ (en1 H rfl (res_tmp rfl) ?_))))
    exact ⟨by unfold isK; simp_all, M.bel⟩
theorem there_any {w : World} {h z : Int} : Calls Tryz.prog 27 #[.agg #[.int .u64 h, .int .i64 z]] w fun e w' => e = .returned (.bool (decide (0 ≤ z))) ∧ Below w.heap.size w w' := by
 have M : Mg w w ([]) := Mg.start w
 refine walk_of (l := [(0, .agg #[.int .u64 h, .int .i64 z])]) Tryz.func27 rfl Tryz.ntmps27 rfl rfl ?_
 intro Q hret hnorm hP a H
 refine wsk fun K1 hK1 => wrl (s_new (vs := [.int .u64 h, .int .i64 z]) (t := 69) H M rfl rfl rfl pg (does_box rfl rfl) (by decide) ?_)
 intro g2 w3 M a H
 refine sda H λa H↦?_
 refine seq_end (hK1 _ _ (wsk fun K4 hK4 => wrl (sdo (v := .pointer (some ⟨g2, 1, none⟩)) H (does_field TeA_fld_69_1 rfl rfl) λa H↦?_)))
 refine sdo H (m_load1 M TeA_is1_3 rfl 0 rfl rfl) λa H↦?_
 refine sdo (v := .bool (decide (0 ≤ z))) H (does_bin rfl rfl bin_geq) λa H↦?_
 refine sda H λa H↦?_
 refine seq_end (hK4 _ _ (wp_ret (hret _ _ (en1 H rfl (res_tmp rfl) ?_))))
 exact ⟨rfl, M.bel⟩
theorem fm_ok {w : World} {t : Dt} (hk : t.d.k = 5) (hs : t.d.s.size ≤ 4000000) : Calls Tryz.prog 73 #[.agg (t.d.cells t.ts.length).toArray] w fun e w' => e = .returned (.tuple #[.agg ((foldD t.d.s).d.cells (foldD t.d.s).ts.length).toArray, .int .i64 0]) ∧ Below w.heap.size w w' := by
 have M : Mg w w ([]) := Mg.start w
 refine walk_of (l := [(0, .agg (t.d.cells t.ts.length).toArray)]) Tryz.func73 rfl Tryz.ntmps73 rfl rfl ?_
 intro Q hret hnorm hP a H
 refine wsk fun K1 hK1 => wrl (s_new (vs := (t.d.cells t.ts.length)) (t := 38) H M rfl rfl rfl pg (does_box rfl rfl) (by decide) ?_)
 intro g2 w3 M a H
 refine s_new (vs := (zeroD.d.cells zeroD.ts.length)) (t := 38) H M rfl rfl rfl pg (does_alloc (z := .agg (zeroD.d.cells zeroD.ts.length).toArray) (by kernel_rfl) rfl) (by decide) ?_
 intro g4 w5 M a H
 refine sda H λa H↦?_
 refine seq_end (hK1 _ _ (wsk fun K6 hK6 => wsk fun K7 hK7 => wrl (sdo (v := .pointer (some ⟨g2, 0, none⟩)) H (does_field TeA_fld_38_0 rfl rfl) λa H↦?_)))
 refine sdo H (m_load1 M TeA_is1_3 rfl 1 rfl rfl) λa H↦?_
 refine sdo (v := .bool false) H (does_bin rfl rfl (fun w => (bin_neq w).trans (by rw [show ((t.d.k != 5)) = false from (bne_eq_false_iff_eq.2 hk)]))) λa H↦?_
 refine seq_end (hK7 _ _ (wp_cond_false (H.ev rfl) ?_))
 refine wp_skip (hK6 _ _ (wsk fun K8 hK8 => wrl (sdo (v := .pointer (some ⟨g2, 8, none⟩)) H (does_field TeA_fld_38_3 rfl rfl) λa H↦?_)))
 refine sdo H (m_load1 M TeA_is1_9 rfl 1 rfl rfl) λa H↦?_
 refine gcl H M (ef rfl rfl) (C.fold_any t.d.s _ (by omega)) fun w9 hbf M a H => ?_
 refine sdo (v := .agg #[.int .i64 5, .int .i64 0, .bool false, .slice none 0 0, .slice none 0 0, .bool false, .slice none 0 0, .slice none 0 0, .string (foldS t.d.s), .slice none 0 0, .slice none 0 0]) H (does_build rfl (fun w => by kernel_rfl)) λa H↦?_
 refine s_store (us := [.int .i64 5, .int .i64 0, .bool false, .slice none 0 0, .slice none 0 0, .bool false, .slice none 0 0, .slice none 0 0, .string (foldS t.d.s), .slice none 0 0, .slice none 0 0]) (L' := (.obj g4 (.cells #[.int .i64 5, .int .i64 0, .bool false, .slice none 0 0, .slice none 0 0, .bool false, .slice none 0 0, .slice none 0 0, .string (foldS t.d.s), .slice none 0 0, .slice none 0 0] 38) :: .obj g2 (.cells (t.d.cells t.ts.length).toArray 38) :: [])) H M rfl rfl (m_store rfl rfl rfl (by kernel_rfl) M 0 rfl rfl rfl) 0 rfl rfl rfl ?_
 intro w10 M
 refine sda H λa H↦?_
 refine seq_end (hK8 _ _ (wp_ret (hret _ _ (en2 H rfl (res_cellS M TeA_isS_38 rfl 0 rfl (cs := [.int .i64 5, .int .i64 0, .bool false, .slice none 0 0, .slice none 0 0, .bool false, .slice none 0 0, .slice none 0 0, .string (foldS t.d.s), .slice none 0 0, .slice none 0 0]) rfl rfl) (res_tmp rfl) ?_))))
 exact ⟨rfl, M.bel⟩
theorem fm_no {w : World} {t : Dt} (hk : t.d.k ≠ 5) : Calls Tryz.prog 73 #[.agg (t.d.cells t.ts.length).toArray] w fun e w' => e = .returned (.tuple #[.agg (zeroD.d.cells zeroD.ts.length).toArray, .int .i64 10]) ∧ Below w.heap.size w w' := by
 have M : Mg w w ([]) := Mg.start w
 refine walk_of (l := [(0, .agg (t.d.cells t.ts.length).toArray)]) Tryz.func73 rfl Tryz.ntmps73 rfl rfl ?_
 intro Q hret hnorm hP a H
 refine wsk fun K1 hK1 => wrl (s_new (vs := (t.d.cells t.ts.length)) (t := 38) H M rfl rfl rfl pg (does_box rfl rfl) (by decide) ?_)
 intro g2 w3 M a H
 refine s_new (vs := (zeroD.d.cells zeroD.ts.length)) (t := 38) H M rfl rfl rfl pg (does_alloc (z := .agg (zeroD.d.cells zeroD.ts.length).toArray) (by kernel_rfl) rfl) (by decide) ?_
 intro g4 w5 M a H
 refine sda H λa H↦?_
 refine seq_end (hK1 _ _ (wsk fun K6 hK6 => wsk fun K7 hK7 => wrl (sdo (v := .pointer (some ⟨g2, 0, none⟩)) H (does_field TeA_fld_38_0 rfl rfl) λa H↦?_)))
 refine sdo H (m_load1 M TeA_is1_3 rfl 1 rfl rfl) λa H↦?_
 refine sdo (v := .bool true) H (does_bin rfl rfl (fun w => (bin_neq w).trans (by rw [show ((t.d.k != 5)) = true from (bne_iff_ne.2 hk)]))) λa H↦?_
 refine seq_end (hK7 _ _ (wp_cond_true (H.ev rfl) ?_))
 refine wsk fun K8 hK8 => wrl (sdo (v := .agg (zeroD.d.cells zeroD.ts.length).toArray) H (does_build rfl (fun w => by kernel_rfl)) λa H↦?_)
 refine s_store (us := (zeroD.d.cells zeroD.ts.length)) (L' := (.obj g4 (.cells (zeroD.d.cells zeroD.ts.length).toArray 38) :: .obj g2 (.cells (t.d.cells t.ts.length).toArray 38) :: [])) H M rfl rfl (m_store rfl rfl rfl (by kernel_rfl) M 0 rfl rfl rfl) 0 rfl rfl rfl ?_
 intro w9 M
 refine sda H λa H↦?_
 refine seq_end (hK8 _ _ (wp_ret (hret _ _ (en2 H rfl (res_cellS M TeA_isS_38 rfl 0 rfl (cs := [.int .i64 0, .int .i64 0, .bool false, .slice none 0 0, .slice none 0 0, .bool false, .slice none 0 0, .slice none 0 0, .string (⟨#[]⟩), .slice none 0 0, .slice none 0 0]) rfl rfl) (res_tmp rfl) ?_))))
 exact ⟨rfl, M.bel⟩
theorem mark2_ok {w : World} {t : Dt} (hk : t.d.k = 5) (hs : t.d.s.size ≤ 4000000) : Calls Tryz.prog 48 #[.int .i64 2, .agg (t.d.cells t.ts.length).toArray] w fun e w' => e = .returned (.tuple #[.agg ((foldD t.d.s).d.cells (foldD t.d.s).ts.length).toArray, .int .i64 0]) ∧ Below w.heap.size w w' := by
 have M : Mg w w ([]) := Mg.start w
 refine walk_of (l := [(0, .int .i64 2), (1, .agg (t.d.cells t.ts.length).toArray)]) Tryz.func48 rfl Tryz.ntmps48 rfl rfl ?_
 intro Q hret hnorm hP a H
 refine wsk fun K1 hK1 => wrl (s_new (vs := (t.d.cells t.ts.length)) (t := 38) H M rfl rfl rfl pg (does_box rfl rfl) (by decide) ?_)
 intro g2 w3 M a H
 refine s_new (vs := (zeroD.d.cells zeroD.ts.length)) (t := 38) H M rfl rfl rfl pg (does_alloc (z := .agg (zeroD.d.cells zeroD.ts.length).toArray) (by kernel_rfl) rfl) (by decide) ?_
 intro g4 w5 M a H
 refine sda H λa H↦?_
 refine seq_end (hK1 _ _ (wsk fun K6 hK6 => wsk fun K7 hK7 => wrl (sdm H λa H↦?_)))
 refine seq_end (hK7 _ _ (wp_block (wsk fun K8 hK8 => wrl (sdo (v := .bool true) H (does_bin rfl rfl (fun w => by kernel_rfl)) λa H↦?_))))
 refine sda H λa H↦?_
 refine seq_end (hK8 _ _ (wp_cond_true (H.ev rfl) ?_))
 refine wsk fun K9 hK9 => wrl (sdo H (m_loadS M TeA_isS_38 rfl 1 rfl (cs := (t.d.cells t.ts.length)) rfl rfl) λa H↦?_)
 refine gcl H M (ef rfl rfl) (fm_ok hk hs) fun w10 hbm M a H => ?_
 iterate 2 refine sdo H (does_extract (vs := [.agg ((foldD t.d.s).d.cells (foldD t.d.s).ts.length).toArray, .int .i64 0]) rfl rfl) λa H↦?_
 refine s_store (us := ((foldD t.d.s).d.cells (foldD t.d.s).ts.length)) (L' := (.obj g4 (.cells ((foldD t.d.s).d.cells (foldD t.d.s).ts.length).toArray 38) :: .obj g2 (.cells (t.d.cells t.ts.length).toArray 38) :: [])) H M rfl rfl (m_store rfl rfl rfl (by kernel_rfl) M 0 rfl rfl rfl) 0 rfl rfl rfl ?_
 intro w11 M
 refine sda H λa H↦?_
 refine seq_end (hK9 _ _ (wp_ret (hret _ _ (en2 H rfl (res_cellS M TeA_isS_38 rfl 0 rfl (cs := [.int .i64 ((foldD t.d.s).d.k), .int .i64 ((foldD t.d.s).d.n), .bool ((foldD t.d.s).d.y.q.b1), .slice ((foldD t.d.s).d.y.o1) ((foldD t.d.s).d.y.q.t1.length) ((foldD t.d.s).d.y.c1), .slice ((foldD t.d.s).d.y.o2) ((foldD t.d.s).d.y.q.q1.length) ((foldD t.d.s).d.y.c2), .bool ((foldD t.d.s).d.y.q.b2), .slice ((foldD t.d.s).d.y.o3) ((foldD t.d.s).d.y.q.t2.length) ((foldD t.d.s).d.y.c3), .slice ((foldD t.d.s).d.y.o4) ((foldD t.d.s).d.y.q.q2.length) ((foldD t.d.s).d.y.c4), .string ((foldD t.d.s).d.s), .slice ((foldD t.d.s).d.ro) ((foldD t.d.s).d.rl.length) ((foldD t.d.s).d.rc), .slice ((foldD t.d.s).d.lo) ((foldD t.d.s).ts.length) ((foldD t.d.s).d.lc)]) rfl rfl) (res_tmp rfl) ?_))))
 exact ⟨rfl, M.bel⟩
theorem mark2_no {w : World} {t : Dt} (hk : t.d.k ≠ 5) : Calls Tryz.prog 48 #[.int .i64 2, .agg (t.d.cells t.ts.length).toArray] w fun e w' => e = .returned (.tuple #[.agg (zeroD.d.cells zeroD.ts.length).toArray, .int .i64 10]) ∧ Below w.heap.size w w' := by
 have M : Mg w w ([]) := Mg.start w
 refine walk_of (l := [(0, .int .i64 2), (1, .agg (t.d.cells t.ts.length).toArray)]) Tryz.func48 rfl Tryz.ntmps48 rfl rfl ?_
 intro Q hret hnorm hP a H
 refine wsk fun K1 hK1 => wrl (s_new (vs := (t.d.cells t.ts.length)) (t := 38) H M rfl rfl rfl pg (does_box rfl rfl) (by decide) ?_)
 intro g2 w3 M a H
 refine s_new (vs := (zeroD.d.cells zeroD.ts.length)) (t := 38) H M rfl rfl rfl pg (does_alloc (z := .agg (zeroD.d.cells zeroD.ts.length).toArray) (by kernel_rfl) rfl) (by decide) ?_
 intro g4 w5 M a H
 refine sda H λa H↦?_
 refine seq_end (hK1 _ _ (wsk fun K6 hK6 => wsk fun K7 hK7 => wrl (sdm H λa H↦?_)))
 refine seq_end (hK7 _ _ (wp_block (wsk fun K8 hK8 => wrl (sdo (v := .bool true) H (does_bin rfl rfl (fun w => by kernel_rfl)) λa H↦?_))))
 refine sda H λa H↦?_
 refine seq_end (hK8 _ _ (wp_cond_true (H.ev rfl) ?_))
 refine wsk fun K9 hK9 => wrl (sdo H (m_loadS M TeA_isS_38 rfl 1 rfl (cs := (t.d.cells t.ts.length)) rfl rfl) λa H↦?_)
 refine gcl H M (ef rfl rfl) (fm_no hk) fun w10 hbm M a H => ?_
 iterate 2 refine sdo H (does_extract (vs := [.agg (zeroD.d.cells zeroD.ts.length).toArray, .int .i64 10]) rfl rfl) λa H↦?_
 refine s_store (us := (zeroD.d.cells zeroD.ts.length)) (L' := (.obj g4 (.cells (zeroD.d.cells zeroD.ts.length).toArray 38) :: .obj g2 (.cells (t.d.cells t.ts.length).toArray 38) :: [])) H M rfl rfl (m_store rfl rfl rfl (by kernel_rfl) M 0 rfl rfl rfl) 0 rfl rfl rfl ?_
 intro w11 M
 refine sda H λa H↦?_
 refine seq_end (hK9 _ _ (wp_ret (hret _ _ (en2 H rfl (res_cellS M TeA_isS_38 rfl 0 rfl (cs := [.int .i64 zeroD.d.k, .int .i64 zeroD.d.n, .bool zeroD.d.y.q.b1, .slice zeroD.d.y.o1 zeroD.d.y.q.t1.length zeroD.d.y.c1, .slice zeroD.d.y.o2 zeroD.d.y.q.q1.length zeroD.d.y.c2, .bool zeroD.d.y.q.b2, .slice zeroD.d.y.o3 zeroD.d.y.q.t2.length zeroD.d.y.c3, .slice zeroD.d.y.o4 zeroD.d.y.q.q2.length zeroD.d.y.c4, .string zeroD.d.s, .slice zeroD.d.ro zeroD.d.rl.length zeroD.d.rc, .slice zeroD.d.lo zeroD.ts.length zeroD.d.lc]) rfl rfl) (res_tmp rfl) ?_))))
 exact ⟨rfl, M.bel⟩
def isS (t : Tr) : Bool := t.k == 5
theorem fold_size (s : ByteArray) (h : s.size ≤ 4000000) : (foldS s).size ≤ 9223372036854775807 := by
 have := C.fold_len s.data.toList
 have h2 : (foldS s).size = (C.fold s.data.toList).length := rfl
 have h3 : s.data.toList.length = s.size := (Lib.size_eq s).symm
 omega
theorem marks2 : Marks 2 foldT isS := ⟨rfl, fun {w t} ht hb hs => by
  have hk : t.d.k = 5 := by unfold isS at hs; rw [tr_k] at hs; exact beq_iff_eq.1 hs
  have hz : t.d.s.size ≤ 4000000 := Nat.le_trans (text_bulk t) hb
  exact (mark2_ok hk hz).mono fun e w' ⟨h, hb⟩ => ⟨_, h, ⟨foldD_rd _ _ (fold_size _ hz), by rw [foldD_tr]; unfold foldT; rw [tr_s], .inr (foldD_at _ _)⟩, hb⟩,
 fun {w t} ht hb hs => by
  have hk : t.d.k ≠ 5 := by unfold isS at hs; rw [tr_k] at hs; exact fun e => by rw [e] at hs; cases hs
  exact mark2_no hk⟩
theorem TeB_is1_24 : Is1 Tryz.prog 24 := ⟨⟨_, Tryz.underlying24, rfl⟩, by kernel_rfl⟩
theorem TeB_is1_3 : Is1 Tryz.prog 3 := ⟨⟨_, Tryz.underlying3, rfl⟩, by kernel_rfl⟩
theorem TeB_is1_64 : Is1 Tryz.prog 64 := ⟨⟨_, Tryz.underlying64, rfl⟩, by kernel_rfl⟩
theorem TeB_fld_66_0 : FieldAt Tryz.prog 66 0 0 := ⟨_, _, Tryz.underlying66, rfl, rfl, by kernel_rfl⟩
theorem TeB_fld_66_1 : FieldAt Tryz.prog 66 1 1 := ⟨_, _, Tryz.underlying66, rfl, rfl, by kernel_rfl⟩
theorem TeB_fld_74_1 : FieldAt Tryz.prog 74 1 1 := ⟨_, _, Tryz.underlying74, rfl, rfl, by kernel_rfl⟩
theorem TeB_isS_38 : IsS Tryz.prog 38 11 := ⟨⟨_, Tryz.underlying38⟩, by kernel_rfl⟩
theorem TeB_isS_69 : IsS Tryz.prog 69 2 := ⟨⟨_, Tryz.underlying69⟩, by kernel_rfl⟩
theorem TeB_isS_74 : IsS Tryz.prog 74 23 := ⟨⟨_, Tryz.underlying74⟩, by kernel_rfl⟩
theorem indexE_any {w : World} {so : Option Addr} {ca : Nat} {es : List Et} (hR : Rc w so (catC Et.c es)) (hl : es.length ≤ 1000000000) {f : FuncId} {cs : List Value} {p : Et → Bool} (hF : AskE Tryz.prog f cs w es p) : Calls Tryz.prog 50 #[.slice so es.length ca, .func (.func f) #[] cs.toArray] w fun e w' => e = .returned (.int .i64 (idxE p es)) ∧ Below w.heap.size w w' := by
 have M : Mg w w ([]) := Mg.start w
 refine walk_of (l := [(0, .slice so es.length ca), (1, .func (.func f) #[] cs.toArray)]) Tryz.func50 rfl Tryz.ntmps50 rfl rfl ?_
 intro Q hret hnorm hP a H
 refine wsk fun K1 hK1 => wrl (sda H λa H↦?_)
 refine seq_end (hK1 _ _ (wsk fun K2 hK2 => wsk fun K3 hK3 => wrl (sdm H λa H↦?_)))
 refine sdo H (does_len Tryz.underlying75 rfl) λa H↦?_
 refine sdm H λa H↦?_
 refine seq_end (hK3 _ _ (wp_block (wp_loop_n (fun m_ a w1 => ∃ (i : Nat), m_ = 1 + (es.length - i) ∧ (i ≤ es.length ∧ ∀ j u, j < i → es[j]? = some u → p u = false) ∧ Sl a 19 [(0, .slice so es.length ca), (1, .func (.func f) #[] cs.toArray), (6, .slice so es.length ca), (7, .int .i64 (((es.length : Nat) : Int))), (8, .int .i64 (((i : Nat) : Int)))] ∧ Mg w w1 ([])) _ ⟨0, rfl, ⟨Nat.zero_le _, fun j u h => absurd h (Nat.not_lt_zero _)⟩, H.keep _ ⟨rfl, rfl, rfl, rfl, rfl, trivial⟩, M⟩ ?_)))
 clear M H
 rintro m_ a w4 ⟨i, rfl, hinv6, H, M⟩ K5 hK5
 obtain ⟨hi0, hin9⟩ := hinv6
 refine wsk fun K7 hK7 => wrl ?_
 rcases tf (decide (((i : Nat) : Int) < ((es.length : Nat) : Int))) with hb8 | hb8
 ·
  have hb8' := of_decide_eq_true hb8
  refine sdc H bin_lss hb8 λa H↦?_
  refine seq_end (hK7 _ _ (wsk fun K9 hK9 => wp_cond_true (H.ev rfl) ?_))
  refine wp_skip (hK9 _ _ (wsk fun K10 hK10 => wp_block (wsk fun K11 hK11 => wrl (sdm H λa H↦?_))))
  refine sda H λa H↦?_
  refine seq_end (hK11 _ _ (wsk fun K12 hK12 => ?_))
  obtain ⟨e, be, oe, ie, me, le, He⟩ := kidE hR (i := i) (by omega)
  refine wrl ?_
  iterate 3 refine sdm H λa H↦?_
  refine sdo (v := .pointer (some ⟨be, oe + i * 23, none⟩)) H (does_indexD (k := i) Tryz.underlying75 (by kernel_rfl) rfl rfl rfl le (by omega)) λa H↦?_
  refine sdo H (m_loadHS M He TeB_isS_74 rfl rfl) λa H↦?_
  rcases tf (p e) with hb13 | hb13
  ·
   refine seq_call H rfl rfl rfl (enters_fn rfl rfl hF.inv) ((hb13 ▸ hF.run e _ me M.bel)) ?_
   rintro _ w15 ⟨rfl, hb14⟩
   replace M := M.call hb14
   refine ⟨_, rfl, ?_⟩
   intro a H
   refine seq_end (hK12 _ _ (wp_cond_true (H.ev rfl) ?_))
   refine wsk fun K16 hK16 => wrl (sdm H λa H↦?_)
   refine sda H λa H↦?_
   refine seq_end (hK16 _ _ (wp_ret (hret _ _ (en1 H rfl (res_tmp rfl) ?_))))
   exact ⟨by rw [idxE_hit hin9 ie hb13], M.bel⟩
  ·
   refine seq_call H rfl rfl rfl (enters_fn rfl rfl hF.inv) ((hb13 ▸ hF.run e _ me M.bel)) ?_
   rintro _ w18 ⟨rfl, hb17⟩
   replace M := M.call hb17
   refine ⟨_, rfl, ?_⟩
   intro a H
   refine seq_end (hK12 _ _ (wp_cond_false (H.ev rfl) ?_))
   refine wp_skip (hK10 _ _ (wrl (sdo (v := .int .i64 (((i + 1 : Nat) : Int))) H (does_bin rfl rfl (fun w => (bin_add (i64In (by omega) (by omega)) w).trans (by rw [show (((i : Nat) : Int) + 1 : Int) = ((i + 1 : Nat) : Int) from by omega]))) λa H↦?_)))
   refine sdm H λa H↦?_
   refine seq_end ?_
   replace M : Mg w w18 ([]) := by
    have h9 := M.sub (.refl _)
    exact h9
   refine hK5 _ _ _ (by omega) ⟨i + 1, rfl, ⟨by omega, fun j u hj hu => if h9 : j < i then hin9 j u h9 hu else by have h8 : j = i := (by omega); subst h8; rw [ie] at hu; rw [← Option.some.inj hu]; exact hb13⟩, H.keep _ ⟨rfl, rfl, rfl, rfl, rfl, trivial⟩, M⟩
 ·
  have hb8' := of_decide_eq_false hb8
  refine sdc H bin_lss hb8 λa H↦?_
  refine seq_end (hK7 _ _ (wsk fun K19 hK19 => wp_cond_false (H.ev rfl) ?_))
  refine wp_exit (hK2 _ _ (wsk fun K20 hK20 => wrl (sda H λa H↦?_)))
  refine seq_end (hK20 _ _ (wp_ret (hret _ _ (en1 H rfl (res_tmp rfl) ?_))))
  exact ⟨by rw [idxE_miss (fun j u hj => hin9 j u (by omega))], M.bel⟩
theorem fc_any {kind : Int} {mk : Tr → Tr} {ok : Tr → Bool} (hK : Marks kind mk ok) {w : World} {g3 g8 g m count last : Nat} (h3 : w.heap[g3]? = some (.cells #[.pointer (some ⟨g, 0, none⟩)] 24)) (hg : w.heap[g]? = some (.cells #[.int .i64 kind, .map (some m), .int .i64 (((count : Nat) : Int)), .int .i64 (((last : Nat) : Int))] 66)) {u : Dt} (h8 : Here w g8 0 (u.d.cells u.ts.length)) (hu : u.rd w) {e : Et} (hek : e.k.rd w) (heb : e.k.tr.bulk ≤ 4000000) (hok : ok e.k.tr = true) (hT : Tabs8 w) : Calls Tryz.prog 51 #[.agg (entC e.p e.k e.v).toArray, .pointer (some ⟨g3, 0, none⟩), .pointer (some ⟨g8, 0, none⟩)] w fun r w' => r = .returned (.bool (equT u.tr (mk e.k.tr))) ∧ Below w.heap.size w w' := by
 have M : Mg w w ([]) := Mg.start w
 refine walk_of (l := [(0, .agg (entC e.p e.k e.v).toArray), (1, .pointer (some ⟨g3, 0, none⟩)), (2, .pointer (some ⟨g8, 0, none⟩))]) Tryz.func51 rfl Tryz.ntmps51 rfl rfl ?_
 intro Q hret hnorm hP a H
 refine wsk fun K1 hK1 => wrl (s_new (vs := (entC e.p e.k e.v)) (t := 74) H M rfl rfl rfl pg (does_box rfl rfl) (by decide) ?_)
 intro g2 w3 M a H
 refine sda H λa H↦?_
 refine seq_end (hK1 _ _ (wsk fun K4 hK4 => ?_))
 have hJ5 : ∀ a w1, (∃ (m9 : Dt) (hmt9 : m9.tr = mk e.k.tr) (F9 : List Ck) (hF9 : ∀ w9, Mg w w9 F9 → m9.rd w9) (g9 : Nat), Sl a 20 [(0, .agg (entC e.p e.k e.v).toArray), (2, .pointer (some ⟨g8, 0, none⟩)), (4, .bool false), (5, .pointer (some ⟨g9, 0, none⟩)), (6, .int .i64 0)] ∧ Mg w w1 (.obj g9 (.cells (m9.d.cells m9.ts.length).toArray 38) :: .obj g2 (.cells (entC e.p e.k e.v).toArray 74) :: F9)) → K4 a w1 := by
  clear H M
  rintro a w6 ⟨m9, hmt9, F9, hF9, g9, H, M⟩
  refine hK4 _ _ (wsk fun K7 hK7 => wrl (sdo H (m_loadHS M h8 TeB_isS_38 rfl rfl) λa H↦?_))
  refine sdo H (m_loadS M TeB_isS_38 rfl 0 rfl (cs := (m9.d.cells m9.ts.length)) rfl rfl) λa H↦?_
  refine gcl H M (ef rfl rfl) (equal_any (Dt.keep M.bel _ hu) (hF9 _ (M.dropn 2)) (hT.below M.bel)) fun w8 hbq M a H => ?_
  refine sda H λa H↦?_
  refine seq_end (hK7 _ _ (wp_ret (hret _ _ (en1 H rfl (res_tmp rfl) ?_))))
  exact ⟨by rw [hmt9], M.bel⟩
 refine wp_draw (S := fun w1 => Mg w w1 (.obj g2 (.cells (entC e.p e.k e.v).toArray 74) :: [])) (by kernel_rfl) ?_
 replace M := M.drew
 refine any_tk H 0 rfl rfl rfl rfl hP (M.sub (.cons_cons _ (List.nil_sublist _))) (fun w1 M => m_load1F M h3 TeB_is1_24 rfl rfl) λa H↦?_
 refine any_tk H 1 rfl rfl rfl rfl hP (M.sub (.cons_cons _ (List.nil_sublist _))) (fun w1 M => does_nilp rfl) λa H↦?_
 refine any_tk (v := .pointer (some ⟨g, 0, none⟩)) H 2 rfl rfl rfl rfl hP (M.sub (.cons_cons _ (List.nil_sublist _))) (fun w1 M => does_field TeB_fld_66_0 rfl rfl) λa H↦?_
 refine any_tk H 3 rfl rfl rfl rfl hP (M.sub (.cons_cons _ (List.nil_sublist _))) (fun w1 M => m_load1F M hg TeB_is1_3 rfl rfl) λa H↦?_
 refine any_tk (v := .pointer (some ⟨g2, 1, none⟩)) H 4 rfl rfl rfl rfl hP (M.sub (.cons_cons _ (List.nil_sublist _))) (fun w1 M => does_field TeB_fld_74_1 rfl rfl) λa H↦?_
 refine any_tk H 5 rfl rfl rfl rfl hP (M.sub (.cons_cons _ (List.nil_sublist _))) (fun w1 M => m_loadS M TeB_isS_38 rfl 0 rfl (cs := (e.k.d.cells e.k.ts.length)) rfl rfl) λa H↦?_
 refine any_many (rs := [6, 10]) (by kernel_rfl) (by simp) ⟨?_, ?_, trivial⟩
 ·
  refine op_call H 6 rfl rfl rfl rfl (enters_func rfl rfl (fun w => by kernel_rfl)) (hK.run (Dt.keep M.bel _ hek) heb hok) ?_
  rintro _ w15 ⟨m9, rfl, ⟨hmr10, hmt11, hmo12⟩, hb13⟩
  replace M : Mg w w15 (.obj g2 (.cells (entC e.p e.k e.v).toArray 74) :: (made w3.drew w15 ++ [])) := M.freezeAt 1 (noBld_cons (by simp) (noBld_quiet quietL_nil)) hb13
  refine ⟨_, rfl, (M.sub (.cons_cons _ (List.nil_sublist _))), ?_⟩
  intro a H
  refine any_tk H 7 rfl rfl rfl rfl hP (M.sub (.cons_cons _ (List.nil_sublist _))) (fun w1 M => does_move rfl) λa H↦?_
  refine any_tk (v := .agg (m9.d.cells m9.ts.length).toArray) H 8 rfl rfl rfl rfl hP (M.sub (.cons_cons _ (List.nil_sublist _))) (fun w1 M => does_extract (vs := [.agg (m9.d.cells m9.ts.length).toArray, .int .i64 0]) rfl rfl) λa H↦?_
  refine any_tk (v := .int .i64 0) H 9 rfl rfl rfl rfl hP (M.sub (.cons_cons _ (List.nil_sublist _))) (fun w1 M => does_extract (vs := [.agg (m9.d.cells m9.ts.length).toArray, .int .i64 0]) rfl rfl) λa H↦?_
  refine any_one (by kernel_rfl) (g_new (vs := [.int .i64 0, .int .i64 0, .bool false, .slice none 0 0, .slice none 0 0, .bool false, .slice none 0 0, .slice none 0 0, .string (⟨#[]⟩), .slice none 0 0, .slice none 0 0]) (t := 38) H M 10 rfl rfl rfl rfl pg (does_alloc (z := .agg (zeroD.d.cells zeroD.ts.length).toArray) (by kernel_rfl) rfl) (by decide) ?_)
  intro g16 w17 M
  refine ⟨(M.sub (.cons _ (.cons_cons _ (List.nil_sublist _)))), ?_⟩
  intro a H
  refine any_one (by kernel_rfl) (g_store (us := (m9.d.cells m9.ts.length)) (L' := (.obj g16 (.cells (m9.d.cells m9.ts.length).toArray 38) :: .obj g2 (.cells (entC e.p e.k e.v).toArray 74) :: (made w3.drew w15 ++ []))) H M 11 rfl rfl rfl (m_store rfl rfl rfl (by kernel_rfl) M 0 rfl rfl rfl) 0 rfl rfl rfl ?_)
  intro w18 M
  refine ⟨(M.sub (.cons _ (.cons_cons _ (List.nil_sublist _)))), ?_⟩
  refine any_tk H 12 rfl rfl rfl rfl hP (M.sub (.cons _ (.cons_cons _ (List.nil_sublist _)))) (fun w1 M => does_assign rfl) λa H↦?_
  refine any_end (by kernel_rfl) ?_
  exact hJ5 _ _ ⟨m9, hmt11, _, (fun w9 h9 => mark_stays hek hmo12 hmr10 w9 (h9.sub (List.sublist_append_left _ _))), g16, H.keep _ ⟨rfl, rfl, rfl, rfl, rfl, trivial⟩, M⟩
 ·
  refine g_new (vs := [.int .i64 0, .int .i64 0, .bool false, .slice none 0 0, .slice none 0 0, .bool false, .slice none 0 0, .slice none 0 0, .string (⟨#[]⟩), .slice none 0 0, .slice none 0 0]) (t := 38) H M 10 rfl rfl rfl rfl pg (does_alloc (z := .agg (zeroD.d.cells zeroD.ts.length).toArray) (by kernel_rfl) rfl) (by decide) ?_
  intro g19 w20 M
  refine ⟨(M.sub (.cons _ (.cons_cons _ (List.nil_sublist _)))), ?_⟩
  intro a H
  refine any_one (by kernel_rfl) (op_call H 6 rfl rfl rfl rfl (enters_func rfl rfl (fun w => by kernel_rfl)) (hK.run (Dt.keep M.bel _ hek) heb hok) ?_)
  rintro _ w27 ⟨m21, rfl, ⟨hmr22, hmt23, hmo24⟩, hb25⟩
  replace M : Mg w w27 (.obj g19 (.cells (zeroD.d.cells zeroD.ts.length).toArray 38) :: .obj g2 (.cells (entC e.p e.k e.v).toArray 74) :: (made w20 w27 ++ [])) := M.freezeAt 2 (noBld_cons (by simp) (noBld_cons (by simp) (noBld_quiet quietL_nil))) hb25
  refine ⟨_, rfl, (M.sub (.cons _ (.cons_cons _ (List.nil_sublist _)))), ?_⟩
  intro a H
  refine any_tk H 7 rfl rfl rfl rfl hP (M.sub (.cons _ (.cons_cons _ (List.nil_sublist _)))) (fun w1 M => does_move rfl) λa H↦?_
  refine any_tk (v := .agg (m21.d.cells m21.ts.length).toArray) H 8 rfl rfl rfl rfl hP (M.sub (.cons _ (.cons_cons _ (List.nil_sublist _)))) (fun w1 M => does_extract (vs := [.agg (m21.d.cells m21.ts.length).toArray, .int .i64 0]) rfl rfl) λa H↦?_
  refine any_tk (v := .int .i64 0) H 9 rfl rfl rfl rfl hP (M.sub (.cons _ (.cons_cons _ (List.nil_sublist _)))) (fun w1 M => does_extract (vs := [.agg (m21.d.cells m21.ts.length).toArray, .int .i64 0]) rfl rfl) λa H↦?_
  refine any_one (by kernel_rfl) (g_store (us := (m21.d.cells m21.ts.length)) (L' := (.obj g19 (.cells (m21.d.cells m21.ts.length).toArray 38) :: .obj g2 (.cells (entC e.p e.k e.v).toArray 74) :: (made w20 w27 ++ []))) H M 11 rfl rfl rfl (m_store rfl rfl rfl (by kernel_rfl) M 0 rfl rfl rfl) 0 rfl rfl rfl ?_)
  intro w28 M
  refine ⟨(M.sub (.cons _ (.cons_cons _ (List.nil_sublist _)))), ?_⟩
  refine any_tk H 12 rfl rfl rfl rfl hP (M.sub (.cons _ (.cons_cons _ (List.nil_sublist _)))) (fun w1 M => does_assign rfl) λa H↦?_
  refine any_end (by kernel_rfl) ?_
  exact hJ5 _ _ ⟨m21, hmt23, _, (fun w9 h9 => mark_stays hek hmo24 hmr22 w9 (h9.sub (List.sublist_append_left _ _))), g19, H.keep _ ⟨rfl, rfl, rfl, rfl, rfl, trivial⟩, M⟩
/-- A table as it lies in memory. -/
structure Tab (w : World) (ok : Tr → Bool) (g : Nat) (kind : Int) (m count last ck : Nat) (bs : List Bk) : Prop where
 obj : w.heap[g]? = some (.cells #[.int .i64 kind, .map (some m), .int .i64 (((count : Nat) : Int)), .int .i64 (((last : Nat) : Int))] 66)
 map : w.heap[m]? = some (mapO (bs.map Bk.en) ck)
 row : ∀ x ∈ bs, Rc w x.so (catC Et.c x.es)
 key : ∀ x ∈ bs, ∀ e ∈ x.es, e.k.rd w ∧ e.k.tr.bulk ≤ 4000000 ∧ ok e.k.tr = true ∧ e.v.rd w ∧ e.v.tr.bulk ≤ 4000000
 len : ∀ x ∈ bs, x.es.length ≤ 1000000
theorem Tab.below {w w' : World} {ok : Tr → Bool} {g : Nat} {kind : Int} {m count last ck : Nat} {bs : List Bk} (h : Tab w ok g kind m count last ck bs) (hb : Below w.heap.size w w') : Tab w' ok g kind m count last ck bs :=
 ⟨heap_keep h.obj hb, heap_keep h.map hb, fun x hx => (h.row x hx).below hb, fun x hx e he => have k := h.key x hx e he; ⟨Dt.keep hb _ k.1, k.2.1, k.2.2.1, Dt.keep hb _ k.2.2.2.1, k.2.2.2.2⟩, h.len⟩
theorem tab_look {w0 w : World} {L : List Ck} {ok : Tr → Bool} {g : Nat} {kind : Int} {m count last ck : Nat} {bs : List Bk} (hb : Tab w0 ok g kind m count last ck bs) (M : Mg w0 w L) (z : Int) : ∃ so ca es, es = bucket bs z ∧ Rc w0 so (catC Et.c es) ∧ (∀ e ∈ es, e.k.rd w0 ∧ e.k.tr.bulk ≤ 4000000 ∧ ok e.k.tr = true ∧ e.v.rd w0 ∧ e.v.tr.bulk ≤ 4000000) ∧ es.length ≤ 1000000 ∧ ∀ {l : List (Nat × Value)} {dst : Option Tmp} {ty : TypeId} {pos : String} {after : Array Edge} {guard : Option (Nat × Bool)} {x y : Operand}, ev l x = some (.map (some m)) → ev l y = some (.int .u64 z) → Does Tryz.prog l ⟨dst, .lookup 64 x y false, ty, pos, after, guard⟩ w (.slice so es.length ca) w := by
 cases h : bs.find? (fun x => decide (x.h = z)) with
 | none => exact ⟨none, 0, [], by unfold bucket; rw [h], fun k => absurd rfl k, (fun e he => by cases he), (by simp), fun hx hy => look_N (heap_keep hb.map M.bel) Tryz.underlying64 Tryz.underlying67 (zv := .slice none 0 0) (by kernel_rfl) hx hy (by rw [bk_find, h]; rfl) rfl⟩
 | some x =>
  have hx := List.mem_of_find?_eq_some h
  exact ⟨x.so, x.ca, x.es, by unfold bucket; rw [h], hb.row x hx, hb.key x hx, hb.len x hx, fun hx hy => look_Y (heap_keep hb.map M.bel) Tryz.underlying64 Tryz.underlying67 hx hy (by rw [bk_find, h]; rfl) rfl⟩
theorem isu_any {w : World} {t : Dt} (ht : t.rd w) (hT : Tabs8 w) : Calls Tryz.prog 47 #[.agg (t.d.cells t.ts.length).toArray] w fun e w' => e = .returned (.bool (!soundT shapeT t.tr)) ∧ Below w.heap.size w w' := by
 have M : Mg w w ([]) := Mg.start w
 refine walk_of (l := [(0, .agg (t.d.cells t.ts.length).toArray)]) Tryz.func47 rfl Tryz.ntmps47 rfl rfl ?_
 intro Q hret hnorm hP a H
 refine wsk fun K1 hK1 => wrl (s_new (vs := (t.d.cells t.ts.length)) (t := 38) H M rfl rfl rfl pg (does_box rfl rfl) (by decide) ?_)
 intro g2 w3 M a H
 refine sda H λa H↦?_
 refine seq_end (hK1 _ _ (wsk fun K4 hK4 => wrl (sdo H (m_loadS M TeB_isS_38 rfl 0 rfl (cs := (t.d.cells t.ts.length)) rfl rfl) λa H↦?_)))
 rcases tf (soundT shapeT t.tr) with hb5 | hb5
 ·
  refine gcl H M (ef rfl rfl) ((hb5 ▸ sound_any (t := t) (Dt.keep M.bel _ ht) (hT.below M.bel))) fun w7 hb6 M a H => ?_
  refine sdo (v := .bool false) H (does_un rfl un_not) λa H↦?_
  refine sda H λa H↦?_
  refine seq_end (hK4 _ _ (wp_ret (hret _ _ (en1 H rfl (res_tmp rfl) ?_))))
  exact ⟨by simp_all, M.bel⟩
 ·
  refine gcl H M (ef rfl rfl) ((hb5 ▸ sound_any (t := t) (Dt.keep M.bel _ ht) (hT.below M.bel))) fun w9 hb8 M a H => ?_
  refine sdo (v := .bool true) H (does_un rfl un_not) λa H↦?_
  refine sda H λa H↦?_
  refine seq_end (hK4 _ _ (wp_ret (hret _ _ (en1 H rfl (res_tmp rfl) ?_))))
  exact ⟨by simp_all, M.bel⟩
theorem asks_isu {w : World} {ts : List Dt} (hD : ∀ t ∈ ts, t.rd w) (hT : Tabs8 w) : Asks Tryz.prog 47 [] w ts (fun t => !soundT shapeT t.tr) := ⟨fun us w => by kernel_rfl, fun t w1 ht hb => isu_any (Dt.keep hb _ (hD t ht)) (hT.below hb)⟩
theorem find_nil {w : World} {t : Dt} {so : Option Addr} {n ca : Nat} : Calls Tryz.prog 26 #[.pointer none, .agg (t.d.cells t.ts.length).toArray, .slice so n ca] w fun e w' => e = .returned (.tuple #[.agg #[.int .u64 0, .int .i64 0], .int .i64 1]) ∧ Below w.heap.size w w' := by
 have M : Mg w w ([]) := Mg.start w
 refine walk_of (l := [(0, .pointer none), (1, .agg (t.d.cells t.ts.length).toArray), (2, .slice so n ca)]) Tryz.func26 rfl Tryz.ntmps26 rfl rfl ?_
 intro Q hret hnorm hP a H
 refine wsk fun K1 hK1 => wrl (s_new (vs := [.pointer none]) (t := 24) H M rfl rfl rfl pg (does_box rfl rfl) (by decide) ?_)
 intro g2 w3 M a H
 refine s_new (vs := (t.d.cells t.ts.length)) (t := 38) H M rfl rfl rfl pg (does_box rfl rfl) (by decide) ?_
 intro g4 w5 M a H
 refine s_new (vs := [.int .u64 0, .int .i64 0]) (t := 69) H M rfl rfl rfl pg (does_alloc (z := .agg #[.int .u64 0, .int .i64 0]) (by kernel_rfl) rfl) (by decide) ?_
 intro g6 w7 M a H
 refine sda H λa H↦?_
 refine seq_end (hK1 _ _ (wsk fun K8 hK8 => wp_block (wsk fun K9 hK9 => wrl (sdo H (m_load1 M TeB_is1_24 rfl 2 rfl rfl) λa H↦?_))))
 refine sdo (v := .bool true) H (does_bin rfl rfl (bin_nilY Tryz.underlying24)) λa H↦?_
 refine sdm H λa H↦?_
 iterate 6 refine seq_skip H rfl rfl rfl λa H↦?_
 refine sdk (v := .bool true) H λa H↦?_
 refine sda H λa H↦?_
 refine seq_end (hK9 _ _ (wp_cond_true (H.ev rfl) ?_))
 refine wsk fun K10 hK10 => wrl (sdo (v := .agg #[.int .u64 0, .int .i64 0]) H (does_build rfl (fun w => by kernel_rfl)) λa H↦?_)
 refine s_store (us := [.int .u64 0, .int .i64 0]) (L' := (.obj g6 (.cells #[.int .u64 0, .int .i64 0] 69) :: .obj g4 (.cells (t.d.cells t.ts.length).toArray 38) :: .obj g2 (.cells #[.pointer none] 24) :: [])) H M rfl rfl (m_store rfl rfl rfl (by kernel_rfl) M 0 rfl rfl rfl) 0 rfl rfl rfl ?_
 intro w11 M
 refine sda H λa H↦?_
 refine seq_end (hK10 _ _ (wp_ret (hret _ _ (en2 H rfl (res_cellS M TeB_isS_69 rfl 0 rfl (cs := [.int .u64 0, .int .i64 0]) rfl rfl) (res_tmp rfl) ?_))))
 exact ⟨rfl, M.bel⟩
theorem find_ok {kind : Int} {mk : Tr → Tr} {ok : Tr → Bool} (hK : Marks kind mk ok) {w : World} {g m count last ck : Nat} {bs : List Bk} (hB : Tab w ok g kind m count last ck bs) {t : Dt} (ht : t.rd w) (htb : t.tr.bulk ≤ 4000000) (hT : Tabs8 w) {so : Option Addr} {ca : Nat} {ts : List Dt} (hR : Rt w so ts) (hD : ∀ t ∈ ts, t.rd w) (hl : ts.length ≤ 1000000000) (hs : soundT shapeT t.tr = true) (hu : (ts.any fun t => !soundT shapeT t.tr) = false) (hok : ok t.tr = true) : Calls Tryz.prog 26 #[.pointer (some ⟨g, 0, none⟩), .agg (t.d.cells t.ts.length).toArray, .slice so ts.length ca] w fun e w' => e = .returned (.tuple #[.agg #[.int .u64 (hshT (mk t.tr)), .int .i64 (idxE (fun e => equT (mk t.tr) (mk e.k.tr)) (bucket bs (hshT (mk t.tr))))], .int .i64 0]) ∧ Below w.heap.size w w' := by
 have M : Mg w w ([]) := Mg.start w
 refine walk_of (l := [(0, .pointer (some ⟨g, 0, none⟩)), (1, .agg (t.d.cells t.ts.length).toArray), (2, .slice so ts.length ca)]) Tryz.func26 rfl Tryz.ntmps26 rfl rfl ?_
 intro Q hret hnorm hP a H
 refine wsk fun K1 hK1 => wrl (s_new (vs := [.pointer (some ⟨g, 0, none⟩)]) (t := 24) H M rfl rfl rfl pg (does_box rfl rfl) (by decide) ?_)
 intro g2 w3 M a H
 refine s_new (vs := (t.d.cells t.ts.length)) (t := 38) H M rfl rfl rfl pg (does_box rfl rfl) (by decide) ?_
 intro g4 w5 M a H
 refine s_new (vs := [.int .u64 0, .int .i64 0]) (t := 69) H M rfl rfl rfl pg (does_alloc (z := .agg #[.int .u64 0, .int .i64 0]) (by kernel_rfl) rfl) (by decide) ?_
 intro g6 w7 M a H
 refine sda H λa H↦?_
 refine seq_end (hK1 _ _ (wsk fun K8 hK8 => wp_block (wsk fun K9 hK9 => wrl (sdo H (m_load1 M TeB_is1_24 rfl 2 rfl rfl) λa H↦?_))))
 refine sdo (v := .bool false) H (does_bin rfl rfl (bin_nilN Tryz.underlying24)) λa H↦?_
 refine sdm H λa H↦?_
 refine sdo H (m_load1 M TeB_is1_24 rfl 2 rfl rfl) λa H↦?_
 refine sdo H (does_nilp rfl) λa H↦?_
 refine sdo (v := .pointer (some ⟨g, 0, none⟩)) H (does_field TeB_fld_66_0 rfl rfl) λa H↦?_
 refine sdo H (m_load1F M hB.obj TeB_is1_3 rfl rfl) λa H↦?_
 refine gcl H M (ef rfl rfl) ((hK.kd ▸ isKind_any)) fun w10 hbk M a H => ?_
 refine sdo (v := .bool false) H (does_un rfl un_not) λa H↦?_
 refine sdk (v := .bool false) H λa H↦?_
 refine sda H λa H↦?_
 refine seq_end (hK9 _ _ (wp_cond_false (H.ev rfl) ?_))
 refine wsk fun K11 hK11 => wrl (sdo H (m_loadS M TeB_isS_38 rfl 1 rfl (cs := (t.d.cells t.ts.length)) rfl rfl) λa H↦?_)
 refine gcl H M (ef rfl rfl) ((hs ▸ sound_any (t := t) (Dt.keep M.bel _ ht) (hT.below M.bel))) fun w12 hbs M a H => ?_
 refine sdo (v := .bool false) H (does_un rfl un_not) λa H↦?_
 iterate 2 refine sdm H λa H↦?_
 refine gcl H M (ef rfl rfl) ((hu ▸ contains_any (cs := []) (hR.below M.bel) (fun t ht => Dt.keep M.bel _ (hD t ht)) hl (asks_isu (fun t ht => Dt.keep M.bel _ (hD t ht)) (hT.below M.bel)))) fun w13 hbc M a H => ?_
 refine sdk (v := .bool false) H λa H↦?_
 refine sda H λa H↦?_
 refine seq_end (hK11 _ _ (wp_cond_false (H.ev rfl) ?_))
 refine wp_skip (hK8 _ _ (wsk fun K14 hK14 => ?_))
 have hJ15 : ∀ a w1, (∃ (m9 : Dt) (hmt9 : m9.tr = mk t.tr) (F9 : List Ck) (hF9 : ∀ w9, Mg w w9 F9 → m9.rd w9) (g9 : Nat), Sl a 59 [(0, .pointer (some ⟨g, 0, none⟩)), (1, .agg (t.d.cells t.ts.length).toArray), (2, .slice so ts.length ca), (3, .pointer (some ⟨g2, 0, none⟩)), (4, .pointer (some ⟨g4, 0, none⟩)), (6, .pointer (some ⟨g6, 0, none⟩)), (7, .int .i64 0), (8, .pointer (some ⟨g9, 0, none⟩)), (9, .int .i64 0), (12, .bool false), (13, .pointer (some ⟨g, 0, none⟩)), (14, .bool false), (15, .bool false), (16, .pointer (some ⟨g, 0, none⟩)), (17, .pointer (some ⟨g, 0, none⟩)), (18, .pointer (some ⟨g, 0, none⟩)), (19, .int .i64 kind), (20, .bool true), (21, .bool false), (22, .bool false), (24, .bool false), (25, .agg (t.d.cells t.ts.length).toArray), (26, .bool true), (27, .bool false), (28, .bool false), (29, .slice so ts.length ca), (30, .bool false), (31, .bool false)] ∧ Mg w w1 (.obj g9 (.cells (m9.d.cells m9.ts.length).toArray 38) :: .obj g6 (.cells #[.int .u64 0, .int .i64 0] 69) :: .obj g4 (.cells (t.d.cells t.ts.length).toArray 38) :: .obj g2 (.cells #[.pointer (some ⟨g, 0, none⟩)] 24) :: F9)) → K14 a w1 := by
  clear H M
  rintro a w16 ⟨m9, hmt9, F9, hF9, g9, H, M⟩
  refine hK14 _ _ (wsk fun K17 hK17 => wsk fun K18 hK18 => wrl (sdm H λa H↦?_))
  refine sdo (v := .bool false) H (does_bin rfl rfl (fun w => by kernel_rfl)) λa H↦?_
  refine seq_end (hK18 _ _ (wp_cond_false (H.ev rfl) ?_))
  refine wp_skip (hK17 _ _ (wsk fun K19 hK19 => wrl (sdo H (m_loadS M TeB_isS_38 rfl 0 rfl (cs := (m9.d.cells m9.ts.length)) rfl rfl) λa H↦?_)))
  refine gcl H M (ef rfl rfl) (hash_any (hF9 _ (M.dropn 4)) (hT.below M.bel)) fun w20 hbh M a H => ?_
  refine sda H λa H↦?_
  refine seq_end (hK19 _ _ (wsk fun K21 hK21 => wrl (sdo H (m_load1 M TeB_is1_24 rfl 3 rfl rfl) λa H↦?_)))
  refine sdo H (does_nilp rfl) λa H↦?_
  refine sdo (v := .pointer (some ⟨g, 1, none⟩)) H (does_field TeB_fld_66_1 rfl rfl) λa H↦?_
  refine sdo H (m_load1F M hB.obj TeB_is1_64 rfl rfl) λa H↦?_
  refine sdm H λa H↦?_
  obtain ⟨so9, ca9, es9, he9, hr9, hk9, hn9, hL9⟩ := tab_look hB M (hshT m9.tr)
  refine sdo (v := .slice so9 es9.length ca9) H (hL9 rfl rfl) λa H↦?_
  refine sdo (v := .func (.func 51) #[] [.pointer (some ⟨g2, 0, none⟩), .pointer (some ⟨g9, 0, none⟩)].toArray) H (does_makeFunc rfl) λa H↦?_
  refine gcl H M (ef rfl rfl) (indexE_any (cs := [.pointer (some ⟨g2, 0, none⟩), .pointer (some ⟨g9, 0, none⟩)]) (p := fun e => equT m9.tr (mk e.k.tr)) (hr9.below M.bel) (by omega) ⟨fun us w => by kernel_rfl, fun e w1 he hb => fc_any hK (heap_keep (M.obj 3 rfl) hb) (heap_keep (heap_keep hB.obj M.bel) hb) ((M.here 0 (cs := m9.d.cells m9.ts.length) rfl).below hb) (Dt.keep hb _ (hF9 _ (M.dropn 4))) (Dt.keep hb _ (Dt.keep M.bel _ (hk9 e he).1)) (hk9 e he).2.1 (hk9 e he).2.2.1 ((hT.below M.bel).below hb)⟩) fun w22 hbi M a H => ?_
  refine sda H λa H↦?_
  refine seq_end (hK21 _ _ (wsk fun K23 hK23 => wrl ?_))
  iterate 2 refine sdm H λa H↦?_
  refine sdo (v := .agg #[.int .u64 (hshT m9.tr), .int .i64 (idxE (fun e => equT m9.tr (mk e.k.tr)) es9)]) H (does_build rfl (fun w => by kernel_rfl)) λa H↦?_
  refine s_store (us := [.int .u64 (hshT m9.tr), .int .i64 (idxE (fun e => equT m9.tr (mk e.k.tr)) es9)]) (L' := (.obj g9 (.cells (m9.d.cells m9.ts.length).toArray 38) :: .obj g6 (.cells #[.int .u64 (hshT m9.tr), .int .i64 (idxE (fun e => equT m9.tr (mk e.k.tr)) es9)] 69) :: .obj g4 (.cells (t.d.cells t.ts.length).toArray 38) :: .obj g2 (.cells #[.pointer (some ⟨g, 0, none⟩)] 24) :: F9)) H M rfl rfl (m_store rfl rfl rfl (by kernel_rfl) M 1 rfl rfl rfl) 1 rfl rfl rfl ?_
  intro w24 M
  refine sda H λa H↦?_
  refine seq_end (hK23 _ _ (wp_ret (hret _ _ (en2 H rfl (res_cellS M TeB_isS_69 rfl 1 rfl (cs := [.int .u64 (hshT m9.tr), .int .i64 (idxE (fun e => equT m9.tr (mk e.k.tr)) es9)]) rfl rfl) (res_tmp rfl) ?_))))
  exact ⟨by rw [he9, hmt9], M.bel⟩
 refine wp_draw (S := fun w1 => Mg w w1 (.obj g4 (.cells (t.d.cells t.ts.length).toArray 38) :: .obj g2 (.cells #[.pointer (some ⟨g, 0, none⟩)] 24) :: [])) (by kernel_rfl) ?_
 replace M := M.drew
 refine any_tk H 0 rfl rfl rfl rfl hP (M.sub (.cons _ (.cons_cons _ (.cons_cons _ (List.nil_sublist _))))) (fun w1 M => m_load1 M TeB_is1_24 rfl 1 rfl rfl) λa H↦?_
 refine any_tk H 1 rfl rfl rfl rfl hP (M.sub (.cons _ (.cons_cons _ (.cons_cons _ (List.nil_sublist _))))) (fun w1 M => does_nilp rfl) λa H↦?_
 refine any_tk (v := .pointer (some ⟨g, 0, none⟩)) H 2 rfl rfl rfl rfl hP (M.sub (.cons _ (.cons_cons _ (.cons_cons _ (List.nil_sublist _))))) (fun w1 M => does_field TeB_fld_66_0 rfl rfl) λa H↦?_
 refine any_tk H 3 rfl rfl rfl rfl hP (M.sub (.cons _ (.cons_cons _ (.cons_cons _ (List.nil_sublist _))))) (fun w1 M => m_load1F M hB.obj TeB_is1_3 rfl rfl) λa H↦?_
 refine any_tk H 4 rfl rfl rfl rfl hP (M.sub (.cons _ (.cons_cons _ (.cons_cons _ (List.nil_sublist _))))) (fun w1 M => m_loadS M TeB_isS_38 rfl 0 rfl (cs := (t.d.cells t.ts.length)) rfl rfl) λa H↦?_
 refine any_many (rs := [5, 9]) (by kernel_rfl) (by simp) ⟨?_, ?_, trivial⟩
 ·
  refine op_call H 5 rfl rfl rfl rfl (enters_func rfl rfl (fun w => by kernel_rfl)) (hK.run (Dt.keep M.bel _ ht) htb hok) ?_
  rintro _ w31 ⟨m25, rfl, ⟨hmr26, hmt27, hmo28⟩, hb29⟩
  replace M : Mg w w31 (.obj g6 (.cells #[.int .u64 0, .int .i64 0] 69) :: .obj g4 (.cells (t.d.cells t.ts.length).toArray 38) :: .obj g2 (.cells #[.pointer (some ⟨g, 0, none⟩)] 24) :: (made w13.drew w31 ++ [])) := M.freezeAt 3 (noBld_cons (by simp) (noBld_cons (by simp) (noBld_cons (by simp) (noBld_quiet quietL_nil)))) hb29
  refine ⟨_, rfl, (M.sub (.cons _ (.cons_cons _ (.cons_cons _ (List.nil_sublist _))))), ?_⟩
  intro a H
  refine any_tk H 6 rfl rfl rfl rfl hP (M.sub (.cons _ (.cons_cons _ (.cons_cons _ (List.nil_sublist _))))) (fun w1 M => does_move rfl) λa H↦?_
  refine any_tk (v := .agg (m25.d.cells m25.ts.length).toArray) H 7 rfl rfl rfl rfl hP (M.sub (.cons _ (.cons_cons _ (.cons_cons _ (List.nil_sublist _))))) (fun w1 M => does_extract (vs := [.agg (m25.d.cells m25.ts.length).toArray, .int .i64 0]) rfl rfl) λa H↦?_
  refine any_tk (v := .int .i64 0) H 8 rfl rfl rfl rfl hP (M.sub (.cons _ (.cons_cons _ (.cons_cons _ (List.nil_sublist _))))) (fun w1 M => does_extract (vs := [.agg (m25.d.cells m25.ts.length).toArray, .int .i64 0]) rfl rfl) λa H↦?_
  refine any_one (by kernel_rfl) (g_new (vs := [.int .i64 0, .int .i64 0, .bool false, .slice none 0 0, .slice none 0 0, .bool false, .slice none 0 0, .slice none 0 0, .string (⟨#[]⟩), .slice none 0 0, .slice none 0 0]) (t := 38) H M 9 rfl rfl rfl rfl pg (does_alloc (z := .agg (zeroD.d.cells zeroD.ts.length).toArray) (by kernel_rfl) rfl) (by decide) ?_)
  intro g32 w33 M
  refine ⟨(M.sub (.cons _ (.cons _ (.cons_cons _ (.cons_cons _ (List.nil_sublist _)))))), ?_⟩
  intro a H
  refine any_one (by kernel_rfl) (g_store (us := (m25.d.cells m25.ts.length)) (L' := (.obj g32 (.cells (m25.d.cells m25.ts.length).toArray 38) :: .obj g6 (.cells #[.int .u64 0, .int .i64 0] 69) :: .obj g4 (.cells (t.d.cells t.ts.length).toArray 38) :: .obj g2 (.cells #[.pointer (some ⟨g, 0, none⟩)] 24) :: (made w13.drew w31 ++ []))) H M 10 rfl rfl rfl (m_store rfl rfl rfl (by kernel_rfl) M 0 rfl rfl rfl) 0 rfl rfl rfl ?_)
  intro w34 M
  refine ⟨(M.sub (.cons _ (.cons _ (.cons_cons _ (.cons_cons _ (List.nil_sublist _)))))), ?_⟩
  refine any_tk H 11 rfl rfl rfl rfl hP (M.sub (.cons _ (.cons _ (.cons_cons _ (.cons_cons _ (List.nil_sublist _)))))) (fun w1 M => does_assign rfl) λa H↦?_
  refine any_end (by kernel_rfl) ?_
  exact hJ15 _ _ ⟨m25, hmt27, _, (fun w9 h9 => mark_stays ht hmo28 hmr26 w9 (h9.sub (List.sublist_append_left _ _))), g32, H.keep _ ⟨rfl, rfl, rfl, rfl, rfl, rfl, rfl, rfl, rfl, rfl, rfl, rfl, rfl, rfl, rfl, rfl, rfl, rfl, rfl, rfl, rfl, rfl, rfl, rfl, rfl, rfl, rfl, rfl, trivial⟩, M⟩
 ·
  refine g_new (vs := [.int .i64 0, .int .i64 0, .bool false, .slice none 0 0, .slice none 0 0, .bool false, .slice none 0 0, .slice none 0 0, .string (⟨#[]⟩), .slice none 0 0, .slice none 0 0]) (t := 38) H M 9 rfl rfl rfl rfl pg (does_alloc (z := .agg (zeroD.d.cells zeroD.ts.length).toArray) (by kernel_rfl) rfl) (by decide) ?_
  intro g35 w36 M
  refine ⟨(M.sub (.cons _ (.cons _ (.cons_cons _ (.cons_cons _ (List.nil_sublist _)))))), ?_⟩
  intro a H
  refine any_one (by kernel_rfl) (op_call H 5 rfl rfl rfl rfl (enters_func rfl rfl (fun w => by kernel_rfl)) (hK.run (Dt.keep M.bel _ ht) htb hok) ?_)
  rintro _ w43 ⟨m37, rfl, ⟨hmr38, hmt39, hmo40⟩, hb41⟩
  replace M : Mg w w43 (.obj g35 (.cells (zeroD.d.cells zeroD.ts.length).toArray 38) :: .obj g6 (.cells #[.int .u64 0, .int .i64 0] 69) :: .obj g4 (.cells (t.d.cells t.ts.length).toArray 38) :: .obj g2 (.cells #[.pointer (some ⟨g, 0, none⟩)] 24) :: (made w36 w43 ++ [])) := M.freezeAt 4 (noBld_cons (by simp) (noBld_cons (by simp) (noBld_cons (by simp) (noBld_cons (by simp) (noBld_quiet quietL_nil))))) hb41
  refine ⟨_, rfl, (M.sub (.cons _ (.cons _ (.cons_cons _ (.cons_cons _ (List.nil_sublist _)))))), ?_⟩
  intro a H
  refine any_tk H 6 rfl rfl rfl rfl hP (M.sub (.cons _ (.cons _ (.cons_cons _ (.cons_cons _ (List.nil_sublist _)))))) (fun w1 M => does_move rfl) λa H↦?_
  refine any_tk (v := .agg (m37.d.cells m37.ts.length).toArray) H 7 rfl rfl rfl rfl hP (M.sub (.cons _ (.cons _ (.cons_cons _ (.cons_cons _ (List.nil_sublist _)))))) (fun w1 M => does_extract (vs := [.agg (m37.d.cells m37.ts.length).toArray, .int .i64 0]) rfl rfl) λa H↦?_
  refine any_tk (v := .int .i64 0) H 8 rfl rfl rfl rfl hP (M.sub (.cons _ (.cons _ (.cons_cons _ (.cons_cons _ (List.nil_sublist _)))))) (fun w1 M => does_extract (vs := [.agg (m37.d.cells m37.ts.length).toArray, .int .i64 0]) rfl rfl) λa H↦?_
  refine any_one (by kernel_rfl) (g_store (us := (m37.d.cells m37.ts.length)) (L' := (.obj g35 (.cells (m37.d.cells m37.ts.length).toArray 38) :: .obj g6 (.cells #[.int .u64 0, .int .i64 0] 69) :: .obj g4 (.cells (t.d.cells t.ts.length).toArray 38) :: .obj g2 (.cells #[.pointer (some ⟨g, 0, none⟩)] 24) :: (made w36 w43 ++ []))) H M 10 rfl rfl rfl (m_store rfl rfl rfl (by kernel_rfl) M 0 rfl rfl rfl) 0 rfl rfl rfl ?_)
  intro w44 M
  refine ⟨(M.sub (.cons _ (.cons _ (.cons_cons _ (.cons_cons _ (List.nil_sublist _)))))), ?_⟩
  refine any_tk H 11 rfl rfl rfl rfl hP (M.sub (.cons _ (.cons _ (.cons_cons _ (.cons_cons _ (List.nil_sublist _)))))) (fun w1 M => does_assign rfl) λa H↦?_
  refine any_end (by kernel_rfl) ?_
  exact hJ15 _ _ ⟨m37, hmt39, _, (fun w9 h9 => mark_stays ht hmo40 hmr38 w9 (h9.sub (List.sublist_append_left _ _))), g35, H.keep _ ⟨rfl, rfl, rfl, rfl, rfl, rfl, rfl, rfl, rfl, rfl, rfl, rfl, rfl, rfl, rfl, rfl, rfl, rfl, rfl, rfl, rfl, rfl, rfl, rfl, rfl, rfl, rfl, rfl, trivial⟩, M⟩
theorem TeC_is1_3 : Is1 Tryz.prog 3 := ⟨⟨_, Tryz.underlying3, rfl⟩, by kernel_rfl⟩
theorem TeC_is1_64 : Is1 Tryz.prog 64 := ⟨⟨_, Tryz.underlying64, rfl⟩, by kernel_rfl⟩
theorem TeC_is1_67 : Is1 Tryz.prog 67 := ⟨⟨_, Tryz.underlying67, rfl⟩, by kernel_rfl⟩
theorem TeC_fld_66_1 : FieldAt Tryz.prog 66 1 1 := ⟨_, _, Tryz.underlying66, rfl, rfl, by kernel_rfl⟩
theorem TeC_fld_69_0 : FieldAt Tryz.prog 69 0 0 := ⟨_, _, Tryz.underlying69, rfl, rfl, by kernel_rfl⟩
theorem TeC_fld_69_1 : FieldAt Tryz.prog 69 1 1 := ⟨_, _, Tryz.underlying69, rfl, rfl, by kernel_rfl⟩
theorem TeC_fld_74_2 : FieldAt Tryz.prog 74 2 12 := ⟨_, _, Tryz.underlying74, rfl, rfl, by kernel_rfl⟩
theorem TeC_isS_38 : IsS Tryz.prog 38 11 := ⟨⟨_, Tryz.underlying38⟩, by kernel_rfl⟩
theorem TeC_isS_69 : IsS Tryz.prog 69 2 := ⟨⟨_, Tryz.underlying69⟩, by kernel_rfl⟩
theorem get_none {kind : Int} {mk : Tr → Tr} {ok : Tr → Bool} (hK : Marks kind mk ok) {w : World} {g m count last ck : Nat} {bs : List Bk} (hB : Tab w ok g kind m count last ck bs) {t : Dt} (ht : t.rd w) (htb : t.tr.bulk ≤ 4000000) (hT : Tabs8 w) (hs : soundT shapeT t.tr = true) (hok : ok t.tr = true) (hat : idxE (fun e => equT (mk t.tr) (mk e.k.tr)) (bucket bs (hshT (mk t.tr))) = -1) : Calls Tryz.prog 11 #[.pointer (some ⟨g, 0, none⟩), .agg (t.d.cells t.ts.length).toArray] w fun e w' => e = .returned (.tuple #[.agg (zeroD.d.cells zeroD.ts.length).toArray, .int .i64 7]) ∧ Below w.heap.size w w' := by
 have M : Mg w w ([]) := Mg.start w
 refine walk_of (l := [(0, .pointer (some ⟨g, 0, none⟩)), (1, .agg (t.d.cells t.ts.length).toArray)]) Tryz.func11 rfl Tryz.ntmps11 rfl rfl ?_
 intro Q hret hnorm hP a A
 refine wsk fun K1 hK1 => wrl (s_new (vs := (t.d.cells t.ts.length)) (t := 38) A M rfl rfl rfl pg (does_box rfl rfl) (by decide) ?_)
 intro g2 w3 M a A
 refine s_new (vs := (zeroD.d.cells zeroD.ts.length)) (t := 38) A M rfl rfl rfl pg (does_alloc (z := .agg (zeroD.d.cells zeroD.ts.length).toArray) (by kernel_rfl) rfl) (by decide) ?_
 intro g4 w5 M a A
 refine sda A λa A↦?_
 refine seq_end (hK1 _ _ (wsk fun K6 hK6 => wrl (sdm A λa A↦?_)))
 refine sdo A (m_loadS M TeC_isS_38 rfl 1 rfl (cs := (t.d.cells t.ts.length)) rfl rfl) λa A↦?_
 refine sct A (ef rfl rfl) (find_ok hK (hB.below M.bel) (Dt.keep M.bel _ ht) htb (hT.below M.bel) (so := none) (ca := 0) (ts := []) (fun k => absurd rfl k) (fun t h => by cases h) (by decide) hs rfl hok) ?_
 rintro _ w8 ⟨he8, hb7⟩
 rw [hat] at he8
 subst he8
 replace M := M.call hb7
 refine ⟨_, rfl, ?_⟩
 intro a A
 refine sdm A λa A↦?_
 iterate 2 refine sdo A (does_extract (vs := [.agg #[.int .u64 (hshT (mk t.tr)), .int .i64 (-1)], .int .i64 0]) rfl rfl) λa A↦?_
 refine s_new (vs := [.int .u64 0, .int .i64 0]) (t := 69) A M rfl rfl rfl pg (does_alloc (z := .agg #[.int .u64 0, .int .i64 0]) (by kernel_rfl) rfl) (by decide) ?_
 intro g9 w10 M a A
 refine s_store (us := [.int .u64 (hshT (mk t.tr)), .int .i64 (-1)]) (L' := (.obj g9 (.cells #[.int .u64 (hshT (mk t.tr)), .int .i64 (-1)] 69) :: .obj g4 (.cells (zeroD.d.cells zeroD.ts.length).toArray 38) :: .obj g2 (.cells (t.d.cells t.ts.length).toArray 38) :: [])) A M rfl rfl (m_store rfl rfl rfl (by kernel_rfl) M 0 rfl rfl rfl) 0 rfl rfl rfl ?_
 intro w11 M
 refine sda A λa A↦?_
 refine seq_end (hK6 _ _ (wsk fun K12 hK12 => wp_block (wsk fun K13 hK13 => wrl (sdm A λa A↦?_))))
 refine sdo (v := .bool false) A (does_bin rfl rfl (fun w => by kernel_rfl)) λa A↦?_
 refine sda A λa A↦?_
 refine seq_end (hK13 _ _ (wp_cond_false (A.ev rfl) ?_))
 refine wsk fun K14 hK14 => wrl (sdo A (m_loadS M TeC_isS_69 rfl 0 rfl (cs := [.int .u64 (hshT (mk t.tr)), .int .i64 (-1)]) rfl rfl) λa A↦?_)
 refine gcl A M (ef rfl rfl) (((show decide ((0 : Int) ≤ -1) = false from rfl) ▸ there_any)) fun w15 hbt M a A => ?_
 refine sdo (v := .bool true) A (does_un rfl un_not) λa A↦?_
 refine sda A λa A↦?_
 refine seq_end (hK14 _ _ (wp_cond_true (A.ev rfl) ?_))
 refine wsk fun K16 hK16 => wrl (sdo (v := .agg (zeroD.d.cells zeroD.ts.length).toArray) A (does_build rfl (fun w => by kernel_rfl)) λa A↦?_)
 refine s_store (us := (zeroD.d.cells zeroD.ts.length)) (L' := (.obj g9 (.cells #[.int .u64 (hshT (mk t.tr)), .int .i64 (-1)] 69) :: .obj g4 (.cells (zeroD.d.cells zeroD.ts.length).toArray 38) :: .obj g2 (.cells (t.d.cells t.ts.length).toArray 38) :: [])) A M rfl rfl (m_store rfl rfl rfl (by kernel_rfl) M 1 rfl rfl rfl) 1 rfl rfl rfl ?_
 intro w17 M
 refine sda A λa A↦?_
 refine seq_end (hK16 _ _ (wp_ret (hret _ _ (en2 A rfl (res_cellS M TeC_isS_38 rfl 1 rfl (cs := [.int .i64 0, .int .i64 0, .bool false, .slice none 0 0, .slice none 0 0, .bool false, .slice none 0 0, .slice none 0 0, .string (⟨#[]⟩), .slice none 0 0, .slice none 0 0]) rfl rfl) (res_tmp rfl) ?_))))
 exact ⟨rfl, M.bel⟩
theorem Here.part {w : World} {b o : Nat} {cs ds : List Value} (h : Here w b o cs) (j : Nat) (hd : ∀ i v, ds[i]? = some v → cs[j + i]? = some v) : Here w b (o + j) ds := ⟨h.1, fun i v hi => by rw [Nat.add_assoc]; exact h.2 _ v (hd i v hi)⟩
theorem Here.value {w : World} {b o p : Nat} {k v : Dt} (h : Here w b o (entC p k v)) : Here w b (o + 12) (v.d.cells v.ts.length) := h.part 12 fun i u hi => by
 have e : entC p k v = (.int .i64 (p : Int) :: k.d.cells k.ts.length) ++ v.d.cells v.ts.length := rfl
 rw [e, show 12 + i = (Value.int .i64 (p : Int) :: k.d.cells k.ts.length).length + i from rfl, List.getElem?_append_right (by omega), Nat.add_sub_cancel_left]
 exact hi
theorem get_hit {kind : Int} {mk : Tr → Tr} {ok : Tr → Bool} (hK : Marks kind mk ok) {w : World} {g m count last ck : Nat} {bs : List Bk} (hB : Tab w ok g kind m count last ck bs) {t : Dt} (ht : t.rd w) (htb : t.tr.bulk ≤ 4000000) (hT : Tabs8 w) (hs : soundT shapeT t.tr = true) (hok : ok t.tr = true) {i : Nat} (hat : idxE (fun e => equT (mk t.tr) (mk e.k.tr)) (bucket bs (hshT (mk t.tr))) = ((i : Nat) : Int)) {e : Et} (hie : (bucket bs (hshT (mk t.tr)))[i]? = some e) : Calls Tryz.prog 11 #[.pointer (some ⟨g, 0, none⟩), .agg (t.d.cells t.ts.length).toArray] w fun r w' => ∃ v2 : Dt, r = .returned (.tuple #[.agg (v2.d.cells v2.ts.length).toArray, .int .i64 0]) ∧ (v2.rd w' ∧ v2.at_ (w.heap.size ≤ ·) ∧ v2.tr = e.v.tr) ∧ Below w.heap.size w w' := by
 have M : Mg w w ([]) := Mg.start w
 refine walk_of (l := [(0, .pointer (some ⟨g, 0, none⟩)), (1, .agg (t.d.cells t.ts.length).toArray)]) Tryz.func11 rfl Tryz.ntmps11 rfl rfl ?_
 intro Q hret hnorm hP a A
 refine wsk fun K1 hK1 => wrl (s_new (vs := (t.d.cells t.ts.length)) (t := 38) A M rfl rfl rfl pg (does_box rfl rfl) (by decide) ?_)
 intro g2 w3 M a A
 refine s_new (vs := (zeroD.d.cells zeroD.ts.length)) (t := 38) A M rfl rfl rfl pg (does_alloc (z := .agg (zeroD.d.cells zeroD.ts.length).toArray) (by kernel_rfl) rfl) (by decide) ?_
 intro g4 w5 M a A
 refine sda A λa A↦?_
 refine seq_end (hK1 _ _ (wsk fun K6 hK6 => wrl (sdm A λa A↦?_)))
 refine sdo A (m_loadS M TeC_isS_38 rfl 1 rfl (cs := (t.d.cells t.ts.length)) rfl rfl) λa A↦?_
 refine sct A (ef rfl rfl) (find_ok hK (hB.below M.bel) (Dt.keep M.bel _ ht) htb (hT.below M.bel) (so := none) (ca := 0) (ts := []) (fun k => absurd rfl k) (fun t h => by cases h) (by decide) hs rfl hok) ?_
 rintro _ w8 ⟨he8, hb7⟩
 rw [hat] at he8
 subst he8
 replace M := M.call hb7
 refine ⟨_, rfl, ?_⟩
 intro a A
 refine sdm A λa A↦?_
 iterate 2 refine sdo A (does_extract (vs := [.agg #[.int .u64 (hshT (mk t.tr)), .int .i64 (((i : Nat) : Int))], .int .i64 0]) rfl rfl) λa A↦?_
 refine s_new (vs := [.int .u64 0, .int .i64 0]) (t := 69) A M rfl rfl rfl pg (does_alloc (z := .agg #[.int .u64 0, .int .i64 0]) (by kernel_rfl) rfl) (by decide) ?_
 intro g9 w10 M a A
 refine s_store (us := [.int .u64 (hshT (mk t.tr)), .int .i64 (((i : Nat) : Int))]) (L' := (.obj g9 (.cells #[.int .u64 (hshT (mk t.tr)), .int .i64 (((i : Nat) : Int))] 69) :: .obj g4 (.cells (zeroD.d.cells zeroD.ts.length).toArray 38) :: .obj g2 (.cells (t.d.cells t.ts.length).toArray 38) :: [])) A M rfl rfl (m_store rfl rfl rfl (by kernel_rfl) M 0 rfl rfl rfl) 0 rfl rfl rfl ?_
 intro w11 M
 refine sda A λa A↦?_
 refine seq_end (hK6 _ _ (wsk fun K12 hK12 => wp_block (wsk fun K13 hK13 => wrl (sdm A λa A↦?_))))
 refine sdo (v := .bool false) A (does_bin rfl rfl (fun w => by kernel_rfl)) λa A↦?_
 refine sda A λa A↦?_
 refine seq_end (hK13 _ _ (wp_cond_false (A.ev rfl) ?_))
 refine wsk fun K14 hK14 => wrl (sdo A (m_loadS M TeC_isS_69 rfl 0 rfl (cs := [.int .u64 (hshT (mk t.tr)), .int .i64 (((i : Nat) : Int))]) rfl rfl) λa A↦?_)
 refine gcl A M (ef rfl rfl) (((show decide ((0 : Int) ≤ ((i : Nat) : Int)) = true from decide_eq_true (by omega)) ▸ there_any)) fun w15 hbt M a A => ?_
 refine sdo (v := .bool false) A (does_un rfl un_not) λa A↦?_
 refine sda A λa A↦?_
 refine seq_end (hK14 _ _ (wp_cond_false (A.ev rfl) ?_))
 refine wp_skip (hK12 _ _ (wsk fun K16 hK16 => wp_draw (S := fun w1 => Mg w w1 (.obj g9 (.cells #[.int .u64 (hshT (mk t.tr)), .int .i64 (((i : Nat) : Int))] 69) :: [])) (by kernel_rfl) ?_))
 replace M := M.drew
 refine any_tk A 0 rfl rfl rfl rfl hP (M.sub (.cons_cons _ (.cons _ (.cons _ (List.nil_sublist _))))) (fun w1 M => does_move rfl) λa A↦?_
 refine any_tk A 1 rfl rfl rfl rfl hP (M.sub (.cons_cons _ (.cons _ (.cons _ (List.nil_sublist _))))) (fun w1 M => does_nilp rfl) λa A↦?_
 refine any_tk (v := .pointer (some ⟨g, 1, none⟩)) A 2 rfl rfl rfl rfl hP (M.sub (.cons_cons _ (.cons _ (.cons _ (List.nil_sublist _))))) (fun w1 M => does_field TeC_fld_66_1 rfl rfl) λa A↦?_
 refine any_tk A 3 rfl rfl rfl rfl hP (M.sub (.cons_cons _ (.cons _ (.cons _ (List.nil_sublist _))))) (fun w1 M => m_load1F M hB.obj TeC_is1_64 rfl rfl) λa A↦?_
 refine any_tk (v := .pointer (some ⟨g9, 0, none⟩)) A 4 rfl rfl rfl rfl hP (M.sub (.cons_cons _ (.cons _ (.cons _ (List.nil_sublist _))))) (fun w1 M => does_field TeC_fld_69_0 rfl rfl) λa A↦?_
 refine any_tk A 5 rfl rfl rfl rfl hP (M.sub (.cons_cons _ (.cons _ (.cons _ (List.nil_sublist _))))) (fun w1 M => m_load1 M TeC_is1_67 rfl 0 rfl rfl) λa A↦?_
 refine any_tk (v := .pointer (some ⟨g9, 1, none⟩)) A 7 rfl rfl rfl rfl hP (M.sub (.cons_cons _ (.cons _ (.cons _ (List.nil_sublist _))))) (fun w1 M => does_field TeC_fld_69_1 rfl rfl) λa A↦?_
 refine any_tk A 8 rfl rfl rfl rfl hP (M.sub (.cons_cons _ (.cons _ (.cons _ (List.nil_sublist _))))) (fun w1 M => m_load1 M TeC_is1_3 rfl 0 rfl rfl) λa A↦?_
 obtain ⟨so9, ca9, es9, he9, hr9, hk9, hn9, hL9⟩ := tab_look hB M (hshT (mk t.tr))
 obtain ⟨e9, be, oe, ie, me, le, He⟩ := kidE hr9 (i := i) (by rw [he9]; exact (List.getElem?_eq_some_iff.1 hie).1)
 obtain rfl : e9 = e := Option.some.inj (ie.symm.trans (he9 ▸ hie))
 have hev := hk9 _ me
 refine any_one (by kernel_rfl) (op_do (v := .slice so9 es9.length ca9) A 6 rfl rfl rfl rfl (hL9 rfl rfl) (M.sub (.cons_cons _ (.cons _ (.cons _ (List.nil_sublist _))))) ?_)
 intro a A
 refine any_tk (v := .pointer (some ⟨be, oe + i * 23, none⟩)) A 9 rfl rfl rfl rfl hP (M.sub (.cons_cons _ (.cons _ (.cons _ (List.nil_sublist _))))) (fun w1 M => does_indexD (k := i) Tryz.underlying75 (by kernel_rfl) rfl rfl rfl le (by have := (List.getElem?_eq_some_iff.1 ie).1; omega)) ?_
 intro a A
 refine any_tk (v := .pointer (some ⟨be, oe + i * 23 + 12, none⟩)) A 10 rfl rfl rfl rfl hP (M.sub (.cons_cons _ (.cons _ (.cons _ (List.nil_sublist _))))) (fun w1 M => does_field TeC_fld_74_2 rfl rfl) λa A↦?_
 refine any_tk A 11 rfl rfl rfl rfl hP (M.sub (.cons_cons _ (.cons _ (.cons _ (List.nil_sublist _))))) (fun w1 M => m_loadHS M He.value TeC_isS_38 rfl rfl) λa A↦?_
 have hz22 := M.bel.size
 refine any_one (by kernel_rfl) (op_call A 12 rfl rfl rfl rfl (enters_func rfl rfl (fun w => by kernel_rfl)) (copies_all e9.v (Dt.keep M.bel _ hev.2.2.2.1) (by omega)) ?_)
 rintro _ w23 ⟨c17, rfl, ⟨hcr18, hco20, hct19⟩, hb21⟩
 replace M : Mg w w23 (.obj g9 (.cells #[.int .u64 (hshT (mk t.tr)), .int .i64 (((i : Nat) : Int))] 69) :: .obj g4 (.cells (zeroD.d.cells zeroD.ts.length).toArray 38) :: .obj g2 (.cells (t.d.cells t.ts.length).toArray 38) :: (made w15.drew w23 ++ [])) := M.freezeAt 3 (noBld_cons (by simp) (noBld_cons (by simp) (noBld_cons (by simp) (noBld_quiet quietL_nil)))) hb21
 have hLc17 := lives_made hcr18 hco20
 replace hco20 := Dt.at_mono (fun b hb => Nat.le_trans hz22 hb) _ hco20
 refine ⟨_, rfl, (M.sub (.cons_cons _ (.cons _ (.cons _ (List.nil_sublist _))))), ?_⟩
 intro a A
 refine any_one (by kernel_rfl) (g_store (us := (c17.d.cells c17.ts.length)) (L' := (.obj g9 (.cells #[.int .u64 (hshT (mk t.tr)), .int .i64 (((i : Nat) : Int))] 69) :: .obj g4 (.cells (c17.d.cells c17.ts.length).toArray 38) :: .obj g2 (.cells (t.d.cells t.ts.length).toArray 38) :: (made w15.drew w23 ++ []))) A M 13 rfl rfl rfl (m_store rfl rfl rfl (by kernel_rfl) M 1 rfl rfl rfl) 1 rfl rfl rfl ?_)
 intro w24 M
 refine ⟨(M.sub (.cons_cons _ (.cons _ (.cons _ (List.nil_sublist _))))), ?_⟩
 refine any_tk A 14 rfl rfl rfl rfl hP (M.sub (.cons_cons _ (.cons _ (.cons _ (List.nil_sublist _))))) (fun w1 M => does_assign rfl) λa A↦?_
 refine any_end (by kernel_rfl) ?_
 refine hK16 _ _ (wp_ret (hret _ _ (en2 A rfl (res_cellS M TeC_isS_38 rfl 1 rfl (cs := [.int .i64 c17.d.k, .int .i64 c17.d.n, .bool c17.d.y.q.b1, .slice c17.d.y.o1 c17.d.y.q.t1.length c17.d.y.c1, .slice c17.d.y.o2 c17.d.y.q.q1.length c17.d.y.c2, .bool c17.d.y.q.b2, .slice c17.d.y.o3 c17.d.y.q.t2.length c17.d.y.c3, .slice c17.d.y.o4 c17.d.y.q.q2.length c17.d.y.c4, .string c17.d.s, .slice c17.d.ro c17.d.rl.length c17.d.rc, .slice c17.d.lo c17.ts.length c17.d.lc]) rfl rfl) (res_tmp rfl) ?_)))
 exact ⟨c17, rfl, ⟨hLc17 _ _ ((M.dropn 3).sub (List.sublist_append_left _ _)), hco20, hct19⟩, M.bel⟩
theorem get_nil {w : World} {t : Dt} : Calls Tryz.prog 11 #[.pointer none, .agg (t.d.cells t.ts.length).toArray] w fun e w' => e = .returned (.tuple #[.agg (zeroD.d.cells zeroD.ts.length).toArray, .int .i64 1]) ∧ Below w.heap.size w w' := by
 have M : Mg w w ([]) := Mg.start w
 refine walk_of (l := [(0, .pointer none), (1, .agg (t.d.cells t.ts.length).toArray)]) Tryz.func11 rfl Tryz.ntmps11 rfl rfl ?_
 intro Q hret hnorm hP a A
 refine wsk fun K1 hK1 => wrl (s_new (vs := (t.d.cells t.ts.length)) (t := 38) A M rfl rfl rfl pg (does_box rfl rfl) (by decide) ?_)
 intro g2 w3 M a A
 refine s_new (vs := (zeroD.d.cells zeroD.ts.length)) (t := 38) A M rfl rfl rfl pg (does_alloc (z := .agg (zeroD.d.cells zeroD.ts.length).toArray) (by kernel_rfl) rfl) (by decide) ?_
 intro g4 w5 M a A
 refine sda A λa A↦?_
 refine seq_end (hK1 _ _ (wsk fun K6 hK6 => wrl (sdm A λa A↦?_)))
 refine sdo A (m_loadS M TeC_isS_38 rfl 1 rfl (cs := (t.d.cells t.ts.length)) rfl rfl) λa A↦?_
 refine gcl A M (ef rfl rfl) (find_nil) fun w7 hbn M a A => ?_
 refine sdm A λa A↦?_
 iterate 2 refine sdo A (does_extract (vs := [.agg #[.int .u64 0, .int .i64 0], .int .i64 1]) rfl rfl) λa A↦?_
 refine s_new (vs := [.int .u64 0, .int .i64 0]) (t := 69) A M rfl rfl rfl pg (does_alloc (z := .agg #[.int .u64 0, .int .i64 0]) (by kernel_rfl) rfl) (by decide) ?_
 intro g8 w9 M a A
 refine s_store (us := [.int .u64 0, .int .i64 0]) (L' := (.obj g8 (.cells #[.int .u64 0, .int .i64 0] 69) :: .obj g4 (.cells (zeroD.d.cells zeroD.ts.length).toArray 38) :: .obj g2 (.cells (t.d.cells t.ts.length).toArray 38) :: [])) A M rfl rfl (m_store rfl rfl rfl (by kernel_rfl) M 0 rfl rfl rfl) 0 rfl rfl rfl ?_
 intro w10 M
 refine sda A λa A↦?_
 refine seq_end (hK6 _ _ (wsk fun K11 hK11 => wp_block (wsk fun K12 hK12 => wrl (sdm A λa A↦?_))))
 refine sdo (v := .bool true) A (does_bin rfl rfl (fun w => by kernel_rfl)) λa A↦?_
 refine sda A λa A↦?_
 refine seq_end (hK12 _ _ (wp_cond_true (A.ev rfl) ?_))
 refine wsk fun K13 hK13 => wrl (sdo (v := .agg (zeroD.d.cells zeroD.ts.length).toArray) A (does_build rfl (fun w => by kernel_rfl)) λa A↦?_)
 refine sdm A λa A↦?_
 refine s_store (us := (zeroD.d.cells zeroD.ts.length)) (L' := (.obj g8 (.cells #[.int .u64 0, .int .i64 0] 69) :: .obj g4 (.cells (zeroD.d.cells zeroD.ts.length).toArray 38) :: .obj g2 (.cells (t.d.cells t.ts.length).toArray 38) :: [])) A M rfl rfl (m_store rfl rfl rfl (by kernel_rfl) M 1 rfl rfl rfl) 1 rfl rfl rfl ?_
 intro w14 M
 refine sda A λa A↦?_
 refine seq_end (hK13 _ _ (wp_ret (hret _ _ (en2 A rfl (res_cellS M TeC_isS_38 rfl 1 rfl (cs := [.int .i64 0, .int .i64 0, .bool false, .slice none 0 0, .slice none 0 0, .bool false, .slice none 0 0, .slice none 0 0, .string (⟨#[]⟩), .slice none 0 0, .slice none 0 0]) rfl rfl) (res_tmp rfl) ?_))))
 exact ⟨rfl, M.bel⟩
theorem set_nil {w : World} {t v : Dt} : Calls Tryz.prog 9 #[.pointer none, .agg (t.d.cells t.ts.length).toArray, .agg (v.d.cells v.ts.length).toArray] w fun e w' => e = .returned (.int .i64 1) ∧ Below w.heap.size w w' := by
 have M : Mg w w ([]) := Mg.start w
 refine walk_of (l := [(0, .pointer none), (1, .agg (t.d.cells t.ts.length).toArray), (2, .agg (v.d.cells v.ts.length).toArray)]) Tryz.func9 rfl Tryz.ntmps9 rfl rfl ?_
 intro Q hret hnorm hP a A
 refine wsk fun K1 hK1 => wrl (s_new (vs := (t.d.cells t.ts.length)) (t := 38) A M rfl rfl rfl pg (does_box rfl rfl) (by decide) ?_)
 intro g2 w3 M a A
 refine s_new (vs := (v.d.cells v.ts.length)) (t := 38) A M rfl rfl rfl pg (does_box rfl rfl) (by decide) ?_
 intro g4 w5 M a A
 refine sda A λa A↦?_
 refine seq_end (hK1 _ _ (wsk fun K6 hK6 => wrl (sdm A λa A↦?_)))
 refine sdo A (m_loadS M TeC_isS_38 rfl 1 rfl (cs := (t.d.cells t.ts.length)) rfl rfl) λa A↦?_
 refine sdo A (m_loadS M TeC_isS_38 rfl 0 rfl (cs := (v.d.cells v.ts.length)) rfl rfl) λa A↦?_
 refine s_litE (e := 38) (sz := 11) (m := 1) (vs := cellsOf [v]) A M rfl rfl rfl (does_buildSlice rfl (by kernel_rfl)) rfl rfl (.inl (by decide)) ?_
 intro g7 w8 M a A
 refine gcl A M (ef rfl rfl) (find_nil) fun w9 hbn M a A => ?_
 refine sdm A λa A↦?_
 iterate 2 refine sdo A (does_extract (vs := [.agg #[.int .u64 0, .int .i64 0], .int .i64 1]) rfl rfl) λa A↦?_
 refine s_new (vs := [.int .u64 0, .int .i64 0]) (t := 69) A M rfl rfl rfl pg (does_alloc (z := .agg #[.int .u64 0, .int .i64 0]) (by kernel_rfl) rfl) (by decide) ?_
 intro g10 w11 M a A
 refine s_store (us := [.int .u64 0, .int .i64 0]) (L' := (.obj g10 (.cells #[.int .u64 0, .int .i64 0] 69) :: .row 38 11 (.slice (some ⟨g7, 0, none⟩) 1 1) 1 (cellsOf [v]) :: .obj g4 (.cells (v.d.cells v.ts.length).toArray 38) :: .obj g2 (.cells (t.d.cells t.ts.length).toArray 38) :: [])) A M rfl rfl (m_store rfl rfl rfl (by kernel_rfl) M 0 rfl rfl rfl) 0 rfl rfl rfl ?_
 intro w12 M
 refine sda A λa A↦?_
 refine seq_end (hK6 _ _ (wsk fun K13 hK13 => wp_block (wsk fun K14 hK14 => wrl (sdm A λa A↦?_))))
 refine sdo (v := .bool true) A (does_bin rfl rfl (fun w => by kernel_rfl)) λa A↦?_
 refine sda A λa A↦?_
 refine seq_end (hK14 _ _ (wp_cond_true (A.ev rfl) ?_))
 refine wsk fun K15 hK15 => wrl (sdm A λa A↦?_)
 refine sda A λa A↦?_
 refine seq_end (hK15 _ _ (wp_ret (hret _ _ (en1 A rfl (res_tmp rfl) ?_))))
 exact ⟨rfl, M.bel⟩
theorem del_nil {w : World} {t : Dt} : Calls Tryz.prog 14 #[.pointer none, .agg (t.d.cells t.ts.length).toArray] w fun e w' => e = .returned (.int .i64 1) ∧ Below w.heap.size w w' := by
 have M : Mg w w ([]) := Mg.start w
 refine walk_of (l := [(0, .pointer none), (1, .agg (t.d.cells t.ts.length).toArray)]) Tryz.func14 rfl Tryz.ntmps14 rfl rfl ?_
 intro Q hret hnorm hP a A
 refine wsk fun K1 hK1 => wrl (s_new (vs := (t.d.cells t.ts.length)) (t := 38) A M rfl rfl rfl pg (does_box rfl rfl) (by decide) ?_)
 intro g2 w3 M a A
 refine sda A λa A↦?_
 refine seq_end (hK1 _ _ (wsk fun K4 hK4 => wrl (sdm A λa A↦?_)))
 refine sdo A (m_loadS M TeC_isS_38 rfl 0 rfl (cs := (t.d.cells t.ts.length)) rfl rfl) λa A↦?_
 refine gcl A M (ef rfl rfl) (find_nil) fun w5 hbn M a A => ?_
 refine sdm A λa A↦?_
 iterate 2 refine sdo A (does_extract (vs := [.agg #[.int .u64 0, .int .i64 0], .int .i64 1]) rfl rfl) λa A↦?_
 refine s_new (vs := [.int .u64 0, .int .i64 0]) (t := 69) A M rfl rfl rfl pg (does_alloc (z := .agg #[.int .u64 0, .int .i64 0]) (by kernel_rfl) rfl) (by decide) ?_
 intro g6 w7 M a A
 refine s_store (us := [.int .u64 0, .int .i64 0]) (L' := (.obj g6 (.cells #[.int .u64 0, .int .i64 0] 69) :: .obj g2 (.cells (t.d.cells t.ts.length).toArray 38) :: [])) A M rfl rfl (m_store rfl rfl rfl (by kernel_rfl) M 0 rfl rfl rfl) 0 rfl rfl rfl ?_
 intro w8 M
 refine sda A λa A↦?_
 refine seq_end (hK4 _ _ (wsk fun K9 hK9 => wp_block (wsk fun K10 hK10 => wrl (sdm A λa A↦?_))))
 refine sdo (v := .bool true) A (does_bin rfl rfl (fun w => by kernel_rfl)) λa A↦?_
 refine sda A λa A↦?_
 refine seq_end (hK10 _ _ (wp_cond_true (A.ev rfl) ?_))
 refine wsk fun K11 hK11 => wrl (sdm A λa A↦?_)
 refine sda A λa A↦?_
 refine seq_end (hK11 _ _ (wp_ret (hret _ _ (en1 A rfl (res_tmp rfl) ?_))))
 exact ⟨rfl, M.bel⟩
theorem len_nil {w : World} : Calls Tryz.prog 18 #[.pointer none] w fun e w' => e = .returned (.int .i64 0) ∧ Below w.heap.size w w' := by
 have M : Mg w w ([]) := Mg.start w
 refine walk_of (l := [(0, .pointer none)]) Tryz.func18 rfl Tryz.ntmps18 rfl rfl ?_
 intro Q hret hnorm hP a A
 refine wsk fun K1 hK1 => wrl (sda A λa A↦?_)
 refine seq_end (hK1 _ _ (wsk fun K2 hK2 => wsk fun K3 hK3 => wrl (sdm A λa A↦?_)))
 refine sdo (v := .bool true) A (does_bin rfl rfl (bin_nilY Tryz.underlying24)) λa A↦?_
 refine seq_end (hK3 _ _ (wp_cond_true (A.ev rfl) ?_))
 refine wsk fun K4 hK4 => wrl (sda A λa A↦?_)
 refine seq_end (hK4 _ _ (wp_ret (hret _ _ (en1 A rfl (res_tmp rfl) ?_))))
 exact ⟨rfl, M.bel⟩
theorem keys_nil {w : World} : Calls Tryz.prog 20 #[.pointer none] w fun e w' => e = .returned (.slice none 0 0) ∧ Below w.heap.size w w' := by
 have M : Mg w w ([]) := Mg.start w
 refine walk_of (l := [(0, .pointer none)]) Tryz.func20 rfl Tryz.ntmps20 rfl rfl ?_
 intro Q hret hnorm hP a A
 refine wsk fun K1 hK1 => wrl (sda A λa A↦?_)
 refine seq_end (hK1 _ _ (wsk fun K2 hK2 => wsk fun K3 hK3 => wrl (sdm A λa A↦?_)))
 refine sdo (v := .bool true) A (does_bin rfl rfl (bin_nilY Tryz.underlying24)) λa A↦?_
 refine seq_end (hK3 _ _ (wp_cond_true (A.ev rfl) ?_))
 refine wsk fun K4 hK4 => wrl (sda A λa A↦?_)
 refine seq_end (hK4 _ _ (wp_ret (hret _ _ (en1 A rfl (res_tmp rfl) ?_))))
 exact ⟨rfl, M.bel⟩
theorem copy_nil {w : World} : Calls Tryz.prog 17 #[.pointer none] w fun e w' => e = .returned (.pointer none) ∧ Below w.heap.size w w' := by
 have M : Mg w w ([]) := Mg.start w
 refine walk_of (l := [(0, .pointer none)]) Tryz.func17 rfl Tryz.ntmps17 rfl rfl ?_
 intro Q hret hnorm hP a A
 refine wsk fun K1 hK1 => wrl (sda A λa A↦?_)
 refine seq_end (hK1 _ _ (wsk fun K2 hK2 => wsk fun K3 hK3 => wrl (sdm A λa A↦?_)))
 refine sdo (v := .bool true) A (does_bin rfl rfl (bin_nilY Tryz.underlying24)) λa A↦?_
 refine seq_end (hK3 _ _ (wp_cond_true (A.ev rfl) ?_))
 refine wsk fun K4 hK4 => wrl (sda A λa A↦?_)
 refine seq_end (hK4 _ _ (wp_ret (hret _ _ (en1 A rfl (res_tmp rfl) ?_))))
 exact ⟨rfl, M.bel⟩
theorem clear_nil {w : World} : Calls Tryz.prog 16 #[.pointer none] w fun e w' => e = .returned (.tuple #[]) ∧ Below w.heap.size w w' := by
 have M : Mg w w ([]) := Mg.start w
 refine walk_of (l := [(0, .pointer none)]) Tryz.func16 rfl Tryz.ntmps16 rfl rfl ?_
 intro Q hret hnorm hP a A
 refine wsk fun K1 hK1 => wsk fun K2 hK2 => wrl (sdm A λa A↦?_)
 refine sdo (v := .bool true) A (does_bin rfl rfl (bin_nilY Tryz.underlying24)) λa A↦?_
 refine seq_end (hK2 _ _ (wp_cond_true (A.ev rfl) ?_))
 refine wp_ret (hret _ _ (ends (v := .tuple #[]) A rfl .nil rfl ?_))
 exact ⟨rfl, M.bel⟩
theorem TeD_is1_3 : Is1 Tryz.prog 3 := ⟨⟨_, Tryz.underlying3, rfl⟩, by kernel_rfl⟩
theorem TeD_is1_64 : Is1 Tryz.prog 64 := ⟨⟨_, Tryz.underlying64, rfl⟩, by kernel_rfl⟩
theorem TeD_is1_67 : Is1 Tryz.prog 67 := ⟨⟨_, Tryz.underlying67, rfl⟩, by kernel_rfl⟩
theorem TeD_fld_66_1 : FieldAt Tryz.prog 66 1 1 := ⟨_, _, Tryz.underlying66, rfl, rfl, by kernel_rfl⟩
theorem TeD_fld_66_2 : FieldAt Tryz.prog 66 2 2 := ⟨_, _, Tryz.underlying66, rfl, rfl, by kernel_rfl⟩
theorem TeD_fld_66_3 : FieldAt Tryz.prog 66 3 3 := ⟨_, _, Tryz.underlying66, rfl, rfl, by kernel_rfl⟩
theorem TeD_fld_69_0 : FieldAt Tryz.prog 69 0 0 := ⟨_, _, Tryz.underlying69, rfl, rfl, by kernel_rfl⟩
theorem TeD_fld_69_1 : FieldAt Tryz.prog 69 1 1 := ⟨_, _, Tryz.underlying69, rfl, rfl, by kernel_rfl⟩
theorem TeD_fld_74_2 : FieldAt Tryz.prog 74 2 12 := ⟨_, _, Tryz.underlying74, rfl, rfl, by kernel_rfl⟩
theorem TeD_isS_38 : IsS Tryz.prog 38 11 := ⟨⟨_, Tryz.underlying38⟩, by kernel_rfl⟩
theorem TeD_isS_69 : IsS Tryz.prog 69 2 := ⟨⟨_, Tryz.underlying69⟩, by kernel_rfl⟩
theorem new_any {w : World} {kind : Int} (hk : isK kind = true) : Calls Tryz.prog 8 #[.int .i64 kind] w fun e w' => ∃ g m, e = .returned (.tuple #[.pointer (some ⟨g, 0, none⟩), .int .i64 0]) ∧ Mg w w' [.obj g (.cells #[.int .i64 kind, .map (some m), .int .i64 0, .int .i64 0] 66), .obj m (mapO [] 0)] := by
 have M : Mg w w ([]) := Mg.start w
 refine walk_of (l := [(0, .int .i64 kind)]) Tryz.func8 rfl Tryz.ntmps8 rfl rfl ?_
 intro Q hret hnorm hP a A
 refine wsk fun K1 hK1 => wrl ?_
 iterate 2 refine sda A λa A↦?_
 refine seq_end (hK1 _ _ (wsk fun K2 hK2 => wsk fun K3 hK3 => wrl (sdm A λa A↦?_)))
 refine gcl A M (ef rfl rfl) ((hk ▸ isKind_any)) fun w4 hbk M a A => ?_
 refine sdo (v := .bool false) A (does_un rfl un_not) λa A↦?_
 refine seq_end (hK3 _ _ (wp_cond_false (A.ev rfl) ?_))
 refine wp_skip (hK2 _ _ (wsk fun K5 hK5 => wrl (sdm A λa A↦?_)))
 refine s_makeMap A M rfl rfl rfl rfl ?_
 intro g6 w7 M a A
 refine sdo (v := .agg #[.int .i64 kind, .map (some g6), .int .i64 0, .int .i64 0]) A (does_build rfl (fun w => by kernel_rfl)) λa A↦?_
 refine s_new (vs := [.int .i64 kind, .map (some g6), .int .i64 0, .int .i64 0]) (t := 66) A M rfl rfl rfl pg (does_box rfl rfl) (by decide) ?_
 intro g8 w9 M a A
 iterate 2 refine sda A λa A↦?_
 refine seq_end (hK5 _ _ (wp_ret (hret _ _ (en2 A rfl (res_tmp rfl) (res_tmp rfl) ?_))))
 replace M : Mg w w9 (.obj g6 (mapO ([]) 0) :: .obj g8 (.cells #[.int .i64 kind, .map (some g6), .int .i64 0, .int .i64 0] 66) :: []) := M.bring 1 rfl rfl
 replace M : Mg w w9 (.obj g8 (.cells #[.int .i64 kind, .map (some g6), .int .i64 0, .int .i64 0] 66) :: .obj g6 (mapO ([]) 0) :: []) := M.bring 1 rfl rfl
 exact ⟨_, _, rfl, M⟩
theorem entC_one (p : Nat) (k v : Dt) : (entC p k v).all Value.oneCell' = true := by
 unfold entC
 rw [List.all_cons, List.all_append]
 rw [show (k.d.cells k.ts.length).all Value.oneCell' = true from cells_all k, show (v.d.cells v.ts.length).all Value.oneCell' = true from cells_all v]
 rfl
set_option maxHeartbeats 1000000 in
theorem add_new {w0 w : World} {kind h : Int} {g m count last ck : Nat} {es : List En} {X : List Ck} (hX : noBld X) (hc : count ≤ 1000000000) (hl : last ≤ 4611686018427387904) (hnew : atK h es = none) {t v : Dt} (ht : ∀ w9, Mg w0 w9 X → t.rd w9) (hv : ∀ w9, Mg w0 w9 X → v.rd w9) (htb : t.tr.bulk ≤ 4000000) (hvb : v.tr.bulk ≤ 4000000) (hM0 : Mg w0 w (.obj g (.cells #[.int .i64 kind, .map (some m), .int .i64 (((count : Nat) : Int)), .int .i64 (((last : Nat) : Int))] 66) :: .obj m (mapO es ck) :: X)) : Calls Tryz.prog 29 #[.pointer (some ⟨g, 0, none⟩), .int .u64 h, .agg (t.d.cells t.ts.length).toArray, .agg (v.d.cells v.ts.length).toArray] w fun e w' => e = .returned (.tuple #[]) ∧ ∃ so8 ca8, ∃ k2 v2 : Dt, ∃ F : List Ck, (k2.tr = t.tr ∧ v2.tr = v.tr ∧ Lives F k2 ∧ Lives F v2 ∧ noBld F) ∧ Mg w0 w' (.obj g (.cells #[.int .i64 kind, .map (some m), .int .i64 (((count + 1 : Nat) : Int)), .int .i64 (((last + 1 : Nat) : Int))] 66) :: .obj m (mapO (es ++ [⟨h, .slice so8 1 ca8, ck⟩]) (ck + 1)) :: .row 74 23 (.slice so8 1 ca8) 1 (entC (last + 1) k2 v2) :: (F ++ X)) := by
 have M : Mg w0 w (.obj g (.cells #[.int .i64 kind, .map (some m), .int .i64 (((count : Nat) : Int)), .int .i64 (((last : Nat) : Int))] 66) :: .obj m (mapO es ck) :: X) := hM0
 refine walk_of (l := [(0, .pointer (some ⟨g, 0, none⟩)), (1, .int .u64 h), (2, .agg (t.d.cells t.ts.length).toArray), (3, .agg (v.d.cells v.ts.length).toArray)]) Tryz.func29 rfl Tryz.ntmps29 rfl rfl ?_
 intro Q hret hnorm hP a A
 refine wsk fun K1 hK1 => wrl (s_new (vs := (t.d.cells t.ts.length)) (t := 38) A M rfl rfl rfl pg (does_box rfl rfl) (by decide) ?_)
 intro g2 w3 M a A
 refine s_new (vs := (v.d.cells v.ts.length)) (t := 38) A M rfl rfl rfl pg (does_box rfl rfl) (by decide) ?_
 intro g4 w5 M a A
 refine seq_end (hK1 _ _ (wsk fun K6 hK6 => wrl (sdm A λa A↦?_)))
 refine sdo A (does_nilp rfl) λa A↦?_
 refine sdo (v := .pointer (some ⟨g, 3, none⟩)) A (does_field TeD_fld_66_3 rfl rfl) λa A↦?_
 refine sdo A (m_load1 M TeD_is1_3 rfl 2 rfl rfl) λa A↦?_
 refine sdo (v := .int .i64 (((last + 1 : Nat) : Int))) A (does_bin rfl rfl (ar_add ((in_i64 (by omega) (by omega)).trans (by omega)))) λa A↦?_
 refine sdo A (does_nilp rfl) λa A↦?_
 refine sdo (v := .pointer (some ⟨g, 3, none⟩)) A (does_field TeD_fld_66_3 rfl rfl) λa A↦?_
 refine s_store (us := [.int .i64 kind, .map (some m), .int .i64 (((count : Nat) : Int)), .int .i64 (((last + 1 : Nat) : Int))]) (L' := (.obj g4 (.cells (v.d.cells v.ts.length).toArray 38) :: .obj g2 (.cells (t.d.cells t.ts.length).toArray 38) :: .obj g (.cells #[.int .i64 kind, .map (some m), .int .i64 (((count : Nat) : Int)), .int .i64 (((last + 1 : Nat) : Int))] 66) :: .obj m (mapO es ck) :: X)) A M rfl rfl (m_store rfl rfl rfl (by kernel_rfl) M 2 rfl rfl rfl) 2 rfl rfl rfl ?_
 intro w7 M
 refine seq_end (hK6 _ _ (wsk fun K8 hK8 => wrl (sdm A λa A↦?_)))
 refine sdo A (does_nilp rfl) λa A↦?_
 refine sdo (v := .pointer (some ⟨g, 2, none⟩)) A (does_field TeD_fld_66_2 rfl rfl) λa A↦?_
 refine sdo A (m_load1 M TeD_is1_3 rfl 2 rfl rfl) λa A↦?_
 refine sdo (v := .int .i64 (((count + 1 : Nat) : Int))) A (does_bin rfl rfl (ar_add ((in_i64 (by omega) (by omega)).trans (by omega)))) λa A↦?_
 refine sdo A (does_nilp rfl) λa A↦?_
 refine sdo (v := .pointer (some ⟨g, 2, none⟩)) A (does_field TeD_fld_66_2 rfl rfl) λa A↦?_
 refine s_store (us := [.int .i64 kind, .map (some m), .int .i64 (((count + 1 : Nat) : Int)), .int .i64 (((last + 1 : Nat) : Int))]) (L' := (.obj g4 (.cells (v.d.cells v.ts.length).toArray 38) :: .obj g2 (.cells (t.d.cells t.ts.length).toArray 38) :: .obj g (.cells #[.int .i64 kind, .map (some m), .int .i64 (((count + 1 : Nat) : Int)), .int .i64 (((last + 1 : Nat) : Int))] 66) :: .obj m (mapO es ck) :: X)) A M rfl rfl (m_store rfl rfl rfl (by kernel_rfl) M 2 rfl rfl rfl) 2 rfl rfl rfl ?_
 intro w9 M
 refine seq_end (hK8 _ _ (wp_draw (S := fun w1 => Mg w0 w1 (.obj g4 (.cells (v.d.cells v.ts.length).toArray 38) :: .obj g2 (.cells (t.d.cells t.ts.length).toArray 38) :: .obj g (.cells #[.int .i64 kind, .map (some m), .int .i64 (((count + 1 : Nat) : Int)), .int .i64 (((last + 1 : Nat) : Int))] 66) :: [])) (by kernel_rfl) ?_))
 replace M := M.drew
 refine any_tk A 0 rfl rfl rfl rfl hP (M.sub (.cons_cons _ (.cons_cons _ (.cons_cons _ (.cons _ (List.nil_sublist _)))))) (fun w1 M => does_move rfl) λa A↦?_
 refine any_tk A 1 rfl rfl rfl rfl hP (M.sub (.cons_cons _ (.cons_cons _ (.cons_cons _ (.cons _ (List.nil_sublist _)))))) (fun w1 M => does_nilp rfl) λa A↦?_
 refine any_tk (v := .pointer (some ⟨g, 1, none⟩)) A 2 rfl rfl rfl rfl hP (M.sub (.cons_cons _ (.cons_cons _ (.cons_cons _ (.cons _ (List.nil_sublist _)))))) (fun w1 M => does_field TeD_fld_66_1 rfl rfl) λa A↦?_
 refine any_tk A 3 rfl rfl rfl rfl hP (M.sub (.cons_cons _ (.cons_cons _ (.cons_cons _ (.cons _ (List.nil_sublist _)))))) (fun w1 M => m_load1 M TeD_is1_64 rfl 2 rfl rfl) λa A↦?_
 refine any_tk A 4 rfl rfl rfl rfl hP (M.sub (.cons_cons _ (.cons_cons _ (.cons_cons _ (.cons _ (List.nil_sublist _)))))) (fun w1 M => does_move rfl) λa A↦?_
 refine any_tk A 5 rfl rfl rfl rfl hP (M.sub (.cons_cons _ (.cons_cons _ (.cons_cons _ (.cons _ (List.nil_sublist _)))))) (fun w1 M => does_move rfl) λa A↦?_
 refine any_tk A 6 rfl rfl rfl rfl hP (M.sub (.cons_cons _ (.cons_cons _ (.cons_cons _ (.cons _ (List.nil_sublist _)))))) (fun w1 M => does_nilp rfl) λa A↦?_
 refine any_tk (v := .pointer (some ⟨g, 1, none⟩)) A 7 rfl rfl rfl rfl hP (M.sub (.cons_cons _ (.cons_cons _ (.cons_cons _ (.cons _ (List.nil_sublist _)))))) (fun w1 M => does_field TeD_fld_66_1 rfl rfl) λa A↦?_
 refine any_tk A 8 rfl rfl rfl rfl hP (M.sub (.cons_cons _ (.cons_cons _ (.cons_cons _ (.cons _ (List.nil_sublist _)))))) (fun w1 M => m_load1 M TeD_is1_64 rfl 2 rfl rfl) λa A↦?_
 refine any_tk A 9 rfl rfl rfl rfl hP (M.sub (.cons_cons _ (.cons_cons _ (.cons_cons _ (.cons _ (List.nil_sublist _)))))) (fun w1 M => does_move rfl) λa A↦?_
 refine any_tk A 11 rfl rfl rfl rfl hP (M.sub (.cons_cons _ (.cons_cons _ (.cons_cons _ (.cons _ (List.nil_sublist _)))))) (fun w1 M => does_move rfl) λa A↦?_
 refine any_tk A 12 rfl rfl rfl rfl hP (M.sub (.cons_cons _ (.cons_cons _ (.cons_cons _ (.cons _ (List.nil_sublist _)))))) (fun w1 M => does_nilp rfl) λa A↦?_
 refine any_tk (v := .pointer (some ⟨g, 3, none⟩)) A 13 rfl rfl rfl rfl hP (M.sub (.cons_cons _ (.cons_cons _ (.cons_cons _ (.cons _ (List.nil_sublist _)))))) (fun w1 M => does_field TeD_fld_66_3 rfl rfl) λa A↦?_
 refine any_tk A 14 rfl rfl rfl rfl hP (M.sub (.cons_cons _ (.cons_cons _ (.cons_cons _ (.cons _ (List.nil_sublist _)))))) (fun w1 M => m_load1 M TeD_is1_3 rfl 2 rfl rfl) λa A↦?_
 refine any_tk A 15 rfl rfl rfl rfl hP (M.sub (.cons_cons _ (.cons_cons _ (.cons_cons _ (.cons _ (List.nil_sublist _)))))) (fun w1 M => m_loadS M TeD_isS_38 rfl 1 rfl (cs := (t.d.cells t.ts.length)) rfl rfl) λa A↦?_
 refine any_tk A 17 rfl rfl rfl rfl hP (M.sub (.cons_cons _ (.cons_cons _ (.cons_cons _ (.cons _ (List.nil_sublist _)))))) (fun w1 M => m_loadS M TeD_isS_38 rfl 0 rfl (cs := (v.d.cells v.ts.length)) rfl rfl) λa A↦?_
 refine any_many (rs := [10, 16]) (by kernel_rfl) (by simp) ⟨?_, ?_, trivial⟩
 ·
  refine op_do (v := .slice none 0 0) A 10 rfl rfl rfl rfl (m_lookN M Tryz.underlying64 Tryz.underlying67 (zv := .slice none 0 0) (by kernel_rfl) rfl rfl 3 rfl hnew rfl) (M.sub (.cons_cons _ (.cons_cons _ (.cons_cons _ (.cons _ (List.nil_sublist _)))))) λa A↦?_
  have hz15 := M.bel.size
  refine any_one (by kernel_rfl) (op_call A 16 rfl rfl rfl rfl (enters_func rfl rfl (fun w => by kernel_rfl)) (copies_all t (ht _ ((M.dropn 4).sub (List.Sublist.refl _))) (by omega)) ?_)
  rintro _ w16 ⟨c10, rfl, ⟨hcr11, hco13, hct12⟩, hb14⟩
  replace M : Mg w0 w16 (.obj g4 (.cells (v.d.cells v.ts.length).toArray 38) :: .obj g2 (.cells (t.d.cells t.ts.length).toArray 38) :: .obj g (.cells #[.int .i64 kind, .map (some m), .int .i64 (((count + 1 : Nat) : Int)), .int .i64 (((last + 1 : Nat) : Int))] 66) :: .obj m (mapO es ck) :: (made w9.drew w16 ++ X)) := M.freezeAt 4 (noBld_cons (by simp) (noBld_cons (by simp) (noBld_cons (by simp) (noBld_cons (by simp) hX)))) hb14
  have hLc10 := lives_made hcr11 hco13
  replace hco13 := Dt.at_mono (fun b hb => Nat.le_trans hz15 hb) _ hco13
  refine ⟨_, rfl, (M.sub (.cons_cons _ (.cons_cons _ (.cons_cons _ (.cons _ (List.nil_sublist _)))))), ?_⟩
  intro a A
  have hz22 := M.bel.size
  refine any_one (by kernel_rfl) (op_call A 18 rfl rfl rfl rfl (enters_func rfl rfl (fun w => by kernel_rfl)) (copies_all v (hv _ ((M.dropn 4).sub (List.sublist_append_right _ _))) (by omega)) ?_)
  rintro _ w23 ⟨c17, rfl, ⟨hcr18, hco20, hct19⟩, hb21⟩
  replace M : Mg w0 w23 (.obj g4 (.cells (v.d.cells v.ts.length).toArray 38) :: .obj g2 (.cells (t.d.cells t.ts.length).toArray 38) :: .obj g (.cells #[.int .i64 kind, .map (some m), .int .i64 (((count + 1 : Nat) : Int)), .int .i64 (((last + 1 : Nat) : Int))] 66) :: .obj m (mapO es ck) :: (made w16 w23 ++ (made w9.drew w16 ++ X))) := M.freezeAt 4 (noBld_cons (by simp) (noBld_cons (by simp) (noBld_cons (by simp) (noBld_cons (by simp) (noBld_app made_nob hX))))) hb21
  have hLc17 := lives_made hcr18 hco20
  replace hco20 := Dt.at_mono (fun b hb => Nat.le_trans hz22 hb) _ hco20
  refine ⟨_, rfl, (M.sub (.cons_cons _ (.cons_cons _ (.cons_cons _ (.cons _ (List.nil_sublist _)))))), ?_⟩
  intro a A
  refine any_tk (v := .agg #[.int .i64 (((last + 1 : Nat) : Int)), .int .i64 c10.d.k, .int .i64 c10.d.n, .bool c10.d.y.q.b1, .slice c10.d.y.o1 c10.d.y.q.t1.length c10.d.y.c1, .slice c10.d.y.o2 c10.d.y.q.q1.length c10.d.y.c2, .bool c10.d.y.q.b2, .slice c10.d.y.o3 c10.d.y.q.t2.length c10.d.y.c3, .slice c10.d.y.o4 c10.d.y.q.q2.length c10.d.y.c4, .string c10.d.s, .slice c10.d.ro c10.d.rl.length c10.d.rc, .slice c10.d.lo c10.ts.length c10.d.lc, .int .i64 c17.d.k, .int .i64 c17.d.n, .bool c17.d.y.q.b1, .slice c17.d.y.o1 c17.d.y.q.t1.length c17.d.y.c1, .slice c17.d.y.o2 c17.d.y.q.q1.length c17.d.y.c2, .bool c17.d.y.q.b2, .slice c17.d.y.o3 c17.d.y.q.t2.length c17.d.y.c3, .slice c17.d.y.o4 c17.d.y.q.q2.length c17.d.y.c4, .string c17.d.s, .slice c17.d.ro c17.d.rl.length c17.d.rc, .slice c17.d.lo c17.ts.length c17.d.lc]) A 19 rfl rfl rfl rfl hP (M.sub (.cons_cons _ (.cons_cons _ (.cons_cons _ (.cons _ (List.nil_sublist _)))))) (fun w1 M => does_build rfl (fun w => by kernel_rfl)) λa A↦?_
  refine any_one (by kernel_rfl) (g_lit (e := 74) (sz := 23) (m := 1) (vs := (entC (last + 1) c10 c17)) A M 20 rfl rfl rfl rfl (does_buildSlice rfl (by kernel_rfl)) rfl rfl (.inl (by decide)) ?_)
  intro g24 w25 M
  refine ⟨(M.sub (.cons _ (.cons_cons _ (.cons_cons _ (.cons_cons _ (.cons _ (List.nil_sublist _))))))), ?_⟩
  intro a A
  replace M := M.nilRow (noBld_cons (by simp) (noBld_cons (by simp) (noBld_cons (by simp) (noBld_cons (by simp) (noBld_cons (by simp) (noBld_app made_nob (noBld_app made_nob hX))))))) 74 23
  refine any_one (by kernel_rfl) (g_append (e := 74) (sz := 23) (k := 0) (q := 0) (m := 1) (xs := []) (news := (entC (last + 1) c10 c17)) (L' := fun v26 => (.row 74 23 (v26) (0 + 1) ([] ++ (entC (last + 1) c10 c17)) :: .row 74 23 (.slice (some ⟨g24, 0, none⟩) 1 1) 1 ((entC (last + 1) c10 c17)) :: .obj g4 (.cells (v.d.cells v.ts.length).toArray 38) :: .obj g2 (.cells (t.d.cells t.ts.length).toArray 38) :: .obj g (.cells #[.int .i64 kind, .map (some m), .int .i64 (((count + 1 : Nat) : Int)), .int .i64 (((last + 1 : Nat) : Int))] 66) :: .obj m (mapO es ck) :: (made w16 w23 ++ (made w9.drew w16 ++ X)))) A 21 rfl rfl rfl rfl (m_appX (z := .agg #[.int .i64 0, .int .i64 0, .int .i64 0, .bool false, .slice none 0 0, .slice none 0 0, .bool false, .slice none 0 0, .slice none 0 0, .string (⟨#[]⟩), .slice none 0 0, .slice none 0 0, .int .i64 0, .int .i64 0, .bool false, .slice none 0 0, .slice none 0 0, .bool false, .slice none 0 0, .slice none 0 0, .string (⟨#[]⟩), .slice none 0 0, .slice none 0 0]) (sz := 23) (by_ := 392) Tryz.underlying75 (by kernel_rfl) rfl rfl rfl M 0 rfl rfl rfl rfl (rc_own (M.has 1 rfl)) (List.all_eq_true.1 (entC_one _ _ _)) (by omega)) (fun _ => rfl) ?_)
  intro v26 w27 M
  refine ⟨(M.sub (.cons _ (.cons _ (.cons_cons _ (.cons_cons _ (.cons_cons _ (.cons _ (List.nil_sublist _)))))))), ?_⟩
  intro a A
  refine any_one (by kernel_rfl) (g_setObj (L' := (.row 74 23 (v26) (0 + 1) ([] ++ (entC (last + 1) c10 c17)) :: .row 74 23 (.slice (some ⟨g24, 0, none⟩) 1 1) 1 ((entC (last + 1) c10 c17)) :: .obj g4 (.cells (v.d.cells v.ts.length).toArray 38) :: .obj g2 (.cells (t.d.cells t.ts.length).toArray 38) :: .obj g (.cells #[.int .i64 kind, .map (some m), .int .i64 (((count + 1 : Nat) : Int)), .int .i64 (((last + 1 : Nat) : Int))] 66) :: .obj m (mapO (es ++ [⟨h, v26, ck⟩]) (ck + 1)) :: (made w16 w23 ++ (made w9.drew w16 ++ X)))) A M 22 rfl rfl rfl (sets_new M Tryz.underlying64 Tryz.underlying67 rfl rfl rfl 5 rfl hnew) 5 rfl (quiet_map _ _) rfl ?_)
  intro w28 M
  refine ⟨(M.sub (.cons _ (.cons _ (.cons_cons _ (.cons_cons _ (.cons_cons _ (.cons _ (List.nil_sublist _)))))))), ?_⟩
  refine any_end (by kernel_rfl) ?_
  refine hnorm _ _ (ends (v := .tuple #[]) A rfl .nil rfl ?_)
  replace M : Mg w0 w28 (.obj m (mapO (es ++ [⟨h, v26, ck⟩]) (ck + 1)) :: .row 74 23 (v26) (0 + 1) ([] ++ (entC (last + 1) c10 c17)) :: .row 74 23 (.slice (some ⟨g24, 0, none⟩) 1 1) 1 ((entC (last + 1) c10 c17)) :: .obj g4 (.cells (v.d.cells v.ts.length).toArray 38) :: .obj g2 (.cells (t.d.cells t.ts.length).toArray 38) :: .obj g (.cells #[.int .i64 kind, .map (some m), .int .i64 (((count + 1 : Nat) : Int)), .int .i64 (((last + 1 : Nat) : Int))] 66) :: (made w16 w23 ++ (made w9.drew w16 ++ X))) := M.bring 5 rfl rfl
  replace M : Mg w0 w28 (.obj g (.cells #[.int .i64 kind, .map (some m), .int .i64 (((count + 1 : Nat) : Int)), .int .i64 (((last + 1 : Nat) : Int))] 66) :: .obj m (mapO (es ++ [⟨h, v26, ck⟩]) (ck + 1)) :: .row 74 23 (v26) (0 + 1) ([] ++ (entC (last + 1) c10 c17)) :: .row 74 23 (.slice (some ⟨g24, 0, none⟩) 1 1) 1 ((entC (last + 1) c10 c17)) :: .obj g4 (.cells (v.d.cells v.ts.length).toArray 38) :: .obj g2 (.cells (t.d.cells t.ts.length).toArray 38) :: (made w16 w23 ++ (made w9.drew w16 ++ X))) := M.bring 5 rfl rfl
  replace M : Mg w0 w28 (.obj g (.cells #[.int .i64 kind, .map (some m), .int .i64 (((count + 1 : Nat) : Int)), .int .i64 (((last + 1 : Nat) : Int))] 66) :: .obj m (mapO (es ++ [⟨h, v26, ck⟩]) (ck + 1)) :: .row 74 23 (v26) (0 + 1) ([] ++ (entC (last + 1) c10 c17)) :: (made w16 w23 ++ (made w9.drew w16 ++ X))) := by
   have h9 := M.sub (.cons_cons _ (.cons_cons _ (.cons_cons _ (.cons _ (.cons _ (.cons _ (.refl _)))))))
   exact h9
  obtain ⟨so8, ca8, rfl⟩ := owns_any (M.has 2 rfl)
  rw [Nat.zero_add, List.nil_append] at M
  rw [← List.append_assoc] at M
  exact ⟨rfl, so8, ca8, c10, c17, (made w16 w23 ++ made w9.drew w16), ⟨hct12, hct19, hLc10.app _, hLc17.front _, noBld_app made_nob made_nob⟩, M⟩
 ·
  have hz34 := M.bel.size
  refine op_call A 16 rfl rfl rfl rfl (enters_func rfl rfl (fun w => by kernel_rfl)) (copies_all t (ht _ ((M.dropn 4).sub (List.Sublist.refl _))) (by omega)) ?_
  rintro _ w35 ⟨c29, rfl, ⟨hcr30, hco32, hct31⟩, hb33⟩
  replace M : Mg w0 w35 (.obj g4 (.cells (v.d.cells v.ts.length).toArray 38) :: .obj g2 (.cells (t.d.cells t.ts.length).toArray 38) :: .obj g (.cells #[.int .i64 kind, .map (some m), .int .i64 (((count + 1 : Nat) : Int)), .int .i64 (((last + 1 : Nat) : Int))] 66) :: .obj m (mapO es ck) :: (made w9.drew w35 ++ X)) := M.freezeAt 4 (noBld_cons (by simp) (noBld_cons (by simp) (noBld_cons (by simp) (noBld_cons (by simp) hX)))) hb33
  have hLc29 := lives_made hcr30 hco32
  replace hco32 := Dt.at_mono (fun b hb => Nat.le_trans hz34 hb) _ hco32
  refine ⟨_, rfl, (M.sub (.cons_cons _ (.cons_cons _ (.cons_cons _ (.cons _ (List.nil_sublist _)))))), ?_⟩
  intro a A
  refine any_many (rs := [10, 18]) (by kernel_rfl) (by simp) ⟨?_, ?_, trivial⟩
  ·
   refine op_do (v := .slice none 0 0) A 10 rfl rfl rfl rfl (m_lookN M Tryz.underlying64 Tryz.underlying67 (zv := .slice none 0 0) (by kernel_rfl) rfl rfl 3 rfl hnew rfl) (M.sub (.cons_cons _ (.cons_cons _ (.cons_cons _ (.cons _ (List.nil_sublist _)))))) λa A↦?_
   have hz41 := M.bel.size
   refine any_one (by kernel_rfl) (op_call A 18 rfl rfl rfl rfl (enters_func rfl rfl (fun w => by kernel_rfl)) (copies_all v (hv _ ((M.dropn 4).sub (List.sublist_append_right _ _))) (by omega)) ?_)
   rintro _ w42 ⟨c36, rfl, ⟨hcr37, hco39, hct38⟩, hb40⟩
   replace M : Mg w0 w42 (.obj g4 (.cells (v.d.cells v.ts.length).toArray 38) :: .obj g2 (.cells (t.d.cells t.ts.length).toArray 38) :: .obj g (.cells #[.int .i64 kind, .map (some m), .int .i64 (((count + 1 : Nat) : Int)), .int .i64 (((last + 1 : Nat) : Int))] 66) :: .obj m (mapO es ck) :: (made w35 w42 ++ (made w9.drew w35 ++ X))) := M.freezeAt 4 (noBld_cons (by simp) (noBld_cons (by simp) (noBld_cons (by simp) (noBld_cons (by simp) (noBld_app made_nob hX))))) hb40
   have hLc36 := lives_made hcr37 hco39
   replace hco39 := Dt.at_mono (fun b hb => Nat.le_trans hz41 hb) _ hco39
   refine ⟨_, rfl, (M.sub (.cons_cons _ (.cons_cons _ (.cons_cons _ (.cons _ (List.nil_sublist _)))))), ?_⟩
   intro a A
   refine any_tk (v := .agg #[.int .i64 (((last + 1 : Nat) : Int)), .int .i64 c29.d.k, .int .i64 c29.d.n, .bool c29.d.y.q.b1, .slice c29.d.y.o1 c29.d.y.q.t1.length c29.d.y.c1, .slice c29.d.y.o2 c29.d.y.q.q1.length c29.d.y.c2, .bool c29.d.y.q.b2, .slice c29.d.y.o3 c29.d.y.q.t2.length c29.d.y.c3, .slice c29.d.y.o4 c29.d.y.q.q2.length c29.d.y.c4, .string c29.d.s, .slice c29.d.ro c29.d.rl.length c29.d.rc, .slice c29.d.lo c29.ts.length c29.d.lc, .int .i64 c36.d.k, .int .i64 c36.d.n, .bool c36.d.y.q.b1, .slice c36.d.y.o1 c36.d.y.q.t1.length c36.d.y.c1, .slice c36.d.y.o2 c36.d.y.q.q1.length c36.d.y.c2, .bool c36.d.y.q.b2, .slice c36.d.y.o3 c36.d.y.q.t2.length c36.d.y.c3, .slice c36.d.y.o4 c36.d.y.q.q2.length c36.d.y.c4, .string c36.d.s, .slice c36.d.ro c36.d.rl.length c36.d.rc, .slice c36.d.lo c36.ts.length c36.d.lc]) A 19 rfl rfl rfl rfl hP (M.sub (.cons_cons _ (.cons_cons _ (.cons_cons _ (.cons _ (List.nil_sublist _)))))) (fun w1 M => does_build rfl (fun w => by kernel_rfl)) λa A↦?_
   refine any_one (by kernel_rfl) (g_lit (e := 74) (sz := 23) (m := 1) (vs := (entC (last + 1) c29 c36)) A M 20 rfl rfl rfl rfl (does_buildSlice rfl (by kernel_rfl)) rfl rfl (.inl (by decide)) ?_)
   intro g43 w44 M
   refine ⟨(M.sub (.cons _ (.cons_cons _ (.cons_cons _ (.cons_cons _ (.cons _ (List.nil_sublist _))))))), ?_⟩
   intro a A
   replace M := M.nilRow (noBld_cons (by simp) (noBld_cons (by simp) (noBld_cons (by simp) (noBld_cons (by simp) (noBld_cons (by simp) (noBld_app made_nob (noBld_app made_nob hX))))))) 74 23
   refine any_one (by kernel_rfl) (g_append (e := 74) (sz := 23) (k := 0) (q := 0) (m := 1) (xs := []) (news := (entC (last + 1) c29 c36)) (L' := fun v45 => (.row 74 23 (v45) (0 + 1) ([] ++ (entC (last + 1) c29 c36)) :: .row 74 23 (.slice (some ⟨g43, 0, none⟩) 1 1) 1 ((entC (last + 1) c29 c36)) :: .obj g4 (.cells (v.d.cells v.ts.length).toArray 38) :: .obj g2 (.cells (t.d.cells t.ts.length).toArray 38) :: .obj g (.cells #[.int .i64 kind, .map (some m), .int .i64 (((count + 1 : Nat) : Int)), .int .i64 (((last + 1 : Nat) : Int))] 66) :: .obj m (mapO es ck) :: (made w35 w42 ++ (made w9.drew w35 ++ X)))) A 21 rfl rfl rfl rfl (m_appX (z := .agg #[.int .i64 0, .int .i64 0, .int .i64 0, .bool false, .slice none 0 0, .slice none 0 0, .bool false, .slice none 0 0, .slice none 0 0, .string (⟨#[]⟩), .slice none 0 0, .slice none 0 0, .int .i64 0, .int .i64 0, .bool false, .slice none 0 0, .slice none 0 0, .bool false, .slice none 0 0, .slice none 0 0, .string (⟨#[]⟩), .slice none 0 0, .slice none 0 0]) (sz := 23) (by_ := 392) Tryz.underlying75 (by kernel_rfl) rfl rfl rfl M 0 rfl rfl rfl rfl (rc_own (M.has 1 rfl)) (List.all_eq_true.1 (entC_one _ _ _)) (by omega)) (fun _ => rfl) ?_)
   intro v45 w46 M
   refine ⟨(M.sub (.cons _ (.cons _ (.cons_cons _ (.cons_cons _ (.cons_cons _ (.cons _ (List.nil_sublist _)))))))), ?_⟩
   intro a A
   refine any_one (by kernel_rfl) (g_setObj (L' := (.row 74 23 (v45) (0 + 1) ([] ++ (entC (last + 1) c29 c36)) :: .row 74 23 (.slice (some ⟨g43, 0, none⟩) 1 1) 1 ((entC (last + 1) c29 c36)) :: .obj g4 (.cells (v.d.cells v.ts.length).toArray 38) :: .obj g2 (.cells (t.d.cells t.ts.length).toArray 38) :: .obj g (.cells #[.int .i64 kind, .map (some m), .int .i64 (((count + 1 : Nat) : Int)), .int .i64 (((last + 1 : Nat) : Int))] 66) :: .obj m (mapO (es ++ [⟨h, v45, ck⟩]) (ck + 1)) :: (made w35 w42 ++ (made w9.drew w35 ++ X)))) A M 22 rfl rfl rfl (sets_new M Tryz.underlying64 Tryz.underlying67 rfl rfl rfl 5 rfl hnew) 5 rfl (quiet_map _ _) rfl ?_)
   intro w47 M
   refine ⟨(M.sub (.cons _ (.cons _ (.cons_cons _ (.cons_cons _ (.cons_cons _ (.cons _ (List.nil_sublist _)))))))), ?_⟩
   refine any_end (by kernel_rfl) ?_
   refine hnorm _ _ (ends (v := .tuple #[]) A rfl .nil rfl ?_)
   replace M : Mg w0 w47 (.obj m (mapO (es ++ [⟨h, v45, ck⟩]) (ck + 1)) :: .row 74 23 (v45) (0 + 1) ([] ++ (entC (last + 1) c29 c36)) :: .row 74 23 (.slice (some ⟨g43, 0, none⟩) 1 1) 1 ((entC (last + 1) c29 c36)) :: .obj g4 (.cells (v.d.cells v.ts.length).toArray 38) :: .obj g2 (.cells (t.d.cells t.ts.length).toArray 38) :: .obj g (.cells #[.int .i64 kind, .map (some m), .int .i64 (((count + 1 : Nat) : Int)), .int .i64 (((last + 1 : Nat) : Int))] 66) :: (made w35 w42 ++ (made w9.drew w35 ++ X))) := M.bring 5 rfl rfl
   replace M : Mg w0 w47 (.obj g (.cells #[.int .i64 kind, .map (some m), .int .i64 (((count + 1 : Nat) : Int)), .int .i64 (((last + 1 : Nat) : Int))] 66) :: .obj m (mapO (es ++ [⟨h, v45, ck⟩]) (ck + 1)) :: .row 74 23 (v45) (0 + 1) ([] ++ (entC (last + 1) c29 c36)) :: .row 74 23 (.slice (some ⟨g43, 0, none⟩) 1 1) 1 ((entC (last + 1) c29 c36)) :: .obj g4 (.cells (v.d.cells v.ts.length).toArray 38) :: .obj g2 (.cells (t.d.cells t.ts.length).toArray 38) :: (made w35 w42 ++ (made w9.drew w35 ++ X))) := M.bring 5 rfl rfl
   replace M : Mg w0 w47 (.obj g (.cells #[.int .i64 kind, .map (some m), .int .i64 (((count + 1 : Nat) : Int)), .int .i64 (((last + 1 : Nat) : Int))] 66) :: .obj m (mapO (es ++ [⟨h, v45, ck⟩]) (ck + 1)) :: .row 74 23 (v45) (0 + 1) ([] ++ (entC (last + 1) c29 c36)) :: (made w35 w42 ++ (made w9.drew w35 ++ X))) := by
    have h9 := M.sub (.cons_cons _ (.cons_cons _ (.cons_cons _ (.cons _ (.cons _ (.cons _ (.refl _)))))))
    exact h9
   obtain ⟨so8, ca8, rfl⟩ := owns_any (M.has 2 rfl)
   rw [Nat.zero_add, List.nil_append] at M
   rw [← List.append_assoc] at M
   exact ⟨rfl, so8, ca8, c29, c36, (made w35 w42 ++ made w9.drew w35), ⟨hct31, hct38, hLc29.app _, hLc36.front _, noBld_app made_nob made_nob⟩, M⟩
  ·
   have hz53 := M.bel.size
   refine op_call A 18 rfl rfl rfl rfl (enters_func rfl rfl (fun w => by kernel_rfl)) (copies_all v (hv _ ((M.dropn 4).sub (List.sublist_append_right _ _))) (by omega)) ?_
   rintro _ w54 ⟨c48, rfl, ⟨hcr49, hco51, hct50⟩, hb52⟩
   replace M : Mg w0 w54 (.obj g4 (.cells (v.d.cells v.ts.length).toArray 38) :: .obj g2 (.cells (t.d.cells t.ts.length).toArray 38) :: .obj g (.cells #[.int .i64 kind, .map (some m), .int .i64 (((count + 1 : Nat) : Int)), .int .i64 (((last + 1 : Nat) : Int))] 66) :: .obj m (mapO es ck) :: (made w35 w54 ++ (made w9.drew w35 ++ X))) := M.freezeAt 4 (noBld_cons (by simp) (noBld_cons (by simp) (noBld_cons (by simp) (noBld_cons (by simp) (noBld_app made_nob hX))))) hb52
   have hLc48 := lives_made hcr49 hco51
   replace hco51 := Dt.at_mono (fun b hb => Nat.le_trans hz53 hb) _ hco51
   refine ⟨_, rfl, (M.sub (.cons_cons _ (.cons_cons _ (.cons_cons _ (.cons _ (List.nil_sublist _)))))), ?_⟩
   intro a A
   refine any_tk (v := .agg #[.int .i64 (((last + 1 : Nat) : Int)), .int .i64 c29.d.k, .int .i64 c29.d.n, .bool c29.d.y.q.b1, .slice c29.d.y.o1 c29.d.y.q.t1.length c29.d.y.c1, .slice c29.d.y.o2 c29.d.y.q.q1.length c29.d.y.c2, .bool c29.d.y.q.b2, .slice c29.d.y.o3 c29.d.y.q.t2.length c29.d.y.c3, .slice c29.d.y.o4 c29.d.y.q.q2.length c29.d.y.c4, .string c29.d.s, .slice c29.d.ro c29.d.rl.length c29.d.rc, .slice c29.d.lo c29.ts.length c29.d.lc, .int .i64 c48.d.k, .int .i64 c48.d.n, .bool c48.d.y.q.b1, .slice c48.d.y.o1 c48.d.y.q.t1.length c48.d.y.c1, .slice c48.d.y.o2 c48.d.y.q.q1.length c48.d.y.c2, .bool c48.d.y.q.b2, .slice c48.d.y.o3 c48.d.y.q.t2.length c48.d.y.c3, .slice c48.d.y.o4 c48.d.y.q.q2.length c48.d.y.c4, .string c48.d.s, .slice c48.d.ro c48.d.rl.length c48.d.rc, .slice c48.d.lo c48.ts.length c48.d.lc]) A 19 rfl rfl rfl rfl hP (M.sub (.cons_cons _ (.cons_cons _ (.cons_cons _ (.cons _ (List.nil_sublist _)))))) (fun w1 M => does_build rfl (fun w => by kernel_rfl)) λa A↦?_
   refine any_many (rs := [10, 20]) (by kernel_rfl) (by simp) ⟨?_, ?_, trivial⟩
   ·
    refine op_do (v := .slice none 0 0) A 10 rfl rfl rfl rfl (m_lookN M Tryz.underlying64 Tryz.underlying67 (zv := .slice none 0 0) (by kernel_rfl) rfl rfl 3 rfl hnew rfl) (M.sub (.cons_cons _ (.cons_cons _ (.cons_cons _ (.cons _ (List.nil_sublist _)))))) λa A↦?_
    refine any_one (by kernel_rfl) (g_lit (e := 74) (sz := 23) (m := 1) (vs := (entC (last + 1) c29 c48)) A M 20 rfl rfl rfl rfl (does_buildSlice rfl (by kernel_rfl)) rfl rfl (.inl (by decide)) ?_)
    intro g55 w56 M
    refine ⟨(M.sub (.cons _ (.cons_cons _ (.cons_cons _ (.cons_cons _ (.cons _ (List.nil_sublist _))))))), ?_⟩
    intro a A
    replace M := M.nilRow (noBld_cons (by simp) (noBld_cons (by simp) (noBld_cons (by simp) (noBld_cons (by simp) (noBld_cons (by simp) (noBld_app made_nob (noBld_app made_nob hX))))))) 74 23
    refine any_one (by kernel_rfl) (g_append (e := 74) (sz := 23) (k := 0) (q := 0) (m := 1) (xs := []) (news := (entC (last + 1) c29 c48)) (L' := fun v57 => (.row 74 23 (v57) (0 + 1) ([] ++ (entC (last + 1) c29 c48)) :: .row 74 23 (.slice (some ⟨g55, 0, none⟩) 1 1) 1 ((entC (last + 1) c29 c48)) :: .obj g4 (.cells (v.d.cells v.ts.length).toArray 38) :: .obj g2 (.cells (t.d.cells t.ts.length).toArray 38) :: .obj g (.cells #[.int .i64 kind, .map (some m), .int .i64 (((count + 1 : Nat) : Int)), .int .i64 (((last + 1 : Nat) : Int))] 66) :: .obj m (mapO es ck) :: (made w35 w54 ++ (made w9.drew w35 ++ X)))) A 21 rfl rfl rfl rfl (m_appX (z := .agg #[.int .i64 0, .int .i64 0, .int .i64 0, .bool false, .slice none 0 0, .slice none 0 0, .bool false, .slice none 0 0, .slice none 0 0, .string (⟨#[]⟩), .slice none 0 0, .slice none 0 0, .int .i64 0, .int .i64 0, .bool false, .slice none 0 0, .slice none 0 0, .bool false, .slice none 0 0, .slice none 0 0, .string (⟨#[]⟩), .slice none 0 0, .slice none 0 0]) (sz := 23) (by_ := 392) Tryz.underlying75 (by kernel_rfl) rfl rfl rfl M 0 rfl rfl rfl rfl (rc_own (M.has 1 rfl)) (List.all_eq_true.1 (entC_one _ _ _)) (by omega)) (fun _ => rfl) ?_)
    intro v57 w58 M
    refine ⟨(M.sub (.cons _ (.cons _ (.cons_cons _ (.cons_cons _ (.cons_cons _ (.cons _ (List.nil_sublist _)))))))), ?_⟩
    intro a A
    refine any_one (by kernel_rfl) (g_setObj (L' := (.row 74 23 (v57) (0 + 1) ([] ++ (entC (last + 1) c29 c48)) :: .row 74 23 (.slice (some ⟨g55, 0, none⟩) 1 1) 1 ((entC (last + 1) c29 c48)) :: .obj g4 (.cells (v.d.cells v.ts.length).toArray 38) :: .obj g2 (.cells (t.d.cells t.ts.length).toArray 38) :: .obj g (.cells #[.int .i64 kind, .map (some m), .int .i64 (((count + 1 : Nat) : Int)), .int .i64 (((last + 1 : Nat) : Int))] 66) :: .obj m (mapO (es ++ [⟨h, v57, ck⟩]) (ck + 1)) :: (made w35 w54 ++ (made w9.drew w35 ++ X)))) A M 22 rfl rfl rfl (sets_new M Tryz.underlying64 Tryz.underlying67 rfl rfl rfl 5 rfl hnew) 5 rfl (quiet_map _ _) rfl ?_)
    intro w59 M
    refine ⟨(M.sub (.cons _ (.cons _ (.cons_cons _ (.cons_cons _ (.cons_cons _ (.cons _ (List.nil_sublist _)))))))), ?_⟩
    refine any_end (by kernel_rfl) ?_
    refine hnorm _ _ (ends (v := .tuple #[]) A rfl .nil rfl ?_)
    replace M : Mg w0 w59 (.obj m (mapO (es ++ [⟨h, v57, ck⟩]) (ck + 1)) :: .row 74 23 (v57) (0 + 1) ([] ++ (entC (last + 1) c29 c48)) :: .row 74 23 (.slice (some ⟨g55, 0, none⟩) 1 1) 1 ((entC (last + 1) c29 c48)) :: .obj g4 (.cells (v.d.cells v.ts.length).toArray 38) :: .obj g2 (.cells (t.d.cells t.ts.length).toArray 38) :: .obj g (.cells #[.int .i64 kind, .map (some m), .int .i64 (((count + 1 : Nat) : Int)), .int .i64 (((last + 1 : Nat) : Int))] 66) :: (made w35 w54 ++ (made w9.drew w35 ++ X))) := M.bring 5 rfl rfl
    replace M : Mg w0 w59 (.obj g (.cells #[.int .i64 kind, .map (some m), .int .i64 (((count + 1 : Nat) : Int)), .int .i64 (((last + 1 : Nat) : Int))] 66) :: .obj m (mapO (es ++ [⟨h, v57, ck⟩]) (ck + 1)) :: .row 74 23 (v57) (0 + 1) ([] ++ (entC (last + 1) c29 c48)) :: .row 74 23 (.slice (some ⟨g55, 0, none⟩) 1 1) 1 ((entC (last + 1) c29 c48)) :: .obj g4 (.cells (v.d.cells v.ts.length).toArray 38) :: .obj g2 (.cells (t.d.cells t.ts.length).toArray 38) :: (made w35 w54 ++ (made w9.drew w35 ++ X))) := M.bring 5 rfl rfl
    replace M : Mg w0 w59 (.obj g (.cells #[.int .i64 kind, .map (some m), .int .i64 (((count + 1 : Nat) : Int)), .int .i64 (((last + 1 : Nat) : Int))] 66) :: .obj m (mapO (es ++ [⟨h, v57, ck⟩]) (ck + 1)) :: .row 74 23 (v57) (0 + 1) ([] ++ (entC (last + 1) c29 c48)) :: (made w35 w54 ++ (made w9.drew w35 ++ X))) := by
     have h9 := M.sub (.cons_cons _ (.cons_cons _ (.cons_cons _ (.cons _ (.cons _ (.cons _ (.refl _)))))))
     exact h9
    obtain ⟨so8, ca8, rfl⟩ := owns_any (M.has 2 rfl)
    rw [Nat.zero_add, List.nil_append] at M
    rw [← List.append_assoc] at M
    exact ⟨rfl, so8, ca8, c29, c48, (made w35 w54 ++ made w9.drew w35), ⟨hct31, hct50, hLc29.app _, hLc48.front _, noBld_app made_nob made_nob⟩, M⟩
   ·
    refine g_lit (e := 74) (sz := 23) (m := 1) (vs := (entC (last + 1) c29 c48)) A M 20 rfl rfl rfl rfl (does_buildSlice rfl (by kernel_rfl)) rfl rfl (.inl (by decide)) ?_
    intro g60 w61 M
    refine ⟨(M.sub (.cons _ (.cons_cons _ (.cons_cons _ (.cons_cons _ (.cons _ (List.nil_sublist _))))))), ?_⟩
    intro a A
    refine any_one (by kernel_rfl) (op_do (v := .slice none 0 0) A 10 rfl rfl rfl rfl (m_lookN M Tryz.underlying64 Tryz.underlying67 (zv := .slice none 0 0) (by kernel_rfl) rfl rfl 4 rfl hnew rfl) (M.sub (.cons _ (.cons_cons _ (.cons_cons _ (.cons_cons _ (.cons _ (List.nil_sublist _))))))) ?_)
    intro a A
    replace M := M.nilRow (noBld_cons (by simp) (noBld_cons (by simp) (noBld_cons (by simp) (noBld_cons (by simp) (noBld_cons (by simp) (noBld_app made_nob (noBld_app made_nob hX))))))) 74 23
    refine any_one (by kernel_rfl) (g_append (e := 74) (sz := 23) (k := 0) (q := 0) (m := 1) (xs := []) (news := (entC (last + 1) c29 c48)) (L' := fun v62 => (.row 74 23 (v62) (0 + 1) ([] ++ (entC (last + 1) c29 c48)) :: .row 74 23 (.slice (some ⟨g60, 0, none⟩) 1 1) 1 ((entC (last + 1) c29 c48)) :: .obj g4 (.cells (v.d.cells v.ts.length).toArray 38) :: .obj g2 (.cells (t.d.cells t.ts.length).toArray 38) :: .obj g (.cells #[.int .i64 kind, .map (some m), .int .i64 (((count + 1 : Nat) : Int)), .int .i64 (((last + 1 : Nat) : Int))] 66) :: .obj m (mapO es ck) :: (made w35 w54 ++ (made w9.drew w35 ++ X)))) A 21 rfl rfl rfl rfl (m_appX (z := .agg #[.int .i64 0, .int .i64 0, .int .i64 0, .bool false, .slice none 0 0, .slice none 0 0, .bool false, .slice none 0 0, .slice none 0 0, .string (⟨#[]⟩), .slice none 0 0, .slice none 0 0, .int .i64 0, .int .i64 0, .bool false, .slice none 0 0, .slice none 0 0, .bool false, .slice none 0 0, .slice none 0 0, .string (⟨#[]⟩), .slice none 0 0, .slice none 0 0]) (sz := 23) (by_ := 392) Tryz.underlying75 (by kernel_rfl) rfl rfl rfl M 0 rfl rfl rfl rfl (rc_own (M.has 1 rfl)) (List.all_eq_true.1 (entC_one _ _ _)) (by omega)) (fun _ => rfl) ?_)
    intro v62 w63 M
    refine ⟨(M.sub (.cons _ (.cons _ (.cons_cons _ (.cons_cons _ (.cons_cons _ (.cons _ (List.nil_sublist _)))))))), ?_⟩
    intro a A
    refine any_one (by kernel_rfl) (g_setObj (L' := (.row 74 23 (v62) (0 + 1) ([] ++ (entC (last + 1) c29 c48)) :: .row 74 23 (.slice (some ⟨g60, 0, none⟩) 1 1) 1 ((entC (last + 1) c29 c48)) :: .obj g4 (.cells (v.d.cells v.ts.length).toArray 38) :: .obj g2 (.cells (t.d.cells t.ts.length).toArray 38) :: .obj g (.cells #[.int .i64 kind, .map (some m), .int .i64 (((count + 1 : Nat) : Int)), .int .i64 (((last + 1 : Nat) : Int))] 66) :: .obj m (mapO (es ++ [⟨h, v62, ck⟩]) (ck + 1)) :: (made w35 w54 ++ (made w9.drew w35 ++ X)))) A M 22 rfl rfl rfl (sets_new M Tryz.underlying64 Tryz.underlying67 rfl rfl rfl 5 rfl hnew) 5 rfl (quiet_map _ _) rfl ?_)
    intro w64 M
    refine ⟨(M.sub (.cons _ (.cons _ (.cons_cons _ (.cons_cons _ (.cons_cons _ (.cons _ (List.nil_sublist _)))))))), ?_⟩
    refine any_end (by kernel_rfl) ?_
    refine hnorm _ _ (ends (v := .tuple #[]) A rfl .nil rfl ?_)
    replace M : Mg w0 w64 (.obj m (mapO (es ++ [⟨h, v62, ck⟩]) (ck + 1)) :: .row 74 23 (v62) (0 + 1) ([] ++ (entC (last + 1) c29 c48)) :: .row 74 23 (.slice (some ⟨g60, 0, none⟩) 1 1) 1 ((entC (last + 1) c29 c48)) :: .obj g4 (.cells (v.d.cells v.ts.length).toArray 38) :: .obj g2 (.cells (t.d.cells t.ts.length).toArray 38) :: .obj g (.cells #[.int .i64 kind, .map (some m), .int .i64 (((count + 1 : Nat) : Int)), .int .i64 (((last + 1 : Nat) : Int))] 66) :: (made w35 w54 ++ (made w9.drew w35 ++ X))) := M.bring 5 rfl rfl
    replace M : Mg w0 w64 (.obj g (.cells #[.int .i64 kind, .map (some m), .int .i64 (((count + 1 : Nat) : Int)), .int .i64 (((last + 1 : Nat) : Int))] 66) :: .obj m (mapO (es ++ [⟨h, v62, ck⟩]) (ck + 1)) :: .row 74 23 (v62) (0 + 1) ([] ++ (entC (last + 1) c29 c48)) :: .row 74 23 (.slice (some ⟨g60, 0, none⟩) 1 1) 1 ((entC (last + 1) c29 c48)) :: .obj g4 (.cells (v.d.cells v.ts.length).toArray 38) :: .obj g2 (.cells (t.d.cells t.ts.length).toArray 38) :: (made w35 w54 ++ (made w9.drew w35 ++ X))) := M.bring 5 rfl rfl
    replace M : Mg w0 w64 (.obj g (.cells #[.int .i64 kind, .map (some m), .int .i64 (((count + 1 : Nat) : Int)), .int .i64 (((last + 1 : Nat) : Int))] 66) :: .obj m (mapO (es ++ [⟨h, v62, ck⟩]) (ck + 1)) :: .row 74 23 (v62) (0 + 1) ([] ++ (entC (last + 1) c29 c48)) :: (made w35 w54 ++ (made w9.drew w35 ++ X))) := by
     have h9 := M.sub (.cons_cons _ (.cons_cons _ (.cons_cons _ (.cons _ (.cons _ (.cons _ (.refl _)))))))
     exact h9
    obtain ⟨so8, ca8, rfl⟩ := owns_any (M.has 2 rfl)
    rw [Nat.zero_add, List.nil_append] at M
    rw [← List.append_assoc] at M
    exact ⟨rfl, so8, ca8, c29, c48, (made w35 w54 ++ made w9.drew w35), ⟨hct31, hct50, hLc29.app _, hLc48.front _, noBld_app made_nob made_nob⟩, M⟩
set_option maxHeartbeats 1000000 in
theorem add_old {w0 w : World} {kind h : Int} {g m count last ck : Nat} {es : List En} {X : List Ck} (hX : noBld X) (hc : count ≤ 1000000000) (hl : last ≤ 4611686018427387904) {so : Option Addr} {ca : Nat} {xs : List Et} {en : En} (hold : atK h es = some en) (hv9 : en.v = .slice so xs.length ca) (hxl : xs.length ≤ 1000000) {t v : Dt} (ht : ∀ w9, Mg w0 w9 X → t.rd w9) (hv : ∀ w9, Mg w0 w9 X → v.rd w9) (htb : t.tr.bulk ≤ 4000000) (hvb : v.tr.bulk ≤ 4000000) (hM0 : Mg w0 w (.obj g (.cells #[.int .i64 kind, .map (some m), .int .i64 (((count : Nat) : Int)), .int .i64 (((last : Nat) : Int))] 66) :: .obj m (mapO es ck) :: .row 74 23 (.slice so xs.length ca) xs.length (catC Et.c xs) :: X)) : Calls Tryz.prog 29 #[.pointer (some ⟨g, 0, none⟩), .int .u64 h, .agg (t.d.cells t.ts.length).toArray, .agg (v.d.cells v.ts.length).toArray] w fun e w' => e = .returned (.tuple #[]) ∧ ∃ so8 ca8, ∃ k2 v2 : Dt, ∃ F : List Ck, (k2.tr = t.tr ∧ v2.tr = v.tr ∧ Lives F k2 ∧ Lives F v2 ∧ noBld F) ∧ Mg w0 w' (.obj g (.cells #[.int .i64 kind, .map (some m), .int .i64 (((count + 1 : Nat) : Int)), .int .i64 (((last + 1 : Nat) : Int))] 66) :: .obj m (mapO (putK h (.slice so8 (xs.length + 1) ca8) es) ck) :: .row 74 23 (.slice so8 ((xs.length + 1)) ca8) ((xs.length + 1)) (catC Et.c (xs ++ [⟨last + 1, k2, v2⟩])) :: (F ++ X)) := by
 have M : Mg w0 w (.obj g (.cells #[.int .i64 kind, .map (some m), .int .i64 (((count : Nat) : Int)), .int .i64 (((last : Nat) : Int))] 66) :: .obj m (mapO es ck) :: .row 74 23 (.slice so xs.length ca) xs.length (catC Et.c xs) :: X) := hM0
 refine walk_of (l := [(0, .pointer (some ⟨g, 0, none⟩)), (1, .int .u64 h), (2, .agg (t.d.cells t.ts.length).toArray), (3, .agg (v.d.cells v.ts.length).toArray)]) Tryz.func29 rfl Tryz.ntmps29 rfl rfl ?_
 intro Q hret hnorm hP a A
 refine wsk fun K1 hK1 => wrl (s_new (vs := (t.d.cells t.ts.length)) (t := 38) A M rfl rfl rfl pg (does_box rfl rfl) (by decide) ?_)
 intro g2 w3 M a A
 refine s_new (vs := (v.d.cells v.ts.length)) (t := 38) A M rfl rfl rfl pg (does_box rfl rfl) (by decide) ?_
 intro g4 w5 M a A
 refine seq_end (hK1 _ _ (wsk fun K6 hK6 => wrl (sdm A λa A↦?_)))
 refine sdo A (does_nilp rfl) λa A↦?_
 refine sdo (v := .pointer (some ⟨g, 3, none⟩)) A (does_field TeD_fld_66_3 rfl rfl) λa A↦?_
 refine sdo A (m_load1 M TeD_is1_3 rfl 2 rfl rfl) λa A↦?_
 refine sdo (v := .int .i64 (((last + 1 : Nat) : Int))) A (does_bin rfl rfl (ar_add ((in_i64 (by omega) (by omega)).trans (by omega)))) λa A↦?_
 refine sdo A (does_nilp rfl) λa A↦?_
 refine sdo (v := .pointer (some ⟨g, 3, none⟩)) A (does_field TeD_fld_66_3 rfl rfl) λa A↦?_
 refine s_store (us := [.int .i64 kind, .map (some m), .int .i64 (((count : Nat) : Int)), .int .i64 (((last + 1 : Nat) : Int))]) (L' := (.obj g4 (.cells (v.d.cells v.ts.length).toArray 38) :: .obj g2 (.cells (t.d.cells t.ts.length).toArray 38) :: .obj g (.cells #[.int .i64 kind, .map (some m), .int .i64 (((count : Nat) : Int)), .int .i64 (((last + 1 : Nat) : Int))] 66) :: .obj m (mapO es ck) :: .row 74 23 (.slice so xs.length ca) xs.length (catC Et.c xs) :: X)) A M rfl rfl (m_store rfl rfl rfl (by kernel_rfl) M 2 rfl rfl rfl) 2 rfl rfl rfl ?_
 intro w7 M
 refine seq_end (hK6 _ _ (wsk fun K8 hK8 => wrl (sdm A λa A↦?_)))
 refine sdo A (does_nilp rfl) λa A↦?_
 refine sdo (v := .pointer (some ⟨g, 2, none⟩)) A (does_field TeD_fld_66_2 rfl rfl) λa A↦?_
 refine sdo A (m_load1 M TeD_is1_3 rfl 2 rfl rfl) λa A↦?_
 refine sdo (v := .int .i64 (((count + 1 : Nat) : Int))) A (does_bin rfl rfl (ar_add ((in_i64 (by omega) (by omega)).trans (by omega)))) λa A↦?_
 refine sdo A (does_nilp rfl) λa A↦?_
 refine sdo (v := .pointer (some ⟨g, 2, none⟩)) A (does_field TeD_fld_66_2 rfl rfl) λa A↦?_
 refine s_store (us := [.int .i64 kind, .map (some m), .int .i64 (((count + 1 : Nat) : Int)), .int .i64 (((last + 1 : Nat) : Int))]) (L' := (.obj g4 (.cells (v.d.cells v.ts.length).toArray 38) :: .obj g2 (.cells (t.d.cells t.ts.length).toArray 38) :: .obj g (.cells #[.int .i64 kind, .map (some m), .int .i64 (((count + 1 : Nat) : Int)), .int .i64 (((last + 1 : Nat) : Int))] 66) :: .obj m (mapO es ck) :: .row 74 23 (.slice so xs.length ca) xs.length (catC Et.c xs) :: X)) A M rfl rfl (m_store rfl rfl rfl (by kernel_rfl) M 2 rfl rfl rfl) 2 rfl rfl rfl ?_
 intro w9 M
 refine seq_end (hK8 _ _ (wp_draw (S := fun w1 => Mg w0 w1 (.obj g4 (.cells (v.d.cells v.ts.length).toArray 38) :: .obj g2 (.cells (t.d.cells t.ts.length).toArray 38) :: .obj g (.cells #[.int .i64 kind, .map (some m), .int .i64 (((count + 1 : Nat) : Int)), .int .i64 (((last + 1 : Nat) : Int))] 66) :: [])) (by kernel_rfl) ?_))
 replace M := M.drew
 refine any_tk A 0 rfl rfl rfl rfl hP (M.sub (.cons_cons _ (.cons_cons _ (.cons_cons _ (.cons _ (.cons _ (List.nil_sublist _))))))) (fun w1 M => does_move rfl) λa A↦?_
 refine any_tk A 1 rfl rfl rfl rfl hP (M.sub (.cons_cons _ (.cons_cons _ (.cons_cons _ (.cons _ (.cons _ (List.nil_sublist _))))))) (fun w1 M => does_nilp rfl) λa A↦?_
 refine any_tk (v := .pointer (some ⟨g, 1, none⟩)) A 2 rfl rfl rfl rfl hP (M.sub (.cons_cons _ (.cons_cons _ (.cons_cons _ (.cons _ (.cons _ (List.nil_sublist _))))))) (fun w1 M => does_field TeD_fld_66_1 rfl rfl) λa A↦?_
 refine any_tk A 3 rfl rfl rfl rfl hP (M.sub (.cons_cons _ (.cons_cons _ (.cons_cons _ (.cons _ (.cons _ (List.nil_sublist _))))))) (fun w1 M => m_load1 M TeD_is1_64 rfl 2 rfl rfl) λa A↦?_
 refine any_tk A 4 rfl rfl rfl rfl hP (M.sub (.cons_cons _ (.cons_cons _ (.cons_cons _ (.cons _ (.cons _ (List.nil_sublist _))))))) (fun w1 M => does_move rfl) λa A↦?_
 refine any_tk A 5 rfl rfl rfl rfl hP (M.sub (.cons_cons _ (.cons_cons _ (.cons_cons _ (.cons _ (.cons _ (List.nil_sublist _))))))) (fun w1 M => does_move rfl) λa A↦?_
 refine any_tk A 6 rfl rfl rfl rfl hP (M.sub (.cons_cons _ (.cons_cons _ (.cons_cons _ (.cons _ (.cons _ (List.nil_sublist _))))))) (fun w1 M => does_nilp rfl) λa A↦?_
 refine any_tk (v := .pointer (some ⟨g, 1, none⟩)) A 7 rfl rfl rfl rfl hP (M.sub (.cons_cons _ (.cons_cons _ (.cons_cons _ (.cons _ (.cons _ (List.nil_sublist _))))))) (fun w1 M => does_field TeD_fld_66_1 rfl rfl) λa A↦?_
 refine any_tk A 8 rfl rfl rfl rfl hP (M.sub (.cons_cons _ (.cons_cons _ (.cons_cons _ (.cons _ (.cons _ (List.nil_sublist _))))))) (fun w1 M => m_load1 M TeD_is1_64 rfl 2 rfl rfl) λa A↦?_
 refine any_tk A 9 rfl rfl rfl rfl hP (M.sub (.cons_cons _ (.cons_cons _ (.cons_cons _ (.cons _ (.cons _ (List.nil_sublist _))))))) (fun w1 M => does_move rfl) λa A↦?_
 refine any_tk A 11 rfl rfl rfl rfl hP (M.sub (.cons_cons _ (.cons_cons _ (.cons_cons _ (.cons _ (.cons _ (List.nil_sublist _))))))) (fun w1 M => does_move rfl) λa A↦?_
 refine any_tk A 12 rfl rfl rfl rfl hP (M.sub (.cons_cons _ (.cons_cons _ (.cons_cons _ (.cons _ (.cons _ (List.nil_sublist _))))))) (fun w1 M => does_nilp rfl) λa A↦?_
 refine any_tk (v := .pointer (some ⟨g, 3, none⟩)) A 13 rfl rfl rfl rfl hP (M.sub (.cons_cons _ (.cons_cons _ (.cons_cons _ (.cons _ (.cons _ (List.nil_sublist _))))))) (fun w1 M => does_field TeD_fld_66_3 rfl rfl) λa A↦?_
 refine any_tk A 14 rfl rfl rfl rfl hP (M.sub (.cons_cons _ (.cons_cons _ (.cons_cons _ (.cons _ (.cons _ (List.nil_sublist _))))))) (fun w1 M => m_load1 M TeD_is1_3 rfl 2 rfl rfl) λa A↦?_
 refine any_tk A 15 rfl rfl rfl rfl hP (M.sub (.cons_cons _ (.cons_cons _ (.cons_cons _ (.cons _ (.cons _ (List.nil_sublist _))))))) (fun w1 M => m_loadS M TeD_isS_38 rfl 1 rfl (cs := (t.d.cells t.ts.length)) rfl rfl) λa A↦?_
 refine any_tk A 17 rfl rfl rfl rfl hP (M.sub (.cons_cons _ (.cons_cons _ (.cons_cons _ (.cons _ (.cons _ (List.nil_sublist _))))))) (fun w1 M => m_loadS M TeD_isS_38 rfl 0 rfl (cs := (v.d.cells v.ts.length)) rfl rfl) λa A↦?_
 refine any_many (rs := [10, 16]) (by kernel_rfl) (by simp) ⟨?_, ?_, trivial⟩
 ·
  refine op_do (v := .slice so xs.length ca) A 10 rfl rfl rfl rfl (m_lookY M Tryz.underlying64 Tryz.underlying67 rfl rfl 3 rfl hold hv9.symm) (M.sub (.cons_cons _ (.cons_cons _ (.cons_cons _ (.cons _ (.cons _ (List.nil_sublist _))))))) λa A↦?_
  have hz15 := M.bel.size
  refine any_one (by kernel_rfl) (op_call A 16 rfl rfl rfl rfl (enters_func rfl rfl (fun w => by kernel_rfl)) (copies_all t (ht _ ((M.dropn 5).sub (List.Sublist.refl _))) (by omega)) ?_)
  rintro _ w16 ⟨c10, rfl, ⟨hcr11, hco13, hct12⟩, hb14⟩
  replace M : Mg w0 w16 (.obj g4 (.cells (v.d.cells v.ts.length).toArray 38) :: .obj g2 (.cells (t.d.cells t.ts.length).toArray 38) :: .obj g (.cells #[.int .i64 kind, .map (some m), .int .i64 (((count + 1 : Nat) : Int)), .int .i64 (((last + 1 : Nat) : Int))] 66) :: .obj m (mapO es ck) :: .row 74 23 (.slice so xs.length ca) xs.length (catC Et.c xs) :: (made w9.drew w16 ++ X)) := M.freezeAt 5 (noBld_cons (by simp) (noBld_cons (by simp) (noBld_cons (by simp) (noBld_cons (by simp) (noBld_cons (by simp) hX))))) hb14
  have hLc10 := lives_made hcr11 hco13
  replace hco13 := Dt.at_mono (fun b hb => Nat.le_trans hz15 hb) _ hco13
  refine ⟨_, rfl, (M.sub (.cons_cons _ (.cons_cons _ (.cons_cons _ (.cons _ (.cons _ (List.nil_sublist _))))))), ?_⟩
  intro a A
  have hz22 := M.bel.size
  refine any_one (by kernel_rfl) (op_call A 18 rfl rfl rfl rfl (enters_func rfl rfl (fun w => by kernel_rfl)) (copies_all v (hv _ ((M.dropn 5).sub (List.sublist_append_right _ _))) (by omega)) ?_)
  rintro _ w23 ⟨c17, rfl, ⟨hcr18, hco20, hct19⟩, hb21⟩
  replace M : Mg w0 w23 (.obj g4 (.cells (v.d.cells v.ts.length).toArray 38) :: .obj g2 (.cells (t.d.cells t.ts.length).toArray 38) :: .obj g (.cells #[.int .i64 kind, .map (some m), .int .i64 (((count + 1 : Nat) : Int)), .int .i64 (((last + 1 : Nat) : Int))] 66) :: .obj m (mapO es ck) :: .row 74 23 (.slice so xs.length ca) xs.length (catC Et.c xs) :: (made w16 w23 ++ (made w9.drew w16 ++ X))) := M.freezeAt 5 (noBld_cons (by simp) (noBld_cons (by simp) (noBld_cons (by simp) (noBld_cons (by simp) (noBld_cons (by simp) (noBld_app made_nob hX)))))) hb21
  have hLc17 := lives_made hcr18 hco20
  replace hco20 := Dt.at_mono (fun b hb => Nat.le_trans hz22 hb) _ hco20
  refine ⟨_, rfl, (M.sub (.cons_cons _ (.cons_cons _ (.cons_cons _ (.cons _ (.cons _ (List.nil_sublist _))))))), ?_⟩
  intro a A
  refine any_tk (v := .agg (entC (last + 1) c10 c17).toArray) A 19 rfl rfl rfl rfl hP (M.sub (.cons_cons _ (.cons_cons _ (.cons_cons _ (.cons _ (.cons _ (List.nil_sublist _))))))) (fun w1 M => does_build rfl (fun w => by kernel_rfl)) λa A↦?_
  refine any_one (by kernel_rfl) (g_lit (e := 74) (sz := 23) (m := 1) (vs := (entC (last + 1) c10 c17)) A M 20 rfl rfl rfl rfl (does_buildSlice rfl (by kernel_rfl)) rfl rfl (.inl (by decide)) ?_)
  intro g24 w25 M
  refine ⟨(M.sub (.cons _ (.cons_cons _ (.cons_cons _ (.cons_cons _ (.cons _ (.cons _ (List.nil_sublist _)))))))), ?_⟩
  intro a A
  refine any_one (by kernel_rfl) (g_append (e := 74) (sz := 23) (k := 5) (q := xs.length) (m := 1) (xs := catC Et.c xs) (news := (entC (last + 1) c10 c17)) (L' := fun v26 => (.row 74 23 (.slice (some ⟨g24, 0, none⟩) 1 1) 1 ((entC (last + 1) c10 c17)) :: .obj g4 (.cells (v.d.cells v.ts.length).toArray 38) :: .obj g2 (.cells (t.d.cells t.ts.length).toArray 38) :: .obj g (.cells #[.int .i64 kind, .map (some m), .int .i64 (((count + 1 : Nat) : Int)), .int .i64 (((last + 1 : Nat) : Int))] 66) :: .obj m (mapO es ck) :: .row 74 23 (v26) (xs.length + 1) (catC Et.c xs ++ (entC (last + 1) c10 c17)) :: (made w16 w23 ++ (made w9.drew w16 ++ X)))) A 21 rfl rfl rfl rfl (m_appX (z := .agg #[.int .i64 0, .int .i64 0, .int .i64 0, .bool false, .slice none 0 0, .slice none 0 0, .bool false, .slice none 0 0, .slice none 0 0, .string (⟨#[]⟩), .slice none 0 0, .slice none 0 0, .int .i64 0, .int .i64 0, .bool false, .slice none 0 0, .slice none 0 0, .bool false, .slice none 0 0, .slice none 0 0, .string (⟨#[]⟩), .slice none 0 0, .slice none 0 0]) (sz := 23) (by_ := 392) Tryz.underlying75 (by kernel_rfl) rfl rfl rfl M 5 rfl rfl rfl rfl (rc_own (M.has 0 rfl)) (List.all_eq_true.1 (entC_one _ _ _)) (by omega)) (fun _ => rfl) ?_)
  intro v26 w27 M
  refine ⟨(M.sub (.cons _ (.cons_cons _ (.cons_cons _ (.cons_cons _ (.cons _ (.cons _ (List.nil_sublist _)))))))), ?_⟩
  intro a A
  refine any_one (by kernel_rfl) (g_setObj (L' := (.row 74 23 (.slice (some ⟨g24, 0, none⟩) 1 1) 1 ((entC (last + 1) c10 c17)) :: .obj g4 (.cells (v.d.cells v.ts.length).toArray 38) :: .obj g2 (.cells (t.d.cells t.ts.length).toArray 38) :: .obj g (.cells #[.int .i64 kind, .map (some m), .int .i64 (((count + 1 : Nat) : Int)), .int .i64 (((last + 1 : Nat) : Int))] 66) :: .obj m (mapO (putK h (v26) es) ck) :: .row 74 23 (v26) (xs.length + 1) (catC Et.c xs ++ (entC (last + 1) c10 c17)) :: (made w16 w23 ++ (made w9.drew w16 ++ X)))) A M 22 rfl rfl rfl (sets_old M Tryz.underlying64 Tryz.underlying67 rfl rfl rfl 4 rfl hold) 4 rfl (quiet_map _ _) rfl ?_)
  intro w28 M
  refine ⟨(M.sub (.cons _ (.cons_cons _ (.cons_cons _ (.cons_cons _ (.cons _ (.cons _ (List.nil_sublist _)))))))), ?_⟩
  refine any_end (by kernel_rfl) ?_
  refine hnorm _ _ (ends (v := .tuple #[]) A rfl .nil rfl ?_)
  replace M : Mg w0 w28 (.row 74 23 (v26) (xs.length + 1) (catC Et.c xs ++ (entC (last + 1) c10 c17)) :: .row 74 23 (.slice (some ⟨g24, 0, none⟩) 1 1) 1 ((entC (last + 1) c10 c17)) :: .obj g4 (.cells (v.d.cells v.ts.length).toArray 38) :: .obj g2 (.cells (t.d.cells t.ts.length).toArray 38) :: .obj g (.cells #[.int .i64 kind, .map (some m), .int .i64 (((count + 1 : Nat) : Int)), .int .i64 (((last + 1 : Nat) : Int))] 66) :: .obj m (mapO (putK h (v26) es) ck) :: (made w16 w23 ++ (made w9.drew w16 ++ X))) := M.bring 5 rfl rfl
  replace M : Mg w0 w28 (.obj m (mapO (putK h (v26) es) ck) :: .row 74 23 (v26) (xs.length + 1) (catC Et.c xs ++ (entC (last + 1) c10 c17)) :: .row 74 23 (.slice (some ⟨g24, 0, none⟩) 1 1) 1 ((entC (last + 1) c10 c17)) :: .obj g4 (.cells (v.d.cells v.ts.length).toArray 38) :: .obj g2 (.cells (t.d.cells t.ts.length).toArray 38) :: .obj g (.cells #[.int .i64 kind, .map (some m), .int .i64 (((count + 1 : Nat) : Int)), .int .i64 (((last + 1 : Nat) : Int))] 66) :: (made w16 w23 ++ (made w9.drew w16 ++ X))) := M.bring 5 rfl rfl
  replace M : Mg w0 w28 (.obj g (.cells #[.int .i64 kind, .map (some m), .int .i64 (((count + 1 : Nat) : Int)), .int .i64 (((last + 1 : Nat) : Int))] 66) :: .obj m (mapO (putK h (v26) es) ck) :: .row 74 23 (v26) (xs.length + 1) (catC Et.c xs ++ (entC (last + 1) c10 c17)) :: .row 74 23 (.slice (some ⟨g24, 0, none⟩) 1 1) 1 ((entC (last + 1) c10 c17)) :: .obj g4 (.cells (v.d.cells v.ts.length).toArray 38) :: .obj g2 (.cells (t.d.cells t.ts.length).toArray 38) :: (made w16 w23 ++ (made w9.drew w16 ++ X))) := M.bring 5 rfl rfl
  replace M : Mg w0 w28 (.obj g (.cells #[.int .i64 kind, .map (some m), .int .i64 (((count + 1 : Nat) : Int)), .int .i64 (((last + 1 : Nat) : Int))] 66) :: .obj m (mapO (putK h (v26) es) ck) :: .row 74 23 (v26) (xs.length + 1) (catC Et.c xs ++ (entC (last + 1) c10 c17)) :: (made w16 w23 ++ (made w9.drew w16 ++ X))) := by
   have h9 := M.sub (.cons_cons _ (.cons_cons _ (.cons_cons _ (.cons _ (.cons _ (.cons _ (.refl _)))))))
   exact h9
  obtain ⟨so8, ca8, rfl⟩ := owns_any (M.has 2 rfl)
  rw [show catC Et.c xs ++ entC (last + 1) c10 c17 = catC Et.c (xs ++ [⟨last + 1, c10, c17⟩]) from by rw [catC_append, catC_one]; rfl] at M
  rw [← List.append_assoc] at M
  exact ⟨rfl, so8, ca8, c10, c17, (made w16 w23 ++ made w9.drew w16), ⟨hct12, hct19, hLc10.app _, hLc17.front _, noBld_app made_nob made_nob⟩, M⟩
 ·
  have hz34 := M.bel.size
  refine op_call A 16 rfl rfl rfl rfl (enters_func rfl rfl (fun w => by kernel_rfl)) (copies_all t (ht _ ((M.dropn 5).sub (List.Sublist.refl _))) (by omega)) ?_
  rintro _ w35 ⟨c29, rfl, ⟨hcr30, hco32, hct31⟩, hb33⟩
  replace M : Mg w0 w35 (.obj g4 (.cells (v.d.cells v.ts.length).toArray 38) :: .obj g2 (.cells (t.d.cells t.ts.length).toArray 38) :: .obj g (.cells #[.int .i64 kind, .map (some m), .int .i64 (((count + 1 : Nat) : Int)), .int .i64 (((last + 1 : Nat) : Int))] 66) :: .obj m (mapO es ck) :: .row 74 23 (.slice so xs.length ca) xs.length (catC Et.c xs) :: (made w9.drew w35 ++ X)) := M.freezeAt 5 (noBld_cons (by simp) (noBld_cons (by simp) (noBld_cons (by simp) (noBld_cons (by simp) (noBld_cons (by simp) hX))))) hb33
  have hLc29 := lives_made hcr30 hco32
  replace hco32 := Dt.at_mono (fun b hb => Nat.le_trans hz34 hb) _ hco32
  refine ⟨_, rfl, (M.sub (.cons_cons _ (.cons_cons _ (.cons_cons _ (.cons _ (.cons _ (List.nil_sublist _))))))), ?_⟩
  intro a A
  refine any_many (rs := [10, 18]) (by kernel_rfl) (by simp) ⟨?_, ?_, trivial⟩
  ·
   refine op_do (v := .slice so xs.length ca) A 10 rfl rfl rfl rfl (m_lookY M Tryz.underlying64 Tryz.underlying67 rfl rfl 3 rfl hold hv9.symm) (M.sub (.cons_cons _ (.cons_cons _ (.cons_cons _ (.cons _ (.cons _ (List.nil_sublist _))))))) λa A↦?_
   have hz41 := M.bel.size
   refine any_one (by kernel_rfl) (op_call A 18 rfl rfl rfl rfl (enters_func rfl rfl (fun w => by kernel_rfl)) (copies_all v (hv _ ((M.dropn 5).sub (List.sublist_append_right _ _))) (by omega)) ?_)
   rintro _ w42 ⟨c36, rfl, ⟨hcr37, hco39, hct38⟩, hb40⟩
   replace M : Mg w0 w42 (.obj g4 (.cells (v.d.cells v.ts.length).toArray 38) :: .obj g2 (.cells (t.d.cells t.ts.length).toArray 38) :: .obj g (.cells #[.int .i64 kind, .map (some m), .int .i64 (((count + 1 : Nat) : Int)), .int .i64 (((last + 1 : Nat) : Int))] 66) :: .obj m (mapO es ck) :: .row 74 23 (.slice so xs.length ca) xs.length (catC Et.c xs) :: (made w35 w42 ++ (made w9.drew w35 ++ X))) := M.freezeAt 5 (noBld_cons (by simp) (noBld_cons (by simp) (noBld_cons (by simp) (noBld_cons (by simp) (noBld_cons (by simp) (noBld_app made_nob hX)))))) hb40
   have hLc36 := lives_made hcr37 hco39
   replace hco39 := Dt.at_mono (fun b hb => Nat.le_trans hz41 hb) _ hco39
   refine ⟨_, rfl, (M.sub (.cons_cons _ (.cons_cons _ (.cons_cons _ (.cons _ (.cons _ (List.nil_sublist _))))))), ?_⟩
   intro a A
   refine any_tk (v := .agg (entC (last + 1) c29 c36).toArray) A 19 rfl rfl rfl rfl hP (M.sub (.cons_cons _ (.cons_cons _ (.cons_cons _ (.cons _ (.cons _ (List.nil_sublist _))))))) (fun w1 M => does_build rfl (fun w => by kernel_rfl)) λa A↦?_
   refine any_one (by kernel_rfl) (g_lit (e := 74) (sz := 23) (m := 1) (vs := (entC (last + 1) c29 c36)) A M 20 rfl rfl rfl rfl (does_buildSlice rfl (by kernel_rfl)) rfl rfl (.inl (by decide)) ?_)
   intro g43 w44 M
   refine ⟨(M.sub (.cons _ (.cons_cons _ (.cons_cons _ (.cons_cons _ (.cons _ (.cons _ (List.nil_sublist _)))))))), ?_⟩
   intro a A
   refine any_one (by kernel_rfl) (g_append (e := 74) (sz := 23) (k := 5) (q := xs.length) (m := 1) (xs := catC Et.c xs) (news := (entC (last + 1) c29 c36)) (L' := fun v45 => (.row 74 23 (.slice (some ⟨g43, 0, none⟩) 1 1) 1 ((entC (last + 1) c29 c36)) :: .obj g4 (.cells (v.d.cells v.ts.length).toArray 38) :: .obj g2 (.cells (t.d.cells t.ts.length).toArray 38) :: .obj g (.cells #[.int .i64 kind, .map (some m), .int .i64 (((count + 1 : Nat) : Int)), .int .i64 (((last + 1 : Nat) : Int))] 66) :: .obj m (mapO es ck) :: .row 74 23 (v45) (xs.length + 1) (catC Et.c xs ++ (entC (last + 1) c29 c36)) :: (made w35 w42 ++ (made w9.drew w35 ++ X)))) A 21 rfl rfl rfl rfl (m_appX (z := .agg #[.int .i64 0, .int .i64 0, .int .i64 0, .bool false, .slice none 0 0, .slice none 0 0, .bool false, .slice none 0 0, .slice none 0 0, .string (⟨#[]⟩), .slice none 0 0, .slice none 0 0, .int .i64 0, .int .i64 0, .bool false, .slice none 0 0, .slice none 0 0, .bool false, .slice none 0 0, .slice none 0 0, .string (⟨#[]⟩), .slice none 0 0, .slice none 0 0]) (sz := 23) (by_ := 392) Tryz.underlying75 (by kernel_rfl) rfl rfl rfl M 5 rfl rfl rfl rfl (rc_own (M.has 0 rfl)) (List.all_eq_true.1 (entC_one _ _ _)) (by omega)) (fun _ => rfl) ?_)
   intro v45 w46 M
   refine ⟨(M.sub (.cons _ (.cons_cons _ (.cons_cons _ (.cons_cons _ (.cons _ (.cons _ (List.nil_sublist _)))))))), ?_⟩
   intro a A
   refine any_one (by kernel_rfl) (g_setObj (L' := (.row 74 23 (.slice (some ⟨g43, 0, none⟩) 1 1) 1 ((entC (last + 1) c29 c36)) :: .obj g4 (.cells (v.d.cells v.ts.length).toArray 38) :: .obj g2 (.cells (t.d.cells t.ts.length).toArray 38) :: .obj g (.cells #[.int .i64 kind, .map (some m), .int .i64 (((count + 1 : Nat) : Int)), .int .i64 (((last + 1 : Nat) : Int))] 66) :: .obj m (mapO (putK h (v45) es) ck) :: .row 74 23 (v45) (xs.length + 1) (catC Et.c xs ++ (entC (last + 1) c29 c36)) :: (made w35 w42 ++ (made w9.drew w35 ++ X)))) A M 22 rfl rfl rfl (sets_old M Tryz.underlying64 Tryz.underlying67 rfl rfl rfl 4 rfl hold) 4 rfl (quiet_map _ _) rfl ?_)
   intro w47 M
   refine ⟨(M.sub (.cons _ (.cons_cons _ (.cons_cons _ (.cons_cons _ (.cons _ (.cons _ (List.nil_sublist _)))))))), ?_⟩
   refine any_end (by kernel_rfl) ?_
   refine hnorm _ _ (ends (v := .tuple #[]) A rfl .nil rfl ?_)
   replace M : Mg w0 w47 (.row 74 23 (v45) (xs.length + 1) (catC Et.c xs ++ (entC (last + 1) c29 c36)) :: .row 74 23 (.slice (some ⟨g43, 0, none⟩) 1 1) 1 ((entC (last + 1) c29 c36)) :: .obj g4 (.cells (v.d.cells v.ts.length).toArray 38) :: .obj g2 (.cells (t.d.cells t.ts.length).toArray 38) :: .obj g (.cells #[.int .i64 kind, .map (some m), .int .i64 (((count + 1 : Nat) : Int)), .int .i64 (((last + 1 : Nat) : Int))] 66) :: .obj m (mapO (putK h (v45) es) ck) :: (made w35 w42 ++ (made w9.drew w35 ++ X))) := M.bring 5 rfl rfl
   replace M : Mg w0 w47 (.obj m (mapO (putK h (v45) es) ck) :: .row 74 23 (v45) (xs.length + 1) (catC Et.c xs ++ (entC (last + 1) c29 c36)) :: .row 74 23 (.slice (some ⟨g43, 0, none⟩) 1 1) 1 ((entC (last + 1) c29 c36)) :: .obj g4 (.cells (v.d.cells v.ts.length).toArray 38) :: .obj g2 (.cells (t.d.cells t.ts.length).toArray 38) :: .obj g (.cells #[.int .i64 kind, .map (some m), .int .i64 (((count + 1 : Nat) : Int)), .int .i64 (((last + 1 : Nat) : Int))] 66) :: (made w35 w42 ++ (made w9.drew w35 ++ X))) := M.bring 5 rfl rfl
   replace M : Mg w0 w47 (.obj g (.cells #[.int .i64 kind, .map (some m), .int .i64 (((count + 1 : Nat) : Int)), .int .i64 (((last + 1 : Nat) : Int))] 66) :: .obj m (mapO (putK h (v45) es) ck) :: .row 74 23 (v45) (xs.length + 1) (catC Et.c xs ++ (entC (last + 1) c29 c36)) :: .row 74 23 (.slice (some ⟨g43, 0, none⟩) 1 1) 1 ((entC (last + 1) c29 c36)) :: .obj g4 (.cells (v.d.cells v.ts.length).toArray 38) :: .obj g2 (.cells (t.d.cells t.ts.length).toArray 38) :: (made w35 w42 ++ (made w9.drew w35 ++ X))) := M.bring 5 rfl rfl
   replace M : Mg w0 w47 (.obj g (.cells #[.int .i64 kind, .map (some m), .int .i64 (((count + 1 : Nat) : Int)), .int .i64 (((last + 1 : Nat) : Int))] 66) :: .obj m (mapO (putK h (v45) es) ck) :: .row 74 23 (v45) (xs.length + 1) (catC Et.c xs ++ (entC (last + 1) c29 c36)) :: (made w35 w42 ++ (made w9.drew w35 ++ X))) := by
    have h9 := M.sub (.cons_cons _ (.cons_cons _ (.cons_cons _ (.cons _ (.cons _ (.cons _ (.refl _)))))))
    exact h9
   obtain ⟨so8, ca8, rfl⟩ := owns_any (M.has 2 rfl)
   rw [show catC Et.c xs ++ entC (last + 1) c29 c36 = catC Et.c (xs ++ [⟨last + 1, c29, c36⟩]) from by rw [catC_append, catC_one]; rfl] at M
   rw [← List.append_assoc] at M
   exact ⟨rfl, so8, ca8, c29, c36, (made w35 w42 ++ made w9.drew w35), ⟨hct31, hct38, hLc29.app _, hLc36.front _, noBld_app made_nob made_nob⟩, M⟩
  ·
   have hz53 := M.bel.size
   refine op_call A 18 rfl rfl rfl rfl (enters_func rfl rfl (fun w => by kernel_rfl)) (copies_all v (hv _ ((M.dropn 5).sub (List.sublist_append_right _ _))) (by omega)) ?_
   rintro _ w54 ⟨c48, rfl, ⟨hcr49, hco51, hct50⟩, hb52⟩
   replace M : Mg w0 w54 (.obj g4 (.cells (v.d.cells v.ts.length).toArray 38) :: .obj g2 (.cells (t.d.cells t.ts.length).toArray 38) :: .obj g (.cells #[.int .i64 kind, .map (some m), .int .i64 (((count + 1 : Nat) : Int)), .int .i64 (((last + 1 : Nat) : Int))] 66) :: .obj m (mapO es ck) :: .row 74 23 (.slice so xs.length ca) xs.length (catC Et.c xs) :: (made w35 w54 ++ (made w9.drew w35 ++ X))) := M.freezeAt 5 (noBld_cons (by simp) (noBld_cons (by simp) (noBld_cons (by simp) (noBld_cons (by simp) (noBld_cons (by simp) (noBld_app made_nob hX)))))) hb52
   have hLc48 := lives_made hcr49 hco51
   replace hco51 := Dt.at_mono (fun b hb => Nat.le_trans hz53 hb) _ hco51
   refine ⟨_, rfl, (M.sub (.cons_cons _ (.cons_cons _ (.cons_cons _ (.cons _ (.cons _ (List.nil_sublist _))))))), ?_⟩
   intro a A
   refine any_tk (v := .agg (entC (last + 1) c29 c48).toArray) A 19 rfl rfl rfl rfl hP (M.sub (.cons_cons _ (.cons_cons _ (.cons_cons _ (.cons _ (.cons _ (List.nil_sublist _))))))) (fun w1 M => does_build rfl (fun w => by kernel_rfl)) λa A↦?_
   refine any_many (rs := [10, 20]) (by kernel_rfl) (by simp) ⟨?_, ?_, trivial⟩
   ·
    refine op_do (v := .slice so xs.length ca) A 10 rfl rfl rfl rfl (m_lookY M Tryz.underlying64 Tryz.underlying67 rfl rfl 3 rfl hold hv9.symm) (M.sub (.cons_cons _ (.cons_cons _ (.cons_cons _ (.cons _ (.cons _ (List.nil_sublist _))))))) λa A↦?_
    refine any_one (by kernel_rfl) (g_lit (e := 74) (sz := 23) (m := 1) (vs := (entC (last + 1) c29 c48)) A M 20 rfl rfl rfl rfl (does_buildSlice rfl (by kernel_rfl)) rfl rfl (.inl (by decide)) ?_)
    intro g55 w56 M
    refine ⟨(M.sub (.cons _ (.cons_cons _ (.cons_cons _ (.cons_cons _ (.cons _ (.cons _ (List.nil_sublist _)))))))), ?_⟩
    intro a A
    refine any_one (by kernel_rfl) (g_append (e := 74) (sz := 23) (k := 5) (q := xs.length) (m := 1) (xs := catC Et.c xs) (news := (entC (last + 1) c29 c48)) (L' := fun v57 => (.row 74 23 (.slice (some ⟨g55, 0, none⟩) 1 1) 1 ((entC (last + 1) c29 c48)) :: .obj g4 (.cells (v.d.cells v.ts.length).toArray 38) :: .obj g2 (.cells (t.d.cells t.ts.length).toArray 38) :: .obj g (.cells #[.int .i64 kind, .map (some m), .int .i64 (((count + 1 : Nat) : Int)), .int .i64 (((last + 1 : Nat) : Int))] 66) :: .obj m (mapO es ck) :: .row 74 23 (v57) (xs.length + 1) (catC Et.c xs ++ (entC (last + 1) c29 c48)) :: (made w35 w54 ++ (made w9.drew w35 ++ X)))) A 21 rfl rfl rfl rfl (m_appX (z := .agg #[.int .i64 0, .int .i64 0, .int .i64 0, .bool false, .slice none 0 0, .slice none 0 0, .bool false, .slice none 0 0, .slice none 0 0, .string (⟨#[]⟩), .slice none 0 0, .slice none 0 0, .int .i64 0, .int .i64 0, .bool false, .slice none 0 0, .slice none 0 0, .bool false, .slice none 0 0, .slice none 0 0, .string (⟨#[]⟩), .slice none 0 0, .slice none 0 0]) (sz := 23) (by_ := 392) Tryz.underlying75 (by kernel_rfl) rfl rfl rfl M 5 rfl rfl rfl rfl (rc_own (M.has 0 rfl)) (List.all_eq_true.1 (entC_one _ _ _)) (by omega)) (fun _ => rfl) ?_)
    intro v57 w58 M
    refine ⟨(M.sub (.cons _ (.cons_cons _ (.cons_cons _ (.cons_cons _ (.cons _ (.cons _ (List.nil_sublist _)))))))), ?_⟩
    intro a A
    refine any_one (by kernel_rfl) (g_setObj (L' := (.row 74 23 (.slice (some ⟨g55, 0, none⟩) 1 1) 1 ((entC (last + 1) c29 c48)) :: .obj g4 (.cells (v.d.cells v.ts.length).toArray 38) :: .obj g2 (.cells (t.d.cells t.ts.length).toArray 38) :: .obj g (.cells #[.int .i64 kind, .map (some m), .int .i64 (((count + 1 : Nat) : Int)), .int .i64 (((last + 1 : Nat) : Int))] 66) :: .obj m (mapO (putK h (v57) es) ck) :: .row 74 23 (v57) (xs.length + 1) (catC Et.c xs ++ (entC (last + 1) c29 c48)) :: (made w35 w54 ++ (made w9.drew w35 ++ X)))) A M 22 rfl rfl rfl (sets_old M Tryz.underlying64 Tryz.underlying67 rfl rfl rfl 4 rfl hold) 4 rfl (quiet_map _ _) rfl ?_)
    intro w59 M
    refine ⟨(M.sub (.cons _ (.cons_cons _ (.cons_cons _ (.cons_cons _ (.cons _ (.cons _ (List.nil_sublist _)))))))), ?_⟩
    refine any_end (by kernel_rfl) ?_
    refine hnorm _ _ (ends (v := .tuple #[]) A rfl .nil rfl ?_)
    replace M : Mg w0 w59 (.row 74 23 (v57) (xs.length + 1) (catC Et.c xs ++ (entC (last + 1) c29 c48)) :: .row 74 23 (.slice (some ⟨g55, 0, none⟩) 1 1) 1 ((entC (last + 1) c29 c48)) :: .obj g4 (.cells (v.d.cells v.ts.length).toArray 38) :: .obj g2 (.cells (t.d.cells t.ts.length).toArray 38) :: .obj g (.cells #[.int .i64 kind, .map (some m), .int .i64 (((count + 1 : Nat) : Int)), .int .i64 (((last + 1 : Nat) : Int))] 66) :: .obj m (mapO (putK h (v57) es) ck) :: (made w35 w54 ++ (made w9.drew w35 ++ X))) := M.bring 5 rfl rfl
    replace M : Mg w0 w59 (.obj m (mapO (putK h (v57) es) ck) :: .row 74 23 (v57) (xs.length + 1) (catC Et.c xs ++ (entC (last + 1) c29 c48)) :: .row 74 23 (.slice (some ⟨g55, 0, none⟩) 1 1) 1 ((entC (last + 1) c29 c48)) :: .obj g4 (.cells (v.d.cells v.ts.length).toArray 38) :: .obj g2 (.cells (t.d.cells t.ts.length).toArray 38) :: .obj g (.cells #[.int .i64 kind, .map (some m), .int .i64 (((count + 1 : Nat) : Int)), .int .i64 (((last + 1 : Nat) : Int))] 66) :: (made w35 w54 ++ (made w9.drew w35 ++ X))) := M.bring 5 rfl rfl
    replace M : Mg w0 w59 (.obj g (.cells #[.int .i64 kind, .map (some m), .int .i64 (((count + 1 : Nat) : Int)), .int .i64 (((last + 1 : Nat) : Int))] 66) :: .obj m (mapO (putK h (v57) es) ck) :: .row 74 23 (v57) (xs.length + 1) (catC Et.c xs ++ (entC (last + 1) c29 c48)) :: .row 74 23 (.slice (some ⟨g55, 0, none⟩) 1 1) 1 ((entC (last + 1) c29 c48)) :: .obj g4 (.cells (v.d.cells v.ts.length).toArray 38) :: .obj g2 (.cells (t.d.cells t.ts.length).toArray 38) :: (made w35 w54 ++ (made w9.drew w35 ++ X))) := M.bring 5 rfl rfl
    replace M : Mg w0 w59 (.obj g (.cells #[.int .i64 kind, .map (some m), .int .i64 (((count + 1 : Nat) : Int)), .int .i64 (((last + 1 : Nat) : Int))] 66) :: .obj m (mapO (putK h (v57) es) ck) :: .row 74 23 (v57) (xs.length + 1) (catC Et.c xs ++ (entC (last + 1) c29 c48)) :: (made w35 w54 ++ (made w9.drew w35 ++ X))) := by
     have h9 := M.sub (.cons_cons _ (.cons_cons _ (.cons_cons _ (.cons _ (.cons _ (.cons _ (.refl _)))))))
     exact h9
    obtain ⟨so8, ca8, rfl⟩ := owns_any (M.has 2 rfl)
    rw [show catC Et.c xs ++ entC (last + 1) c29 c48 = catC Et.c (xs ++ [⟨last + 1, c29, c48⟩]) from by rw [catC_append, catC_one]; rfl] at M
    rw [← List.append_assoc] at M
    exact ⟨rfl, so8, ca8, c29, c48, (made w35 w54 ++ made w9.drew w35), ⟨hct31, hct50, hLc29.app _, hLc48.front _, noBld_app made_nob made_nob⟩, M⟩
   ·
    refine g_lit (e := 74) (sz := 23) (m := 1) (vs := (entC (last + 1) c29 c48)) A M 20 rfl rfl rfl rfl (does_buildSlice rfl (by kernel_rfl)) rfl rfl (.inl (by decide)) ?_
    intro g60 w61 M
    refine ⟨(M.sub (.cons _ (.cons_cons _ (.cons_cons _ (.cons_cons _ (.cons _ (.cons _ (List.nil_sublist _)))))))), ?_⟩
    intro a A
    refine any_one (by kernel_rfl) (op_do (v := .slice so xs.length ca) A 10 rfl rfl rfl rfl (m_lookY M Tryz.underlying64 Tryz.underlying67 rfl rfl 4 rfl hold hv9.symm) (M.sub (.cons _ (.cons_cons _ (.cons_cons _ (.cons_cons _ (.cons _ (.cons _ (List.nil_sublist _)))))))) ?_)
    intro a A
    refine any_one (by kernel_rfl) (g_append (e := 74) (sz := 23) (k := 5) (q := xs.length) (m := 1) (xs := catC Et.c xs) (news := (entC (last + 1) c29 c48)) (L' := fun v62 => (.row 74 23 (.slice (some ⟨g60, 0, none⟩) 1 1) 1 ((entC (last + 1) c29 c48)) :: .obj g4 (.cells (v.d.cells v.ts.length).toArray 38) :: .obj g2 (.cells (t.d.cells t.ts.length).toArray 38) :: .obj g (.cells #[.int .i64 kind, .map (some m), .int .i64 (((count + 1 : Nat) : Int)), .int .i64 (((last + 1 : Nat) : Int))] 66) :: .obj m (mapO es ck) :: .row 74 23 (v62) (xs.length + 1) (catC Et.c xs ++ (entC (last + 1) c29 c48)) :: (made w35 w54 ++ (made w9.drew w35 ++ X)))) A 21 rfl rfl rfl rfl (m_appX (z := .agg #[.int .i64 0, .int .i64 0, .int .i64 0, .bool false, .slice none 0 0, .slice none 0 0, .bool false, .slice none 0 0, .slice none 0 0, .string (⟨#[]⟩), .slice none 0 0, .slice none 0 0, .int .i64 0, .int .i64 0, .bool false, .slice none 0 0, .slice none 0 0, .bool false, .slice none 0 0, .slice none 0 0, .string (⟨#[]⟩), .slice none 0 0, .slice none 0 0]) (sz := 23) (by_ := 392) Tryz.underlying75 (by kernel_rfl) rfl rfl rfl M 5 rfl rfl rfl rfl (rc_own (M.has 0 rfl)) (List.all_eq_true.1 (entC_one _ _ _)) (by omega)) (fun _ => rfl) ?_)
    intro v62 w63 M
    refine ⟨(M.sub (.cons _ (.cons_cons _ (.cons_cons _ (.cons_cons _ (.cons _ (.cons _ (List.nil_sublist _)))))))), ?_⟩
    intro a A
    refine any_one (by kernel_rfl) (g_setObj (L' := (.row 74 23 (.slice (some ⟨g60, 0, none⟩) 1 1) 1 ((entC (last + 1) c29 c48)) :: .obj g4 (.cells (v.d.cells v.ts.length).toArray 38) :: .obj g2 (.cells (t.d.cells t.ts.length).toArray 38) :: .obj g (.cells #[.int .i64 kind, .map (some m), .int .i64 (((count + 1 : Nat) : Int)), .int .i64 (((last + 1 : Nat) : Int))] 66) :: .obj m (mapO (putK h (v62) es) ck) :: .row 74 23 (v62) (xs.length + 1) (catC Et.c xs ++ (entC (last + 1) c29 c48)) :: (made w35 w54 ++ (made w9.drew w35 ++ X)))) A M 22 rfl rfl rfl (sets_old M Tryz.underlying64 Tryz.underlying67 rfl rfl rfl 4 rfl hold) 4 rfl (quiet_map _ _) rfl ?_)
    intro w64 M
    refine ⟨(M.sub (.cons _ (.cons_cons _ (.cons_cons _ (.cons_cons _ (.cons _ (.cons _ (List.nil_sublist _)))))))), ?_⟩
    refine any_end (by kernel_rfl) ?_
    refine hnorm _ _ (ends (v := .tuple #[]) A rfl .nil rfl ?_)
    replace M : Mg w0 w64 (.row 74 23 (v62) (xs.length + 1) (catC Et.c xs ++ (entC (last + 1) c29 c48)) :: .row 74 23 (.slice (some ⟨g60, 0, none⟩) 1 1) 1 ((entC (last + 1) c29 c48)) :: .obj g4 (.cells (v.d.cells v.ts.length).toArray 38) :: .obj g2 (.cells (t.d.cells t.ts.length).toArray 38) :: .obj g (.cells #[.int .i64 kind, .map (some m), .int .i64 (((count + 1 : Nat) : Int)), .int .i64 (((last + 1 : Nat) : Int))] 66) :: .obj m (mapO (putK h (v62) es) ck) :: (made w35 w54 ++ (made w9.drew w35 ++ X))) := M.bring 5 rfl rfl
    replace M : Mg w0 w64 (.obj m (mapO (putK h (v62) es) ck) :: .row 74 23 (v62) (xs.length + 1) (catC Et.c xs ++ (entC (last + 1) c29 c48)) :: .row 74 23 (.slice (some ⟨g60, 0, none⟩) 1 1) 1 ((entC (last + 1) c29 c48)) :: .obj g4 (.cells (v.d.cells v.ts.length).toArray 38) :: .obj g2 (.cells (t.d.cells t.ts.length).toArray 38) :: .obj g (.cells #[.int .i64 kind, .map (some m), .int .i64 (((count + 1 : Nat) : Int)), .int .i64 (((last + 1 : Nat) : Int))] 66) :: (made w35 w54 ++ (made w9.drew w35 ++ X))) := M.bring 5 rfl rfl
    replace M : Mg w0 w64 (.obj g (.cells #[.int .i64 kind, .map (some m), .int .i64 (((count + 1 : Nat) : Int)), .int .i64 (((last + 1 : Nat) : Int))] 66) :: .obj m (mapO (putK h (v62) es) ck) :: .row 74 23 (v62) (xs.length + 1) (catC Et.c xs ++ (entC (last + 1) c29 c48)) :: .row 74 23 (.slice (some ⟨g60, 0, none⟩) 1 1) 1 ((entC (last + 1) c29 c48)) :: .obj g4 (.cells (v.d.cells v.ts.length).toArray 38) :: .obj g2 (.cells (t.d.cells t.ts.length).toArray 38) :: (made w35 w54 ++ (made w9.drew w35 ++ X))) := M.bring 5 rfl rfl
    replace M : Mg w0 w64 (.obj g (.cells #[.int .i64 kind, .map (some m), .int .i64 (((count + 1 : Nat) : Int)), .int .i64 (((last + 1 : Nat) : Int))] 66) :: .obj m (mapO (putK h (v62) es) ck) :: .row 74 23 (v62) (xs.length + 1) (catC Et.c xs ++ (entC (last + 1) c29 c48)) :: (made w35 w54 ++ (made w9.drew w35 ++ X))) := by
     have h9 := M.sub (.cons_cons _ (.cons_cons _ (.cons_cons _ (.cons _ (.cons _ (.cons _ (.refl _)))))))
     exact h9
    obtain ⟨so8, ca8, rfl⟩ := owns_any (M.has 2 rfl)
    rw [show catC Et.c xs ++ entC (last + 1) c29 c48 = catC Et.c (xs ++ [⟨last + 1, c29, c48⟩]) from by rw [catC_append, catC_one]; rfl] at M
    rw [← List.append_assoc] at M
    exact ⟨rfl, so8, ca8, c29, c48, (made w35 w54 ++ made w9.drew w35), ⟨hct31, hct50, hLc29.app _, hLc48.front _, noBld_app made_nob made_nob⟩, M⟩
theorem over_append : ∀ (a b l : List Value) (o : Nat), over l o (a ++ b) = over (over l o a) (o + a.length) b
 | [], b, l, o => rfl
 | x :: a, b, l, o => by
  rw [List.cons_append, over, over, over_append a b, List.length_cons, Nat.add_assoc, Nat.add_comm 1]
theorem over_same : ∀ (a l : List Value) (o : Nat), (∀ j v, a[j]? = some v → l[o + j]? = some v) → over l o a = l
 | [], _, _, _ => rfl
 | x :: a, l, o, h => by
  have h0 : l[o]? = some x := h 0 x rfl
  have e : l.set o x = l := by
   apply List.ext_getElem?
   intro i
   by_cases hi : o = i
   ·
    subst hi; rw [List.getElem?_set_self (List.getElem?_eq_some_iff.1 h0).1]; exact h0.symm
   ·
    rw [List.getElem?_set_ne hi]
  rw [over, e]
  exact over_same a l (o + 1) fun j v hj => by rw [Nat.add_assoc, Nat.add_comm 1]; exact h (j + 1) v hj
theorem et_val {es : List Et} {i : Nat} {e : Et} (h : es[i]? = some e) (v : Dt) : over (catC Et.c es) (i * 23 + 12) (v.d.cells v.ts.length) = catC Et.c (es.set i ⟨e.p, e.k, v⟩) := by
 rw [← et_set ⟨e.p, e.k, v⟩ (List.getElem?_eq_some_iff.1 h).1]
 rw [show Et.c ⟨e.p, e.k, v⟩ = (.int .i64 (e.p : Int) :: e.k.d.cells e.k.ts.length) ++ v.d.cells v.ts.length from rfl, over_append, over_same (.int .i64 (e.p : Int) :: e.k.d.cells e.k.ts.length)]
 ·
  rfl
 ·
  intro j u hj
  have hlt : j < 12 := by have := (List.getElem?_eq_some_iff.1 hj).1; exact this
  have h1 := et_at h
  have h2 : e.c[j]? = some u := by
   rw [show e.c = (.int .i64 (e.p : Int) :: e.k.d.cells e.k.ts.length) ++ e.v.d.cells e.v.ts.length from rfl, List.getElem?_append_left (List.getElem?_eq_some_iff.1 hj).1]
   exact hj
  rw [← h1, List.getElem?_take, if_pos (by omega), List.getElem?_drop] at h2
  exact h2
theorem set_full {kind : Int} {mk : Tr → Tr} {ok : Tr → Bool} (hK : Marks kind mk ok) {w0 w : World} {g m count last ck : Nat} {bs : List Bk} {X : List Ck}  (hX : noBld X) (hT : Tabs8 w0) (hB : ∀ w9, Mg w0 w9 (.obj g (.cells #[.int .i64 kind, .map (some m), .int .i64 (((count : Nat) : Int)), .int .i64 (((last : Nat) : Int))] 66) :: .obj m (mapO (bs.map Bk.en) ck) :: X) → Tab w9 ok g kind m count last ck bs) {t v : Dt} (ht : ∀ w9, Mg w0 w9 X → t.rd w9) (hv : ∀ w9, Mg w0 w9 X → v.rd w9) (htb : t.tr.bulk ≤ 4000000) (hvb : v.tr.bulk ≤ 4000000) (hM0 : Mg w0 w (.obj g (.cells #[.int .i64 kind, .map (some m), .int .i64 (((count : Nat) : Int)), .int .i64 (((last : Nat) : Int))] 66) :: .obj m (mapO (bs.map Bk.en) ck) :: X)) (hs : soundT shapeT t.tr = true) (hsv : soundT shapeT v.tr = true) (hok : ok t.tr = true) (hat : idxE (fun e => equT (mk t.tr) (mk e.k.tr)) (bucket bs (hshT (mk t.tr))) = -1) (hc : 4096 ≤ count) (hc2 : count ≤ 1000000000) : Calls Tryz.prog 9 #[.pointer (some ⟨g, 0, none⟩), .agg (t.d.cells t.ts.length).toArray, .agg (v.d.cells v.ts.length).toArray] w fun e w' => e = .returned (.int .i64 9) ∧ Mg w0 w' (.obj g (.cells #[.int .i64 kind, .map (some m), .int .i64 (((count : Nat) : Int)), .int .i64 (((last : Nat) : Int))] 66) :: .obj m (mapO (bs.map Bk.en) ck) :: X) := by
 have M : Mg w0 w (.obj g (.cells #[.int .i64 kind, .map (some m), .int .i64 (((count : Nat) : Int)), .int .i64 (((last : Nat) : Int))] 66) :: .obj m (mapO (bs.map Bk.en) ck) :: X) := hM0
 refine walk_of (l := [(0, .pointer (some ⟨g, 0, none⟩)), (1, .agg (t.d.cells t.ts.length).toArray), (2, .agg (v.d.cells v.ts.length).toArray)]) Tryz.func9 rfl Tryz.ntmps9 rfl rfl ?_
 intro Q hret hnorm hP a A
 refine wsk fun K1 hK1 => wrl (s_new (vs := (t.d.cells t.ts.length)) (t := 38) A M rfl rfl rfl pg (does_box rfl rfl) (by decide) ?_)
 intro g2 w3 M a A
 refine s_new (vs := (v.d.cells v.ts.length)) (t := 38) A M rfl rfl rfl pg (does_box rfl rfl) (by decide) ?_
 intro g4 w5 M a A
 refine sda A λa A↦?_
 refine seq_end (hK1 _ _ (wsk fun K6 hK6 => wrl (sdm A λa A↦?_)))
 refine sdo A (m_loadS M TeD_isS_38 rfl 1 rfl (cs := (t.d.cells t.ts.length)) rfl rfl) λa A↦?_
 refine sdo A (m_loadS M TeD_isS_38 rfl 0 rfl (cs := (v.d.cells v.ts.length)) rfl rfl) λa A↦?_
 refine s_litE (e := 38) (sz := 11) (m := 1) (vs := cellsOf [v]) A M rfl rfl rfl (does_buildSlice rfl (by kernel_rfl)) rfl rfl (.inl (by decide)) ?_
 intro g7 w8 M a A
 refine sct A (ef rfl rfl) (find_ok hK (hB _ (M.dropn 3)) (ht _ (M.dropn 5)) htb (hT.below M.bel) (ts := [v]) (rt_own (ts := [v]) (M.has 0 rfl)).1 (fun u hu => by rw [List.mem_singleton.1 hu]; exact hv _ (M.dropn 5)) (by simp) hs (show ([v].any fun t => !soundT shapeT t.tr) = false from by simp [hsv]) hok) ?_
 rintro _ w10 ⟨he8, hb9⟩
 rw [hat] at he8
 subst he8
 replace M := M.call hb9
 refine ⟨_, rfl, ?_⟩
 intro a A
 refine sdm A λa A↦?_
 iterate 2 refine sdo A (does_extract (vs := [.agg #[.int .u64 (hshT (mk t.tr)), .int .i64 (-1)], .int .i64 0]) rfl rfl) λa A↦?_
 refine s_new (vs := [.int .u64 0, .int .i64 0]) (t := 69) A M rfl rfl rfl pg (does_alloc (z := .agg #[.int .u64 0, .int .i64 0]) (by kernel_rfl) rfl) (by decide) ?_
 intro g11 w12 M a A
 refine s_store (us := [.int .u64 (hshT (mk t.tr)), .int .i64 (-1)]) (L' := (.obj g11 (.cells #[.int .u64 (hshT (mk t.tr)), .int .i64 (-1)] 69) :: .row 38 11 (.slice (some ⟨g7, 0, none⟩) 1 1) 1 (cellsOf [v]) :: .obj g4 (.cells (v.d.cells v.ts.length).toArray 38) :: .obj g2 (.cells (t.d.cells t.ts.length).toArray 38) :: .obj g (.cells #[.int .i64 kind, .map (some m), .int .i64 (((count : Nat) : Int)), .int .i64 (((last : Nat) : Int))] 66) :: .obj m (mapO (bs.map Bk.en) ck) :: X)) A M rfl rfl (m_store rfl rfl rfl (by kernel_rfl) M 0 rfl rfl rfl) 0 rfl rfl rfl ?_
 intro w13 M
 refine sda A λa A↦?_
 refine seq_end (hK6 _ _ (wsk fun K14 hK14 => wp_block (wsk fun K15 hK15 => wrl (sdm A λa A↦?_))))
 refine sdo (v := .bool false) A (does_bin rfl rfl (fun w => by kernel_rfl)) λa A↦?_
 refine sda A λa A↦?_
 refine seq_end (hK15 _ _ (wp_cond_false (A.ev rfl) ?_))
 refine wsk fun K16 hK16 => wrl (sdo A (m_loadS M TeD_isS_69 rfl 0 rfl (cs := [.int .u64 (hshT (mk t.tr)), .int .i64 (-1)]) rfl rfl) λa A↦?_)
 refine gcl A M (ef rfl rfl) (((show decide ((0 : Int) ≤ -1) = false from rfl) ▸ there_any)) fun w17 hbt M a A => ?_
 refine sda A λa A↦?_
 refine seq_end (hK16 _ _ (wp_cond_false (A.ev rfl) ?_))
 refine wsk fun K18 hK18 => wrl (sdm A λa A↦?_)
 refine sdo A (does_nilp rfl) λa A↦?_
 refine sdo (v := .pointer (some ⟨g, 2, none⟩)) A (does_field TeD_fld_66_2 rfl rfl) λa A↦?_
 refine sdo A (m_load1 M TeD_is1_3 rfl 4 rfl rfl) λa A↦?_
 refine sdo (v := .bool true) A (does_bin rfl rfl (fun w => (bin_geq w).trans (by rw [show (decide (4096 ≤ ((count : Nat) : Int))) = true from (decide_eq_true (by omega))]))) λa A↦?_
 refine sda A λa A↦?_
 refine seq_end (hK18 _ _ (wp_cond_true (A.ev rfl) ?_))
 refine wsk fun K19 hK19 => wrl (sda A λa A↦?_)
 refine seq_end (hK19 _ _ (wp_ret (hret _ _ (en1 A rfl (res_tmp rfl) ?_))))
 replace M : Mg w0 w17 (.obj m (mapO (bs.map Bk.en) ck) :: .obj g11 (.cells #[.int .u64 (hshT (mk t.tr)), .int .i64 (-1)] 69) :: .row 38 11 (.slice (some ⟨g7, 0, none⟩) 1 1) 1 (cellsOf [v]) :: .obj g4 (.cells (v.d.cells v.ts.length).toArray 38) :: .obj g2 (.cells (t.d.cells t.ts.length).toArray 38) :: .obj g (.cells #[.int .i64 kind, .map (some m), .int .i64 (((count : Nat) : Int)), .int .i64 (((last : Nat) : Int))] 66) :: X) := M.bring 5 rfl rfl
 replace M : Mg w0 w17 (.obj g (.cells #[.int .i64 kind, .map (some m), .int .i64 (((count : Nat) : Int)), .int .i64 (((last : Nat) : Int))] 66) :: .obj m (mapO (bs.map Bk.en) ck) :: .obj g11 (.cells #[.int .u64 (hshT (mk t.tr)), .int .i64 (-1)] 69) :: .row 38 11 (.slice (some ⟨g7, 0, none⟩) 1 1) 1 (cellsOf [v]) :: .obj g4 (.cells (v.d.cells v.ts.length).toArray 38) :: .obj g2 (.cells (t.d.cells t.ts.length).toArray 38) :: X) := M.bring 5 rfl rfl
 replace M : Mg w0 w17 (.obj g (.cells #[.int .i64 kind, .map (some m), .int .i64 (((count : Nat) : Int)), .int .i64 (((last : Nat) : Int))] 66) :: .obj m (mapO (bs.map Bk.en) ck) :: X) := by
  have h9 := M.sub (.cons_cons _ (.cons_cons _ (.cons _ (.cons _ (.cons _ (.cons _ (.refl _)))))))
  exact h9
 exact ⟨rfl, M⟩
theorem set_new {kind : Int} {mk : Tr → Tr} {ok : Tr → Bool} (hK : Marks kind mk ok) {w0 w : World} {g m count last ck : Nat} {bs : List Bk} {X : List Ck}  (hX : noBld X) (hT : Tabs8 w0) (hB : ∀ w9, Mg w0 w9 (.obj g (.cells #[.int .i64 kind, .map (some m), .int .i64 (((count : Nat) : Int)), .int .i64 (((last : Nat) : Int))] 66) :: .obj m (mapO (bs.map Bk.en) ck) :: X) → Tab w9 ok g kind m count last ck bs) {t v : Dt} (ht : ∀ w9, Mg w0 w9 X → t.rd w9) (hv : ∀ w9, Mg w0 w9 X → v.rd w9) (htb : t.tr.bulk ≤ 4000000) (hvb : v.tr.bulk ≤ 4000000) (hM0 : Mg w0 w (.obj g (.cells #[.int .i64 kind, .map (some m), .int .i64 (((count : Nat) : Int)), .int .i64 (((last : Nat) : Int))] 66) :: .obj m (mapO (bs.map Bk.en) ck) :: X)) (hs : soundT shapeT t.tr = true) (hsv : soundT shapeT v.tr = true) (hok : ok t.tr = true) (hat : idxE (fun e => equT (mk t.tr) (mk e.k.tr)) (bucket bs (hshT (mk t.tr))) = -1) (hc : count < 4096) (hl : last ≤ 4611686018427387904) (hnew : atK (hshT (mk t.tr)) (bs.map Bk.en) = none) : Calls Tryz.prog 9 #[.pointer (some ⟨g, 0, none⟩), .agg (t.d.cells t.ts.length).toArray, .agg (v.d.cells v.ts.length).toArray] w fun e w' => e = .returned (.int .i64 0) ∧ ∃ so8 ca8, ∃ k2 v2 : Dt, ∃ F : List Ck, (k2.tr = t.tr ∧ v2.tr = v.tr ∧ Lives F k2 ∧ Lives F v2 ∧ noBld F) ∧ Mg w0 w' (.obj g (.cells #[.int .i64 kind, .map (some m), .int .i64 (((count + 1 : Nat) : Int)), .int .i64 (((last + 1 : Nat) : Int))] 66) :: .obj m (mapO (bs.map Bk.en ++ [⟨hshT (mk t.tr), .slice so8 1 ca8, ck⟩]) (ck + 1)) :: .row 74 23 (.slice so8 1 ca8) 1 (entC (last + 1) k2 v2) :: (F ++ X)) := by
 have M : Mg w0 w (.obj g (.cells #[.int .i64 kind, .map (some m), .int .i64 (((count : Nat) : Int)), .int .i64 (((last : Nat) : Int))] 66) :: .obj m (mapO (bs.map Bk.en) ck) :: X) := hM0
 refine walk_of (l := [(0, .pointer (some ⟨g, 0, none⟩)), (1, .agg (t.d.cells t.ts.length).toArray), (2, .agg (v.d.cells v.ts.length).toArray)]) Tryz.func9 rfl Tryz.ntmps9 rfl rfl ?_
 intro Q hret hnorm hP a A
 refine wsk fun K1 hK1 => wrl (s_new (vs := (t.d.cells t.ts.length)) (t := 38) A M rfl rfl rfl pg (does_box rfl rfl) (by decide) ?_)
 intro g2 w3 M a A
 refine s_new (vs := (v.d.cells v.ts.length)) (t := 38) A M rfl rfl rfl pg (does_box rfl rfl) (by decide) ?_
 intro g4 w5 M a A
 refine sda A λa A↦?_
 refine seq_end (hK1 _ _ (wsk fun K6 hK6 => wrl (sdm A λa A↦?_)))
 refine sdo A (m_loadS M TeD_isS_38 rfl 1 rfl (cs := (t.d.cells t.ts.length)) rfl rfl) λa A↦?_
 refine sdo A (m_loadS M TeD_isS_38 rfl 0 rfl (cs := (v.d.cells v.ts.length)) rfl rfl) λa A↦?_
 refine s_litE (e := 38) (sz := 11) (m := 1) (vs := cellsOf [v]) A M rfl rfl rfl (does_buildSlice rfl (by kernel_rfl)) rfl rfl (.inl (by decide)) ?_
 intro g7 w8 M a A
 refine sct A (ef rfl rfl) (find_ok hK (hB _ (M.dropn 3)) (ht _ (M.dropn 5)) htb (hT.below M.bel) (ts := [v]) (rt_own (ts := [v]) (M.has 0 rfl)).1 (fun u hu => by rw [List.mem_singleton.1 hu]; exact hv _ (M.dropn 5)) (by simp) hs (show ([v].any fun t => !soundT shapeT t.tr) = false from by simp [hsv]) hok) ?_
 rintro _ w10 ⟨he8, hb9⟩
 rw [hat] at he8
 subst he8
 replace M := M.call hb9
 refine ⟨_, rfl, ?_⟩
 intro a A
 refine sdm A λa A↦?_
 iterate 2 refine sdo A (does_extract (vs := [.agg #[.int .u64 (hshT (mk t.tr)), .int .i64 (-1)], .int .i64 0]) rfl rfl) λa A↦?_
 refine s_new (vs := [.int .u64 0, .int .i64 0]) (t := 69) A M rfl rfl rfl pg (does_alloc (z := .agg #[.int .u64 0, .int .i64 0]) (by kernel_rfl) rfl) (by decide) ?_
 intro g11 w12 M a A
 refine s_store (us := [.int .u64 (hshT (mk t.tr)), .int .i64 (-1)]) (L' := (.obj g11 (.cells #[.int .u64 (hshT (mk t.tr)), .int .i64 (-1)] 69) :: .row 38 11 (.slice (some ⟨g7, 0, none⟩) 1 1) 1 (cellsOf [v]) :: .obj g4 (.cells (v.d.cells v.ts.length).toArray 38) :: .obj g2 (.cells (t.d.cells t.ts.length).toArray 38) :: .obj g (.cells #[.int .i64 kind, .map (some m), .int .i64 (((count : Nat) : Int)), .int .i64 (((last : Nat) : Int))] 66) :: .obj m (mapO (bs.map Bk.en) ck) :: X)) A M rfl rfl (m_store rfl rfl rfl (by kernel_rfl) M 0 rfl rfl rfl) 0 rfl rfl rfl ?_
 intro w13 M
 refine sda A λa A↦?_
 refine seq_end (hK6 _ _ (wsk fun K14 hK14 => wp_block (wsk fun K15 hK15 => wrl (sdm A λa A↦?_))))
 refine sdo (v := .bool false) A (does_bin rfl rfl (fun w => by kernel_rfl)) λa A↦?_
 refine sda A λa A↦?_
 refine seq_end (hK15 _ _ (wp_cond_false (A.ev rfl) ?_))
 refine wsk fun K16 hK16 => wrl (sdo A (m_loadS M TeD_isS_69 rfl 0 rfl (cs := [.int .u64 (hshT (mk t.tr)), .int .i64 (-1)]) rfl rfl) λa A↦?_)
 refine gcl A M (ef rfl rfl) (((show decide ((0 : Int) ≤ -1) = false from rfl) ▸ there_any)) fun w17 hbt M a A => ?_
 refine sda A λa A↦?_
 refine seq_end (hK16 _ _ (wp_cond_false (A.ev rfl) ?_))
 refine wsk fun K18 hK18 => wrl (sdm A λa A↦?_)
 refine sdo A (does_nilp rfl) λa A↦?_
 refine sdo (v := .pointer (some ⟨g, 2, none⟩)) A (does_field TeD_fld_66_2 rfl rfl) λa A↦?_
 refine sdo A (m_load1 M TeD_is1_3 rfl 4 rfl rfl) λa A↦?_
 refine sdo (v := .bool false) A (does_bin rfl rfl (fun w => (bin_geq w).trans (by rw [show (decide (4096 ≤ ((count : Nat) : Int))) = false from (decide_eq_false (by omega))]))) λa A↦?_
 refine sda A λa A↦?_
 refine seq_end (hK18 _ _ (wp_cond_false (A.ev rfl) ?_))
 refine wrl (sdm A λa A↦?_)
 refine sdo (v := .pointer (some ⟨g11, 0, none⟩)) A (does_field TeD_fld_69_0 rfl rfl) λa A↦?_
 refine sdo A (m_load1 M TeD_is1_67 rfl 0 rfl rfl) λa A↦?_
 refine sdo A (m_loadS M TeD_isS_38 rfl 3 rfl (cs := (t.d.cells t.ts.length)) rfl rfl) λa A↦?_
 refine sdo A (m_loadS M TeD_isS_38 rfl 2 rfl (cs := (v.d.cells v.ts.length)) rfl rfl) λa A↦?_
 replace M : Mg w0 w17 (.obj m (mapO (bs.map Bk.en) ck) :: .obj g11 (.cells #[.int .u64 (hshT (mk t.tr)), .int .i64 (-1)] 69) :: .row 38 11 (.slice (some ⟨g7, 0, none⟩) 1 1) 1 (cellsOf [v]) :: .obj g4 (.cells (v.d.cells v.ts.length).toArray 38) :: .obj g2 (.cells (t.d.cells t.ts.length).toArray 38) :: .obj g (.cells #[.int .i64 kind, .map (some m), .int .i64 (((count : Nat) : Int)), .int .i64 (((last : Nat) : Int))] 66) :: X) := M.bring 5 rfl rfl
 replace M : Mg w0 w17 (.obj g (.cells #[.int .i64 kind, .map (some m), .int .i64 (((count : Nat) : Int)), .int .i64 (((last : Nat) : Int))] 66) :: .obj m (mapO (bs.map Bk.en) ck) :: .obj g11 (.cells #[.int .u64 (hshT (mk t.tr)), .int .i64 (-1)] 69) :: .row 38 11 (.slice (some ⟨g7, 0, none⟩) 1 1) 1 (cellsOf [v]) :: .obj g4 (.cells (v.d.cells v.ts.length).toArray 38) :: .obj g2 (.cells (t.d.cells t.ts.length).toArray 38) :: X) := M.bring 5 rfl rfl
 refine sct A (ef rfl rfl) (add_new (X := (.obj g11 (.cells #[.int .u64 (hshT (mk t.tr)), .int .i64 (-1)] 69) :: .row 38 11 (.slice (some ⟨g7, 0, none⟩) 1 1) 1 (cellsOf [v]) :: .obj g4 (.cells (v.d.cells v.ts.length).toArray 38) :: .obj g2 (.cells (t.d.cells t.ts.length).toArray 38) :: X)) (noBld_cons (by simp) (noBld_cons (by simp) (noBld_cons (by simp) (noBld_cons (by simp) hX)))) (by omega) hl hnew (fun w9 h9 => ht w9 (h9.dropn 4)) (fun w9 h9 => hv w9 (h9.dropn 4)) htb hvb M) ?_
 rintro _ w19 ⟨rfl, so8, ca8, k2, v2, F9, hF9, hM9⟩
 replace M : Mg w0 w19 (.obj g (.cells #[.int .i64 kind, .map (some m), .int .i64 (((count + 1 : Nat) : Int)), .int .i64 (((last + 1 : Nat) : Int))] 66) :: .obj m (mapO (bs.map Bk.en ++ [⟨hshT (mk t.tr), .slice so8 1 ca8, ck⟩]) (ck + 1)) :: .row 74 23 (.slice so8 1 ca8) 1 (entC (last + 1) k2 v2) :: (F9 ++ (.obj g11 (.cells #[.int .u64 (hshT (mk t.tr)), .int .i64 (-1)] 69) :: .row 38 11 (.slice (some ⟨g7, 0, none⟩) 1 1) 1 (cellsOf [v]) :: .obj g4 (.cells (v.d.cells v.ts.length).toArray 38) :: .obj g2 (.cells (t.d.cells t.ts.length).toArray 38) :: X))) := hM9
 refine ⟨_, rfl, ?_⟩
 intro a A
 refine seq_end (hK14 _ _ (wsk fun K20 hK20 => wrl (sda A λa A↦?_)))
 refine seq_end (hK20 _ _ (wp_ret (hret _ _ (en1 A rfl (res_tmp rfl) ?_))))
 replace M : Mg w0 w19 (.obj g (.cells #[.int .i64 kind, .map (some m), .int .i64 (((count + 1 : Nat) : Int)), .int .i64 (((last + 1 : Nat) : Int))] 66) :: .obj m (mapO (bs.map Bk.en ++ [⟨hshT (mk t.tr), .slice so8 1 ca8, ck⟩]) (ck + 1)) :: .row 74 23 (.slice so8 1 ca8) 1 (entC (last + 1) k2 v2) :: (F9 ++ X)) := M.sub (.cons_cons _ (.cons_cons _ (.cons_cons _ ((List.Sublist.refl _).append (.cons _ (.cons _ (.cons _ (.cons _ (List.Sublist.refl _)))))))))
 exact ⟨rfl, so8, ca8, k2, v2, F9, hF9, M⟩
theorem set_old {kind : Int} {mk : Tr → Tr} {ok : Tr → Bool} (hK : Marks kind mk ok) {w0 w : World} {g m count last ck : Nat} {bs : List Bk} {X : List Ck} {so : Option Addr} {ca b0 : Nat} {xs : List Et} (hX : noBld X) (hT : Tabs8 w0) (hB : ∀ w9, Mg w0 w9 (.obj g (.cells #[.int .i64 kind, .map (some m), .int .i64 (((count : Nat) : Int)), .int .i64 (((last : Nat) : Int))] 66) :: .obj m (mapO (bs.map Bk.en) ck) :: .row 74 23 (.slice so xs.length ca) xs.length (catC Et.c xs) :: X) → Tab w9 ok g kind m count last ck bs) {t v : Dt} (ht : ∀ w9, Mg w0 w9 X → t.rd w9) (hv : ∀ w9, Mg w0 w9 X → v.rd w9) (htb : t.tr.bulk ≤ 4000000) (hvb : v.tr.bulk ≤ 4000000) (hM0 : Mg w0 w (.obj g (.cells #[.int .i64 kind, .map (some m), .int .i64 (((count : Nat) : Int)), .int .i64 (((last : Nat) : Int))] 66) :: .obj m (mapO (bs.map Bk.en) ck) :: .row 74 23 (.slice so xs.length ca) xs.length (catC Et.c xs) :: X)) (hs : soundT shapeT t.tr = true) (hsv : soundT shapeT v.tr = true) (hok : ok t.tr = true) (hat : idxE (fun e => equT (mk t.tr) (mk e.k.tr)) (bucket bs (hshT (mk t.tr))) = -1) (hc : count < 4096) (hl : last ≤ 4611686018427387904) (hold : atK (hshT (mk t.tr)) (bs.map Bk.en) = some ⟨hshT (mk t.tr), .slice so xs.length ca, b0⟩) (hxl : xs.length ≤ 1000000) : Calls Tryz.prog 9 #[.pointer (some ⟨g, 0, none⟩), .agg (t.d.cells t.ts.length).toArray, .agg (v.d.cells v.ts.length).toArray] w fun e w' => e = .returned (.int .i64 0) ∧ ∃ so8 ca8, ∃ k2 v2 : Dt, ∃ F : List Ck, (k2.tr = t.tr ∧ v2.tr = v.tr ∧ Lives F k2 ∧ Lives F v2 ∧ noBld F) ∧ Mg w0 w' (.obj g (.cells #[.int .i64 kind, .map (some m), .int .i64 (((count + 1 : Nat) : Int)), .int .i64 (((last + 1 : Nat) : Int))] 66) :: .obj m (mapO (putK (hshT (mk t.tr)) (.slice so8 (xs.length + 1) ca8) (bs.map Bk.en)) ck) :: .row 74 23 (.slice so8 ((xs.length + 1)) ca8) ((xs.length + 1)) (catC Et.c (xs ++ [⟨last + 1, k2, v2⟩])) :: (F ++ X)) := by
 have M : Mg w0 w (.obj g (.cells #[.int .i64 kind, .map (some m), .int .i64 (((count : Nat) : Int)), .int .i64 (((last : Nat) : Int))] 66) :: .obj m (mapO (bs.map Bk.en) ck) :: .row 74 23 (.slice so xs.length ca) xs.length (catC Et.c xs) :: X) := hM0
 refine walk_of (l := [(0, .pointer (some ⟨g, 0, none⟩)), (1, .agg (t.d.cells t.ts.length).toArray), (2, .agg (v.d.cells v.ts.length).toArray)]) Tryz.func9 rfl Tryz.ntmps9 rfl rfl ?_
 intro Q hret hnorm hP a A
 refine wsk fun K1 hK1 => wrl (s_new (vs := (t.d.cells t.ts.length)) (t := 38) A M rfl rfl rfl pg (does_box rfl rfl) (by decide) ?_)
 intro g2 w3 M a A
 refine s_new (vs := (v.d.cells v.ts.length)) (t := 38) A M rfl rfl rfl pg (does_box rfl rfl) (by decide) ?_
 intro g4 w5 M a A
 refine sda A λa A↦?_
 refine seq_end (hK1 _ _ (wsk fun K6 hK6 => wrl (sdm A λa A↦?_)))
 refine sdo A (m_loadS M TeD_isS_38 rfl 1 rfl (cs := (t.d.cells t.ts.length)) rfl rfl) λa A↦?_
 refine sdo A (m_loadS M TeD_isS_38 rfl 0 rfl (cs := (v.d.cells v.ts.length)) rfl rfl) λa A↦?_
 refine s_litE (e := 38) (sz := 11) (m := 1) (vs := cellsOf [v]) A M rfl rfl rfl (does_buildSlice rfl (by kernel_rfl)) rfl rfl (.inl (by decide)) ?_
 intro g7 w8 M a A
 refine sct A (ef rfl rfl) (find_ok hK (hB _ (M.dropn 3)) (ht _ (M.dropn 6)) htb (hT.below M.bel) (ts := [v]) (rt_own (ts := [v]) (M.has 0 rfl)).1 (fun u hu => by rw [List.mem_singleton.1 hu]; exact hv _ (M.dropn 6)) (by simp) hs (show ([v].any fun t => !soundT shapeT t.tr) = false from by simp [hsv]) hok) ?_
 rintro _ w10 ⟨he8, hb9⟩
 rw [hat] at he8
 subst he8
 replace M := M.call hb9
 refine ⟨_, rfl, ?_⟩
 intro a A
 refine sdm A λa A↦?_
 iterate 2 refine sdo A (does_extract (vs := [.agg #[.int .u64 (hshT (mk t.tr)), .int .i64 (-1)], .int .i64 0]) rfl rfl) λa A↦?_
 refine s_new (vs := [.int .u64 0, .int .i64 0]) (t := 69) A M rfl rfl rfl pg (does_alloc (z := .agg #[.int .u64 0, .int .i64 0]) (by kernel_rfl) rfl) (by decide) ?_
 intro g11 w12 M a A
 refine s_store (us := [.int .u64 (hshT (mk t.tr)), .int .i64 (-1)]) (L' := (.obj g11 (.cells #[.int .u64 (hshT (mk t.tr)), .int .i64 (-1)] 69) :: .row 38 11 (.slice (some ⟨g7, 0, none⟩) 1 1) 1 (cellsOf [v]) :: .obj g4 (.cells (v.d.cells v.ts.length).toArray 38) :: .obj g2 (.cells (t.d.cells t.ts.length).toArray 38) :: .obj g (.cells #[.int .i64 kind, .map (some m), .int .i64 (((count : Nat) : Int)), .int .i64 (((last : Nat) : Int))] 66) :: .obj m (mapO (bs.map Bk.en) ck) :: .row 74 23 (.slice so xs.length ca) xs.length (catC Et.c xs) :: X)) A M rfl rfl (m_store rfl rfl rfl (by kernel_rfl) M 0 rfl rfl rfl) 0 rfl rfl rfl ?_
 intro w13 M
 refine sda A λa A↦?_
 refine seq_end (hK6 _ _ (wsk fun K14 hK14 => wp_block (wsk fun K15 hK15 => wrl (sdm A λa A↦?_))))
 refine sdo (v := .bool false) A (does_bin rfl rfl (fun w => by kernel_rfl)) λa A↦?_
 refine sda A λa A↦?_
 refine seq_end (hK15 _ _ (wp_cond_false (A.ev rfl) ?_))
 refine wsk fun K16 hK16 => wrl (sdo A (m_loadS M TeD_isS_69 rfl 0 rfl (cs := [.int .u64 (hshT (mk t.tr)), .int .i64 (-1)]) rfl rfl) λa A↦?_)
 refine gcl A M (ef rfl rfl) (((show decide ((0 : Int) ≤ -1) = false from rfl) ▸ there_any)) fun w17 hbt M a A => ?_
 refine sda A λa A↦?_
 refine seq_end (hK16 _ _ (wp_cond_false (A.ev rfl) ?_))
 refine wsk fun K18 hK18 => wrl (sdm A λa A↦?_)
 refine sdo A (does_nilp rfl) λa A↦?_
 refine sdo (v := .pointer (some ⟨g, 2, none⟩)) A (does_field TeD_fld_66_2 rfl rfl) λa A↦?_
 refine sdo A (m_load1 M TeD_is1_3 rfl 4 rfl rfl) λa A↦?_
 refine sdo (v := .bool false) A (does_bin rfl rfl (fun w => (bin_geq w).trans (by rw [show (decide (4096 ≤ ((count : Nat) : Int))) = false from (decide_eq_false (by omega))]))) λa A↦?_
 refine sda A λa A↦?_
 refine seq_end (hK18 _ _ (wp_cond_false (A.ev rfl) ?_))
 refine wrl (sdm A λa A↦?_)
 refine sdo (v := .pointer (some ⟨g11, 0, none⟩)) A (does_field TeD_fld_69_0 rfl rfl) λa A↦?_
 refine sdo A (m_load1 M TeD_is1_67 rfl 0 rfl rfl) λa A↦?_
 refine sdo A (m_loadS M TeD_isS_38 rfl 3 rfl (cs := (t.d.cells t.ts.length)) rfl rfl) λa A↦?_
 refine sdo A (m_loadS M TeD_isS_38 rfl 2 rfl (cs := (v.d.cells v.ts.length)) rfl rfl) λa A↦?_
 replace M : Mg w0 w17 (.row 74 23 (.slice so xs.length ca) xs.length (catC Et.c xs) :: .obj g11 (.cells #[.int .u64 (hshT (mk t.tr)), .int .i64 (-1)] 69) :: .row 38 11 (.slice (some ⟨g7, 0, none⟩) 1 1) 1 (cellsOf [v]) :: .obj g4 (.cells (v.d.cells v.ts.length).toArray 38) :: .obj g2 (.cells (t.d.cells t.ts.length).toArray 38) :: .obj g (.cells #[.int .i64 kind, .map (some m), .int .i64 (((count : Nat) : Int)), .int .i64 (((last : Nat) : Int))] 66) :: .obj m (mapO (bs.map Bk.en) ck) :: X) := M.bring 6 rfl rfl
 replace M : Mg w0 w17 (.obj m (mapO (bs.map Bk.en) ck) :: .row 74 23 (.slice so xs.length ca) xs.length (catC Et.c xs) :: .obj g11 (.cells #[.int .u64 (hshT (mk t.tr)), .int .i64 (-1)] 69) :: .row 38 11 (.slice (some ⟨g7, 0, none⟩) 1 1) 1 (cellsOf [v]) :: .obj g4 (.cells (v.d.cells v.ts.length).toArray 38) :: .obj g2 (.cells (t.d.cells t.ts.length).toArray 38) :: .obj g (.cells #[.int .i64 kind, .map (some m), .int .i64 (((count : Nat) : Int)), .int .i64 (((last : Nat) : Int))] 66) :: X) := M.bring 6 rfl rfl
 replace M : Mg w0 w17 (.obj g (.cells #[.int .i64 kind, .map (some m), .int .i64 (((count : Nat) : Int)), .int .i64 (((last : Nat) : Int))] 66) :: .obj m (mapO (bs.map Bk.en) ck) :: .row 74 23 (.slice so xs.length ca) xs.length (catC Et.c xs) :: .obj g11 (.cells #[.int .u64 (hshT (mk t.tr)), .int .i64 (-1)] 69) :: .row 38 11 (.slice (some ⟨g7, 0, none⟩) 1 1) 1 (cellsOf [v]) :: .obj g4 (.cells (v.d.cells v.ts.length).toArray 38) :: .obj g2 (.cells (t.d.cells t.ts.length).toArray 38) :: X) := M.bring 6 rfl rfl
 refine sct A (ef rfl rfl) (add_old (X := (.obj g11 (.cells #[.int .u64 (hshT (mk t.tr)), .int .i64 (-1)] 69) :: .row 38 11 (.slice (some ⟨g7, 0, none⟩) 1 1) 1 (cellsOf [v]) :: .obj g4 (.cells (v.d.cells v.ts.length).toArray 38) :: .obj g2 (.cells (t.d.cells t.ts.length).toArray 38) :: X)) (noBld_cons (by simp) (noBld_cons (by simp) (noBld_cons (by simp) (noBld_cons (by simp) hX)))) (by omega) hl hold rfl hxl (fun w9 h9 => ht w9 (h9.dropn 4)) (fun w9 h9 => hv w9 (h9.dropn 4)) htb hvb M) ?_
 rintro _ w19 ⟨rfl, so8, ca8, k2, v2, F9, hF9, hM9⟩
 replace M : Mg w0 w19 (.obj g (.cells #[.int .i64 kind, .map (some m), .int .i64 (((count + 1 : Nat) : Int)), .int .i64 (((last + 1 : Nat) : Int))] 66) :: .obj m (mapO (putK (hshT (mk t.tr)) (.slice so8 (xs.length + 1) ca8) (bs.map Bk.en)) ck) :: .row 74 23 (.slice so8 ((xs.length + 1)) ca8) ((xs.length + 1)) (catC Et.c (xs ++ [⟨last + 1, k2, v2⟩])) :: (F9 ++ (.obj g11 (.cells #[.int .u64 (hshT (mk t.tr)), .int .i64 (-1)] 69) :: .row 38 11 (.slice (some ⟨g7, 0, none⟩) 1 1) 1 (cellsOf [v]) :: .obj g4 (.cells (v.d.cells v.ts.length).toArray 38) :: .obj g2 (.cells (t.d.cells t.ts.length).toArray 38) :: X))) := hM9
 refine ⟨_, rfl, ?_⟩
 intro a A
 refine seq_end (hK14 _ _ (wsk fun K20 hK20 => wrl (sda A λa A↦?_)))
 refine seq_end (hK20 _ _ (wp_ret (hret _ _ (en1 A rfl (res_tmp rfl) ?_))))
 replace M : Mg w0 w19 (.obj g (.cells #[.int .i64 kind, .map (some m), .int .i64 (((count + 1 : Nat) : Int)), .int .i64 (((last + 1 : Nat) : Int))] 66) :: .obj m (mapO (putK (hshT (mk t.tr)) (.slice so8 (xs.length + 1) ca8) (bs.map Bk.en)) ck) :: .row 74 23 (.slice so8 ((xs.length + 1)) ca8) ((xs.length + 1)) (catC Et.c (xs ++ [⟨last + 1, k2, v2⟩])) :: (F9 ++ X)) := M.sub (.cons_cons _ (.cons_cons _ (.cons_cons _ ((List.Sublist.refl _).append (.cons _ (.cons _ (.cons _ (.cons _ (List.Sublist.refl _)))))))))
 exact ⟨rfl, so8, ca8, k2, v2, F9, hF9, M⟩
theorem set_hit {kind : Int} {mk : Tr → Tr} {ok : Tr → Bool} (hK : Marks kind mk ok) {w0 w : World} {g m count last ck : Nat} {bs : List Bk} {X : List Ck} {gg ca b0 i : Nat} {xs : List Et} {e : Et} (hX : noBld X) (hT : Tabs8 w0) (hB : ∀ w9, Mg w0 w9 (.obj g (.cells #[.int .i64 kind, .map (some m), .int .i64 (((count : Nat) : Int)), .int .i64 (((last : Nat) : Int))] 66) :: .obj m (mapO (bs.map Bk.en) ck) :: .row 74 23 (.slice (some ⟨gg, 0, none⟩) xs.length ca) xs.length (catC Et.c xs) :: X) → Tab w9 ok g kind m count last ck bs) {t v : Dt} (ht : ∀ w9, Mg w0 w9 X → t.rd w9) (hv : ∀ w9, Mg w0 w9 X → v.rd w9) (htb : t.tr.bulk ≤ 4000000) (hvb : v.tr.bulk ≤ 4000000) (hM0 : Mg w0 w (.obj g (.cells #[.int .i64 kind, .map (some m), .int .i64 (((count : Nat) : Int)), .int .i64 (((last : Nat) : Int))] 66) :: .obj m (mapO (bs.map Bk.en) ck) :: .row 74 23 (.slice (some ⟨gg, 0, none⟩) xs.length ca) xs.length (catC Et.c xs) :: X)) (hs : soundT shapeT t.tr = true) (hsv : soundT shapeT v.tr = true) (hok : ok t.tr = true) (hat : idxE (fun e => equT (mk t.tr) (mk e.k.tr)) (bucket bs (hshT (mk t.tr))) = ((i : Nat) : Int)) (hold : atK (hshT (mk t.tr)) (bs.map Bk.en) = some ⟨hshT (mk t.tr), .slice (some ⟨gg, 0, none⟩) xs.length ca, b0⟩) (hie : xs[i]? = some e) : Calls Tryz.prog 9 #[.pointer (some ⟨g, 0, none⟩), .agg (t.d.cells t.ts.length).toArray, .agg (v.d.cells v.ts.length).toArray] w fun e_ w' => e_ = .returned (.int .i64 0) ∧ ∃ v2 : Dt, ∃ F : List Ck, (v2.tr = v.tr ∧ Lives F v2 ∧ noBld F) ∧ Mg w0 w' (.obj g (.cells #[.int .i64 kind, .map (some m), .int .i64 (((count : Nat) : Int)), .int .i64 (((last : Nat) : Int))] 66) :: .obj m (mapO (bs.map Bk.en) ck) :: .row 74 23 (.slice (some ⟨gg, 0, none⟩) xs.length ca) xs.length (catC Et.c (xs.set i ⟨e.p, e.k, v2⟩)) :: (F ++ X)) := by
 have hil := (List.getElem?_eq_some_iff.1 hie).1
 have M : Mg w0 w (.obj g (.cells #[.int .i64 kind, .map (some m), .int .i64 (((count : Nat) : Int)), .int .i64 (((last : Nat) : Int))] 66) :: .obj m (mapO (bs.map Bk.en) ck) :: .row 74 23 (.slice (some ⟨gg, 0, none⟩) xs.length ca) xs.length (catC Et.c xs) :: X) := hM0
 refine walk_of (l := [(0, .pointer (some ⟨g, 0, none⟩)), (1, .agg (t.d.cells t.ts.length).toArray), (2, .agg (v.d.cells v.ts.length).toArray)]) Tryz.func9 rfl Tryz.ntmps9 rfl rfl ?_
 intro Q hret hnorm hP a A
 refine wsk fun K1 hK1 => wrl (s_new (vs := (t.d.cells t.ts.length)) (t := 38) A M rfl rfl rfl pg (does_box rfl rfl) (by decide) ?_)
 intro g2 w3 M a A
 refine s_new (vs := (v.d.cells v.ts.length)) (t := 38) A M rfl rfl rfl pg (does_box rfl rfl) (by decide) ?_
 intro g4 w5 M a A
 refine sda A λa A↦?_
 refine seq_end (hK1 _ _ (wsk fun K6 hK6 => wrl (sdm A λa A↦?_)))
 refine sdo A (m_loadS M TeD_isS_38 rfl 1 rfl (cs := (t.d.cells t.ts.length)) rfl rfl) λa A↦?_
 refine sdo A (m_loadS M TeD_isS_38 rfl 0 rfl (cs := (v.d.cells v.ts.length)) rfl rfl) λa A↦?_
 refine s_litE (e := 38) (sz := 11) (m := 1) (vs := cellsOf [v]) A M rfl rfl rfl (does_buildSlice rfl (by kernel_rfl)) rfl rfl (.inl (by decide)) ?_
 intro g7 w8 M a A
 refine sct A (ef rfl rfl) (find_ok hK (hB _ (M.dropn 3)) (ht _ (M.dropn 6)) htb (hT.below M.bel) (ts := [v]) (rt_own (ts := [v]) (M.has 0 rfl)).1 (fun u hu => by rw [List.mem_singleton.1 hu]; exact hv _ (M.dropn 6)) (by simp) hs (show ([v].any fun t => !soundT shapeT t.tr) = false from by simp [hsv]) hok) ?_
 rintro _ w10 ⟨he8, hb9⟩
 rw [hat] at he8
 subst he8
 replace M := M.call hb9
 refine ⟨_, rfl, ?_⟩
 intro a A
 refine sdm A λa A↦?_
 iterate 2 refine sdo A (does_extract (vs := [.agg #[.int .u64 (hshT (mk t.tr)), .int .i64 (((i : Nat) : Int))], .int .i64 0]) rfl rfl) λa A↦?_
 refine s_new (vs := [.int .u64 0, .int .i64 0]) (t := 69) A M rfl rfl rfl pg (does_alloc (z := .agg #[.int .u64 0, .int .i64 0]) (by kernel_rfl) rfl) (by decide) ?_
 intro g11 w12 M a A
 refine s_store (us := [.int .u64 (hshT (mk t.tr)), .int .i64 (((i : Nat) : Int))]) (L' := (.obj g11 (.cells #[.int .u64 (hshT (mk t.tr)), .int .i64 (((i : Nat) : Int))] 69) :: .row 38 11 (.slice (some ⟨g7, 0, none⟩) 1 1) 1 (cellsOf [v]) :: .obj g4 (.cells (v.d.cells v.ts.length).toArray 38) :: .obj g2 (.cells (t.d.cells t.ts.length).toArray 38) :: .obj g (.cells #[.int .i64 kind, .map (some m), .int .i64 (((count : Nat) : Int)), .int .i64 (((last : Nat) : Int))] 66) :: .obj m (mapO (bs.map Bk.en) ck) :: .row 74 23 (.slice (some ⟨gg, 0, none⟩) xs.length ca) xs.length (catC Et.c xs) :: X)) A M rfl rfl (m_store rfl rfl rfl (by kernel_rfl) M 0 rfl rfl rfl) 0 rfl rfl rfl ?_
 intro w13 M
 refine sda A λa A↦?_
 refine seq_end (hK6 _ _ (wsk fun K14 hK14 => wp_block (wsk fun K15 hK15 => wrl (sdm A λa A↦?_))))
 refine sdo (v := .bool false) A (does_bin rfl rfl (fun w => by kernel_rfl)) λa A↦?_
 refine sda A λa A↦?_
 refine seq_end (hK15 _ _ (wp_cond_false (A.ev rfl) ?_))
 refine wsk fun K16 hK16 => wrl (sdo A (m_loadS M TeD_isS_69 rfl 0 rfl (cs := [.int .u64 (hshT (mk t.tr)), .int .i64 (((i : Nat) : Int))]) rfl rfl) λa A↦?_)
 refine gcl A M (ef rfl rfl) (((show decide ((0 : Int) ≤ ((i : Nat) : Int)) = true from decide_eq_true (by omega)) ▸ there_any)) fun w17 hbt M a A => ?_
 refine sda A λa A↦?_
 refine seq_end (hK16 _ _ (wp_cond_true (A.ev rfl) ?_))
 refine wp_draw (S := fun w1 => Mg w0 w1 (.obj g11 (.cells #[.int .u64 (hshT (mk t.tr)), .int .i64 (((i : Nat) : Int))] 69) :: .obj g4 (.cells (v.d.cells v.ts.length).toArray 38) :: .obj g (.cells #[.int .i64 kind, .map (some m), .int .i64 (((count : Nat) : Int)), .int .i64 (((last : Nat) : Int))] 66) :: [])) (by kernel_rfl) ?_
 replace M := M.drew
 refine any_tk A 0 rfl rfl rfl rfl hP (M.sub (.cons_cons _ (.cons _ (.cons_cons _ (.cons _ (.cons_cons _ (.cons _ (.cons _ (List.nil_sublist _))))))))) (fun w1 M => does_move rfl) λa A↦?_
 refine any_tk A 1 rfl rfl rfl rfl hP (M.sub (.cons_cons _ (.cons _ (.cons_cons _ (.cons _ (.cons_cons _ (.cons _ (.cons _ (List.nil_sublist _))))))))) (fun w1 M => does_nilp rfl) λa A↦?_
 refine any_tk (v := .pointer (some ⟨g, 1, none⟩)) A 2 rfl rfl rfl rfl hP (M.sub (.cons_cons _ (.cons _ (.cons_cons _ (.cons _ (.cons_cons _ (.cons _ (.cons _ (List.nil_sublist _))))))))) (fun w1 M => does_field TeD_fld_66_1 rfl rfl) λa A↦?_
 refine any_tk A 3 rfl rfl rfl rfl hP (M.sub (.cons_cons _ (.cons _ (.cons_cons _ (.cons _ (.cons_cons _ (.cons _ (.cons _ (List.nil_sublist _))))))))) (fun w1 M => m_load1 M TeD_is1_64 rfl 2 rfl rfl) λa A↦?_
 refine any_tk (v := .pointer (some ⟨g11, 0, none⟩)) A 4 rfl rfl rfl rfl hP (M.sub (.cons_cons _ (.cons _ (.cons_cons _ (.cons _ (.cons_cons _ (.cons _ (.cons _ (List.nil_sublist _))))))))) (fun w1 M => does_field TeD_fld_69_0 rfl rfl) λa A↦?_
 refine any_tk A 5 rfl rfl rfl rfl hP (M.sub (.cons_cons _ (.cons _ (.cons_cons _ (.cons _ (.cons_cons _ (.cons _ (.cons _ (List.nil_sublist _))))))))) (fun w1 M => m_load1 M TeD_is1_67 rfl 0 rfl rfl) λa A↦?_
 refine any_tk (v := .pointer (some ⟨g11, 1, none⟩)) A 7 rfl rfl rfl rfl hP (M.sub (.cons_cons _ (.cons _ (.cons_cons _ (.cons _ (.cons_cons _ (.cons _ (.cons _ (List.nil_sublist _))))))))) (fun w1 M => does_field TeD_fld_69_1 rfl rfl) λa A↦?_
 refine any_tk A 8 rfl rfl rfl rfl hP (M.sub (.cons_cons _ (.cons _ (.cons_cons _ (.cons _ (.cons_cons _ (.cons _ (.cons _ (List.nil_sublist _))))))))) (fun w1 M => m_load1 M TeD_is1_3 rfl 0 rfl rfl) λa A↦?_
 refine any_tk A 9 rfl rfl rfl rfl hP (M.sub (.cons_cons _ (.cons _ (.cons_cons _ (.cons _ (.cons_cons _ (.cons _ (.cons _ (List.nil_sublist _))))))))) (fun w1 M => m_loadS M TeD_isS_38 rfl 1 rfl (cs := (v.d.cells v.ts.length)) rfl rfl) λa A↦?_
 refine any_many (rs := [6, 10]) (by kernel_rfl) (by simp) ⟨?_, ?_, trivial⟩
 ·
  refine op_do (v := .slice (some ⟨gg, 0, none⟩) xs.length ca) A 6 rfl rfl rfl rfl (m_lookY M Tryz.underlying64 Tryz.underlying67 rfl rfl 5 rfl hold rfl) (M.sub (.cons_cons _ (.cons _ (.cons_cons _ (.cons _ (.cons_cons _ (.cons _ (.cons _ (List.nil_sublist _))))))))) λa A↦?_
  have hz23 := M.bel.size
  refine any_one (by kernel_rfl) (op_call A 10 rfl rfl rfl rfl (enters_func rfl rfl (fun w => by kernel_rfl)) (copies_all v (hv _ (M.dropn 7)) (by omega)) ?_)
  rintro _ w24 ⟨c18, rfl, ⟨hcr19, hco21, hct20⟩, hb22⟩
  replace M : Mg w0 w24 (.obj g11 (.cells #[.int .u64 (hshT (mk t.tr)), .int .i64 (((i : Nat) : Int))] 69) :: .row 38 11 (.slice (some ⟨g7, 0, none⟩) 1 1) 1 (cellsOf [v]) :: .obj g4 (.cells (v.d.cells v.ts.length).toArray 38) :: .obj g2 (.cells (t.d.cells t.ts.length).toArray 38) :: .obj g (.cells #[.int .i64 kind, .map (some m), .int .i64 (((count : Nat) : Int)), .int .i64 (((last : Nat) : Int))] 66) :: .obj m (mapO (bs.map Bk.en) ck) :: .row 74 23 (.slice (some ⟨gg, 0, none⟩) xs.length ca) xs.length (catC Et.c xs) :: (made w17.drew w24 ++ X)) := M.freezeAt 7 (noBld_cons (by simp) (noBld_cons (by simp) (noBld_cons (by simp) (noBld_cons (by simp) (noBld_cons (by simp) (noBld_cons (by simp) (noBld_cons (by simp) hX))))))) hb22
  have hLc18 := lives_made hcr19 hco21
  replace hco21 := Dt.at_mono (fun b hb => Nat.le_trans hz23 hb) _ hco21
  refine ⟨_, rfl, (M.sub (.cons_cons _ (.cons _ (.cons_cons _ (.cons _ (.cons_cons _ (.cons _ (.cons _ (List.nil_sublist _))))))))), ?_⟩
  intro a A
  refine any_tk (v := .pointer (some ⟨gg, i * 23, none⟩)) A 11 rfl rfl rfl rfl hP (M.sub (.cons_cons _ (.cons _ (.cons_cons _ (.cons _ (.cons_cons _ (.cons _ (.cons _ (List.nil_sublist _))))))))) (fun w1 M => does_indexE (k := i) Tryz.underlying75 (by kernel_rfl) rfl rfl rfl (by omega)) λa A↦?_
  refine any_tk (v := .pointer (some ⟨gg, i * 23 + 12, none⟩)) A 12 rfl rfl rfl rfl hP (M.sub (.cons_cons _ (.cons _ (.cons_cons _ (.cons _ (.cons_cons _ (.cons _ (.cons _ (List.nil_sublist _))))))))) (fun w1 M => does_field TeD_fld_74_2 rfl rfl) λa A↦?_
  refine any_one (by kernel_rfl) (g_storeE (cs := (c18.d.cells c18.ts.length)) (L' := (.obj g11 (.cells #[.int .u64 (hshT (mk t.tr)), .int .i64 (((i : Nat) : Int))] 69) :: .row 38 11 (.slice (some ⟨g7, 0, none⟩) 1 1) 1 (cellsOf [v]) :: .obj g4 (.cells (v.d.cells v.ts.length).toArray 38) :: .obj g2 (.cells (t.d.cells t.ts.length).toArray 38) :: .obj g (.cells #[.int .i64 kind, .map (some m), .int .i64 (((count : Nat) : Int)), .int .i64 (((last : Nat) : Int))] 66) :: .obj m (mapO (bs.map Bk.en) ck) :: .row 74 23 (.slice (some ⟨gg, 0, none⟩) xs.length ca) xs.length (over (catC Et.c xs) (i * 23 + 12) (c18.d.cells c18.ts.length)) :: (made w17.drew w24 ++ X))) (us := []) A M 13 rfl rfl rfl (m_storeE rfl rfl rfl (by kernel_rfl) M 6 rfl (by show i * 23 + 12 + 11 ≤ _; omega) (cells_all c18)) 6 rfl rfl ?_)
  intro w25 M
  replace M : Mg w0 w25 (.obj g11 (.cells #[.int .u64 (hshT (mk t.tr)), .int .i64 (((i : Nat) : Int))] 69) :: .row 38 11 (.slice (some ⟨g7, 0, none⟩) 1 1) 1 (cellsOf [v]) :: .obj g4 (.cells (v.d.cells v.ts.length).toArray 38) :: .obj g2 (.cells (t.d.cells t.ts.length).toArray 38) :: .obj g (.cells #[.int .i64 kind, .map (some m), .int .i64 (((count : Nat) : Int)), .int .i64 (((last : Nat) : Int))] 66) :: .obj m (mapO (bs.map Bk.en) ck) :: .row 74 23 (.slice (some ⟨gg, 0, none⟩) xs.length ca) xs.length (catC Et.c (xs.set i ⟨e.p, e.k, c18⟩)) :: (made w17.drew w24 ++ X)) := by rw [et_val hie] at M; exact M
  refine ⟨(M.sub (.cons_cons _ (.cons _ (.cons_cons _ (.cons _ (.cons_cons _ (.cons _ (.cons _ (List.nil_sublist _))))))))), ?_⟩
  refine any_end (by kernel_rfl) ?_
  refine hK14 _ _ (wsk fun K26 hK26 => wrl (sda A λa A↦?_))
  refine seq_end (hK26 _ _ (wp_ret (hret _ _ (en1 A rfl (res_tmp rfl) ?_))))
  replace M : Mg w0 w25 (.row 74 23 (.slice (some ⟨gg, 0, none⟩) xs.length ca) xs.length (catC Et.c (xs.set i ⟨e.p, e.k, c18⟩)) :: .obj g11 (.cells #[.int .u64 (hshT (mk t.tr)), .int .i64 (((i : Nat) : Int))] 69) :: .row 38 11 (.slice (some ⟨g7, 0, none⟩) 1 1) 1 (cellsOf [v]) :: .obj g4 (.cells (v.d.cells v.ts.length).toArray 38) :: .obj g2 (.cells (t.d.cells t.ts.length).toArray 38) :: .obj g (.cells #[.int .i64 kind, .map (some m), .int .i64 (((count : Nat) : Int)), .int .i64 (((last : Nat) : Int))] 66) :: .obj m (mapO (bs.map Bk.en) ck) :: (made w17.drew w24 ++ X)) := M.bring 6 rfl rfl
  replace M : Mg w0 w25 (.obj m (mapO (bs.map Bk.en) ck) :: .row 74 23 (.slice (some ⟨gg, 0, none⟩) xs.length ca) xs.length (catC Et.c (xs.set i ⟨e.p, e.k, c18⟩)) :: .obj g11 (.cells #[.int .u64 (hshT (mk t.tr)), .int .i64 (((i : Nat) : Int))] 69) :: .row 38 11 (.slice (some ⟨g7, 0, none⟩) 1 1) 1 (cellsOf [v]) :: .obj g4 (.cells (v.d.cells v.ts.length).toArray 38) :: .obj g2 (.cells (t.d.cells t.ts.length).toArray 38) :: .obj g (.cells #[.int .i64 kind, .map (some m), .int .i64 (((count : Nat) : Int)), .int .i64 (((last : Nat) : Int))] 66) :: (made w17.drew w24 ++ X)) := M.bring 6 rfl rfl
  replace M : Mg w0 w25 (.obj g (.cells #[.int .i64 kind, .map (some m), .int .i64 (((count : Nat) : Int)), .int .i64 (((last : Nat) : Int))] 66) :: .obj m (mapO (bs.map Bk.en) ck) :: .row 74 23 (.slice (some ⟨gg, 0, none⟩) xs.length ca) xs.length (catC Et.c (xs.set i ⟨e.p, e.k, c18⟩)) :: .obj g11 (.cells #[.int .u64 (hshT (mk t.tr)), .int .i64 (((i : Nat) : Int))] 69) :: .row 38 11 (.slice (some ⟨g7, 0, none⟩) 1 1) 1 (cellsOf [v]) :: .obj g4 (.cells (v.d.cells v.ts.length).toArray 38) :: .obj g2 (.cells (t.d.cells t.ts.length).toArray 38) :: (made w17.drew w24 ++ X)) := M.bring 6 rfl rfl
  replace M : Mg w0 w25 (.obj g (.cells #[.int .i64 kind, .map (some m), .int .i64 (((count : Nat) : Int)), .int .i64 (((last : Nat) : Int))] 66) :: .obj m (mapO (bs.map Bk.en) ck) :: .row 74 23 (.slice (some ⟨gg, 0, none⟩) xs.length ca) xs.length (catC Et.c (xs.set i ⟨e.p, e.k, c18⟩)) :: (made w17.drew w24 ++ X)) := by
   have h9 := M.sub (.cons_cons _ (.cons_cons _ (.cons_cons _ (.cons _ (.cons _ (.cons _ (.cons _ (.refl _))))))))
   exact h9
  exact ⟨rfl, c18, _, ⟨hct20, hLc18, made_nob⟩, M⟩
 ·
  have hz32 := M.bel.size
  refine op_call A 10 rfl rfl rfl rfl (enters_func rfl rfl (fun w => by kernel_rfl)) (copies_all v (hv _ (M.dropn 7)) (by omega)) ?_
  rintro _ w33 ⟨c27, rfl, ⟨hcr28, hco30, hct29⟩, hb31⟩
  replace M : Mg w0 w33 (.obj g11 (.cells #[.int .u64 (hshT (mk t.tr)), .int .i64 (((i : Nat) : Int))] 69) :: .row 38 11 (.slice (some ⟨g7, 0, none⟩) 1 1) 1 (cellsOf [v]) :: .obj g4 (.cells (v.d.cells v.ts.length).toArray 38) :: .obj g2 (.cells (t.d.cells t.ts.length).toArray 38) :: .obj g (.cells #[.int .i64 kind, .map (some m), .int .i64 (((count : Nat) : Int)), .int .i64 (((last : Nat) : Int))] 66) :: .obj m (mapO (bs.map Bk.en) ck) :: .row 74 23 (.slice (some ⟨gg, 0, none⟩) xs.length ca) xs.length (catC Et.c xs) :: (made w17.drew w33 ++ X)) := M.freezeAt 7 (noBld_cons (by simp) (noBld_cons (by simp) (noBld_cons (by simp) (noBld_cons (by simp) (noBld_cons (by simp) (noBld_cons (by simp) (noBld_cons (by simp) hX))))))) hb31
  have hLc27 := lives_made hcr28 hco30
  replace hco30 := Dt.at_mono (fun b hb => Nat.le_trans hz32 hb) _ hco30
  refine ⟨_, rfl, (M.sub (.cons_cons _ (.cons _ (.cons_cons _ (.cons _ (.cons_cons _ (.cons _ (.cons _ (List.nil_sublist _))))))))), ?_⟩
  intro a A
  refine any_one (by kernel_rfl) (op_do (v := .slice (some ⟨gg, 0, none⟩) xs.length ca) A 6 rfl rfl rfl rfl (m_lookY M Tryz.underlying64 Tryz.underlying67 rfl rfl 5 rfl hold rfl) (M.sub (.cons_cons _ (.cons _ (.cons_cons _ (.cons _ (.cons_cons _ (.cons _ (.cons _ (List.nil_sublist _))))))))) ?_)
  intro a A
  refine any_tk (v := .pointer (some ⟨gg, i * 23, none⟩)) A 11 rfl rfl rfl rfl hP (M.sub (.cons_cons _ (.cons _ (.cons_cons _ (.cons _ (.cons_cons _ (.cons _ (.cons _ (List.nil_sublist _))))))))) (fun w1 M => does_indexE (k := i) Tryz.underlying75 (by kernel_rfl) rfl rfl rfl (by omega)) λa A↦?_
  refine any_tk (v := .pointer (some ⟨gg, i * 23 + 12, none⟩)) A 12 rfl rfl rfl rfl hP (M.sub (.cons_cons _ (.cons _ (.cons_cons _ (.cons _ (.cons_cons _ (.cons _ (.cons _ (List.nil_sublist _))))))))) (fun w1 M => does_field TeD_fld_74_2 rfl rfl) λa A↦?_
  refine any_one (by kernel_rfl) (g_storeE (cs := (c27.d.cells c27.ts.length)) (L' := (.obj g11 (.cells #[.int .u64 (hshT (mk t.tr)), .int .i64 (((i : Nat) : Int))] 69) :: .row 38 11 (.slice (some ⟨g7, 0, none⟩) 1 1) 1 (cellsOf [v]) :: .obj g4 (.cells (v.d.cells v.ts.length).toArray 38) :: .obj g2 (.cells (t.d.cells t.ts.length).toArray 38) :: .obj g (.cells #[.int .i64 kind, .map (some m), .int .i64 (((count : Nat) : Int)), .int .i64 (((last : Nat) : Int))] 66) :: .obj m (mapO (bs.map Bk.en) ck) :: .row 74 23 (.slice (some ⟨gg, 0, none⟩) xs.length ca) xs.length (over (catC Et.c xs) (i * 23 + 12) (c27.d.cells c27.ts.length)) :: (made w17.drew w33 ++ X))) (us := []) A M 13 rfl rfl rfl (m_storeE rfl rfl rfl (by kernel_rfl) M 6 rfl (by show i * 23 + 12 + 11 ≤ _; omega) (cells_all c27)) 6 rfl rfl ?_)
  intro w34 M
  replace M : Mg w0 w34 (.obj g11 (.cells #[.int .u64 (hshT (mk t.tr)), .int .i64 (((i : Nat) : Int))] 69) :: .row 38 11 (.slice (some ⟨g7, 0, none⟩) 1 1) 1 (cellsOf [v]) :: .obj g4 (.cells (v.d.cells v.ts.length).toArray 38) :: .obj g2 (.cells (t.d.cells t.ts.length).toArray 38) :: .obj g (.cells #[.int .i64 kind, .map (some m), .int .i64 (((count : Nat) : Int)), .int .i64 (((last : Nat) : Int))] 66) :: .obj m (mapO (bs.map Bk.en) ck) :: .row 74 23 (.slice (some ⟨gg, 0, none⟩) xs.length ca) xs.length (catC Et.c (xs.set i ⟨e.p, e.k, c27⟩)) :: (made w17.drew w33 ++ X)) := by rw [et_val hie] at M; exact M
  refine ⟨(M.sub (.cons_cons _ (.cons _ (.cons_cons _ (.cons _ (.cons_cons _ (.cons _ (.cons _ (List.nil_sublist _))))))))), ?_⟩
  refine any_end (by kernel_rfl) ?_
  refine hK14 _ _ (wsk fun K35 hK35 => wrl (sda A λa A↦?_))
  refine seq_end (hK35 _ _ (wp_ret (hret _ _ (en1 A rfl (res_tmp rfl) ?_))))
  replace M : Mg w0 w34 (.row 74 23 (.slice (some ⟨gg, 0, none⟩) xs.length ca) xs.length (catC Et.c (xs.set i ⟨e.p, e.k, c27⟩)) :: .obj g11 (.cells #[.int .u64 (hshT (mk t.tr)), .int .i64 (((i : Nat) : Int))] 69) :: .row 38 11 (.slice (some ⟨g7, 0, none⟩) 1 1) 1 (cellsOf [v]) :: .obj g4 (.cells (v.d.cells v.ts.length).toArray 38) :: .obj g2 (.cells (t.d.cells t.ts.length).toArray 38) :: .obj g (.cells #[.int .i64 kind, .map (some m), .int .i64 (((count : Nat) : Int)), .int .i64 (((last : Nat) : Int))] 66) :: .obj m (mapO (bs.map Bk.en) ck) :: (made w17.drew w33 ++ X)) := M.bring 6 rfl rfl
  replace M : Mg w0 w34 (.obj m (mapO (bs.map Bk.en) ck) :: .row 74 23 (.slice (some ⟨gg, 0, none⟩) xs.length ca) xs.length (catC Et.c (xs.set i ⟨e.p, e.k, c27⟩)) :: .obj g11 (.cells #[.int .u64 (hshT (mk t.tr)), .int .i64 (((i : Nat) : Int))] 69) :: .row 38 11 (.slice (some ⟨g7, 0, none⟩) 1 1) 1 (cellsOf [v]) :: .obj g4 (.cells (v.d.cells v.ts.length).toArray 38) :: .obj g2 (.cells (t.d.cells t.ts.length).toArray 38) :: .obj g (.cells #[.int .i64 kind, .map (some m), .int .i64 (((count : Nat) : Int)), .int .i64 (((last : Nat) : Int))] 66) :: (made w17.drew w33 ++ X)) := M.bring 6 rfl rfl
  replace M : Mg w0 w34 (.obj g (.cells #[.int .i64 kind, .map (some m), .int .i64 (((count : Nat) : Int)), .int .i64 (((last : Nat) : Int))] 66) :: .obj m (mapO (bs.map Bk.en) ck) :: .row 74 23 (.slice (some ⟨gg, 0, none⟩) xs.length ca) xs.length (catC Et.c (xs.set i ⟨e.p, e.k, c27⟩)) :: .obj g11 (.cells #[.int .u64 (hshT (mk t.tr)), .int .i64 (((i : Nat) : Int))] 69) :: .row 38 11 (.slice (some ⟨g7, 0, none⟩) 1 1) 1 (cellsOf [v]) :: .obj g4 (.cells (v.d.cells v.ts.length).toArray 38) :: .obj g2 (.cells (t.d.cells t.ts.length).toArray 38) :: (made w17.drew w33 ++ X)) := M.bring 6 rfl rfl
  replace M : Mg w0 w34 (.obj g (.cells #[.int .i64 kind, .map (some m), .int .i64 (((count : Nat) : Int)), .int .i64 (((last : Nat) : Int))] 66) :: .obj m (mapO (bs.map Bk.en) ck) :: .row 74 23 (.slice (some ⟨gg, 0, none⟩) xs.length ca) xs.length (catC Et.c (xs.set i ⟨e.p, e.k, c27⟩)) :: (made w17.drew w33 ++ X)) := by
   have h9 := M.sub (.cons_cons _ (.cons_cons _ (.cons_cons _ (.cons _ (.cons _ (.cons _ (.cons _ (.refl _))))))))
   exact h9
  exact ⟨rfl, c27, _, ⟨hct29, hLc27, made_nob⟩, M⟩
end Go.Proofs.YtjlpecapebhgjaaGreatDoor.G
