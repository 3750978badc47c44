/- Walks of sound data. Walks of Write and Display. Walks of characters and strings as the document writes them. Characters and bytes go by one order. The characters of a symbol, one after the other. Walks of symbols as the document writes them. The firsts of a list, one after the other, as a row of data; what the text of a list is made of. Walks of data as the document writes them. Walks of the document's Sound. The walk of the document's Sound. Walks of Tell and of the law. -/
import Derived.Test.YtabpjchfkbhfpaaGreatDoorPwritet10h
import Derived.Test.YtabpjchfkbhfpaaGreatDoorPwritet10g
import Derived.Test.YtabpjchfkbhfpaaGreatDoorPwritet10e
import Derived.Lib.MapLaws
import Derived.Test.YtabpjchfkbhfpaaGreatDoorPwritet10d
namespace Go.Proofs.YtabpjchfkbhfpaaGreatDoor.G
open Go.RowKit
set_option linter.unusedVariables false
set_option linter.unusedSimpArgs false
set_option maxRecDepth 100000
theorem TrC_is1_28 : Is1 Tryz.prog 28 := ⟨⟨_, Tryz.underlying28, rfl⟩, by kernel_rfl⟩
theorem TrC_fld_30_5 : FieldAt Tryz.prog 30 5 10 := ⟨_, _, Tryz.underlying30, rfl, rfl, by kernel_rfl⟩
theorem TrC_isS_30 : IsS Tryz.prog 30 11 := ⟨⟨_, Tryz.underlying30⟩, by kernel_rfl⟩
theorem Mg.here {w0 w : World} {L : List Ck} (h : Mg w0 w L) (k : Nat) {g : Nat} {cs : List Value} {t : TypeId} (hk : L[k]? = some (.obj g (.cells cs.toArray t))) : Here w g 0 cs := ⟨(Array.getElem?_eq_some_iff.1 (h.obj k hk)).1, fun j v hj => by rw [Nat.zero_add]; exact h.cell k hk j hj⟩
def Through (t : Dt) : Prop := ∀ {w : World}, t.rd w → Tabs8 w → Calls Tryz.prog 22 #[.agg t.cells.toArray] w fun e w' => e = .returned (.bool (uz jc t.tr)) ∧ Below w.heap.size w w'
theorem qhj : ∀ t : Dt, Through t := Dt.indT fun d ts ih => by
 intro w hrd hT
 have hok := (Dt.rd_iff.1 hrd)
 have hlen : ts.length ≤ 9223372036854775807 := Nat.le_trans hok.2.1 hok.2.2.1
 have M : Mg w w ([]) := Mg.start w
 refine qm (l := [(0, .agg (d.cells ts.length).toArray)]) Tryz.func22 rfl Tryz.ntmps22 rfl rfl ?_
 intro Q hret hnorm hP a A
 refine wsk fun K1 hK1 => wrl (xa (vs := [.int .i64 d.k, .int .i64 d.n, .bool d.y.q.b1, .slice d.y.o1 d.y.q.t1.length d.y.c1, .slice d.y.o2 d.y.q.q1.length d.y.c2, .bool d.y.q.b2, .slice d.y.o3 d.y.q.t2.length d.y.c3, .slice d.y.o4 d.y.q.q2.length d.y.c4, .string d.s, .slice d.ro d.rl.length d.rc, .slice d.lo ts.length d.lc]) (t := 30) A M rfl rfl rfl pg (zb rfl rfl) (by decide) ?_)
 intro g2 w3 M a A
 refine sda A λa A↦?_
 refine qa (hK1 _ _ (wsk fun K4 hK4 => wsk fun K5 hK5 => wrl (sdo A (zn M TrC_isS_30 rfl 0 rfl (cs := [.int .i64 d.k, .int .i64 d.n, .bool d.y.q.b1, .slice d.y.o1 d.y.q.t1.length d.y.c1, .slice d.y.o2 d.y.q.q1.length d.y.c2, .bool d.y.q.b2, .slice d.y.o3 d.y.q.t2.length d.y.c3, .slice d.y.o4 d.y.q.q2.length d.y.c4, .string d.s, .slice d.ro d.rl.length d.rc, .slice d.lo ts.length d.lc]) rfl rfl) λa A↦?_)))
 rcases tf (jj d.k d.n d.y.q d.s d.rl.length ts.length) with hb6 | hb6
 ·
  refine gcl A M (ef rfl rfl) ((hb6 ▸ qld (ts := ts) (hok.1.below M.bel) (hT.below M.bel))) fun w8 hb7 M a A => ?_
  refine sdo (v := .bool false) A (qy rfl zj) λa A↦?_
  refine qa (hK5 _ _ (wp_cond_false (A.ev rfl) ?_))
  refine wp_skip (hK4 _ _ (wsk fun K9 hK9 => wsk fun K10 hK10 => wrl (sdo (v := .pointer (some ⟨g2, 10, none⟩)) A (qb TrC_fld_30_5 rfl rfl) λa A↦?_)))
  refine sdo A (qk M TrC_is1_28 rfl 0 rfl rfl) λa A↦?_
  refine sdo A (qx Tryz.underlying28 rfl) λa A↦?_
  refine sdm A λa A↦?_
  refine qa (hK10 _ _ (wp_block (zt (fun m_ a w1 => ∃ (i : Nat), m_ = 1 + (ts.length - i) ∧ (i ≤ ts.length ∧ qdd jc ((ts.map Dt.tr).drop 0) = qdd jc ((ts.map Dt.tr).drop i)) ∧ Sl a 19 [(0, .agg (d.cells ts.length).toArray), (1, .pointer (some ⟨g2, 0, none⟩)), (5, .agg (d.cells ts.length).toArray), (6, .bool true), (7, .bool false), (8, .pointer (some ⟨g2, 10, none⟩)), (9, .slice d.lo ts.length d.lc), (10, .int .i64 (((ts.length : Nat) : Int))), (11, .int .i64 (((i : Nat) : Int)))] ∧ Mg w w1 (.obj g2 (.cells (d.cells ts.length).toArray 30) :: [])) _ ⟨0, rfl, ⟨Nat.zero_le _, rfl⟩, A.keep _ ⟨rfl, rfl, rfl, rfl, rfl, rfl, rfl, rfl, rfl, trivial⟩, M⟩ ?_)))
  clear M A
  rintro m_ a w11 ⟨i, rfl, hinv13, A, M⟩ K12 hK12
  obtain ⟨hi0, hin9⟩ := hinv13
  refine wsk fun K14 hK14 => wrl ?_
  rcases tf (decide (((i : Nat) : Int) < ((ts.length : Nat) : Int))) with hb15 | hb15
  ·
   have hb15' := of_decide_eq_true hb15
   refine sdc A zg hb15 λa A↦?_
   refine qa (hK14 _ _ (wsk fun K16 hK16 => wp_cond_true (A.ev rfl) ?_))
   refine wp_skip (hK16 _ _ (wsk fun K17 hK17 => wp_block (wsk fun K18 hK18 => ?_)))
   obtain ⟨t1, b1, o1, hi1, hm1, hr1, hl1, hH1⟩ := kid hrd (i := i) (by omega)
   refine wrl (sdo (v := .pointer (some ⟨b1, o1 + i * 11, none⟩)) A (zk (k := i) Tryz.underlying28 (by kernel_rfl) rfl rfl rfl hl1 (by omega)) λa A↦?_)
   refine sdo A (jt M hH1 TrC_isS_30 rfl rfl) λa A↦?_
   refine xa (vs := [.int .i64 0, .int .i64 0, .bool false, .slice none 0 0, .slice none 0 0, .bool false, .slice none 0 0, .slice none 0 0, .string (⟨#[]⟩), .slice none 0 0, .slice none 0 0]) (t := 30) A M rfl rfl rfl pg (zv (z := .agg #[.int .i64 0, .int .i64 0, .bool false, .slice none 0 0, .slice none 0 0, .bool false, .slice none 0 0, .slice none 0 0, .string (⟨#[]⟩), .slice none 0 0, .slice none 0 0]) (by kernel_rfl) rfl) (by decide) ?_
   intro g19 w20 M a A
   refine qz (us := [.int .i64 t1.d.k, .int .i64 t1.d.n, .bool t1.d.y.q.b1, .slice t1.d.y.o1 t1.d.y.q.t1.length t1.d.y.c1, .slice t1.d.y.o2 t1.d.y.q.q1.length t1.d.y.c2, .bool t1.d.y.q.b2, .slice t1.d.y.o3 t1.d.y.q.t2.length t1.d.y.c3, .slice t1.d.y.o4 t1.d.y.q.q2.length t1.d.y.c4, .string t1.d.s, .slice t1.d.ro t1.d.rl.length t1.d.rc, .slice t1.d.lo t1.ts.length t1.d.lc]) (L' := (.obj g19 (.cells (t1.d.cells t1.ts.length).toArray 30) :: .obj g2 (.cells (d.cells ts.length).toArray 30) :: [])) A M rfl rfl (qw rfl rfl rfl (by kernel_rfl) M 0 rfl rfl rfl) 0 rfl rfl rfl ?_
   intro w21 M
   refine qa (hK18 _ _ (wsk fun K22 hK22 => wrl (sdo A (zn M TrC_isS_30 rfl 0 rfl (cs := [.int .i64 t1.d.k, .int .i64 t1.d.n, .bool t1.d.y.q.b1, .slice t1.d.y.o1 t1.d.y.q.t1.length t1.d.y.c1, .slice t1.d.y.o2 t1.d.y.q.q1.length t1.d.y.c2, .bool t1.d.y.q.b2, .slice t1.d.y.o3 t1.d.y.q.t2.length t1.d.y.c3, .slice t1.d.y.o4 t1.d.y.q.q2.length t1.d.y.c4, .string t1.d.s, .slice t1.d.ro t1.d.rl.length t1.d.rc, .slice t1.d.lo t1.ts.length t1.d.lc]) rfl rfl) λa A↦?_)))
   rcases tf (uz jc t1.tr) with hb23 | hb23
   ·
    refine gcl A M (ef rfl rfl) ((hb23 ▸ ih t1 hm1 (Dt.keep M.bel _ hr1) (hT.below M.bel))) fun w25 hb24 M a A => ?_
    refine sdo (v := .bool false) A (qy rfl zj) λa A↦?_
    refine qa (hK22 _ _ (wp_cond_false (A.ev rfl) ?_))
    refine wp_skip (hK17 _ _ (wrl (sdo (v := .int .i64 (((i + 1 : Nat) : Int))) A (qe rfl rfl (fun w => (zx (jw (by omega) (by omega)) w).trans (by rw [show (((i : Nat) : Int) + 1 : Int) = ((i + 1 : Nat) : Int) from by omega]))) λa A↦?_)))
    refine sdm A λa A↦?_
    refine qa ?_
    replace M : Mg w w25 (.obj g2 (.cells (d.cells ts.length).toArray 30) :: []) := by
     have h9 := M.sub (.cons _ (.cons_cons _ (.refl _)))
     exact h9
    refine hK12 _ _ _ (by omega) ⟨i + 1, rfl, ⟨by omega, by rw [hin9, zaf hi1, hb23, Bool.true_and]⟩, A.keep _ ⟨rfl, rfl, rfl, rfl, rfl, rfl, rfl, rfl, rfl, trivial⟩, M⟩
   ·
    refine gcl A M (ef rfl rfl) ((hb23 ▸ ih t1 hm1 (Dt.keep M.bel _ hr1) (hT.below M.bel))) fun w27 hb26 M a A => ?_
    refine sdo (v := .bool true) A (qy rfl zj) λa A↦?_
    refine qa (hK22 _ _ (wp_cond_true (A.ev rfl) ?_))
    refine wsk fun K28 hK28 => wrl (sda A λa A↦?_)
    refine qa (hK28 _ _ (wp_ret (hret _ _ (en1 A rfl (qf rfl) ?_))))
    rw [show uz jc (Dt.mk d ts).tr = false from by rw [qif, kn, hb6, Bool.true_and, hin9, zaf hi1, hb23, Bool.false_and]]
    exact ⟨rfl, M.bel⟩
  ·
   have hb15' := of_decide_eq_false hb15
   refine sdc A zg hb15 λa A↦?_
   refine qa (hK14 _ _ (wsk fun K29 hK29 => wp_cond_false (A.ev rfl) ?_))
   refine wp_exit (hK9 _ _ (wsk fun K30 hK30 => wrl (sda A λa A↦?_)))
   refine qa (hK30 _ _ (wp_ret (hret _ _ (en1 A rfl (qf rfl) ?_))))
   rw [show uz jc (Dt.mk d ts).tr = true from by rw [qif, kn, hb6, Bool.true_and, hin9, uf (by omega), qdd]]
   exact ⟨rfl, M.bel⟩
 ·
  refine gcl A M (ef rfl rfl) ((hb6 ▸ qld (ts := ts) (hok.1.below M.bel) (hT.below M.bel))) fun w32 hb31 M a A => ?_
  refine sdo (v := .bool true) A (qy rfl zj) λa A↦?_
  refine qa (hK5 _ _ (wp_cond_true (A.ev rfl) ?_))
  refine wsk fun K33 hK33 => wrl (sda A λa A↦?_)
  refine qa (hK33 _ _ (wp_ret (hret _ _ (en1 A rfl (qf rfl) ?_))))
  rw [show uz jc (Dt.mk d ts).tr = false from by rw [qif, kn, hb6, Bool.false_and]]
  exact ⟨rfl, M.bel⟩
theorem qve {w : World} {d : Nd} {ts : List Dt} (hrd : (Dt.mk d ts).rd w) : Calls Tryz.prog 21 #[.agg (d.cells ts.length).toArray] w fun e w' => e = .returned (.bool (jo 1 20000 (Dt.mk d ts).tr).1) ∧ Below w.heap.size w w' := by
 have M : Mg w w ([]) := Mg.start w
 refine qm (l := [(0, .agg (d.cells ts.length).toArray)]) Tryz.func21 rfl Tryz.ntmps21 rfl rfl ?_
 intro Q hret hnorm hP a A
 refine wsk fun K1 hK1 => wrl (xa (vs := [.int .i64 d.k, .int .i64 d.n, .bool d.y.q.b1, .slice d.y.o1 d.y.q.t1.length d.y.c1, .slice d.y.o2 d.y.q.q1.length d.y.c2, .bool d.y.q.b2, .slice d.y.o3 d.y.q.t2.length d.y.c3, .slice d.y.o4 d.y.q.q2.length d.y.c4, .string d.s, .slice d.ro d.rl.length d.rc, .slice d.lo ts.length d.lc]) (t := 30) A M rfl rfl rfl pg (zb rfl rfl) (by decide) ?_)
 intro g2 w3 M a A
 refine sda A λa A↦?_
 refine qa (hK1 _ _ (wsk fun K4 hK4 => ?_))
 have hB1 := M.bel
 have hH1 := M.here 0 (cs := d.cells ts.length) rfl
 replace M : Mg w3 w3 [] := Mg.start w3
 refine wrl (xa (vs := [.int .i64 0]) (t := 3) A M rfl rfl rfl pg (zv (z := .int .i64 0) (by kernel_rfl) rfl) (by decide) ?_)
 intro g5 w6 M a A
 refine qz (us := [.int .i64 20000]) (L' := (.obj g5 (.cells #[.int .i64 20000] 3) :: [])) A M rfl rfl (qw rfl rfl rfl (by kernel_rfl) M 0 rfl rfl rfl) 0 rfl rfl rfl ?_
 intro w7 M
 refine qa (hK4 _ _ (wsk fun K8 hK8 => wrl (sct A (ef rfl rfl) (qze (Dt.mk d ts) (Dt.keep hB1 _ hrd) hH1 M (by omega) (by omega) (by omega) (by omega)) ?_)))
 rintro _ w10 ⟨rfl, hM9⟩
 replace M : Mg w3 w10 (.obj g5 (.cells #[.int .i64 ((jo 1 20000 (Dt.mk d ts).tr).2)] 3) :: []) := hM9
 refine ⟨_, rfl, ?_⟩
 intro a A
 refine sda A λa A↦?_
 refine qa (hK8 _ _ (wp_ret (hret _ _ (en1 A rfl (qf rfl) ?_))))
 exact ⟨rfl, hB1.trans (M.bel.mono hB1.size)⟩
theorem zjb {w : World} {d : Nd} {ts : List Dt} (hrd : (Dt.mk d ts).rd w) (hT : Tabs8 w) : Calls Tryz.prog 11 #[.agg (d.cells ts.length).toArray] w fun e w' => e = .returned (.bool (xv jc (Dt.mk d ts).tr)) ∧ Below w.heap.size w w' := by
 have M : Mg w w ([]) := Mg.start w
 refine qm (l := [(0, .agg (d.cells ts.length).toArray)]) Tryz.func11 rfl Tryz.ntmps11 rfl rfl ?_
 intro Q hret hnorm hP a A
 refine wsk fun K1 hK1 => wrl (xa (vs := [.int .i64 d.k, .int .i64 d.n, .bool d.y.q.b1, .slice d.y.o1 d.y.q.t1.length d.y.c1, .slice d.y.o2 d.y.q.q1.length d.y.c2, .bool d.y.q.b2, .slice d.y.o3 d.y.q.t2.length d.y.c3, .slice d.y.o4 d.y.q.q2.length d.y.c4, .string d.s, .slice d.ro d.rl.length d.rc, .slice d.lo ts.length d.lc]) (t := 30) A M rfl rfl rfl pg (zb rfl rfl) (by decide) ?_)
 intro g2 w3 M a A
 refine sda A λa A↦?_
 refine qa (hK1 _ _ (wsk fun K4 hK4 => wrl (sdo A (zn M TrC_isS_30 rfl 0 rfl (cs := [.int .i64 d.k, .int .i64 d.n, .bool d.y.q.b1, .slice d.y.o1 d.y.q.t1.length d.y.c1, .slice d.y.o2 d.y.q.q1.length d.y.c2, .bool d.y.q.b2, .slice d.y.o3 d.y.q.t2.length d.y.c3, .slice d.y.o4 d.y.q.q2.length d.y.c4, .string d.s, .slice d.ro d.rl.length d.rc, .slice d.lo ts.length d.lc]) rfl rfl) λa A↦?_)))
 rcases tf ((jo 1 20000 (Dt.mk d ts).tr).1) with hb5 | hb5
 ·
  refine gcl A M (ef rfl rfl) ((hb5 ▸ qve (Dt.keep M.bel _ hrd))) fun w7 hb6 M a A => ?_
  refine sdm A λa A↦?_
  refine sdo A (zn M TrC_isS_30 rfl 0 rfl (cs := [.int .i64 d.k, .int .i64 d.n, .bool d.y.q.b1, .slice d.y.o1 d.y.q.t1.length d.y.c1, .slice d.y.o2 d.y.q.q1.length d.y.c2, .bool d.y.q.b2, .slice d.y.o3 d.y.q.t2.length d.y.c3, .slice d.y.o4 d.y.q.q2.length d.y.c4, .string d.s, .slice d.ro d.rl.length d.rc, .slice d.lo ts.length d.lc]) rfl rfl) λa A↦?_
  rcases tf (uz jc (Dt.mk d ts).tr) with hb8 | hb8
  ·
   refine gcl A M (ef rfl rfl) ((hb8 ▸ qhj (Dt.mk d ts) (Dt.keep M.bel _ hrd) (hT.below M.bel))) fun w10 hb9 M a A => ?_
   refine sdk (v := .bool true) A λa A↦?_
   refine sda A λa A↦?_
   refine qa (hK4 _ _ (wp_ret (hret _ _ (en1 A rfl (qf rfl) ?_))))
   exact ⟨by unfold xv; simp_all, M.bel⟩
  ·
   refine gcl A M (ef rfl rfl) ((hb8 ▸ qhj (Dt.mk d ts) (Dt.keep M.bel _ hrd) (hT.below M.bel))) fun w12 hb11 M a A => ?_
   refine sdk (v := .bool false) A λa A↦?_
   refine sda A λa A↦?_
   refine qa (hK4 _ _ (wp_ret (hret _ _ (en1 A rfl (qf rfl) ?_))))
   exact ⟨by unfold xv; simp_all, M.bel⟩
 ·
  refine gcl A M (ef rfl rfl) ((hb5 ▸ qve (Dt.keep M.bel _ hrd))) fun w14 hb13 M a A => ?_
  refine sdm A λa A↦?_
  iterate 2 refine qh A rfl rfl rfl λa A↦?_
  refine sdk (v := .bool false) A λa A↦?_
  refine sda A λa A↦?_
  refine qa (hK4 _ _ (wp_ret (hret _ _ (en1 A rfl (qf rfl) ?_))))
  exact ⟨by unfold xv; simp_all, M.bel⟩
theorem sound_any {w : World} {t : Dt} (hrd : t.rd w) (hT : Tabs8 w) : Calls Tryz.prog 11 #[.agg t.cells.toArray] w fun e w' => e = .returned (.bool (xv jc t.tr)) ∧ Below w.heap.size w w' := by
 obtain ⟨d, ts⟩ := t
 exact zjb hrd hT
theorem TwK_fld_42_0 : FieldAt Tryz.prog 42 0 0 := ⟨_, _, Tryz.underlying42, rfl, rfl, by kernel_rfl⟩
theorem TwK_isS_30 : IsS Tryz.prog 30 11 := ⟨⟨_, Tryz.underlying30⟩, by kernel_rfl⟩
theorem qrj (W : World) (q : Option Addr) : (Builtin.unsafeString_ #[61, 3] 9 #[.pointer q, .int .i64 0]).run Tryz.prog W = .ok (.string .empty) W := Lib.run_unsafeString_none W _ _ _ q
set_option maxHeartbeats 1000000 in
set_option maxRecDepth 100000 in
theorem znb {w : World} {B gw : Nat} {p q : Value} (hbk : w.heap[gw]? = some (.cells #[p, .slice none 0 0, q] 42 (0, 0))) : Calls Tryz.prog 13 #[.pointer (some ⟨gw, 0, none⟩)] w fun e w' => e = .returned (.string ⟨#[]⟩) ∧ Below B w w' := by
 have mixed : Tryz.prog.follows .mixedOrders = true := by kernel_rfl
 have c1 : w.drew.cell? ⟨gw, 1, none⟩ = some (.slice none 0 0) := by
  have : w.drew.heap[gw]? = some (.cells #[p, .slice none 0 0, q] 42 (0, 0)) := hbk
  rw [Lib.cell_of_heap this]; rfl
 have hSD : (Builtin.unsafeSliceData_ #[27] 61 #[.slice none 0 0]).run Tryz.prog w.drew = .ok (.pointer none) w.drew := rfl
 have hUS := qrj
 go_enter Tryz.func13, Tryz.ntmps13
 go_wp2
 go_region_o
 all_goals (go_wp2; go_ret; exact ⟨rfl, Below.drew (Below.refl B w)⟩)
set_option maxHeartbeats 1000000 in
set_option maxRecDepth 100000 in
theorem zjc {w : World} {B gw g cap : Nat} {p q : Value} (hc0 : cap ≠ 0) (hbk : w.heap[gw]? = some (.cells #[p, .slice (some ⟨g, 0, none⟩) 0 cap, q] 42 (0, 0))) : Calls Tryz.prog 13 #[.pointer (some ⟨gw, 0, none⟩)] w fun e w' => e = .returned (.string ⟨#[]⟩) ∧ Below B w w' := by
 have mixed : Tryz.prog.follows .mixedOrders = true := by kernel_rfl
 have c1 : w.drew.cell? ⟨gw, 1, none⟩ = some (.slice (some ⟨g, 0, none⟩) 0 cap) := by
  have : w.drew.heap[gw]? = some (.cells #[p, .slice (some ⟨g, 0, none⟩) 0 cap, q] 42 (0, 0)) := hbk
  rw [Lib.cell_of_heap this]; rfl
 have hSD : (Builtin.unsafeSliceData_ #[27] 61 #[.slice (some ⟨g, 0, none⟩) 0 cap]).run Tryz.prog w.drew = .ok (.pointer (some ⟨g, 0, none⟩)) w.drew :=
  Lib.run_unsafeSliceData_row _ _ _ _ _ _ hc0
 clear hc0
 have hUS := qrj
 go_enter Tryz.func13, Tryz.ntmps13
 go_wp2
 go_region_o
 all_goals (go_wp2; go_ret; exact ⟨rfl, Below.drew (Below.refl B w)⟩)
set_option maxHeartbeats 1000000 in
set_option maxRecDepth 100000 in
theorem qzf {w : World} {B gw g : Nat} {p q : Value} {cur : Array Value} (hBw : B ≤ w.heap.size) (hbk : w.heap[gw]? = some (.cells #[p, .slice (some ⟨g, 0, none⟩) 0 0, q] 42 (0, 0))) (hg : w.heap[g]? = some (.cells cur 5 (0, 0))) : Calls Tryz.prog 13 #[.pointer (some ⟨gw, 0, none⟩)] w fun e w' => e = .returned (.string ⟨#[]⟩) ∧ Below B w w' := by
 have mixed : Tryz.prog.follows .mixedOrders = true := by kernel_rfl
 have hlt : gw < w.heap.size := by
  rcases Nat.lt_or_ge gw w.heap.size with h' | h'
  ·
   exact h'
  ·
   simp [Array.getElem?_eq_none h'] at hbk
 have c1 : w.drew.cell? ⟨gw, 1, none⟩ = some (.slice (some ⟨g, 0, none⟩) 0 0) := by
  have : w.drew.heap[gw]? = some (.cells #[p, .slice (some ⟨g, 0, none⟩) 0 0, q] 42 (0, 0)) := hbk
  rw [Lib.cell_of_heap this]; rfl
 have hSD : (Builtin.unsafeSliceData_ #[27] 61 #[.slice (some ⟨g, 0, none⟩) 0 0]).run Tryz.prog w.drew = .ok (.pointer (some ⟨w.drew.heap.size, 0, none⟩)) (w.drew.alloc (.view ⟨g, 0, none⟩ 5)) :=
  Lib.run_unsafeSliceData_zero w.drew _ _ 5 Tryz.underlying61 ⟨g, 0, none⟩ 0 (5, cur.size) (by have hg' : w.drew.heap[g]? = some (.cells cur 5 (0, 0)) := hg; simp [World.shape?, hg'])
 have c2 : (w.drew.alloc (.view ⟨g, 0, none⟩ 5)).cell? ⟨gw, 1, none⟩ = some (.slice (some ⟨g, 0, none⟩) 0 0) := by
  have : (w.drew.alloc (.view ⟨g, 0, none⟩ 5)).heap[gw]? = _ := (Lib.alloc_old w.drew _ gw hlt).trans hbk
  rw [Lib.cell_of_heap this]; rfl
 have c3 : (w.alloc (.view ⟨g, 0, none⟩ 5)).drew.cell? ⟨gw, 1, none⟩ = some (.slice (some ⟨g, 0, none⟩) 0 0) := c2
 have c0 : w.cell? ⟨gw, 1, none⟩ = some (.slice (some ⟨g, 0, none⟩) 0 0) := c1
 have hUS := qrj
 go_enter Tryz.func13, Tryz.ntmps13
 go_wp2
 go_region_o
 all_goals (go_wp2; go_ret; exact ⟨rfl, (Below.drew (Below.refl B w)).alloc hBw _⟩)
theorem zdj {w0 w : World} {gw : Nat} {p v : Value} {pl : Bool} {bs : List UInt8} {T : List Ck} (M : Mg w0 w (.obj gw (.cells #[p, v, .bool pl] 42) :: .row BY 1 v bs.length (Lib.byteCells bs) :: T)) (hmax : bs.length ≤ 9223372036854775807) : Calls Tryz.prog 13 #[.pointer (some ⟨gw, 0, none⟩)] w fun e w' => e = .returned (.string ⟨bs.toArray⟩) ∧ Below w0.heap.size w w' := by
 have hown := M.has 1 rfl
 have hb := M.obj 0 rfl
 rcases hown.2 with ⟨rfl, hz⟩ | ⟨g, cap, cur, rfl, hbg, hg, hnc, hcm, hcs, htake⟩
 ·
  have h0 : bs = [] := List.eq_nil_of_length_eq_zero hz
  subst h0
  exact znb hb
 ·
  by_cases h0 : bs = []
  ·
   subst h0
   by_cases hc0 : cap = 0
   ·
    subst hc0
    exact qzf M.bel.size hb hg
   ·
    exact zjc hc0 hb
  ·
   exact zld h0 hb hg hnc hmax hbg (fun j x hx => by
    have h9 := hown.cells (g := g) rfl j (.int .u8 x.toNat) (by simp [Lib.byteCells, hx])
    rw [jz, Nat.zero_add] at h9
    exact h9) (by simp at hcs; omega)
/-- What Write and Display answer. -/
def wrA (pl : Bool) (t : Tr) : List UInt8 × Int := if xv jc t = true then (wrT pl t, 0) else ([], 2)
theorem qzg {pl : Bool} {t : Tr} (h : xv jc t = true) : wrA pl t = (wrT pl t, 0) := if_pos h
theorem zjd {pl : Bool} {t : Tr} (h : xv jc t = false) : wrA pl t = ([], 2) := if_neg (by rw [h]; decide)
theorem qob {w : World} {t : Dt} (ht : t.rd w) (hTb : Tabs8 w) (hz : C.Tz16 w) (htp : C.Tp10 w) (hmax : t.tr.bulk ≤ 1048576) (pl : Bool) : Calls Tryz.prog 8 #[.agg (t.d.cells t.ts.length).toArray, .bool pl] w fun e w' => e = .returned (.tuple #[.string ⟨(wrA pl t.tr).1.toArray⟩, .int .i64 (wrA pl t.tr).2]) ∧ Below w.heap.size w w' := by
 have M : Mg w w ([]) := Mg.start w
 refine qm (l := [(0, .agg (t.d.cells t.ts.length).toArray), (1, .bool pl)]) Tryz.func8 rfl Tryz.ntmps8 rfl rfl ?_
 intro Q hret hnorm hP a A
 refine wsk fun K1 hK1 => wrl (xa (vs := [.int .i64 t.d.k, .int .i64 t.d.n, .bool t.d.y.q.b1, .slice t.d.y.o1 t.d.y.q.t1.length t.d.y.c1, .slice t.d.y.o2 t.d.y.q.q1.length t.d.y.c2, .bool t.d.y.q.b2, .slice t.d.y.o3 t.d.y.q.t2.length t.d.y.c3, .slice t.d.y.o4 t.d.y.q.q2.length t.d.y.c4, .string t.d.s, .slice t.d.ro t.d.rl.length t.d.rc, .slice t.d.lo t.ts.length t.d.lc]) (t := 30) A M rfl rfl rfl pg (zb rfl rfl) (by decide) ?_)
 intro g2 w3 M a A
 iterate 2 refine sda A λa A↦?_
 refine qa (hK1 _ _ (wsk fun K4 hK4 => wsk fun K5 hK5 => wrl (sdo A (zn M TwK_isS_30 rfl 0 rfl (cs := [.int .i64 t.d.k, .int .i64 t.d.n, .bool t.d.y.q.b1, .slice t.d.y.o1 t.d.y.q.t1.length t.d.y.c1, .slice t.d.y.o2 t.d.y.q.q1.length t.d.y.c2, .bool t.d.y.q.b2, .slice t.d.y.o3 t.d.y.q.t2.length t.d.y.c3, .slice t.d.y.o4 t.d.y.q.q2.length t.d.y.c4, .string t.d.s, .slice t.d.ro t.d.rl.length t.d.rc, .slice t.d.lo t.ts.length t.d.lc]) rfl rfl) λa A↦?_)))
 rcases tf (xv jc t.tr) with hb6 | hb6
 ·
  refine gcl A M (ef rfl rfl) ((hb6 ▸ sound_any (t := t) (Dt.keep M.bel _ ht) (hTb.below M.bel))) fun w8 hb7 M a A => ?_
  refine sdo (v := .bool false) A (qy rfl zj) λa A↦?_
  refine qa (hK5 _ _ (wp_cond_false (A.ev rfl) ?_))
  refine wp_skip (hK4 _ _ (wsk fun K9 hK9 => wrl (sdm A λa A↦?_)))
  refine sdo (v := .agg #[.pointer none, .slice none 0 0, .bool pl]) A (jb rfl (fun w => by kernel_rfl)) λa A↦?_
  refine xa (vs := [.pointer none, .slice none 0 0, .bool false]) (t := 42) A M rfl rfl rfl pg (zv (z := .agg #[.pointer none, .slice none 0 0, .bool false]) (by kernel_rfl) rfl) (by decide) ?_
  intro g10 w11 M a A
  refine qz (us := [.pointer none, .slice none 0 0, .bool pl]) (L' := (.obj g10 (.cells #[.pointer none, .slice none 0 0, .bool pl] 42) :: .obj g2 (.cells (t.d.cells t.ts.length).toArray 30) :: [])) A M rfl rfl (qw rfl rfl rfl (by kernel_rfl) M 0 rfl rfl rfl) 0 rfl rfl rfl ?_
  intro w12 M
  refine qa (hK9 _ _ (wsk fun K13 hK13 => ?_))
  have hMn := Mg.addNil M (vt (by simp) (vt (by simp) (xm vq)))
  obtain ⟨gw, hgw⟩ : ∃ x, x = g10 := ⟨_, rfl⟩
  rw [← hgw] at A hMn
  replace M : Mg w w12 (.obj gw (.cells #[.pointer none, .slice none 0 0, .bool pl] 42) :: .row BY 1 (.slice none 0 0) 0 ([]) :: .obj g2 (.cells (t.d.cells t.ts.length).toArray 30) :: []) := hMn.perm (.swap _ _ _)
  refine wrl (sdo A (zn M TwK_isS_30 rfl 2 rfl (cs := [.int .i64 t.d.k, .int .i64 t.d.n, .bool t.d.y.q.b1, .slice t.d.y.o1 t.d.y.q.t1.length t.d.y.c1, .slice t.d.y.o2 t.d.y.q.q1.length t.d.y.c2, .bool t.d.y.q.b2, .slice t.d.y.o3 t.d.y.q.t2.length t.d.y.c3, .slice t.d.y.o4 t.d.y.q.q2.length t.d.y.c4, .string t.d.s, .slice t.d.ro t.d.rl.length t.d.rc, .slice t.d.lo t.ts.length t.d.lc]) rfl rfl) λa A↦?_)
  refine sct A (ef rfl rfl) (qlb (t.tr.bulk + 1) (bs := []) (T := [.obj g2 (.cells (t.d.cells t.ts.length).toArray 30)]) (.inl rfl) M (.cons (by decide) .nil) (Nat.lt_succ_self _) ht (qph ht hb6) hz htp hmax (by rw [List.length_nil]; omega)) ?_
  rintro _ w14 ⟨rfl, v9, hM9⟩
  replace M : Mg w w14 (.obj gw (.cells #[.pointer (some ⟨gw, 0, none⟩), v9, .bool pl] 42) :: .row BY 1 (v9) (([] ++ wrT pl t.tr).length) ((Lib.byteCells ([] ++ wrT pl t.tr))) :: .obj g2 (.cells (t.d.cells t.ts.length).toArray 30) :: []) := hM9
  refine ⟨_, rfl, ?_⟩
  intro a A
  refine qa (hK13 _ _ (wsk fun K15 hK15 => wrl (sdo (v := .pointer (some ⟨gw, 0, none⟩)) A (qb TwK_fld_42_0 rfl rfl) λa A↦?_)))
  refine sct A (ef rfl rfl) (zdj (bs := [] ++ wrT pl t.tr) M (by have := (qba pl t.tr (qph ht hb6)).1; rw [List.nil_append]; omega)) ?_
  rintro _ w16 ⟨rfl, hbs⟩
  replace M : Mg w w16 ([]) := ⟨M.bel.trans hbs, by simp, .nil⟩
  refine ⟨_, rfl, ?_⟩
  intro a A
  iterate 2 refine sda A λa A↦?_
  refine qa (hK15 _ _ (wp_ret (hret _ _ (en2 A rfl (qf rfl) (qf rfl) ?_))))
  exact ⟨by rw [qzg hb6] <;> rfl, M.bel⟩
 ·
  refine gcl A M (ef rfl rfl) ((hb6 ▸ sound_any (t := t) (Dt.keep M.bel _ ht) (hTb.below M.bel))) fun w18 hb17 M a A => ?_
  refine sdo (v := .bool true) A (qy rfl zj) λa A↦?_
  refine qa (hK5 _ _ (wp_cond_true (A.ev rfl) ?_))
  refine wsk fun K19 hK19 => wrl ?_
  iterate 2 refine sda A λa A↦?_
  refine qa (hK19 _ _ (wp_ret (hret _ _ (en2 A rfl (qf rfl) (qf rfl) ?_))))
  exact ⟨by rw [zjd hb6] <;> rfl, M.bel⟩
theorem qoc {w : World} {t : Dt} (ht : t.rd w) (hTb : Tabs8 w) (hz : C.Tz16 w) (htp : C.Tp10 w) (hmax : t.tr.bulk ≤ 1048576) : Calls Tryz.prog 4 #[.agg (t.d.cells t.ts.length).toArray] w fun e w' => e = .returned (.tuple #[.string ⟨(wrA false t.tr).1.toArray⟩, .int .i64 (wrA false t.tr).2]) ∧ Below w.heap.size w w' := by
 have M : Mg w w ([]) := Mg.start w
 refine qm (l := [(0, .agg (t.d.cells t.ts.length).toArray)]) Tryz.func4 rfl Tryz.ntmps4 rfl rfl ?_
 intro Q hret hnorm hP a A
 refine wsk fun K1 hK1 => wrl (xa (vs := [.int .i64 t.d.k, .int .i64 t.d.n, .bool t.d.y.q.b1, .slice t.d.y.o1 t.d.y.q.t1.length t.d.y.c1, .slice t.d.y.o2 t.d.y.q.q1.length t.d.y.c2, .bool t.d.y.q.b2, .slice t.d.y.o3 t.d.y.q.t2.length t.d.y.c3, .slice t.d.y.o4 t.d.y.q.q2.length t.d.y.c4, .string t.d.s, .slice t.d.ro t.d.rl.length t.d.rc, .slice t.d.lo t.ts.length t.d.lc]) (t := 30) A M rfl rfl rfl pg (zb rfl rfl) (by decide) ?_)
 intro g2 w3 M a A
 iterate 2 refine sda A λa A↦?_
 refine qa (hK1 _ _ (wsk fun K4 hK4 => wrl (sdo A (zn M TwK_isS_30 rfl 0 rfl (cs := [.int .i64 t.d.k, .int .i64 t.d.n, .bool t.d.y.q.b1, .slice t.d.y.o1 t.d.y.q.t1.length t.d.y.c1, .slice t.d.y.o2 t.d.y.q.q1.length t.d.y.c2, .bool t.d.y.q.b2, .slice t.d.y.o3 t.d.y.q.t2.length t.d.y.c3, .slice t.d.y.o4 t.d.y.q.q2.length t.d.y.c4, .string t.d.s, .slice t.d.ro t.d.rl.length t.d.rc, .slice t.d.lo t.ts.length t.d.lc]) rfl rfl) λa A↦?_)))
 refine gcl A M (ef rfl rfl) (qob (Dt.keep M.bel _ ht) (hTb.below M.bel) (vm hz M.bel) (htp.below M.bel) hmax false) fun w5 hbt M a A => ?_
 iterate 2 refine sdo A (qp (vs := [.string (⟨(wrA false t.tr).1.toArray⟩), .int .i64 ((wrA false t.tr).2)]) rfl rfl) λa A↦?_
 iterate 2 refine sda A λa A↦?_
 refine qa (hK4 _ _ (wp_ret (hret _ _ (en2 A rfl (qf rfl) (qf rfl) ?_))))
 exact ⟨rfl, M.bel⟩
theorem qvf {w : World} {t : Dt} (ht : t.rd w) (hTb : Tabs8 w) (hz : C.Tz16 w) (htp : C.Tp10 w) (hmax : t.tr.bulk ≤ 1048576) : Calls Tryz.prog 6 #[.agg (t.d.cells t.ts.length).toArray] w fun e w' => e = .returned (.tuple #[.string ⟨(wrA true t.tr).1.toArray⟩, .int .i64 (wrA true t.tr).2]) ∧ Below w.heap.size w w' := by
 have M : Mg w w ([]) := Mg.start w
 refine qm (l := [(0, .agg (t.d.cells t.ts.length).toArray)]) Tryz.func6 rfl Tryz.ntmps6 rfl rfl ?_
 intro Q hret hnorm hP a A
 refine wsk fun K1 hK1 => wrl (xa (vs := [.int .i64 t.d.k, .int .i64 t.d.n, .bool t.d.y.q.b1, .slice t.d.y.o1 t.d.y.q.t1.length t.d.y.c1, .slice t.d.y.o2 t.d.y.q.q1.length t.d.y.c2, .bool t.d.y.q.b2, .slice t.d.y.o3 t.d.y.q.t2.length t.d.y.c3, .slice t.d.y.o4 t.d.y.q.q2.length t.d.y.c4, .string t.d.s, .slice t.d.ro t.d.rl.length t.d.rc, .slice t.d.lo t.ts.length t.d.lc]) (t := 30) A M rfl rfl rfl pg (zb rfl rfl) (by decide) ?_)
 intro g2 w3 M a A
 iterate 2 refine sda A λa A↦?_
 refine qa (hK1 _ _ (wsk fun K4 hK4 => wrl (sdo A (zn M TwK_isS_30 rfl 0 rfl (cs := [.int .i64 t.d.k, .int .i64 t.d.n, .bool t.d.y.q.b1, .slice t.d.y.o1 t.d.y.q.t1.length t.d.y.c1, .slice t.d.y.o2 t.d.y.q.q1.length t.d.y.c2, .bool t.d.y.q.b2, .slice t.d.y.o3 t.d.y.q.t2.length t.d.y.c3, .slice t.d.y.o4 t.d.y.q.q2.length t.d.y.c4, .string t.d.s, .slice t.d.ro t.d.rl.length t.d.rc, .slice t.d.lo t.ts.length t.d.lc]) rfl rfl) λa A↦?_)))
 refine gcl A M (ef rfl rfl) (qob (Dt.keep M.bel _ ht) (hTb.below M.bel) (vm hz M.bel) (htp.below M.bel) hmax true) fun w5 hbt M a A => ?_
 iterate 2 refine sdo A (qp (vs := [.string (⟨(wrA true t.tr).1.toArray⟩), .int .i64 ((wrA true t.tr).2)]) rfl rfl) λa A↦?_
 iterate 2 refine sda A λa A↦?_
 refine qa (hK4 _ _ (wp_ret (hret _ _ (en2 A rfl (qf rfl) (qf rfl) ?_))))
 exact ⟨rfl, M.bel⟩
theorem UdA_is1_3 : Is1 Tryz.prog 3 := ⟨⟨_, Tryz.underlying3, rfl⟩, by kernel_rfl⟩
theorem UdA_is1_9 : Is1 Tryz.prog 9 := ⟨⟨_, Tryz.underlying9, rfl⟩, by kernel_rfl⟩
theorem zea {w : World} {s : ByteArray} : Calls Tryz.prog 69 #[.string s] w fun e w' => e = .returned (.int .i64 (yz s)) ∧ Below w.heap.size w w' := by
 have M : Mg w w ([]) := Mg.start w
 refine qm (l := [(0, .string s)]) Tryz.func69 rfl Tryz.ntmps69 rfl rfl ?_
 intro Q hret hnorm hP a A
 refine wsk fun K1 hK1 => wrl (sda A λa A↦?_)
 refine qa (hK1 _ _ (wsk fun K2 hK2 => wrl (yj (e := 9) (sz := 1) (m := 12) (vs := [.string (⟨#[110, 117, 108]⟩), .string (⟨#[97, 108, 97, 114, 109]⟩), .string (⟨#[98, 97, 99, 107, 115, 112, 97, 99, 101]⟩), .string (⟨#[116, 97, 98]⟩), .string (⟨#[108, 105, 110, 101, 102, 101, 101, 100]⟩), .string (⟨#[110, 101, 119, 108, 105, 110, 101]⟩), .string (⟨#[118, 116, 97, 98]⟩), .string (⟨#[112, 97, 103, 101]⟩), .string (⟨#[114, 101, 116, 117, 114, 110]⟩), .string (⟨#[101, 115, 99]⟩), .string (⟨#[115, 112, 97, 99, 101]⟩), .string (⟨#[100, 101, 108, 101, 116, 101]⟩)]) A M rfl rfl rfl (qr rfl (by kernel_rfl)) rfl rfl (.inl (by decide)) ?_)))
 intro g3 w4 M a A
 refine sda A λa A↦?_
 refine qa (hK2 _ _ (wsk fun K5 hK5 => wrl (yj (e := 3) (sz := 1) (m := 12) (vs := [.int .i64 0, .int .i64 7, .int .i64 8, .int .i64 9, .int .i64 10, .int .i64 10, .int .i64 11, .int .i64 12, .int .i64 13, .int .i64 27, .int .i64 32, .int .i64 127]) A M rfl rfl rfl (qr rfl (by kernel_rfl)) rfl rfl (.inl (by decide)) ?_)))
 intro g6 w7 M a A
 refine sda A λa A↦?_
 refine qa (hK5 _ _ (wsk fun K8 hK8 => wsk fun K9 hK9 => wrl (sda A λa A↦?_)))
 refine qa (hK9 _ _ (wp_block (zt (fun m_ a w1 => ∃ (i : Nat), m_ = 1 + (12 - i) ∧ (i ≤ 12 ∧ yz s = qcg s (12 - i) i) ∧ Sl a 24 [(0, .string s), (3, .slice (some ⟨g3, 0, none⟩) 12 12), (4, .slice (some ⟨g6, 0, none⟩) 12 12), (5, .int .i64 (((i : Nat) : Int))), (6, .slice (some ⟨g3, 0, none⟩) 12 12), (7, .slice (some ⟨g6, 0, none⟩) 12 12)] ∧ Mg w w1 (.row 3 1 (.slice (some ⟨g6, 0, none⟩) 12 12) 12 ([.int .i64 0, .int .i64 7, .int .i64 8, .int .i64 9, .int .i64 10, .int .i64 10, .int .i64 11, .int .i64 12, .int .i64 13, .int .i64 27, .int .i64 32, .int .i64 127]) :: .row 9 1 (.slice (some ⟨g3, 0, none⟩) 12 12) 12 ([.string (⟨#[110, 117, 108]⟩), .string (⟨#[97, 108, 97, 114, 109]⟩), .string (⟨#[98, 97, 99, 107, 115, 112, 97, 99, 101]⟩), .string (⟨#[116, 97, 98]⟩), .string (⟨#[108, 105, 110, 101, 102, 101, 101, 100]⟩), .string (⟨#[110, 101, 119, 108, 105, 110, 101]⟩), .string (⟨#[118, 116, 97, 98]⟩), .string (⟨#[112, 97, 103, 101]⟩), .string (⟨#[114, 101, 116, 117, 114, 110]⟩), .string (⟨#[101, 115, 99]⟩), .string (⟨#[115, 112, 97, 99, 101]⟩), .string (⟨#[100, 101, 108, 101, 116, 101]⟩)]) :: [])) _ ⟨0, rfl, ⟨Nat.zero_le _, rfl⟩, A.keep _ ⟨rfl, rfl, rfl, rfl, rfl, rfl, trivial⟩, M⟩ ?_)))
 clear M A
 rintro m_ a w10 ⟨i, rfl, hinv12, A, M⟩ K11 hK11
 obtain ⟨hi0, hin9⟩ := hinv12
 refine wsk fun K13 hK13 => wsk fun K14 hK14 => wrl ?_
 iterate 2 refine sdm A λa A↦?_
 refine sdo A (qx Tryz.underlying86 rfl) λa A↦?_
 rcases tf (decide (((i : Nat) : Int) < 12)) with hb15 | hb15
 ·
  have hb15' := of_decide_eq_true hb15
  refine sdc A zg hb15 λa A↦?_
  refine qa (hK14 _ _ (wp_cond_true (A.ev rfl) ?_))
  refine wp_skip (hK13 _ _ (wsk fun K16 hK16 => wp_block (wsk fun K17 hK17 => wrl ?_)))
  iterate 2 refine sdm A λa A↦?_
  refine sdo (v := .pointer (some ⟨g3, 0 + i, none⟩)) A (jf (k := i) Tryz.underlying86 (by kernel_rfl) rfl rfl rfl rfl (by omega)) λa A↦?_
  refine sdo A (qfa M 1 rfl (zpc (by omega)) UdA_is1_9 rfl) λa A↦?_
  refine sdm A λa A↦?_
  rcases tf (decide (nmA i = s)) with hb18 | hb18
  ·
   have hb18' := of_decide_eq_true hb18
   refine sdo (v := .bool true) A (qe rfl rfl (fun w => (zl Tryz.underlying9 w).trans (by rw [hb18] <;> rfl))) λa A↦?_
   refine qa (hK17 _ _ (wp_cond_true (A.ev rfl) ?_))
   refine wsk fun K19 hK19 => wrl ?_
   iterate 2 refine sdm A λa A↦?_
   refine sdo (v := .pointer (some ⟨g6, 0 + i, none⟩)) A (jf (k := i) Tryz.underlying102 (by kernel_rfl) rfl rfl rfl rfl (by omega)) λa A↦?_
   refine sdo A (qfa M 0 rfl (zpd (by omega)) UdA_is1_3 rfl) λa A↦?_
   refine sda A λa A↦?_
   refine qa (hK19 _ _ (wp_ret (hret _ _ (en1 A rfl (qf rfl) ?_))))
   exact ⟨by rw [show yz s = nuA i from by rw [hin9, zhi (by omega) hb18']], M.bel⟩
  ·
   have hb18' := of_decide_eq_false hb18
   refine sdo (v := .bool false) A (qe rfl rfl (fun w => (zl Tryz.underlying9 w).trans (by rw [hb18] <;> rfl))) λa A↦?_
   refine qa (hK17 _ _ (wp_cond_false (A.ev rfl) ?_))
   refine wp_skip (hK16 _ _ (wrl (sdm A λa A↦?_)))
   refine sdo (v := .int .i64 (((i + 1 : Nat) : Int))) A (qe rfl rfl (fun w => (zx (jw (by omega) (by omega)) w).trans (by rw [show (((i : Nat) : Int) + 1 : Int) = ((i + 1 : Nat) : Int) from by omega]))) λa A↦?_
   refine sda A λa A↦?_
   refine qa ?_
   refine hK11 _ _ _ (by omega) ⟨i + 1, rfl, ⟨by omega, by rw [hin9, zme (by omega) hb18']⟩, A.keep _ ⟨rfl, rfl, rfl, rfl, rfl, rfl, trivial⟩, M⟩
 ·
  have hb15' := of_decide_eq_false hb15
  refine sdc A zg hb15 λa A↦?_
  refine qa (hK14 _ _ (wp_cond_false (A.ev rfl) ?_))
  refine wp_exit (hK8 _ _ (wsk fun K20 hK20 => wrl (sda A λa A↦?_)))
  refine qa (hK20 _ _ (wp_ret (hret _ _ (en1 A rfl (qf rfl) ?_))))
  exact ⟨by rw [show yz s = -1 from by rw [hin9, zhj (by omega)]], M.bel⟩
theorem qod {w : World} {n : Int} : Calls Tryz.prog 40 #[.int .i64 n] w fun e w' => e = .returned (.string (C.nameL n)) ∧ Below w.heap.size w w' := by
 have M : Mg w w ([]) := Mg.start w
 refine qm (l := [(0, .int .i64 n)]) Tryz.func40 rfl Tryz.ntmps40 rfl rfl ?_
 intro Q hret hnorm hP a A
 refine wsk fun K1 hK1 => wrl (sda A λa A↦?_)
 refine qa (hK1 _ _ (wsk fun K2 hK2 => wsk fun K3 hK3 => wrl (yj (e := 9) (sz := 1) (m := 11) (vs := [.string (⟨#[110, 117, 108]⟩), .string (⟨#[97, 108, 97, 114, 109]⟩), .string (⟨#[98, 97, 99, 107, 115, 112, 97, 99, 101]⟩), .string (⟨#[116, 97, 98]⟩), .string (⟨#[110, 101, 119, 108, 105, 110, 101]⟩), .string (⟨#[118, 116, 97, 98]⟩), .string (⟨#[112, 97, 103, 101]⟩), .string (⟨#[114, 101, 116, 117, 114, 110]⟩), .string (⟨#[101, 115, 99]⟩), .string (⟨#[115, 112, 97, 99, 101]⟩), .string (⟨#[100, 101, 108, 101, 116, 101]⟩)]) A M rfl rfl rfl (qr rfl (by kernel_rfl)) rfl rfl (.inl (by decide)) ?_)))
 intro g4 w5 M a A
 refine sdo A (qx Tryz.underlying86 rfl) λa A↦?_
 refine sdm A λa A↦?_
 refine qa (hK3 _ _ (wp_block (zt (fun m_ a w1 => ∃ (i : Nat), m_ = 1 + (11 - i) ∧ (i ≤ 11 ∧ ∀ j, j < i → yz (nmB j) ≠ n) ∧ Sl a 17 [(0, .int .i64 n), (5, .slice (some ⟨g4, 0, none⟩) 11 11), (6, .int .i64 11), (7, .int .i64 (((i : Nat) : Int)))] ∧ Mg w w1 (.row 9 1 (.slice (some ⟨g4, 0, none⟩) 11 11) 11 ([.string (⟨#[110, 117, 108]⟩), .string (⟨#[97, 108, 97, 114, 109]⟩), .string (⟨#[98, 97, 99, 107, 115, 112, 97, 99, 101]⟩), .string (⟨#[116, 97, 98]⟩), .string (⟨#[110, 101, 119, 108, 105, 110, 101]⟩), .string (⟨#[118, 116, 97, 98]⟩), .string (⟨#[112, 97, 103, 101]⟩), .string (⟨#[114, 101, 116, 117, 114, 110]⟩), .string (⟨#[101, 115, 99]⟩), .string (⟨#[115, 112, 97, 99, 101]⟩), .string (⟨#[100, 101, 108, 101, 116, 101]⟩)]) :: [])) _ ⟨0, rfl, ⟨Nat.zero_le _, fun j hj => absurd hj (Nat.not_lt_zero _)⟩, A.keep _ ⟨rfl, rfl, rfl, rfl, trivial⟩, M⟩ ?_)))
 clear M A
 rintro m_ a w6 ⟨i, rfl, hinv8, A, M⟩ K7 hK7
 obtain ⟨hi0, hin9⟩ := hinv8
 refine wsk fun K9 hK9 => wrl ?_
 rcases tf (decide (((i : Nat) : Int) < 11)) with hb10 | hb10
 ·
  have hb10' := of_decide_eq_true hb10
  refine sdc A zg hb10 λa A↦?_
  refine qa (hK9 _ _ (wsk fun K11 hK11 => wp_cond_true (A.ev rfl) ?_))
  refine wp_skip (hK11 _ _ (wsk fun K12 hK12 => wp_block (wsk fun K13 hK13 => wrl (sdo (v := .pointer (some ⟨g4, 0 + i, none⟩)) A (jf (k := i) Tryz.underlying86 (by kernel_rfl) rfl rfl rfl rfl (by omega)) λa A↦?_))))
  refine sdo A (qfa M 0 rfl (zpe (by omega)) UdA_is1_9 rfl) λa A↦?_
  refine sda A λa A↦?_
  refine qa (hK13 _ _ (wsk fun K14 hK14 => wrl (sdm A λa A↦?_)))
  refine gcl A M (ef rfl rfl) (zea) fun w16 hb15 M a A => ?_
  refine sdm A λa A↦?_
  rcases tf ((yz (nmB i) == n)) with hb17 | hb17
  ·
   have hb17' := eq_of_beq hb17
   refine sdc A qg hb17 λa A↦?_
   refine qa (hK14 _ _ (wp_cond_true (A.ev rfl) ?_))
   refine wsk fun K18 hK18 => wrl (sdm A λa A↦?_)
   refine sda A λa A↦?_
   refine qa (hK18 _ _ (wp_ret (hret _ _ (en1 A rfl (qf rfl) ?_))))
   exact ⟨by rw [← show yz (nmB i) = n from hb17', zia ⟨i, by omega⟩], M.bel⟩
  ·
   have hb17' := ne_of_beq_false hb17
   refine sdc A qg hb17 λa A↦?_
   refine qa (hK14 _ _ (wp_cond_false (A.ev rfl) ?_))
   refine wp_skip (hK12 _ _ (wrl (sdo (v := .int .i64 (((i + 1 : Nat) : Int))) A (qe rfl rfl (fun w => (zx (jw (by omega) (by omega)) w).trans (by rw [show (((i : Nat) : Int) + 1 : Int) = ((i + 1 : Nat) : Int) from by omega]))) λa A↦?_)))
   refine sdm A λa A↦?_
   refine qa ?_
   refine hK7 _ _ _ (by omega) ⟨i + 1, rfl, ⟨by omega, fun j hj => by
    by_cases e : j = i
    ·
     rw [e]; exact hb17'
    ·
     exact hin9 j (by omega)⟩, A.keep _ ⟨rfl, rfl, rfl, rfl, trivial⟩, M⟩
 ·
  have hb10' := of_decide_eq_false hb10
  refine sdc A zg hb10 λa A↦?_
  refine qa (hK9 _ _ (wsk fun K19 hK19 => wp_cond_false (A.ev rfl) ?_))
  refine wp_exit (hK2 _ _ (wsk fun K20 hK20 => wrl (sda A λa A↦?_)))
  refine qa (hK20 _ _ (wp_ret (hret _ _ (en1 A rfl (qf rfl) ?_))))
  exact ⟨by rw [zda (fun j hj => hin9 j (by omega))], M.bel⟩
theorem zeb {w : World} {n : Nat} (ho : C.OkR ((n : Nat) : Int)) : Calls Tryz.prog 16 #[.int .i64 ((n : Nat) : Int)] w fun e w' => e = .returned (.string ⟨(kv false ((n : Nat) : Int)).toArray⟩) ∧ Below w.heap.size w w' := by
 have hn := vd ho
 have hx8 := ui hn
 have hl9 := uj ((n : Nat) : Int)
 have hl8 := qdh ((n : Nat) : Int)
 have hen4 := yd ((n : Nat) : Int)
 have hxd := C.hexD_len n hn
 have M : Mg w w ([]) := Mg.start w
 refine qm (l := [(0, .int .i64 (((n : Nat) : Int)))]) Tryz.func16 rfl Tryz.ntmps16 rfl rfl ?_
 intro Q hret hnorm hP a A
 refine wsk fun K1 hK1 => wrl (sda A λa A↦?_)
 refine qa (hK1 _ _ (wsk fun K2 hK2 => wrl (sdm A λa A↦?_)))
 refine sdo (v := .int .i32 (((n : Nat) : Int))) A (qt rfl (ar_conv Tryz.underlying3 Tryz.underlying21 (in_i32 (by omega) (by omega)))) λa A↦?_
 refine sda A λa A↦?_
 refine qa (hK2 _ _ (wsk fun K3 hK3 => wsk fun K4 hK4 => wrl (sdm A λa A↦?_)))
 refine gcl A M (ef rfl rfl) (qod) fun w6 hb5 M a A => ?_
 rcases tf (decide (C.nameL ((n : Nat) : Int) = ⟨#[]⟩)) with hb7 | hb7
 ·
  have hb7' := of_decide_eq_true hb7
  refine sdo (v := .bool false) A (qe rfl rfl (fun w => (ku Tryz.underlying9 w).trans (by rw [hb7] <;> rfl))) λa A↦?_
  refine qa (hK4 _ _ (wp_cond_false (A.ev rfl) ?_))
  refine wp_skip (hK3 _ _ (wsk fun K8 hK8 => wsk fun K9 hK9 => wrl (sdm A λa A↦?_)))
  rcases tf (C.ctlB ((n : Nat) : Int)) with hb10 | hb10
  ·
   refine sct A (ef rfl rfl) ((hb10 ▸ C.rodd_any ((n : Nat) : Int) _)) ?_
   rintro _ w12 ⟨rfl, hw11⟩
   subst hw11
   refine ⟨_, rfl, ?_⟩
   intro a A
   refine sdm A λa A↦?_
   iterate 2 refine qh A rfl rfl rfl λa A↦?_
   refine sdk (v := .bool true) A λa A↦?_
   refine qa (hK9 _ _ (wp_cond_true (A.ev rfl) ?_))
   refine wsk fun K13 hK13 => wrl (sdm A λa A↦?_)
   refine gcl A M (ef rfl rfl) (C.rhex_any n (vd ho) _) fun w15 hb14 M a A => ?_
   refine sdo (v := .string (⟨(([35, 92, 120]) ++ (C.hexD n)).toArray⟩)) A (qe rfl rfl (qj (a := [35, 92, 120]) (b := C.hexD n) (by first | omega | (simp only [List.length_append, List.length_cons, List.length_nil]; omega)))) λa A↦?_
   refine sda A λa A↦?_
   refine qa (hK13 _ _ (wp_ret (hret _ _ (en1 A rfl (qf rfl) ?_))))
   exact ⟨by rw [show kv false ((n : Nat) : Int) = ([35, 92, 120]) ++ (C.hexD n) from (qrc rfl hb7' (by rw [hb10]; simp)).trans (by first | rfl | (unfold jk; rw [Int.toNat_natCast]; rfl))], M.bel⟩
  ·
   refine sct A (ef rfl rfl) ((hb10 ▸ C.rodd_any ((n : Nat) : Int) _)) ?_
   rintro _ w17 ⟨rfl, hw16⟩
   subst hw16
   refine ⟨_, rfl, ?_⟩
   intro a A
   iterate 2 refine sdm A λa A↦?_
   rcases tf (C.blankB ((n : Nat) : Int)) with hb18 | hb18
   ·
    refine sct A (ef rfl rfl) ((hb18 ▸ C.rblank_any ((n : Nat) : Int) _)) ?_
    rintro _ w20 ⟨rfl, hw19⟩
    subst hw19
    refine ⟨_, rfl, ?_⟩
    intro a A
    refine sdk (v := .bool true) A λa A↦?_
    refine qa (hK9 _ _ (wp_cond_true (A.ev rfl) ?_))
    refine wsk fun K21 hK21 => wrl (sdm A λa A↦?_)
    refine gcl A M (ef rfl rfl) (C.rhex_any n (vd ho) _) fun w23 hb22 M a A => ?_
    refine sdo (v := .string (⟨(([35, 92, 120]) ++ (C.hexD n)).toArray⟩)) A (qe rfl rfl (qj (a := [35, 92, 120]) (b := C.hexD n) (by first | omega | (simp only [List.length_append, List.length_cons, List.length_nil]; omega)))) λa A↦?_
    refine sda A λa A↦?_
    refine qa (hK21 _ _ (wp_ret (hret _ _ (en1 A rfl (qf rfl) ?_))))
    exact ⟨by rw [show kv false ((n : Nat) : Int) = ([35, 92, 120]) ++ (C.hexD n) from (qrc rfl hb7' (by rw [hb18, hb10]; rfl)).trans (by first | rfl | (unfold jk; rw [Int.toNat_natCast]; rfl))], M.bel⟩
   ·
    refine sct A (ef rfl rfl) ((hb18 ▸ C.rblank_any ((n : Nat) : Int) _)) ?_
    rintro _ w25 ⟨rfl, hw24⟩
    subst hw24
    refine ⟨_, rfl, ?_⟩
    intro a A
    refine sdk (v := .bool false) A λa A↦?_
    refine qa (hK9 _ _ (wp_cond_false (A.ev rfl) ?_))
    refine wp_skip (hK8 _ _ (wsk fun K26 hK26 => wrl (sdm A λa A↦?_)))
    refine sdo (v := .string (⟨(Lib.encodeRune (((n : Nat) : Int))).toArray⟩)) A (qt rfl (qhc (n := n) Tryz.underlying21 Tryz.underlying9 ho)) λa A↦?_
    refine sdo (v := .string (⟨(([35, 92]) ++ (Lib.encodeRune (((n : Nat) : Int)))).toArray⟩)) A (qe rfl rfl (qj (a := [35, 92]) (b := Lib.encodeRune (((n : Nat) : Int))) (by first | omega | (simp only [List.length_append, List.length_cons, List.length_nil]; omega)))) λa A↦?_
    refine sda A λa A↦?_
    refine qa (hK26 _ _ (wp_ret (hret _ _ (en1 A rfl (qf rfl) ?_))))
    exact ⟨by rw [show kv false ((n : Nat) : Int) = ([35, 92]) ++ (Lib.encodeRune (((n : Nat) : Int))) from (zgf rfl hb7' (by rw [hb18, hb10]; rfl)).trans (by first | rfl | (unfold jk; rw [Int.toNat_natCast]; rfl))], M.bel⟩
 ·
  have hb7' := of_decide_eq_false hb7
  refine sdo (v := .bool true) A (qe rfl rfl (fun w => (ku Tryz.underlying9 w).trans (by rw [hb7] <;> rfl))) λa A↦?_
  refine qa (hK4 _ _ (wp_cond_true (A.ev rfl) ?_))
  refine wsk fun K27 hK27 => wrl (sdm A λa A↦?_)
  refine gcl A M (ef rfl rfl) (qod) fun w29 hb28 M a A => ?_
  refine sdo (v := .string (⟨(([35, 92]) ++ ((C.nameL ((n : Nat) : Int)).data.toList)).toArray⟩)) A (qe rfl rfl (qug (a := [35, 92]) (s := C.nameL ((n : Nat) : Int)) (by first | omega | (simp only [List.length_append, List.length_cons, List.length_nil]; omega)))) λa A↦?_
  refine sda A λa A↦?_
  refine qa (hK27 _ _ (wp_ret (hret _ _ (en1 A rfl (qf rfl) ?_))))
  exact ⟨by rw [show kv false ((n : Nat) : Int) = ([35, 92]) ++ ((C.nameL ((n : Nat) : Int)).data.toList) from (zge rfl hb7').trans (by first | rfl | (unfold jk; rw [Int.toNat_natCast]; rfl))], M.bel⟩
set_option maxHeartbeats 1000000 in
theorem zje {w : World} {s : ByteArray} (hs : s.size ≤ 2000000) : Calls Tryz.prog 17 #[.string s] w fun e w' => e = .returned (.string ⟨(qcd false s).toArray⟩) ∧ Below w.heap.size w w' := by
 have M : Mg w w ([]) := Mg.start w
 refine qm (l := [(0, .string s)]) Tryz.func17 rfl Tryz.ntmps17 rfl rfl ?_
 intro Q hret hnorm hP a A
 refine wsk fun K1 hK1 => wrl (sda A λa A↦?_)
 refine qa (hK1 _ _ (wsk fun K2 hK2 => wrl (sda A λa A↦?_)))
 refine qa (hK2 _ _ (wsk fun K3 hK3 => wsk fun K4 hK4 => wrl (sdm A λa A↦?_)))
 refine qic A M rfl Tryz.underlying9 rfl rfl rfl rfl ?_
 intro g5 w6 M a A
 refine qa (hK4 _ _ (wp_block (zt (fun m_ a w1 => ∃ (p_ : Nat) (acc : List UInt8), m_ = 1 + (s.size - p_) ∧ (acc ++ (ym s p_).flatMap C.strC = (qn s.data.toList).flatMap C.strC ∧ acc.length ≤ 9 * p_ ∧ p_ ≤ s.size) ∧ Sl a 79 [(0, .string s), (2, .string (⟨#[]⟩)), (3, .string (⟨([34] ++ acc).toArray⟩)), (6, .string s), (7, .pointer (some ⟨g5, 0, none⟩))] ∧ Mg w w1 (.obj g5 (.stringIter s p_) :: [])) _ ⟨0, [], rfl, ⟨by rw [List.nil_append, yu], Nat.zero_le _, Nat.zero_le _⟩, A.keep _ ⟨rfl, rfl, rfl, rfl, rfl, trivial⟩, M⟩ ?_)))
 clear M A
 rintro m_ a w7 ⟨p_, acc, rfl, hinv9, A, M⟩ K8 hK8
 obtain ⟨hin9, ha9, hp9⟩ := hinv9
 refine wsk fun K10 hK10 => wrl ?_
 by_cases hx11 : p_ < s.size
 ·
  obtain ⟨cr13, cq14, he15⟩ : ∃ r q, Utf8.decode s p_ = (r, q) := ⟨_, _, rfl⟩
  refine qpa (L' := (.obj g5 (.stringIter s (p_ + cq14)) :: [])) A M rfl rfl 0 rfl hx11 rfl rfl rfl he15 rfl ?_
  intro w12 M a A
  refine sdo A (qp (vs := [.bool true, .int .i64 (((p_ : Nat) : Int)), .int .i32 (((cr13 : Nat) : Int))]) rfl rfl) λa A↦?_
  refine qa (hK10 _ _ (wsk fun K16 hK16 => wp_cond_true (A.ev rfl) ?_))
  refine wp_skip (hK16 _ _ (wp_block (wsk fun K17 hK17 => ?_)))
  have hz9 := (yt hx11 he15).2
  have hc9 := vd (xe he15)
  have hxd := C.hexD_len cr13 hc9
  have hen4 := yd ((cr13 : Nat) : Int)
  have hs9 := qrd hc9
  refine wrl (sdo A (qp (vs := [.bool true, .int .i64 (((p_ : Nat) : Int)), .int .i32 (((cr13 : Nat) : Int))]) rfl rfl) λa A↦?_)
  refine sda A λa A↦?_
  refine qa (hK17 _ _ (wp_block (wsk fun K18 hK18 => wrl (sdm A λa A↦?_))))
  rcases tf ((((cr13 : Nat) : Int) == 34)) with hb19 | hb19
  ·
   have hb19' := eq_of_beq hb19
   refine sdc A qg hb19 λa A↦?_
   refine sda A λa A↦?_
   refine qa (hK18 _ _ (wp_cond_true (A.ev rfl) ?_))
   refine wrl (sdm A λa A↦?_)
   refine sdo (v := .string (⟨(([34] ++ acc) ++ ([92, 34])).toArray⟩)) A (qe rfl rfl (qj (a := [34] ++ acc) (b := [92, 34]) (by first | omega | (simp only [List.length_append, List.length_cons, List.length_nil]; omega)))) λa A↦?_
   refine sda A λa A↦?_
   refine qa ?_
   have hq9 : C.strC ((cr13 : Nat) : Int) = ([92, 34]) := (by rw [show ((cr13 : Nat) : Int) = 34 from hb19']; rfl)
   refine hK8 _ _ _ (by omega) ⟨p_ + cq14, acc ++ ([92, 34]), rfl, ⟨by rw [← hin9, zm hx11 he15, List.flatMap_cons, hq9, List.append_assoc], by rw [← hq9, List.length_append]; omega, by omega⟩, A.keep _ ⟨rfl, rfl, rfl, rfl, rfl, trivial⟩, M⟩
  ·
   have hb19' := ne_of_beq_false hb19
   refine sdc A qg hb19 λa A↦?_
   refine sda A λa A↦?_
   refine qa (hK18 _ _ (wp_cond_false (A.ev rfl) ?_))
   refine wsk fun K20 hK20 => wrl (sdm A λa A↦?_)
   rcases tf ((((cr13 : Nat) : Int) == 92)) with hb21 | hb21
   ·
    have hb21' := eq_of_beq hb21
    refine sdc A qg hb21 λa A↦?_
    refine sda A λa A↦?_
    refine qa (hK20 _ _ (wp_cond_true (A.ev rfl) ?_))
    refine wrl (sdm A λa A↦?_)
    refine sdo (v := .string (⟨(([34] ++ acc) ++ ([92, 92])).toArray⟩)) A (qe rfl rfl (qj (a := [34] ++ acc) (b := [92, 92]) (by first | omega | (simp only [List.length_append, List.length_cons, List.length_nil]; omega)))) λa A↦?_
    refine sda A λa A↦?_
    refine qa ?_
    have hq9 : C.strC ((cr13 : Nat) : Int) = ([92, 92]) := (by rw [show ((cr13 : Nat) : Int) = 92 from hb21']; rfl)
    refine hK8 _ _ _ (by omega) ⟨p_ + cq14, acc ++ ([92, 92]), rfl, ⟨by rw [← hin9, zm hx11 he15, List.flatMap_cons, hq9, List.append_assoc], by rw [← hq9, List.length_append]; omega, by omega⟩, A.keep _ ⟨rfl, rfl, rfl, rfl, rfl, trivial⟩, M⟩
   ·
    have hb21' := ne_of_beq_false hb21
    refine sdc A qg hb21 λa A↦?_
    refine sda A λa A↦?_
    refine qa (hK20 _ _ (wp_cond_false (A.ev rfl) ?_))
    refine wsk fun K22 hK22 => wrl (sdm A λa A↦?_)
    rcases tf ((((cr13 : Nat) : Int) == 7)) with hb23 | hb23
    ·
     have hb23' := eq_of_beq hb23
     refine sdc A qg hb23 λa A↦?_
     refine sda A λa A↦?_
     refine qa (hK22 _ _ (wp_cond_true (A.ev rfl) ?_))
     refine wrl (sdm A λa A↦?_)
     refine sdo (v := .string (⟨(([34] ++ acc) ++ ([92, 97])).toArray⟩)) A (qe rfl rfl (qj (a := [34] ++ acc) (b := [92, 97]) (by first | omega | (simp only [List.length_append, List.length_cons, List.length_nil]; omega)))) λa A↦?_
     refine sda A λa A↦?_
     refine qa ?_
     have hq9 : C.strC ((cr13 : Nat) : Int) = ([92, 97]) := (by rw [show ((cr13 : Nat) : Int) = 7 from hb23']; rfl)
     refine hK8 _ _ _ (by omega) ⟨p_ + cq14, acc ++ ([92, 97]), rfl, ⟨by rw [← hin9, zm hx11 he15, List.flatMap_cons, hq9, List.append_assoc], by rw [← hq9, List.length_append]; omega, by omega⟩, A.keep _ ⟨rfl, rfl, rfl, rfl, rfl, trivial⟩, M⟩
    ·
     have hb23' := ne_of_beq_false hb23
     refine sdc A qg hb23 λa A↦?_
     refine sda A λa A↦?_
     refine qa (hK22 _ _ (wp_cond_false (A.ev rfl) ?_))
     refine wsk fun K24 hK24 => wrl (sdm A λa A↦?_)
     rcases tf ((((cr13 : Nat) : Int) == 8)) with hb25 | hb25
     ·
      have hb25' := eq_of_beq hb25
      refine sdc A qg hb25 λa A↦?_
      refine sda A λa A↦?_
      refine qa (hK24 _ _ (wp_cond_true (A.ev rfl) ?_))
      refine wrl (sdm A λa A↦?_)
      refine sdo (v := .string (⟨(([34] ++ acc) ++ ([92, 98])).toArray⟩)) A (qe rfl rfl (qj (a := [34] ++ acc) (b := [92, 98]) (by first | omega | (simp only [List.length_append, List.length_cons, List.length_nil]; omega)))) λa A↦?_
      refine sda A λa A↦?_
      refine qa ?_
      have hq9 : C.strC ((cr13 : Nat) : Int) = ([92, 98]) := (by rw [show ((cr13 : Nat) : Int) = 8 from hb25']; rfl)
      refine hK8 _ _ _ (by omega) ⟨p_ + cq14, acc ++ ([92, 98]), rfl, ⟨by rw [← hin9, zm hx11 he15, List.flatMap_cons, hq9, List.append_assoc], by rw [← hq9, List.length_append]; omega, by omega⟩, A.keep _ ⟨rfl, rfl, rfl, rfl, rfl, trivial⟩, M⟩
     ·
      have hb25' := ne_of_beq_false hb25
      refine sdc A qg hb25 λa A↦?_
      refine sda A λa A↦?_
      refine qa (hK24 _ _ (wp_cond_false (A.ev rfl) ?_))
      refine wsk fun K26 hK26 => wrl (sdm A λa A↦?_)
      rcases tf ((((cr13 : Nat) : Int) == 9)) with hb27 | hb27
      ·
       have hb27' := eq_of_beq hb27
       refine sdc A qg hb27 λa A↦?_
       refine sda A λa A↦?_
       refine qa (hK26 _ _ (wp_cond_true (A.ev rfl) ?_))
       refine wrl (sdm A λa A↦?_)
       refine sdo (v := .string (⟨(([34] ++ acc) ++ ([92, 116])).toArray⟩)) A (qe rfl rfl (qj (a := [34] ++ acc) (b := [92, 116]) (by first | omega | (simp only [List.length_append, List.length_cons, List.length_nil]; omega)))) λa A↦?_
       refine sda A λa A↦?_
       refine qa ?_
       have hq9 : C.strC ((cr13 : Nat) : Int) = ([92, 116]) := (by rw [show ((cr13 : Nat) : Int) = 9 from hb27']; rfl)
       refine hK8 _ _ _ (by omega) ⟨p_ + cq14, acc ++ ([92, 116]), rfl, ⟨by rw [← hin9, zm hx11 he15, List.flatMap_cons, hq9, List.append_assoc], by rw [← hq9, List.length_append]; omega, by omega⟩, A.keep _ ⟨rfl, rfl, rfl, rfl, rfl, trivial⟩, M⟩
      ·
       have hb27' := ne_of_beq_false hb27
       refine sdc A qg hb27 λa A↦?_
       refine sda A λa A↦?_
       refine qa (hK26 _ _ (wp_cond_false (A.ev rfl) ?_))
       refine wsk fun K28 hK28 => wrl (sdm A λa A↦?_)
       rcases tf ((((cr13 : Nat) : Int) == 10)) with hb29 | hb29
       ·
        have hb29' := eq_of_beq hb29
        refine sdc A qg hb29 λa A↦?_
        refine sda A λa A↦?_
        refine qa (hK28 _ _ (wp_cond_true (A.ev rfl) ?_))
        refine wrl (sdm A λa A↦?_)
        refine sdo (v := .string (⟨(([34] ++ acc) ++ ([92, 110])).toArray⟩)) A (qe rfl rfl (qj (a := [34] ++ acc) (b := [92, 110]) (by first | omega | (simp only [List.length_append, List.length_cons, List.length_nil]; omega)))) λa A↦?_
        refine sda A λa A↦?_
        refine qa ?_
        have hq9 : C.strC ((cr13 : Nat) : Int) = ([92, 110]) := (by rw [show ((cr13 : Nat) : Int) = 10 from hb29']; rfl)
        refine hK8 _ _ _ (by omega) ⟨p_ + cq14, acc ++ ([92, 110]), rfl, ⟨by rw [← hin9, zm hx11 he15, List.flatMap_cons, hq9, List.append_assoc], by rw [← hq9, List.length_append]; omega, by omega⟩, A.keep _ ⟨rfl, rfl, rfl, rfl, rfl, trivial⟩, M⟩
       ·
        have hb29' := ne_of_beq_false hb29
        refine sdc A qg hb29 λa A↦?_
        refine sda A λa A↦?_
        refine qa (hK28 _ _ (wp_cond_false (A.ev rfl) ?_))
        refine wsk fun K30 hK30 => wrl (sdm A λa A↦?_)
        rcases tf ((((cr13 : Nat) : Int) == 11)) with hb31 | hb31
        ·
         have hb31' := eq_of_beq hb31
         refine sdc A qg hb31 λa A↦?_
         refine sda A λa A↦?_
         refine qa (hK30 _ _ (wp_cond_true (A.ev rfl) ?_))
         refine wrl (sdm A λa A↦?_)
         refine sdo (v := .string (⟨(([34] ++ acc) ++ ([92, 118])).toArray⟩)) A (qe rfl rfl (qj (a := [34] ++ acc) (b := [92, 118]) (by first | omega | (simp only [List.length_append, List.length_cons, List.length_nil]; omega)))) λa A↦?_
         refine sda A λa A↦?_
         refine qa ?_
         have hq9 : C.strC ((cr13 : Nat) : Int) = ([92, 118]) := (by rw [show ((cr13 : Nat) : Int) = 11 from hb31']; rfl)
         refine hK8 _ _ _ (by omega) ⟨p_ + cq14, acc ++ ([92, 118]), rfl, ⟨by rw [← hin9, zm hx11 he15, List.flatMap_cons, hq9, List.append_assoc], by rw [← hq9, List.length_append]; omega, by omega⟩, A.keep _ ⟨rfl, rfl, rfl, rfl, rfl, trivial⟩, M⟩
        ·
         have hb31' := ne_of_beq_false hb31
         refine sdc A qg hb31 λa A↦?_
         refine sda A λa A↦?_
         refine qa (hK30 _ _ (wp_cond_false (A.ev rfl) ?_))
         refine wsk fun K32 hK32 => wrl (sdm A λa A↦?_)
         rcases tf ((((cr13 : Nat) : Int) == 12)) with hb33 | hb33
         ·
          have hb33' := eq_of_beq hb33
          refine sdc A qg hb33 λa A↦?_
          refine sda A λa A↦?_
          refine qa (hK32 _ _ (wp_cond_true (A.ev rfl) ?_))
          refine wrl (sdm A λa A↦?_)
          refine sdo (v := .string (⟨(([34] ++ acc) ++ ([92, 102])).toArray⟩)) A (qe rfl rfl (qj (a := [34] ++ acc) (b := [92, 102]) (by first | omega | (simp only [List.length_append, List.length_cons, List.length_nil]; omega)))) λa A↦?_
          refine sda A λa A↦?_
          refine qa ?_
          have hq9 : C.strC ((cr13 : Nat) : Int) = ([92, 102]) := (by rw [show ((cr13 : Nat) : Int) = 12 from hb33']; rfl)
          refine hK8 _ _ _ (by omega) ⟨p_ + cq14, acc ++ ([92, 102]), rfl, ⟨by rw [← hin9, zm hx11 he15, List.flatMap_cons, hq9, List.append_assoc], by rw [← hq9, List.length_append]; omega, by omega⟩, A.keep _ ⟨rfl, rfl, rfl, rfl, rfl, trivial⟩, M⟩
         ·
          have hb33' := ne_of_beq_false hb33
          refine sdc A qg hb33 λa A↦?_
          refine sda A λa A↦?_
          refine qa (hK32 _ _ (wp_cond_false (A.ev rfl) ?_))
          refine wsk fun K34 hK34 => wrl (sdm A λa A↦?_)
          rcases tf ((((cr13 : Nat) : Int) == 13)) with hb35 | hb35
          ·
           have hb35' := eq_of_beq hb35
           refine sdc A qg hb35 λa A↦?_
           refine sda A λa A↦?_
           refine qa (hK34 _ _ (wp_cond_true (A.ev rfl) ?_))
           refine wrl (sdm A λa A↦?_)
           refine sdo (v := .string (⟨(([34] ++ acc) ++ ([92, 114])).toArray⟩)) A (qe rfl rfl (qj (a := [34] ++ acc) (b := [92, 114]) (by first | omega | (simp only [List.length_append, List.length_cons, List.length_nil]; omega)))) λa A↦?_
           refine sda A λa A↦?_
           refine qa ?_
           have hq9 : C.strC ((cr13 : Nat) : Int) = ([92, 114]) := (by rw [show ((cr13 : Nat) : Int) = 13 from hb35']; rfl)
           refine hK8 _ _ _ (by omega) ⟨p_ + cq14, acc ++ ([92, 114]), rfl, ⟨by rw [← hin9, zm hx11 he15, List.flatMap_cons, hq9, List.append_assoc], by rw [← hq9, List.length_append]; omega, by omega⟩, A.keep _ ⟨rfl, rfl, rfl, rfl, rfl, trivial⟩, M⟩
          ·
           have hb35' := ne_of_beq_false hb35
           refine sdc A qg hb35 λa A↦?_
           refine sda A λa A↦?_
           refine qa (hK34 _ _ (wp_cond_false (A.ev rfl) ?_))
           refine wsk fun K36 hK36 => wrl (sdm A λa A↦?_)
           rcases tf (C.ctlB (((cr13 : Nat) : Int))) with hb37 | hb37
           ·
            refine sct A (ef rfl rfl) ((hb37 ▸ C.rodd_any (((cr13 : Nat) : Int)) _)) ?_
            rintro _ w39 ⟨rfl, hw38⟩
            subst hw38
            refine ⟨_, rfl, ?_⟩
            intro a A
            refine sdm A λa A↦?_
            iterate 2 refine qh A rfl rfl rfl λa A↦?_
            refine sdk (v := .bool true) A λa A↦?_
            refine sdm A λa A↦?_
            iterate 2 refine qh A rfl rfl rfl λa A↦?_
            refine sdk (v := .bool true) A λa A↦?_
            refine sda A λa A↦?_
            refine qa (hK36 _ _ (wp_cond_true (A.ev rfl) ?_))
            refine wrl ?_
            iterate 2 refine sdm A λa A↦?_
            refine gcl A M (ef rfl rfl) (C.rhex_any cr13 (vd (xe he15)) _) fun w41 hb40 M a A => ?_
            refine sdo (v := .string (⟨(([92, 120]) ++ (C.hexD cr13)).toArray⟩)) A (qe rfl rfl (qj (a := [92, 120]) (b := C.hexD cr13) (by first | omega | (simp only [List.length_append, List.length_cons, List.length_nil]; omega)))) λa A↦?_
            refine sdo (v := .string (⟨((([92, 120]) ++ (C.hexD cr13)) ++ ([59])).toArray⟩)) A (qe rfl rfl (qj (a := ([92, 120]) ++ (C.hexD cr13)) (b := [59]) (by first | omega | (simp only [List.length_append, List.length_cons, List.length_nil]; omega)))) λa A↦?_
            refine sdo (v := .string (⟨(([34] ++ acc) ++ ((([92, 120]) ++ (C.hexD cr13)) ++ ([59]))).toArray⟩)) A (qe rfl rfl (qj (a := [34] ++ acc) (b := (([92, 120]) ++ (C.hexD cr13)) ++ ([59])) (by first | omega | (simp only [List.length_append, List.length_cons, List.length_nil]; omega)))) λa A↦?_
            refine sda A λa A↦?_
            refine qa ?_
            have hq9 : C.strC ((cr13 : Nat) : Int) = ((([92, 120]) ++ (C.hexD cr13)) ++ ([59])) := ((vh (by omega) (by omega) (.inl hb37)).trans (by rw [ke]))
            refine hK8 _ _ _ (by omega) ⟨p_ + cq14, acc ++ ((([92, 120]) ++ (C.hexD cr13)) ++ ([59])), rfl, ⟨by rw [← hin9, zm hx11 he15, List.flatMap_cons, hq9, List.append_assoc], by rw [← hq9, List.length_append]; omega, by omega⟩, A.keep _ ⟨rfl, rfl, rfl, rfl, rfl, trivial⟩, M⟩
           ·
            refine sct A (ef rfl rfl) ((hb37 ▸ C.rodd_any (((cr13 : Nat) : Int)) _)) ?_
            rintro _ w43 ⟨rfl, hw42⟩
            subst hw42
            refine ⟨_, rfl, ?_⟩
            intro a A
            iterate 2 refine sdm A λa A↦?_
            rcases tf ((((cr13 : Nat) : Int) == 8232)) with hb44 | hb44
            ·
             have hb44' := eq_of_beq hb44
             refine sdc A qg hb44 λa A↦?_
             refine sdk (v := .bool true) A λa A↦?_
             refine sdm A λa A↦?_
             iterate 2 refine qh A rfl rfl rfl λa A↦?_
             refine sdk (v := .bool true) A λa A↦?_
             refine sda A λa A↦?_
             refine qa (hK36 _ _ (wp_cond_true (A.ev rfl) ?_))
             refine wrl ?_
             iterate 2 refine sdm A λa A↦?_
             refine gcl A M (ef rfl rfl) (C.rhex_any cr13 (vd (xe he15)) _) fun w46 hb45 M a A => ?_
             refine sdo (v := .string (⟨(([92, 120]) ++ (C.hexD cr13)).toArray⟩)) A (qe rfl rfl (qj (a := [92, 120]) (b := C.hexD cr13) (by first | omega | (simp only [List.length_append, List.length_cons, List.length_nil]; omega)))) λa A↦?_
             refine sdo (v := .string (⟨((([92, 120]) ++ (C.hexD cr13)) ++ ([59])).toArray⟩)) A (qe rfl rfl (qj (a := ([92, 120]) ++ (C.hexD cr13)) (b := [59]) (by first | omega | (simp only [List.length_append, List.length_cons, List.length_nil]; omega)))) λa A↦?_
             refine sdo (v := .string (⟨(([34] ++ acc) ++ ((([92, 120]) ++ (C.hexD cr13)) ++ ([59]))).toArray⟩)) A (qe rfl rfl (qj (a := [34] ++ acc) (b := (([92, 120]) ++ (C.hexD cr13)) ++ ([59])) (by first | omega | (simp only [List.length_append, List.length_cons, List.length_nil]; omega)))) λa A↦?_
             refine sda A λa A↦?_
             refine qa ?_
             have hq9 : C.strC ((cr13 : Nat) : Int) = ((([92, 120]) ++ (C.hexD cr13)) ++ ([59])) := ((vh (by omega) (by omega) (.inr (by omega))).trans (by rw [ke]))
             refine hK8 _ _ _ (by omega) ⟨p_ + cq14, acc ++ ((([92, 120]) ++ (C.hexD cr13)) ++ ([59])), rfl, ⟨by rw [← hin9, zm hx11 he15, List.flatMap_cons, hq9, List.append_assoc], by rw [← hq9, List.length_append]; omega, by omega⟩, A.keep _ ⟨rfl, rfl, rfl, rfl, rfl, trivial⟩, M⟩
            ·
             have hb44' := ne_of_beq_false hb44
             refine sdc A qg hb44 λa A↦?_
             refine sdk (v := .bool false) A λa A↦?_
             iterate 2 refine sdm A λa A↦?_
             rcases tf ((((cr13 : Nat) : Int) == 65279)) with hb47 | hb47
             ·
              have hb47' := eq_of_beq hb47
              refine sdc A qg hb47 λa A↦?_
              refine sdk (v := .bool true) A λa A↦?_
              refine sda A λa A↦?_
              refine qa (hK36 _ _ (wp_cond_true (A.ev rfl) ?_))
              refine wrl ?_
              iterate 2 refine sdm A λa A↦?_
              refine gcl A M (ef rfl rfl) (C.rhex_any cr13 (vd (xe he15)) _) fun w49 hb48 M a A => ?_
              refine sdo (v := .string (⟨(([92, 120]) ++ (C.hexD cr13)).toArray⟩)) A (qe rfl rfl (qj (a := [92, 120]) (b := C.hexD cr13) (by first | omega | (simp only [List.length_append, List.length_cons, List.length_nil]; omega)))) λa A↦?_
              refine sdo (v := .string (⟨((([92, 120]) ++ (C.hexD cr13)) ++ ([59])).toArray⟩)) A (qe rfl rfl (qj (a := ([92, 120]) ++ (C.hexD cr13)) (b := [59]) (by first | omega | (simp only [List.length_append, List.length_cons, List.length_nil]; omega)))) λa A↦?_
              refine sdo (v := .string (⟨(([34] ++ acc) ++ ((([92, 120]) ++ (C.hexD cr13)) ++ ([59]))).toArray⟩)) A (qe rfl rfl (qj (a := [34] ++ acc) (b := (([92, 120]) ++ (C.hexD cr13)) ++ ([59])) (by first | omega | (simp only [List.length_append, List.length_cons, List.length_nil]; omega)))) λa A↦?_
              refine sda A λa A↦?_
              refine qa ?_
              have hq9 : C.strC ((cr13 : Nat) : Int) = ((([92, 120]) ++ (C.hexD cr13)) ++ ([59])) := ((vh (by omega) (by omega) (.inr (by omega))).trans (by rw [ke]))
              refine hK8 _ _ _ (by omega) ⟨p_ + cq14, acc ++ ((([92, 120]) ++ (C.hexD cr13)) ++ ([59])), rfl, ⟨by rw [← hin9, zm hx11 he15, List.flatMap_cons, hq9, List.append_assoc], by rw [← hq9, List.length_append]; omega, by omega⟩, A.keep _ ⟨rfl, rfl, rfl, rfl, rfl, trivial⟩, M⟩
             ·
              have hb47' := ne_of_beq_false hb47
              refine sdc A qg hb47 λa A↦?_
              refine sdk (v := .bool false) A λa A↦?_
              refine sda A λa A↦?_
              refine qa (hK36 _ _ (wp_cond_false (A.ev rfl) ?_))
              refine wrl ?_
              iterate 2 refine sdm A λa A↦?_
              refine sdo (v := .string (⟨(Lib.encodeRune (((cr13 : Nat) : Int))).toArray⟩)) A (qt rfl (qhc (n := cr13) Tryz.underlying21 Tryz.underlying9 (xe he15))) λa A↦?_
              refine sdo (v := .string (⟨(([34] ++ acc) ++ (Lib.encodeRune (((cr13 : Nat) : Int)))).toArray⟩)) A (qe rfl rfl (qj (a := [34] ++ acc) (b := Lib.encodeRune (((cr13 : Nat) : Int))) (by first | omega | (simp only [List.length_append, List.length_cons, List.length_nil]; omega)))) λa A↦?_
              refine sda A λa A↦?_
              refine qa ?_
              have hq9 : C.strC ((cr13 : Nat) : Int) = (Lib.encodeRune (((cr13 : Nat) : Int))) := (qdg (by omega) (by omega) (fun k => by rcases k with k | k; rw [hb37] at k; cases k; omega))
              refine hK8 _ _ _ (by omega) ⟨p_ + cq14, acc ++ (Lib.encodeRune (((cr13 : Nat) : Int))), rfl, ⟨by rw [← hin9, zm hx11 he15, List.flatMap_cons, hq9, List.append_assoc], by rw [← hq9, List.length_append]; omega, by omega⟩, A.keep _ ⟨rfl, rfl, rfl, rfl, rfl, trivial⟩, M⟩
 ·
  refine qpb A M rfl rfl 0 rfl hx11 rfl rfl rfl λa A↦?_
  refine sdo A (qp (vs := [.bool false]) rfl rfl) λa A↦?_
  refine qa (hK10 _ _ (wsk fun K50 hK50 => wp_cond_false (A.ev rfl) ?_))
  refine wp_exit (hK3 _ _ (wsk fun K51 hK51 => wrl (sdm A λa A↦?_)))
  refine sdo (v := .string (⟨(([34] ++ acc) ++ ([34])).toArray⟩)) A (qe rfl rfl (qj (a := [34] ++ acc) (b := [34]) (by first | omega | (simp only [List.length_append, List.length_cons, List.length_nil]; omega)))) λa A↦?_
  refine sda A λa A↦?_
  refine qa (hK51 _ _ (wp_ret (hret _ _ (en1 A rfl (qf rfl) ?_))))
  exact ⟨by rw [show qcd false s = ([34] ++ acc) ++ ([34]) from (by unfold qcd; rw [if_neg (by decide), ← hin9, yv hx11, List.flatMap_nil, List.append_nil])], M.bel⟩
open Go.RowKit Go.Lib
theorem qia {l : List UInt8} (hl : l ≠ []) : qn l = ((decodeL l).1 : Int) :: qn (l.drop (decodeL l).2) := by
  have hw := xl l hl
  unfold qn
  obtain ⟨m, hm⟩ : ∃ m, l.length = m + 1 := ⟨l.length - 1, by omega⟩
  rw [hm]
  conv => lhs; unfold jv
  rw [if_neg hl, qag m (l.drop (decodeL l).2).length _ (by rw [List.length_drop]; omega) (Nat.le_refl _)]
/-- Numbers as they lie in a row of runes. -/
def uy (rs : List Int) : List Value := rs.map fun r => .int .i32 r
theorem ve {rs : List Int} {j : Nat} (h : j < rs.length) : (uy rs)[j]? = some (.int .i32 (rs.getD j 0)) := by
  unfold uy
  rw [List.getElem?_map, List.getElem?_eq_getElem h]
  simp [List.getD, List.getElem?_eq_getElem h]
theorem qzh {l : List UInt8} (h : (decodeL l).1 < 128) : (decodeL l).1 = (l.getD 0 0).toNat ∧ (decodeL l).2 ≤ 1 := by
  rw [decodeL_N] at h ⊢
  have k0 := (l.getD 0 0).toNat_lt
  generalize (l.getD 0 0).toNat = b0 at *
  generalize (l.getD 1 0).toNat = b1 at *
  generalize (l.getD 2 0).toNat = b2 at *
  generalize (l.getD 3 0).toNat = b3 at *
  by_cases hb : b0 < 128
  · unfold decodeN
    rw [if_pos hb]
    exact ⟨rfl, Nat.le_refl _⟩
  · have key : 128 ≤ (decodeN l.length b0 b1 b2 b3).1 := by
      unfold decodeN
      rw [if_neg hb]
      repeat' split
      all_goals (simp only; omega)
    omega
theorem qzi {b : UInt8} {r : List UInt8} (h : b.toNat < 128) : decodeL (b :: r) = (b.toNat, 1) := by
  rw [decodeL_N]
  simp only [List.getD_cons_zero]
  unfold decodeN
  rw [if_pos h]
theorem yf {b : UInt8} {r : List UInt8} (h : b.toNat < 128) : qn (b :: r) = ((b.toNat : Nat) : Int) :: qn r := by
  rw [qia (by simp), qzi h]
  rfl
theorem yq {l : List UInt8} (h : hasPrefix l [45, 62] = true) : qn l = 45 :: 62 :: qn (l.drop 2) := by
  unfold hasPrefix at h
  match l, h with
  | [], h => simp [List.isPrefixOf] at h
  | [a], h => simp [List.isPrefixOf] at h
  | a :: b :: r, h =>
    simp [List.isPrefixOf] at h
    obtain ⟨rfl, rfl⟩ := h
    rw [yf (by decide), yf (by decide)]
    rfl
theorem znc {l : List UInt8} (h2 : 2 ≤ (qn l).length) (h0 : (qn l).getD 0 0 = 45) (h1 : (qn l).getD 1 0 = 62) : hasPrefix l [45, 62] = true := by
  have key : ∀ (m : List UInt8) (c : Nat), c < 128 → m ≠ [] → (qn m).getD 0 0 = ((c : Nat) : Int) → ∃ r, m = UInt8.ofNat c :: r := by
    intro m c hc hm h
    rw [qia hm] at h
    simp only [List.getD_cons_zero] at h
    have h9 := qzh (l := m) (by omega)
    match m, hm with
    | a :: r, _ =>
      simp only [List.getD_cons_zero] at h9
      refine ⟨r, ?_⟩
      congr 1
      rw [show c = a.toNat by omega, UInt8.ofNat_toNat]
  have hl : l ≠ [] := fun e => by subst e; simp [qn, jv] at h2
  obtain ⟨r, rfl⟩ := key l 45 (by decide) hl h0
  rw [yf (by decide)] at h1 h2
  simp only [List.getD_cons_succ, List.length_cons] at h1 h2
  have hr : r ≠ [] := fun e => by subst e; simp [qn, jv] at h2
  obtain ⟨r', rfl⟩ := key r 62 (by decide) hr h1
  rfl
theorem zec {l : List UInt8} {i : Nat} (hi : i < (qn l).length) : ∃ n : Nat, (qn l).getD i 0 = ((n : Nat) : Int) ∧ C.OkR ((n : Nat) : Int) := by
  have key : ∀ (f : Nat) (l : List UInt8), ∀ x ∈ jv f l, ∃ n : Nat, x = ((n : Nat) : Int) ∧ C.OkR ((n : Nat) : Int) := by
    intro f
    induction f with
    | zero => intro l x hx; simp [jv] at hx
    | succ f ih =>
      intro l x hx
      unfold jv at hx
      split at hx
      · simp at hx
      · rcases List.mem_cons.1 hx with rfl | hx
        · refine ⟨_, rfl, ?_⟩
          have := un l
          unfold C.OkR
          omega
        · exact ih _ x hx
  rw [show (qn l).getD i 0 = (qn l)[i] from by simp [List.getD, List.getElem?_eq_getElem hi]]
  exact key _ l _ (List.getElem_mem hi)
theorem qhd {rs : List Int} {i : Nat} (hi : i < rs.length) (fl : Bool) : inL fl (rs.drop i) = inS fl (rs.getD i 0) ++ inL false (rs.drop (i + 1)) := by
  rw [List.drop_eq_getElem_cons hi, show rs.getD i 0 = rs[i] from by simp [List.getD, List.getElem?_eq_getElem hi]]
  rfl
theorem zjf {rs : List Int} {i : Nat} (hi : ¬ i < rs.length) (fl : Bool) : inL fl (rs.drop i) = [] := by rw [List.drop_of_length_le (by omega)]; rfl
theorem qle : ∀ (f : Nat) (l : List UInt8), (jv f l).length ≤ f
  | 0, l => by simp [jv]
  | f + 1, l => by
    unfold jv
    split
    · simp
    · rw [List.length_cons]; have := qle f (l.drop (decodeL l).2); omega
theorem zjg (s : ByteArray) : (qn s.data.toList).length ≤ s.size := by
  have := qle s.data.toList.length s.data.toList
  rw [zf] at this
  unfold qn
  rw [zf]
  exact this
theorem UdB_is1_21 : Is1 Tryz.prog 21 := ⟨⟨_, Tryz.underlying21, rfl⟩, by kernel_rfl⟩
theorem qzj {w : World} {s : ByteArray} (hs : s.size ≤ 2000000) : Calls Tryz.prog 44 #[.string s] w fun e w' => ∃ v, e = .returned v ∧ Mg w w' [.row 21 1 v (qn s.data.toList).length (uy (qn s.data.toList))] := by
 have M : Mg w w ([]) := Mg.start w
 refine qm (l := [(0, .string s)]) Tryz.func44 rfl Tryz.ntmps44 rfl rfl ?_
 intro Q hret hnorm hP a A
 refine wsk fun K1 hK1 => wrl (sda A λa A↦?_)
 refine qa (hK1 _ _ (wsk fun K2 hK2 => wrl (yj (e := 21) (sz := 1) (m := 0) (vs := []) A M rfl rfl rfl (qr rfl (by kernel_rfl)) rfl rfl (.inl (by decide)) ?_)))
 intro g3 w4 M a A
 refine sda A λa A↦?_
 refine qa (hK2 _ _ (wsk fun K5 hK5 => wsk fun K6 hK6 => wrl (sdm A λa A↦?_)))
 refine qic A M rfl Tryz.underlying9 rfl rfl rfl rfl ?_
 intro g7 w8 M a A
 refine qa (hK6 _ _ (wp_block (zt (fun m_ a w1 => ∃ (p : Nat) (acc : List Int) (vo : Value), m_ = 1 + (s.size - p) ∧ (acc ++ ym s p = qn s.data.toList ∧ acc.length ≤ p ∧ p ≤ s.size) ∧ Sl a 17 [(0, .string s), (2, .slice none 0 0), (3, vo), (6, .slice (some ⟨g3, 0, none⟩) 0 0), (7, .string s), (8, .pointer (some ⟨g7, 0, none⟩))] ∧ Mg w w1 (.obj g7 (.stringIter s p) :: .row 21 1 (vo) acc.length ((uy acc)) :: [])) _ ⟨0, [], .slice (some ⟨g3, 0, none⟩) 0 0, rfl, ⟨by rw [List.nil_append, yu], Nat.zero_le _, Nat.zero_le _⟩, A.keep _ ⟨rfl, rfl, rfl, rfl, rfl, rfl, trivial⟩, M⟩ ?_)))
 clear M A
 rintro m_ a w9 ⟨p, acc, vo, rfl, hinv11, A, M⟩ K10 hK10
 obtain ⟨hin9, ha9, hp9⟩ := hinv11
 refine wsk fun K12 hK12 => wrl ?_
 by_cases hx13 : p < s.size
 ·
  obtain ⟨cr15, cq16, he17⟩ : ∃ r q, Utf8.decode s p = (r, q) := ⟨_, _, rfl⟩
  refine qpa (L' := (.obj g7 (.stringIter s (p + cq16)) :: .row 21 1 (vo) acc.length ((uy acc)) :: [])) A M rfl rfl 0 rfl hx13 rfl rfl rfl he17 rfl ?_
  intro w14 M a A
  refine sdo A (qp (vs := [.bool true, .int .i64 (((p : Nat) : Int)), .int .i32 (((cr15 : Nat) : Int))]) rfl rfl) λa A↦?_
  refine qa (hK12 _ _ (wsk fun K18 hK18 => wp_cond_true (A.ev rfl) ?_))
  refine wp_skip (hK18 _ _ (wp_block (wsk fun K19 hK19 => wrl (sdo A (qp (vs := [.bool true, .int .i64 (((p : Nat) : Int)), .int .i32 (((cr15 : Nat) : Int))]) rfl rfl) λa A↦?_))))
  refine sda A λa A↦?_
  refine qa (hK19 _ _ (wrl ?_))
  iterate 2 refine sdm A λa A↦?_
  refine yj (e := 21) (sz := 1) (m := 1) (vs := [.int .i32 (((cr15 : Nat) : Int))]) A M rfl rfl rfl (qr rfl (by kernel_rfl)) rfl rfl (.inl (by decide)) ?_
  intro g20 w21 M a A
  refine qbe (e := 21) (sz := 1) (k := 2) (q := acc.length) (m := 1) (xs := (uy acc)) (news := [.int .i32 (((cr15 : Nat) : Int))]) (L' := fun v22 => (.row 21 1 (.slice (some ⟨g20, 0, none⟩) 1 1) 1 ([.int .i32 (((cr15 : Nat) : Int))]) :: .obj g7 (.stringIter s (p + cq16)) :: .row 21 1 (v22) (acc.length + 1) ((uy acc) ++ [.int .i32 (((cr15 : Nat) : Int))]) :: [])) A rfl rfl rfl (qbd (z := .int .i32 0) (sz := 1) (by_ := 4) Tryz.underlying70 (by kernel_rfl) rfl rfl rfl M 2 rfl rfl 0 rfl rfl rfl rfl (by omega)) (fun _ => rfl) ?_
  intro v22 w23 M a A
  refine sda A λa A↦?_
  refine qa ?_
  replace M : Mg w w23 (.obj g7 (.stringIter s (p + cq16)) :: .row 21 1 (v22) ((acc ++ [((cr15 : Nat) : Int)]).length) ((uy (acc ++ [((cr15 : Nat) : Int)]))) :: []) := by
   have h9 := M.sub (.cons _ (.cons_cons _ (.cons_cons _ (.refl _))))
   simpa [uy] using h9
  have hz9 := (yt hx13 he17).2
  refine hK10 _ _ _ (by omega) ⟨p + cq16, acc ++ [((cr15 : Nat) : Int)], v22, rfl, ⟨by rw [← hin9, zm hx13 he17, List.append_assoc]; rfl, by rw [List.length_append]; simp only [List.length_cons, List.length_nil]; omega, by omega⟩, A.keep _ ⟨rfl, rfl, rfl, rfl, rfl, rfl, trivial⟩, M⟩
 ·
  refine qpb A M rfl rfl 0 rfl hx13 rfl rfl rfl λa A↦?_
  refine sdo A (qp (vs := [.bool false]) rfl rfl) λa A↦?_
  refine qa (hK12 _ _ (wsk fun K24 hK24 => wp_cond_false (A.ev rfl) ?_))
  refine wp_exit (hK5 _ _ (wsk fun K25 hK25 => wrl (sdm A λa A↦?_)))
  refine sda A λa A↦?_
  refine qa (hK25 _ _ (wp_ret (hret _ _ (en1 A rfl (qf rfl) ?_))))
  rw [← hin9, yv hx13, List.append_nil]
  exact ⟨_, rfl, M.sub (.cons _ (.cons_cons _ (.refl _)))⟩
set_option maxHeartbeats 4000000 in
theorem zjh {w : World} {s : ByteArray} (hs : s.size ≤ 2000000) : Calls Tryz.prog 18 #[.string s] w fun e w' => e = .returned (.string ⟨(kw false s).toArray⟩) ∧ Below w.heap.size w w' := by
 have hcl := zjg s
 have M : Mg w w ([]) := Mg.start w
 refine qm (l := [(0, .string s)]) Tryz.func18 rfl Tryz.ntmps18 rfl rfl ?_
 intro Q hret hnorm hP a A
 refine wsk fun K1 hK1 => wrl (sda A λa A↦?_)
 refine qa (hK1 _ _ (wsk fun K2 hK2 => wsk fun K3 hK3 => wrl (sdm A λa A↦?_)))
 rcases tf (decide (s = ⟨#[]⟩)) with hb4 | hb4
 ·
  have hb4' := of_decide_eq_true hb4
  refine sdo (v := .bool true) A (qe rfl rfl (fun w => (zl Tryz.underlying9 w).trans (by rw [hb4] <;> rfl))) λa A↦?_
  refine qa (hK3 _ _ (wp_cond_true (A.ev rfl) ?_))
  refine wsk fun K5 hK5 => wrl (sda A λa A↦?_)
  refine qa (hK5 _ _ (wp_ret (hret _ _ (en1 A rfl (qf rfl) ?_))))
  exact ⟨by rw [zgg (fun k => by rcases k with k | k | k | k; cases k; all_goals (rw [hb4'] at k; cases k)) hb4'], M.bel⟩
 ·
  have hb4' := of_decide_eq_false hb4
  refine sdo (v := .bool false) A (qe rfl rfl (fun w => (zl Tryz.underlying9 w).trans (by rw [hb4] <;> rfl))) λa A↦?_
  refine qa (hK3 _ _ (wp_cond_false (A.ev rfl) ?_))
  refine wp_skip (hK2 _ _ (wsk fun K6 hK6 => wsk fun K7 hK7 => wrl (sdm A λa A↦?_)))
  rcases tf (decide (s = ⟨#[43]⟩)) with hb8 | hb8
  ·
   have hb8' := of_decide_eq_true hb8
   refine sdo (v := .bool true) A (qe rfl rfl (fun w => (zl Tryz.underlying9 w).trans (by rw [hb8] <;> rfl))) λa A↦?_
   refine sdm A λa A↦?_
   iterate 2 refine qh A rfl rfl rfl λa A↦?_
   refine sdk (v := .bool true) A λa A↦?_
   refine sdm A λa A↦?_
   iterate 2 refine qh A rfl rfl rfl λa A↦?_
   refine sdk (v := .bool true) A λa A↦?_
   refine qa (hK7 _ _ (wp_cond_true (A.ev rfl) ?_))
   refine wsk fun K9 hK9 => wrl (sdm A λa A↦?_)
   refine sda A λa A↦?_
   refine qa (hK9 _ _ (wp_ret (hret _ _ (en1 A rfl (qf rfl) ?_))))
   exact ⟨by rw [qdi (.inr (.inl hb8')), yp], M.bel⟩
  ·
   have hb8' := of_decide_eq_false hb8
   refine sdo (v := .bool false) A (qe rfl rfl (fun w => (zl Tryz.underlying9 w).trans (by rw [hb8] <;> rfl))) λa A↦?_
   iterate 2 refine sdm A λa A↦?_
   rcases tf (decide (s = ⟨#[45]⟩)) with hb10 | hb10
   ·
    have hb10' := of_decide_eq_true hb10
    refine sdo (v := .bool true) A (qe rfl rfl (fun w => (zl Tryz.underlying9 w).trans (by rw [hb10] <;> rfl))) λa A↦?_
    refine sdk (v := .bool true) A λa A↦?_
    refine sdm A λa A↦?_
    iterate 2 refine qh A rfl rfl rfl λa A↦?_
    refine sdk (v := .bool true) A λa A↦?_
    refine qa (hK7 _ _ (wp_cond_true (A.ev rfl) ?_))
    refine wsk fun K11 hK11 => wrl (sdm A λa A↦?_)
    refine sda A λa A↦?_
    refine qa (hK11 _ _ (wp_ret (hret _ _ (en1 A rfl (qf rfl) ?_))))
    exact ⟨by rw [qdi (.inr (.inr (.inl hb10'))), yp], M.bel⟩
   ·
    have hb10' := of_decide_eq_false hb10
    refine sdo (v := .bool false) A (qe rfl rfl (fun w => (zl Tryz.underlying9 w).trans (by rw [hb10] <;> rfl))) λa A↦?_
    refine sdk (v := .bool false) A λa A↦?_
    iterate 2 refine sdm A λa A↦?_
    rcases tf (decide (s = ⟨#[46, 46, 46]⟩)) with hb12 | hb12
    ·
     have hb12' := of_decide_eq_true hb12
     refine sdo (v := .bool true) A (qe rfl rfl (fun w => (zl Tryz.underlying9 w).trans (by rw [hb12] <;> rfl))) λa A↦?_
     refine sdk (v := .bool true) A λa A↦?_
     refine qa (hK7 _ _ (wp_cond_true (A.ev rfl) ?_))
     refine wsk fun K13 hK13 => wrl (sdm A λa A↦?_)
     refine sda A λa A↦?_
     refine qa (hK13 _ _ (wp_ret (hret _ _ (en1 A rfl (qf rfl) ?_))))
     exact ⟨by rw [qdi (.inr (.inr (.inr hb12'))), yp], M.bel⟩
    ·
     have hb12' := of_decide_eq_false hb12
     refine sdo (v := .bool false) A (qe rfl rfl (fun w => (zl Tryz.underlying9 w).trans (by rw [hb12] <;> rfl))) λa A↦?_
     refine sdk (v := .bool false) A λa A↦?_
     refine qa (hK7 _ _ (wp_cond_false (A.ev rfl) ?_))
     refine wp_skip (hK6 _ _ (wsk fun K14 hK14 => wrl (sdm A λa A↦?_)))
     refine sct A (ef rfl rfl) (qzj hs) ?_
     rintro _ w18 ⟨v9, rfl, hM15⟩
     obtain ⟨so16, ca17, rfl⟩ := qbb (hM15.has 0 rfl)
     replace M : Mg w w18 (.row 21 1 (.slice so16 ((qn s.data.toList).length) ca17) ((qn s.data.toList).length) ((uy (qn s.data.toList))) :: []) := (M.both hM15 (xm vq) (vt (by simp) (xm vq)))
     refine ⟨_, rfl, ?_⟩
     intro a A
     refine sda A λa A↦?_
     refine qa (hK14 _ _ (wsk fun K19 hK19 => wrl (sda A λa A↦?_)))
     refine qa (hK19 _ _ (wsk fun K20 hK20 => wrl (sda A λa A↦?_)))
     refine qa (hK20 _ _ (wsk fun K21 hK21 => ?_))
     have hJ22 : ∀ a w1, (∃ (fr : Nat) (P : List UInt8), ((Lib.hasPrefix s.data.toList [45, 62] = true ∧ fr = 2 ∧ P = [45, 62]) ∨ (Lib.hasPrefix s.data.toList [45, 62] = false ∧ fr = 0 ∧ P = [])) ∧ Sl a 75 [(0, .string s), (2, .string (⟨#[]⟩)), (3, .slice so16 ((qn s.data.toList).length) ca17), (4, .string (⟨(P).toArray⟩)), (5, .int .i64 (((fr : Nat) : Int))), (8, .string s), (9, .bool false), (10, .string s), (11, .bool false), (12, .bool false), (13, .string s), (14, .bool false), (15, .bool false), (16, .bool false), (17, .string s), (18, .bool false), (19, .bool false), (21, .string s), (22, .slice so16 ((qn s.data.toList).length) ca17)] ∧ Mg w w1 (.row 21 1 (.slice so16 ((qn s.data.toList).length) ca17) ((qn s.data.toList).length) ((uy (qn s.data.toList))) :: [])) → K21 a w1 := by
      clear A M
      rintro a w23 ⟨fr, P, hf24, A, M⟩
      have hfr : fr ≤ (qn s.data.toList).length := by
       rcases hf24 with ⟨h, h2, _⟩ | ⟨_, h2, _⟩
       ·
        have := congrArg List.length (yq h)
        simp only [List.length_cons] at this
        omega
       ·
        omega
      have hPl : P.length ≤ 2 := by rcases hf24 with ⟨_, _, h⟩ | ⟨_, _, h⟩ <;> rw [h] <;> decide
      have hpx := hf24
      refine hK21 _ _ (wsk fun K25 hK25 => wsk fun K26 hK26 => wrl (sdm A λa A↦?_))
      refine sda A λa A↦?_
      refine qa (hK26 _ _ (wp_block (zt (fun m_ a w1 => ∃ (i : Nat) (acc : List UInt8), m_ = 1 + ((qn s.data.toList).length - i) ∧ (fr ≤ i ∧ i ≤ (qn s.data.toList).length ∧ acc ++ inL (decide (i = 0)) ((qn s.data.toList).drop i) = P ++ inL (decide (fr = 0)) ((qn s.data.toList).drop fr) ∧ acc.length ≤ 9 * i + 2) ∧ Sl a 75 [(0, .string s), (2, .string (⟨#[]⟩)), (3, .slice so16 ((qn s.data.toList).length) ca17), (4, .string (⟨(acc).toArray⟩)), (5, .int .i64 (((fr : Nat) : Int))), (6, .int .i64 (((i : Nat) : Int))), (8, .string s), (9, .bool false), (10, .string s), (11, .bool false), (12, .bool false), (13, .string s), (14, .bool false), (15, .bool false), (16, .bool false), (17, .string s), (18, .bool false), (19, .bool false), (21, .string s), (22, .slice so16 ((qn s.data.toList).length) ca17), (38, .int .i64 (((fr : Nat) : Int)))] ∧ Mg w w1 (.row 21 1 (.slice so16 ((qn s.data.toList).length) ca17) ((qn s.data.toList).length) ((uy (qn s.data.toList))) :: [])) _ ⟨fr, P, rfl, ⟨Nat.le_refl _, hfr, rfl, by omega⟩, A.keep _ ⟨rfl, rfl, rfl, rfl, rfl, rfl, rfl, rfl, rfl, rfl, rfl, rfl, rfl, rfl, rfl, rfl, rfl, rfl, rfl, rfl, rfl, trivial⟩, M⟩ ?_)))
      clear M A
      rintro m_ a w27 ⟨i, acc, rfl, hinv29, A, M⟩ K28 hK28
      obtain ⟨hf9, hi0, hin9, ha9⟩ := hinv29
      refine wsk fun K30 hK30 => wsk fun K31 hK31 => wrl ?_
      iterate 2 refine sdm A λa A↦?_
      refine sdo A (qx Tryz.underlying70 rfl) λa A↦?_
      rcases tf (decide (((i : Nat) : Int) < (((qn s.data.toList).length : Nat) : Int))) with hb32 | hb32
      ·
       have hb32' := of_decide_eq_true hb32
       refine sdc A zg hb32 λa A↦?_
       refine qa (hK31 _ _ (wp_cond_true (A.ev rfl) ?_))
       refine wp_skip (hK30 _ _ (wsk fun K33 hK33 => wp_block (wsk fun K34 hK34 => wrl ?_)))
       iterate 2 refine sdm A λa A↦?_
       obtain ⟨gu, hgu⟩ := qfh M 0 rfl (by omega)
       refine sdo (v := .pointer (some ⟨gu, i * 1, none⟩)) A (zy (k := i) Tryz.underlying70 (by kernel_rfl) rfl rfl rfl hgu (show i < (qn s.data.toList).length by omega)) λa A↦?_
       obtain ⟨rn, hrn, ho⟩ := zec (l := s.data.toList) (i := i) (by omega)
       have hn := vd ho
       have hxd := C.hexD_len rn hn
       have hen4 := yd ((rn : Nat) : Int)
       refine sdo A (xq (j := i * 1) M 0 rfl hgu (by rw [Nat.mul_one, ve (by omega), hrn]) UdB_is1_21 rfl) λa A↦?_
       rcases tf ((C.firstB ((rn : Nat) : Int) || C.restB ((rn : Nat) : Int))) with hb35 | hb35
       ·
        refine gcl A M (ef rfl rfl) ((hb35 ▸ C.rrest_any ((rn : Nat) : Int) ho _)) fun w37 hb36 M a A => ?_
        refine sda A λa A↦?_
        refine qa (hK34 _ _ (wsk fun K38 hK38 => wsk fun K39 hK39 => wrl (sdm A λa A↦?_)))
        rcases tf ((((i : Nat) : Int) == 0)) with hb40 | hb40
        ·
         have hb40' := eq_of_beq hb40
         refine sdc A qg hb40 λa A↦?_
         refine qa (hK39 _ _ (wp_cond_true (A.ev rfl) ?_))
         refine wrl ?_
         iterate 2 refine sdm A λa A↦?_
         refine sdo (v := .pointer (some ⟨gu, i * 1, none⟩)) A (zy (k := i) Tryz.underlying70 (by kernel_rfl) rfl rfl rfl hgu (show i < (qn s.data.toList).length by omega)) λa A↦?_
         refine sdo A (xq (j := i * 1) M 0 rfl hgu (by rw [Nat.mul_one, ve (by omega), hrn]) UdB_is1_21 rfl) λa A↦?_
         rcases tf (C.firstB ((rn : Nat) : Int)) with hb41 | hb41
         ·
          refine gcl A M (ef rfl rfl) ((hb41 ▸ C.rfirst_any ((rn : Nat) : Int) ho _)) fun w43 hb42 M a A => ?_
          refine sda A λa A↦?_
          refine qa (hK38 _ _ (wsk fun K44 hK44 => wrl (sdm A λa A↦?_)))
          refine qa (hK44 _ _ (wp_cond_true (A.ev rfl) ?_))
          refine wrl ?_
          iterate 3 refine sdm A λa A↦?_
          refine sdo (v := .pointer (some ⟨gu, i * 1, none⟩)) A (zy (k := i) Tryz.underlying70 (by kernel_rfl) rfl rfl rfl hgu (show i < (qn s.data.toList).length by omega)) λa A↦?_
          refine sdo A (xq (j := i * 1) M 0 rfl hgu (by rw [Nat.mul_one, ve (by omega), hrn]) UdB_is1_21 rfl) λa A↦?_
          refine sdo (v := .string (⟨(Lib.encodeRune (((rn : Nat) : Int))).toArray⟩)) A (qt rfl (qhc (n := rn) Tryz.underlying21 Tryz.underlying9 ho)) λa A↦?_
          refine sdo (v := .string (⟨(acc ++ (Lib.encodeRune (((rn : Nat) : Int)))).toArray⟩)) A (qe rfl rfl (qj (a := acc) (b := Lib.encodeRune (((rn : Nat) : Int))) (by first | omega | (simp only [List.length_append, List.length_cons, List.length_nil]; omega)))) λa A↦?_
          refine sda A λa A↦?_
          refine qa (hK33 _ _ (wrl (sdm A λa A↦?_)))
          refine sdo (v := .int .i64 (((i + 1 : Nat) : Int))) A (qe rfl rfl (fun w => (zx (jw (by omega) (by omega)) w).trans (by rw [show (((i : Nat) : Int) + 1 : Int) = ((i + 1 : Nat) : Int) from by omega]))) λa A↦?_
          refine sda A λa A↦?_
          refine qa ?_
          have hd9 : decide (i = 0) = true := decide_eq_true (by omega)
          have hq9 : inS true ((rn : Nat) : Int) = (Lib.encodeRune (((rn : Nat) : Int))) := qkb (by rw [hb41]; rfl)
          have hs9 := kf true hn
          rw [hq9] at hs9
          refine hK28 _ _ _ (by omega) ⟨i + 1, acc ++ (Lib.encodeRune (((rn : Nat) : Int))), rfl, ⟨by omega, by omega, by rw [← hin9, hd9, show decide (i + 1 = 0) = false from decide_eq_false (by omega), qhd (i := i) (by omega), hrn, hq9, List.append_assoc], by rw [List.length_append]; omega⟩, A.keep _ ⟨rfl, rfl, rfl, rfl, rfl, rfl, rfl, rfl, rfl, rfl, rfl, rfl, rfl, rfl, rfl, rfl, rfl, rfl, rfl, rfl, rfl, trivial⟩, M⟩
         ·
          refine gcl A M (ef rfl rfl) ((hb41 ▸ C.rfirst_any ((rn : Nat) : Int) ho _)) fun w46 hb45 M a A => ?_
          refine sda A λa A↦?_
          refine qa (hK38 _ _ (wsk fun K47 hK47 => wrl (sdm A λa A↦?_)))
          refine qa (hK47 _ _ (wp_cond_false (A.ev rfl) ?_))
          refine wrl ?_
          iterate 3 refine sdm A λa A↦?_
          refine sdo (v := .pointer (some ⟨gu, i * 1, none⟩)) A (zy (k := i) Tryz.underlying70 (by kernel_rfl) rfl rfl rfl hgu (show i < (qn s.data.toList).length by omega)) λa A↦?_
          refine sdo A (xq (j := i * 1) M 0 rfl hgu (by rw [Nat.mul_one, ve (by omega), hrn]) UdB_is1_21 rfl) λa A↦?_
          refine gcl A M (ef rfl rfl) (C.rhex_any rn (vd ho) _) fun w49 hb48 M a A => ?_
          refine sdo (v := .string (⟨(([92, 120]) ++ (C.hexD rn)).toArray⟩)) A (qe rfl rfl (qj (a := [92, 120]) (b := C.hexD rn) (by first | omega | (simp only [List.length_append, List.length_cons, List.length_nil]; omega)))) λa A↦?_
          refine sdo (v := .string (⟨((([92, 120]) ++ (C.hexD rn)) ++ ([59])).toArray⟩)) A (qe rfl rfl (qj (a := ([92, 120]) ++ (C.hexD rn)) (b := [59]) (by first | omega | (simp only [List.length_append, List.length_cons, List.length_nil]; omega)))) λa A↦?_
          refine sdo (v := .string (⟨(acc ++ ((([92, 120]) ++ (C.hexD rn)) ++ ([59]))).toArray⟩)) A (qe rfl rfl (qj (a := acc) (b := (([92, 120]) ++ (C.hexD rn)) ++ ([59])) (by first | omega | (simp only [List.length_append, List.length_cons, List.length_nil]; omega)))) λa A↦?_
          refine sda A λa A↦?_
          refine qa (hK33 _ _ (wrl (sdm A λa A↦?_)))
          refine sdo (v := .int .i64 (((i + 1 : Nat) : Int))) A (qe rfl rfl (fun w => (zx (jw (by omega) (by omega)) w).trans (by rw [show (((i : Nat) : Int) + 1 : Int) = ((i + 1 : Nat) : Int) from by omega]))) λa A↦?_
          refine sda A λa A↦?_
          refine qa ?_
          have hd9 : decide (i = 0) = true := decide_eq_true (by omega)
          have hq9 : inS true ((rn : Nat) : Int) = ((([92, 120]) ++ (C.hexD rn)) ++ ([59])) := ((qne (by rw [hb41]; rfl)).trans (by rw [ke]))
          have hs9 := kf true hn
          rw [hq9] at hs9
          refine hK28 _ _ _ (by omega) ⟨i + 1, acc ++ ((([92, 120]) ++ (C.hexD rn)) ++ ([59])), rfl, ⟨by omega, by omega, by rw [← hin9, hd9, show decide (i + 1 = 0) = false from decide_eq_false (by omega), qhd (i := i) (by omega), hrn, hq9, List.append_assoc], by rw [List.length_append]; omega⟩, A.keep _ ⟨rfl, rfl, rfl, rfl, rfl, rfl, rfl, rfl, rfl, rfl, rfl, rfl, rfl, rfl, rfl, rfl, rfl, rfl, rfl, rfl, rfl, trivial⟩, M⟩
        ·
         have hb40' := ne_of_beq_false hb40
         refine sdc A qg hb40 λa A↦?_
         refine qa (hK39 _ _ (wp_cond_false (A.ev rfl) ?_))
         refine wp_skip (hK38 _ _ (wsk fun K50 hK50 => wrl (sdm A λa A↦?_)))
         refine qa (hK50 _ _ (wp_cond_true (A.ev rfl) ?_))
         refine wrl ?_
         iterate 3 refine sdm A λa A↦?_
         refine sdo (v := .pointer (some ⟨gu, i * 1, none⟩)) A (zy (k := i) Tryz.underlying70 (by kernel_rfl) rfl rfl rfl hgu (show i < (qn s.data.toList).length by omega)) λa A↦?_
         refine sdo A (xq (j := i * 1) M 0 rfl hgu (by rw [Nat.mul_one, ve (by omega), hrn]) UdB_is1_21 rfl) λa A↦?_
         refine sdo (v := .string (⟨(Lib.encodeRune (((rn : Nat) : Int))).toArray⟩)) A (qt rfl (qhc (n := rn) Tryz.underlying21 Tryz.underlying9 ho)) λa A↦?_
         refine sdo (v := .string (⟨(acc ++ (Lib.encodeRune (((rn : Nat) : Int)))).toArray⟩)) A (qe rfl rfl (qj (a := acc) (b := Lib.encodeRune (((rn : Nat) : Int))) (by first | omega | (simp only [List.length_append, List.length_cons, List.length_nil]; omega)))) λa A↦?_
         refine sda A λa A↦?_
         refine qa (hK33 _ _ (wrl (sdm A λa A↦?_)))
         refine sdo (v := .int .i64 (((i + 1 : Nat) : Int))) A (qe rfl rfl (fun w => (zx (jw (by omega) (by omega)) w).trans (by rw [show (((i : Nat) : Int) + 1 : Int) = ((i + 1 : Nat) : Int) from by omega]))) λa A↦?_
         refine sda A λa A↦?_
         refine qa ?_
         have hd9 : decide (i = 0) = false := decide_eq_false (by omega)
         have hq9 : inS false ((rn : Nat) : Int) = (Lib.encodeRune (((rn : Nat) : Int))) := qkb (by rw [Bool.not_false, Bool.true_and]; exact hb35)
         have hs9 := kf false hn
         rw [hq9] at hs9
         refine hK28 _ _ _ (by omega) ⟨i + 1, acc ++ (Lib.encodeRune (((rn : Nat) : Int))), rfl, ⟨by omega, by omega, by rw [← hin9, hd9, show decide (i + 1 = 0) = false from decide_eq_false (by omega), qhd (i := i) (by omega), hrn, hq9, List.append_assoc], by rw [List.length_append]; omega⟩, A.keep _ ⟨rfl, rfl, rfl, rfl, rfl, rfl, rfl, rfl, rfl, rfl, rfl, rfl, rfl, rfl, rfl, rfl, rfl, rfl, rfl, rfl, rfl, trivial⟩, M⟩
       ·
        refine gcl A M (ef rfl rfl) ((hb35 ▸ C.rrest_any ((rn : Nat) : Int) ho _)) fun w52 hb51 M a A => ?_
        refine sda A λa A↦?_
        refine qa (hK34 _ _ (wsk fun K53 hK53 => wsk fun K54 hK54 => wrl (sdm A λa A↦?_)))
        rcases tf ((((i : Nat) : Int) == 0)) with hb55 | hb55
        ·
         have hb55' := eq_of_beq hb55
         refine sdc A qg hb55 λa A↦?_
         refine qa (hK54 _ _ (wp_cond_true (A.ev rfl) ?_))
         refine wrl ?_
         iterate 2 refine sdm A λa A↦?_
         refine sdo (v := .pointer (some ⟨gu, i * 1, none⟩)) A (zy (k := i) Tryz.underlying70 (by kernel_rfl) rfl rfl rfl hgu (show i < (qn s.data.toList).length by omega)) λa A↦?_
         refine sdo A (xq (j := i * 1) M 0 rfl hgu (by rw [Nat.mul_one, ve (by omega), hrn]) UdB_is1_21 rfl) λa A↦?_
         rcases tf (C.firstB ((rn : Nat) : Int)) with hb56 | hb56
         ·
          refine gcl A M (ef rfl rfl) ((hb56 ▸ C.rfirst_any ((rn : Nat) : Int) ho _)) fun w58 hb57 M a A => ?_
          refine sda A λa A↦?_
          refine qa (hK53 _ _ (wsk fun K59 hK59 => wrl (sdm A λa A↦?_)))
          refine qa (hK59 _ _ (wp_cond_true (A.ev rfl) ?_))
          refine wrl ?_
          iterate 3 refine sdm A λa A↦?_
          refine sdo (v := .pointer (some ⟨gu, i * 1, none⟩)) A (zy (k := i) Tryz.underlying70 (by kernel_rfl) rfl rfl rfl hgu (show i < (qn s.data.toList).length by omega)) λa A↦?_
          refine sdo A (xq (j := i * 1) M 0 rfl hgu (by rw [Nat.mul_one, ve (by omega), hrn]) UdB_is1_21 rfl) λa A↦?_
          refine sdo (v := .string (⟨(Lib.encodeRune (((rn : Nat) : Int))).toArray⟩)) A (qt rfl (qhc (n := rn) Tryz.underlying21 Tryz.underlying9 ho)) λa A↦?_
          refine sdo (v := .string (⟨(acc ++ (Lib.encodeRune (((rn : Nat) : Int)))).toArray⟩)) A (qe rfl rfl (qj (a := acc) (b := Lib.encodeRune (((rn : Nat) : Int))) (by first | omega | (simp only [List.length_append, List.length_cons, List.length_nil]; omega)))) λa A↦?_
          refine sda A λa A↦?_
          refine qa (hK33 _ _ (wrl (sdm A λa A↦?_)))
          refine sdo (v := .int .i64 (((i + 1 : Nat) : Int))) A (qe rfl rfl (fun w => (zx (jw (by omega) (by omega)) w).trans (by rw [show (((i : Nat) : Int) + 1 : Int) = ((i + 1 : Nat) : Int) from by omega]))) λa A↦?_
          refine sda A λa A↦?_
          refine qa ?_
          have hd9 : decide (i = 0) = true := decide_eq_true (by omega)
          have hq9 : inS true ((rn : Nat) : Int) = (Lib.encodeRune (((rn : Nat) : Int))) := qkb (by rw [hb56]; rfl)
          have hs9 := kf true hn
          rw [hq9] at hs9
          refine hK28 _ _ _ (by omega) ⟨i + 1, acc ++ (Lib.encodeRune (((rn : Nat) : Int))), rfl, ⟨by omega, by omega, by rw [← hin9, hd9, show decide (i + 1 = 0) = false from decide_eq_false (by omega), qhd (i := i) (by omega), hrn, hq9, List.append_assoc], by rw [List.length_append]; omega⟩, A.keep _ ⟨rfl, rfl, rfl, rfl, rfl, rfl, rfl, rfl, rfl, rfl, rfl, rfl, rfl, rfl, rfl, rfl, rfl, rfl, rfl, rfl, rfl, trivial⟩, M⟩
         ·
          refine gcl A M (ef rfl rfl) ((hb56 ▸ C.rfirst_any ((rn : Nat) : Int) ho _)) fun w61 hb60 M a A => ?_
          refine sda A λa A↦?_
          refine qa (hK53 _ _ (wsk fun K62 hK62 => wrl (sdm A λa A↦?_)))
          refine qa (hK62 _ _ (wp_cond_false (A.ev rfl) ?_))
          refine wrl ?_
          iterate 3 refine sdm A λa A↦?_
          refine sdo (v := .pointer (some ⟨gu, i * 1, none⟩)) A (zy (k := i) Tryz.underlying70 (by kernel_rfl) rfl rfl rfl hgu (show i < (qn s.data.toList).length by omega)) λa A↦?_
          refine sdo A (xq (j := i * 1) M 0 rfl hgu (by rw [Nat.mul_one, ve (by omega), hrn]) UdB_is1_21 rfl) λa A↦?_
          refine gcl A M (ef rfl rfl) (C.rhex_any rn (vd ho) _) fun w64 hb63 M a A => ?_
          refine sdo (v := .string (⟨(([92, 120]) ++ (C.hexD rn)).toArray⟩)) A (qe rfl rfl (qj (a := [92, 120]) (b := C.hexD rn) (by first | omega | (simp only [List.length_append, List.length_cons, List.length_nil]; omega)))) λa A↦?_
          refine sdo (v := .string (⟨((([92, 120]) ++ (C.hexD rn)) ++ ([59])).toArray⟩)) A (qe rfl rfl (qj (a := ([92, 120]) ++ (C.hexD rn)) (b := [59]) (by first | omega | (simp only [List.length_append, List.length_cons, List.length_nil]; omega)))) λa A↦?_
          refine sdo (v := .string (⟨(acc ++ ((([92, 120]) ++ (C.hexD rn)) ++ ([59]))).toArray⟩)) A (qe rfl rfl (qj (a := acc) (b := (([92, 120]) ++ (C.hexD rn)) ++ ([59])) (by first | omega | (simp only [List.length_append, List.length_cons, List.length_nil]; omega)))) λa A↦?_
          refine sda A λa A↦?_
          refine qa (hK33 _ _ (wrl (sdm A λa A↦?_)))
          refine sdo (v := .int .i64 (((i + 1 : Nat) : Int))) A (qe rfl rfl (fun w => (zx (jw (by omega) (by omega)) w).trans (by rw [show (((i : Nat) : Int) + 1 : Int) = ((i + 1 : Nat) : Int) from by omega]))) λa A↦?_
          refine sda A λa A↦?_
          refine qa ?_
          have hd9 : decide (i = 0) = true := decide_eq_true (by omega)
          have hq9 : inS true ((rn : Nat) : Int) = ((([92, 120]) ++ (C.hexD rn)) ++ ([59])) := ((qne (by rw [hb56]; rfl)).trans (by rw [ke]))
          have hs9 := kf true hn
          rw [hq9] at hs9
          refine hK28 _ _ _ (by omega) ⟨i + 1, acc ++ ((([92, 120]) ++ (C.hexD rn)) ++ ([59])), rfl, ⟨by omega, by omega, by rw [← hin9, hd9, show decide (i + 1 = 0) = false from decide_eq_false (by omega), qhd (i := i) (by omega), hrn, hq9, List.append_assoc], by rw [List.length_append]; omega⟩, A.keep _ ⟨rfl, rfl, rfl, rfl, rfl, rfl, rfl, rfl, rfl, rfl, rfl, rfl, rfl, rfl, rfl, rfl, rfl, rfl, rfl, rfl, rfl, trivial⟩, M⟩
        ·
         have hb55' := ne_of_beq_false hb55
         refine sdc A qg hb55 λa A↦?_
         refine qa (hK54 _ _ (wp_cond_false (A.ev rfl) ?_))
         refine wp_skip (hK53 _ _ (wsk fun K65 hK65 => wrl (sdm A λa A↦?_)))
         refine qa (hK65 _ _ (wp_cond_false (A.ev rfl) ?_))
         refine wrl ?_
         iterate 3 refine sdm A λa A↦?_
         refine sdo (v := .pointer (some ⟨gu, i * 1, none⟩)) A (zy (k := i) Tryz.underlying70 (by kernel_rfl) rfl rfl rfl hgu (show i < (qn s.data.toList).length by omega)) λa A↦?_
         refine sdo A (xq (j := i * 1) M 0 rfl hgu (by rw [Nat.mul_one, ve (by omega), hrn]) UdB_is1_21 rfl) λa A↦?_
         refine gcl A M (ef rfl rfl) (C.rhex_any rn (vd ho) _) fun w67 hb66 M a A => ?_
         refine sdo (v := .string (⟨(([92, 120]) ++ (C.hexD rn)).toArray⟩)) A (qe rfl rfl (qj (a := [92, 120]) (b := C.hexD rn) (by first | omega | (simp only [List.length_append, List.length_cons, List.length_nil]; omega)))) λa A↦?_
         refine sdo (v := .string (⟨((([92, 120]) ++ (C.hexD rn)) ++ ([59])).toArray⟩)) A (qe rfl rfl (qj (a := ([92, 120]) ++ (C.hexD rn)) (b := [59]) (by first | omega | (simp only [List.length_append, List.length_cons, List.length_nil]; omega)))) λa A↦?_
         refine sdo (v := .string (⟨(acc ++ ((([92, 120]) ++ (C.hexD rn)) ++ ([59]))).toArray⟩)) A (qe rfl rfl (qj (a := acc) (b := (([92, 120]) ++ (C.hexD rn)) ++ ([59])) (by first | omega | (simp only [List.length_append, List.length_cons, List.length_nil]; omega)))) λa A↦?_
         refine sda A λa A↦?_
         refine qa (hK33 _ _ (wrl (sdm A λa A↦?_)))
         refine sdo (v := .int .i64 (((i + 1 : Nat) : Int))) A (qe rfl rfl (fun w => (zx (jw (by omega) (by omega)) w).trans (by rw [show (((i : Nat) : Int) + 1 : Int) = ((i + 1 : Nat) : Int) from by omega]))) λa A↦?_
         refine sda A λa A↦?_
         refine qa ?_
         have hd9 : decide (i = 0) = false := decide_eq_false (by omega)
         have hq9 : inS false ((rn : Nat) : Int) = ((([92, 120]) ++ (C.hexD rn)) ++ ([59])) := ((qne (by rw [Bool.not_false, Bool.true_and]; exact hb35)).trans (by rw [ke]))
         have hs9 := kf false hn
         rw [hq9] at hs9
         refine hK28 _ _ _ (by omega) ⟨i + 1, acc ++ ((([92, 120]) ++ (C.hexD rn)) ++ ([59])), rfl, ⟨by omega, by omega, by rw [← hin9, hd9, show decide (i + 1 = 0) = false from decide_eq_false (by omega), qhd (i := i) (by omega), hrn, hq9, List.append_assoc], by rw [List.length_append]; omega⟩, A.keep _ ⟨rfl, rfl, rfl, rfl, rfl, rfl, rfl, rfl, rfl, rfl, rfl, rfl, rfl, rfl, rfl, rfl, rfl, rfl, rfl, rfl, rfl, trivial⟩, M⟩
      ·
       have hb32' := of_decide_eq_false hb32
       refine sdc A zg hb32 λa A↦?_
       refine qa (hK31 _ _ (wp_cond_false (A.ev rfl) ?_))
       refine wp_exit (hK25 _ _ (wsk fun K68 hK68 => wrl (sdm A λa A↦?_)))
       refine sda A λa A↦?_
       refine qa (hK68 _ _ (wp_ret (hret _ _ (en1 A rfl (qf rfl) ?_))))
       exact ⟨by
        rw [zjf (by omega), List.append_nil] at hin9
        rw [show kw false s = acc from by
         rw [hin9]
         rcases hpx with ⟨h, h2, h3⟩ | ⟨h, h2, h3⟩
         ·
          rw [h2, h3, zgh (fun k => by rcases k with k | k | k | k; cases k; exact hb8' k; exact hb10' k; exact hb12' k) hb4' h, show qn (s.data.toList.drop 2) = (qn s.data.toList).drop 2 from by rw [yq h]; rfl]
          rfl
         ·
          rw [h2, h3, qxi (fun k => by rcases k with k | k | k | k; cases k; exact hb8' k; exact hb10' k; exact hb12' k) hb4' h]
          rfl], M.bel⟩
     refine wsk fun K69 hK69 => wrl (sdm A λa A↦?_)
     refine sdo A (qx Tryz.underlying70 rfl) λa A↦?_
     rcases tf (decide (2 ≤ (((qn s.data.toList).length : Nat) : Int))) with hb70 | hb70
     ·
      have hb70' := of_decide_eq_true hb70
      refine sdc A jh hb70 λa A↦?_
      iterate 2 refine sdm A λa A↦?_
      obtain ⟨gu, hgu⟩ := qfh M 0 rfl (by omega)
      refine sdo (v := .pointer (some ⟨gu, 0 * 1, none⟩)) A (zy (k := 0) Tryz.underlying70 (by kernel_rfl) rfl rfl rfl hgu (show 0 < (qn s.data.toList).length by omega)) λa A↦?_
      refine sdo A (xq (j := 0 * 1) M 0 rfl hgu (ve (by omega)) UdB_is1_21 rfl) λa A↦?_
      rcases tf (((qn s.data.toList).getD 0 0 == 45)) with hb71 | hb71
      ·
       have hb71' := eq_of_beq hb71
       refine sdc A qg hb71 λa A↦?_
       refine sdk (v := .bool true) A λa A↦?_
       iterate 2 refine sdm A λa A↦?_
       refine sdo (v := .pointer (some ⟨gu, 1 * 1, none⟩)) A (zy (k := 1) Tryz.underlying70 (by kernel_rfl) rfl rfl rfl hgu (show 1 < (qn s.data.toList).length by omega)) λa A↦?_
       refine sdo A (xq (j := 1 * 1) M 0 rfl hgu (ve (by omega)) UdB_is1_21 rfl) λa A↦?_
       rcases tf (((qn s.data.toList).getD 1 0 == 62)) with hb72 | hb72
       ·
        have hb72' := eq_of_beq hb72
        refine sdc A qg hb72 λa A↦?_
        refine sdk (v := .bool true) A λa A↦?_
        refine qa (hK69 _ _ (wp_cond_true (A.ev rfl) ?_))
        refine wsk fun K73 hK73 => wrl (sda A λa A↦?_)
        refine qa (hK73 _ _ (wrl (sda A λa A↦?_)))
        refine qa ?_
        exact hJ22 _ _ ⟨2, [45, 62], .inl ⟨znc (by omega) hb71' hb72', rfl, rfl⟩, A.keep _ ⟨rfl, rfl, rfl, rfl, rfl, rfl, rfl, rfl, rfl, rfl, rfl, rfl, rfl, rfl, rfl, rfl, rfl, rfl, rfl, trivial⟩, M⟩
       ·
        have hb72' := ne_of_beq_false hb72
        refine sdc A qg hb72 λa A↦?_
        refine sdk (v := .bool false) A λa A↦?_
        refine qa (hK69 _ _ (wp_cond_false (A.ev rfl) ?_))
        refine wp_skip ?_
        exact hJ22 _ _ ⟨0, [], .inr ⟨by
         rcases tf (Lib.hasPrefix s.data.toList [45, 62]) with h9 | h9
         ·
          exfalso
          have h7 := hb72'
          rw [yq h9] at h7
          simp at h7
         ·
          exact h9, rfl, rfl⟩, A.keep _ ⟨rfl, rfl, rfl, rfl, rfl, rfl, rfl, rfl, rfl, rfl, rfl, rfl, rfl, rfl, rfl, rfl, rfl, rfl, rfl, trivial⟩, M⟩
      ·
       have hb71' := ne_of_beq_false hb71
       refine sdc A qg hb71 λa A↦?_
       refine sdk (v := .bool false) A λa A↦?_
       refine sdm A λa A↦?_
       iterate 4 refine qh A rfl rfl rfl λa A↦?_
       refine sdk (v := .bool false) A λa A↦?_
       refine qa (hK69 _ _ (wp_cond_false (A.ev rfl) ?_))
       refine wp_skip ?_
       exact hJ22 _ _ ⟨0, [], .inr ⟨by
        rcases tf (Lib.hasPrefix s.data.toList [45, 62]) with h9 | h9
        ·
         exfalso
         have h7 := hb71'
         rw [yq h9] at h7
         simp at h7
        ·
         exact h9, rfl, rfl⟩, A.keep _ ⟨rfl, rfl, rfl, rfl, rfl, rfl, rfl, rfl, rfl, rfl, rfl, rfl, rfl, rfl, rfl, rfl, rfl, rfl, rfl, trivial⟩, M⟩
     ·
      have hb70' := of_decide_eq_false hb70
      refine sdc A jh hb70 λa A↦?_
      refine sdm A λa A↦?_
      iterate 4 refine qh A rfl rfl rfl λa A↦?_
      refine sdk (v := .bool false) A λa A↦?_
      refine sdm A λa A↦?_
      iterate 4 refine qh A rfl rfl rfl λa A↦?_
      refine sdk (v := .bool false) A λa A↦?_
      refine qa (hK69 _ _ (wp_cond_false (A.ev rfl) ?_))
      refine wp_skip ?_
      exact hJ22 _ _ ⟨0, [], .inr ⟨by
       rcases tf (Lib.hasPrefix s.data.toList [45, 62]) with h9 | h9
       ·
        exfalso
        have h7 := hb70'
        have h8 := congrArg List.length (yq h9)
        simp only [List.length_cons] at h8
        omega
       ·
        exact h9, rfl, rfl⟩, A.keep _ ⟨rfl, rfl, rfl, rfl, rfl, rfl, rfl, rfl, rfl, rfl, rfl, rfl, rfl, rfl, rfl, rfl, rfl, rfl, rfl, trivial⟩, M⟩
def dtC (us : List Dt) : List Value := us.flatMap fun t => t.d.cells t.ts.length
theorem zji (us : List Dt) (p : Dt) : dtC (us ++ [p]) = dtC us ++ p.d.cells p.ts.length := by unfold dtC; rw [List.flatMap_append]; simp
theorem zjj : ∀ {us : List Dt} {i j : Nat} {t : Dt}, us[i]? = some t → j < 11 → (dtC us)[i * 11 + j]? = (t.d.cells t.ts.length)[j]?
  | [], i, j, t, h, hj => by simp at h
  | u :: us, 0, j, t, h, hj => by
    simp only [List.getElem?_cons_zero, Option.some.injEq] at h
    subst h
    unfold dtC
    rw [List.flatMap_cons, Nat.zero_mul, Nat.zero_add, List.getElem?_append_left (by exact hj)]
  | u :: us, i + 1, j, t, h, hj => by
    rw [List.getElem?_cons_succ] at h
    have := zjj h hj
    unfold dtC at this ⊢
    rw [List.flatMap_cons, List.getElem?_append_right (by show 11 ≤ _; omega), show (i + 1) * 11 + j - (u.d.cells u.ts.length).length = i * 11 + j from by show (i + 1) * 11 + j - 11 = _; omega]
    exact this
theorem zpj {w0 w : World} {L : List Ck} {e : TypeId} (hM : Mg w0 w L) (k : Nat) {so : Option Addr} {n cap : Nat} {us : List Dt} (hk : L[k]? = some (.row e 11 (.slice so n cap) n (dtC us))) (hn : n = us.length) : Rt w so us := fun hne => by
  have hown := hM.has k hk
  have hpos : us.length ≠ 0 := fun h => hne (List.eq_nil_of_length_eq_zero h)
  rcases hown.2 with ⟨_, h0⟩ | ⟨g, cap', cur, he, hbg, hg, _⟩
  · omega
  · cases he
    refine ⟨g, 0, rfl, fun i t hi => ⟨?_, fun j v hj => ?_⟩⟩
    · exact (Array.getElem?_eq_some_iff.1 hg).1
    · have hj11 : j < 11 := (List.getElem?_eq_some_iff.1 hj).1
      have h9 := hown.cells (g := g) rfl (i * 11 + j) v ((zjj hi hj11).trans hj)
      rw [jz, Nat.zero_add] at h9
      rw [Nat.zero_add]
      exact h9
theorem qvg (pl : Bool) : ∀ (f : Bool) (a : List Tr) (x : Tr), wrL pl f (a ++ [x]) = wrL pl f a ++ ((if f = true ∧ a = [] then [] else [32]) ++ wrT pl x)
  | f, [], x => by
    rw [List.nil_append, wrL, wrL, wrL, List.nil_append, List.append_nil]
    cases f <;> simp
  | f, y :: a, x => by
    rw [List.cons_append, wrL, wrL, qvg pl false a x, if_neg (show ¬ (false = true ∧ a = []) from fun h => by cases h.1), if_neg (show ¬ (f = true ∧ y :: a = []) from fun h => by cases h.2)]
    simp only [List.append_assoc]
/-- The firsts so far, and what is left. -/
structure Sp (w : World) (pl : Bool) (t q0 q1 : Dt) (us : List Dt) (p : Dt) : Prop where
  rd : p.rd w
  gd : p.tr.good
  ur : ∀ u ∈ us, u.rd w
  ug : ∀ u ∈ us, u.tr.good
  bk : Tr.bulks (us.map Dt.tr) + p.tr.bulk + us.length ≤ t.tr.bulk
  z : us.length = 0 → p = t
  tx : wrL pl true (us.map Dt.tr) ++ (tlT pl p.tr).drop (if us.length = 0 then 1 else 0) = (tlT pl t.tr).drop 1
  o1 : us.length = 1 → us = [q0] ∧ p = q1
  o2 : us.length = 2 → ∃ c0, us = [q0, c0] ∧ q1.d.k = 8 ∧ q1.ts = [c0, p]
  o3 : 3 ≤ us.length → qtT q1.tr = false
theorem Sp.start {w : World} {pl : Bool} {t q0 q1 : Dt} (h : t.rd w) (g : t.tr.good) : Sp w pl t q0 q1 [] t :=
  ⟨h, g, fun _ h => (by cases h), fun _ h => (by cases h), (by simp [Tr.bulks]), fun _ => rfl, (by simp [wrL]), fun h => (by simp at h), fun h => (by simp at h), fun h => (by simp at h)⟩
theorem qlf : ∀ (a : List Tr) (x : Tr), Tr.bulks (a ++ [x]) = Tr.bulks a + x.bulk
  | [], x => by simp [Tr.bulks]
  | y :: a, x => by rw [List.cons_append, Tr.bulks, Tr.bulks, qlf a x]; omega
theorem Sp.go {w : World} {pl : Bool} {t q0 q1 p p0 p1 : Dt} {us : List Dt} (h : Sp w pl t q0 q1 us p) (iq0 : t.ts[0]? = some q0) (iq1 : t.ts[1]? = some q1) (h8 : p.d.k = 8) (l2 : p.ts.length = 2) (i0 : p.ts[0]? = some p0) (i1 : p.ts[1]? = some p1) (r0 : p0.rd w) (r1 : p1.rd w) (g0 : p0.tr.good) (g1 : p1.tr.good) : Sp w pl t q0 q1 (us ++ [p0]) p1 := by
  have hb := qbi l2 i0 i1
  have hbk := h.bk
  have hl : (us ++ [p0]).length = us.length + 1 := by simp
  refine ⟨r1, g1, fun u hu => ?_, fun u hu => ?_, ?_, fun h => by omega, ?_, fun h1 => ?_, fun h1 => ?_, fun h1 => ?_⟩
  · rcases List.mem_append.1 hu with k | k
    · exact h.ur u k
    · rw [List.mem_singleton.1 k]; exact r0
  · rcases List.mem_append.1 hu with k | k
    · exact h.ug u k
    · rw [List.mem_singleton.1 k]; exact g0
  · rw [List.map_append, List.map_cons, List.map_nil, qlf, hl]
    omega
  · rw [← h.tx, if_neg (by omega), List.drop_zero, List.map_append, List.map_cons, List.map_nil, qvg, qfe h8 l2 i0 i1]
    by_cases h0 : us.length = 0
    · rw [if_pos h0, if_pos ⟨rfl, by rw [List.eq_nil_of_length_eq_zero h0]; rfl⟩]
      simp only [List.append_assoc, List.nil_append, List.cons_append, List.drop_succ_cons, List.drop_zero]
    · rw [if_neg h0, if_neg (fun k => h0 (by have := congrArg List.length k.2; simpa using this))]
      simp only [List.append_assoc, List.drop_zero]
  · have h0 : us.length = 0 := by omega
    have e := h.z h0
    subst e
    rw [List.eq_nil_of_length_eq_zero h0]
    rw [iq0] at i0
    rw [iq1] at i1
    cases i0
    cases i1
    exact ⟨rfl, rfl⟩
  · obtain ⟨e1, e2⟩ := h.o1 (by omega)
    subst e1 e2
    exact ⟨p0, rfl, h8, qde l2 i0 i1⟩
  · by_cases h2 : us.length = 2
    · obtain ⟨c0, e1, e2, e3⟩ := h.o2 h2
      rw [quf e2 (by rw [e3]; rfl) (p0 := c0) (p1 := p) (by rw [e3]; rfl) (by rw [e3]; rfl)]
      exact decide_eq_false (by omega)
    · exact h.o3 (by omega)
/-- No quotation: the text of the list. -/
theorem Sp.list {w : World} {pl : Bool} {t q0 q1 p : Dt} {us : List Dt} (h : Sp w pl t q0 q1 us p) (h8 : t.d.k = 8) (l2 : t.ts.length = 2) (iq0 : t.ts[0]? = some q0) (iq1 : t.ts[1]? = some q1) (hp : p.d.k ≠ 8) (hq : (isQ q0.tr && qtT q1.tr) = false) : wrT pl t.tr = [40] ++ (wrL pl true (us.map Dt.tr) ++ tlT pl p.tr) ++ [41] := by
  have h0 : us.length ≠ 0 := fun e => hp (by rw [h.z e]; exact h8)
  have htx := h.tx
  rw [if_neg h0, List.drop_zero, qfe h8 l2 iq0 iq1] at htx
  rw [qrf h8 l2 iq0 iq1 hq, htx]
  rfl
theorem Sp.quote {w : World} {pl : Bool} {t q0 q1 p : Dt} {us : List Dt} (h : Sp w pl t q0 q1 us p) (h8 : t.d.k = 8) (l2 : t.ts.length = 2) (iq0 : t.ts[0]? = some q0) (iq1 : t.ts[1]? = some q1) {c0 : Dt} (hu : us = [q0, c0]) (hp : p.d.k = 1) (hq : isQ q0.tr = true) : wrT pl t.tr = [39] ++ wrT pl c0.tr := by
  obtain ⟨c, e1, e2, e3⟩ := h.o2 (by rw [hu]; rfl)
  rw [hu] at e1
  injection e1 with _ e1
  injection e1 with e1 _
  subst e1
  have l2' : q1.ts.length = 2 := by rw [e3]; rfl
  have j0 : q1.ts[0]? = some c0 := by rw [e3]; rfl
  have j1 : q1.ts[1]? = some p := by rw [e3]; rfl
  rw [que h8 l2 iq0 iq1 (by rw [hq, quf e2 l2' j0 j1, decide_eq_true hp]; rfl), zqg l2' j0 j1]
/-- When it is no quotation. -/
theorem Sp.no {w : World} {pl : Bool} {t q0 q1 p : Dt} {us : List Dt} (h : Sp w pl t q0 q1 us p) (h8 : t.d.k = 8) (hp : p.d.k ≠ 8) (hn : us.length ≠ 2 ∨ p.d.k ≠ 1 ∨ isQ q0.tr = false) : (isQ q0.tr && qtT q1.tr) = false := by
  by_cases h2 : us.length = 2
  · rcases hn with hn | hn | hn
    · exact absurd h2 hn
    · obtain ⟨c0, e1, e2, e3⟩ := h.o2 h2
      rw [quf e2 (by rw [e3]; rfl) (p0 := c0) (p1 := p) (by rw [e3]; rfl) (by rw [e3]; rfl), decide_eq_false hn, Bool.and_false]
    · rw [hn, Bool.false_and]
  · by_cases h1 : us.length = 1
    · rw [← (h.o1 h1).2, zoc hp, Bool.and_false]
    · by_cases h0 : us.length = 0
      · exact absurd (by rw [h.z h0]; exact h8) hp
      · rw [h.o3 (by omega), Bool.and_false]
theorem UdC_is1_27 : Is1 Tryz.prog 27 := ⟨⟨_, Tryz.underlying27, rfl⟩, by kernel_rfl⟩
theorem UdC_is1_28 : Is1 Tryz.prog 28 := ⟨⟨_, Tryz.underlying28, rfl⟩, by kernel_rfl⟩
theorem UdC_is1_3 : Is1 Tryz.prog 3 := ⟨⟨_, Tryz.underlying3, rfl⟩, by kernel_rfl⟩
theorem UdC_is1_5 : Is1 Tryz.prog 5 := ⟨⟨_, Tryz.underlying5, rfl⟩, by kernel_rfl⟩
theorem UdC_is1_9 : Is1 Tryz.prog 9 := ⟨⟨_, Tryz.underlying9, rfl⟩, by kernel_rfl⟩
theorem UdC_fld_30_0 : FieldAt Tryz.prog 30 0 0 := ⟨_, _, Tryz.underlying30, rfl, rfl, by kernel_rfl⟩
theorem UdC_fld_30_1 : FieldAt Tryz.prog 30 1 1 := ⟨_, _, Tryz.underlying30, rfl, rfl, by kernel_rfl⟩
theorem UdC_fld_30_2 : FieldAt Tryz.prog 30 2 2 := ⟨_, _, Tryz.underlying30, rfl, rfl, by kernel_rfl⟩
theorem UdC_fld_30_3 : FieldAt Tryz.prog 30 3 8 := ⟨_, _, Tryz.underlying30, rfl, rfl, by kernel_rfl⟩
theorem UdC_fld_30_4 : FieldAt Tryz.prog 30 4 9 := ⟨_, _, Tryz.underlying30, rfl, rfl, by kernel_rfl⟩
theorem UdC_fld_30_5 : FieldAt Tryz.prog 30 5 10 := ⟨_, _, Tryz.underlying30, rfl, rfl, by kernel_rfl⟩
theorem UdC_isS_26 : IsS Tryz.prog 26 6 := ⟨⟨_, Tryz.underlying26⟩, by kernel_rfl⟩
theorem UdC_isS_30 : IsS Tryz.prog 30 11 := ⟨⟨_, Tryz.underlying30⟩, by kernel_rfl⟩
theorem zrd {w : World} {lo : Option Addr} {ts : List Dt} (h : Rt w lo ts) (hr : ∀ t ∈ ts, t.rd w) {i : Nat} (hi : i < ts.length) : ∃ t b o, ts[i]? = some t ∧ t ∈ ts ∧ t.rd w ∧ lo = some ⟨b, o, none⟩ ∧ Here w b (o + i * 11) (t.d.cells t.ts.length) := by
 obtain ⟨b, o, e, h2⟩ := h (fun e => by subst e; exact absurd hi (Nat.not_lt_zero _))
 have ht := List.getElem?_eq_getElem hi
 exact ⟨ts[i], b, o, ht, List.getElem_mem hi, hr _ (List.getElem_mem hi), e, h2 i _ ht⟩
theorem zbd {pl f : Bool} {ts : List Dt} {p : Dt} {i : Nat} (hi : ts[i]? = some p) : wrL pl f ((ts.map Dt.tr).drop i) = (if f = true then [] else [32]) ++ wrT pl p.tr ++ wrL pl false ((ts.map Dt.tr).drop (i + 1)) := by rw [yk hi, wrL]
theorem zka {pl f : Bool} {ts : List Dt} {i : Nat} (h : ¬ i < ts.length) : wrL pl f ((ts.map Dt.tr).drop i) = [] := by rw [uf h, wrL]
theorem ul {ts : List Dt} {t : Dt} (h : t ∈ ts) : t.tr.bulk ≤ Tr.bulks (ts.map Dt.tr) := qgc (List.mem_map_of_mem (f := Dt.tr) h)
def Tells (n : Nat) : Prop := ∀ {w : World} {t : Dt} {mk : Bool}, t.tr.bulk < n → t.rd w → t.tr.good → t.tr.bulk ≤ 1048576 → Calls Tryz.prog 10 #[.agg (t.d.cells t.ts.length).toArray, .bool mk] w fun e w' => e = .returned (.string ⟨(wrT (!mk) t.tr).toArray⟩) ∧ Below w.heap.size w w'
theorem qvh {n : Nat} (ih : Tells n) {w : World} {lo : Option Addr} {lc : Nat} {ts : List Dt} {mk : Bool} (hR : Rt w lo ts) (hr : ∀ t ∈ ts, t.rd w) (hg : ∀ t ∈ ts, t.tr.good) (hb : Tr.bulks (ts.map Dt.tr) < n) (hmax : Tr.bulks (ts.map Dt.tr) ≤ 1048576) (hlt : ts.length ≤ 9223372036854775807) : Calls Tryz.prog 20 #[.slice lo ts.length lc, .bool mk] w fun e w' => e = .returned (.string ⟨(wrL (!mk) true (ts.map Dt.tr)).toArray⟩) ∧ Below w.heap.size w w' := by
 have M : Mg w w ([]) := Mg.start w
 refine qm (l := [(0, .slice lo ts.length lc), (1, .bool mk)]) Tryz.func20 rfl Tryz.ntmps20 rfl rfl ?_
 intro Q hret hnorm hP a A
 refine wsk fun K1 hK1 => wrl (sda A λa A↦?_)
 refine qa (hK1 _ _ (wsk fun K2 hK2 => wrl (sda A λa A↦?_)))
 refine qa (hK2 _ _ (wsk fun K3 hK3 => wsk fun K4 hK4 => wrl (sda A λa A↦?_)))
 refine qa (hK4 _ _ (wp_block (zt (fun m_ a w1 => ∃ (i : Nat) (acc : List UInt8), m_ = 1 + (ts.length - i) ∧ (i ≤ ts.length ∧ acc ++ wrL (!mk) (decide (i = 0)) ((ts.map Dt.tr).drop i) = wrL (!mk) true (ts.map Dt.tr) ∧ acc.length + 64 * Tr.bulks ((ts.map Dt.tr).drop i) ≤ 64 * Tr.bulks (ts.map Dt.tr)) ∧ Sl a 26 [(0, .slice lo ts.length lc), (1, .bool mk), (4, .string (⟨#[]⟩)), (5, .string (⟨(acc).toArray⟩)), (6, .int .i64 (((i : Nat) : Int)))] ∧ Mg w w1 ([])) _ ⟨0, [], rfl, ⟨Nat.zero_le _, rfl, by rw [List.drop_zero, List.length_nil]; omega⟩, A.keep _ ⟨rfl, rfl, rfl, rfl, rfl, trivial⟩, M⟩ ?_)))
 clear M A
 rintro m_ a w5 ⟨i, acc, rfl, hinv7, A, M⟩ K6 hK6
 obtain ⟨hi0, hin9, ha9⟩ := hinv7
 refine wsk fun K8 hK8 => wsk fun K9 hK9 => wrl ?_
 iterate 2 refine sdm A λa A↦?_
 refine sdo A (qx Tryz.underlying28 rfl) λa A↦?_
 rcases tf (decide (((i : Nat) : Int) < ((ts.length : Nat) : Int))) with hb10 | hb10
 ·
  have hb10' := of_decide_eq_true hb10
  refine sdc A zg hb10 λa A↦?_
  refine qa (hK9 _ _ (wp_cond_true (A.ev rfl) ?_))
  refine wp_skip (hK8 _ _ (wsk fun K11 hK11 => wp_block (wsk fun K12 hK12 => wsk fun K13 hK13 => wrl (sdm A λa A↦?_))))
  rcases tf (decide (0 < ((i : Nat) : Int))) with hb14 | hb14
  ·
   have hb14' := of_decide_eq_true hb14
   refine sdc A je hb14 λa A↦?_
   refine qa (hK13 _ _ (wp_cond_true (A.ev rfl) ?_))
   refine wrl (sdm A λa A↦?_)
   refine sdo (v := .string (⟨(acc ++ ([32])).toArray⟩)) A (qe rfl rfl (qj (a := acc) (b := [32]) (by first | omega | (simp only [List.length_append, List.length_cons, List.length_nil]; omega)))) λa A↦?_
   refine sda A λa A↦?_
   refine qa (hK12 _ _ ?_)
   obtain ⟨t1, bt1, ot1, it1, mt1, rt1_, lt1, Ht1⟩ := zrd hR hr (i := i) (by omega)
   have hbk9 := qkd it1
   have hbm9 := ul mt1
   have hw9 := (qba (!mk) t1.tr (hg _ mt1)).1
   refine wrl ?_
   iterate 3 refine sdm A λa A↦?_
   refine sdo (v := .pointer (some ⟨bt1, ot1 + i * 11, none⟩)) A (zk (k := i) Tryz.underlying28 (by kernel_rfl) rfl rfl rfl lt1 (by omega)) λa A↦?_
   refine sdo A (jt M Ht1 UdC_isS_30 rfl rfl) λa A↦?_
   refine sdm A λa A↦?_
   refine gcl A M (ef rfl rfl) (ih (t := t1) (by omega) (Dt.keep M.bel _ rt1_) (hg _ mt1) (by omega)) fun w16 hb15 M a A => ?_
   refine sdo (v := .string (⟨((acc ++ ([32])) ++ (wrT (!mk) t1.tr)).toArray⟩)) A (qe rfl rfl (qj (a := acc ++ ([32])) (b := wrT (!mk) t1.tr) (by first | omega | (simp only [List.length_append, List.length_cons, List.length_nil]; omega)))) λa A↦?_
   refine sda A λa A↦?_
   refine qa (hK11 _ _ (wrl (sdm A λa A↦?_)))
   refine sdo (v := .int .i64 (((i + 1 : Nat) : Int))) A (qe rfl rfl (fun w => (zx (jw (by omega) (by omega)) w).trans (by rw [show (((i : Nat) : Int) + 1 : Int) = ((i + 1 : Nat) : Int) from by omega]))) λa A↦?_
   refine sda A λa A↦?_
   refine qa ?_
   have hd9 : decide (i = 0) = false := decide_eq_false (by omega)
   refine hK6 _ _ _ (by omega) ⟨i + 1, (acc ++ ([32])) ++ (wrT (!mk) t1.tr), rfl, ⟨by omega, by rw [← hin9, hd9, show decide (i + 1 = 0) = false from decide_eq_false (by omega), zbd (f := false) it1, if_neg (show ¬ false = true by decide)]; simp only [List.append_assoc, List.nil_append], by simp only [List.length_append, List.length_cons, List.length_nil]; omega⟩, A.keep _ ⟨rfl, rfl, rfl, rfl, rfl, trivial⟩, M⟩
  ·
   have hb14' := of_decide_eq_false hb14
   refine sdc A je hb14 λa A↦?_
   refine qa (hK13 _ _ (wp_cond_false (A.ev rfl) ?_))
   refine wp_skip (hK12 _ _ ?_)
   obtain ⟨t1, bt1, ot1, it1, mt1, rt1_, lt1, Ht1⟩ := zrd hR hr (i := i) (by omega)
   have hbk9 := qkd it1
   have hbm9 := ul mt1
   have hw9 := (qba (!mk) t1.tr (hg _ mt1)).1
   refine wrl ?_
   iterate 3 refine sdm A λa A↦?_
   refine sdo (v := .pointer (some ⟨bt1, ot1 + i * 11, none⟩)) A (zk (k := i) Tryz.underlying28 (by kernel_rfl) rfl rfl rfl lt1 (by omega)) λa A↦?_
   refine sdo A (jt M Ht1 UdC_isS_30 rfl rfl) λa A↦?_
   refine sdm A λa A↦?_
   refine gcl A M (ef rfl rfl) (ih (t := t1) (by omega) (Dt.keep M.bel _ rt1_) (hg _ mt1) (by omega)) fun w18 hb17 M a A => ?_
   refine sdo (v := .string (⟨(acc ++ (wrT (!mk) t1.tr)).toArray⟩)) A (qe rfl rfl (qj (a := acc) (b := wrT (!mk) t1.tr) (by first | omega | (simp only [List.length_append, List.length_cons, List.length_nil]; omega)))) λa A↦?_
   refine sda A λa A↦?_
   refine qa (hK11 _ _ (wrl (sdm A λa A↦?_)))
   refine sdo (v := .int .i64 (((i + 1 : Nat) : Int))) A (qe rfl rfl (fun w => (zx (jw (by omega) (by omega)) w).trans (by rw [show (((i : Nat) : Int) + 1 : Int) = ((i + 1 : Nat) : Int) from by omega]))) λa A↦?_
   refine sda A λa A↦?_
   refine qa ?_
   have hd9 : decide (i = 0) = true := decide_eq_true (by omega)
   refine hK6 _ _ _ (by omega) ⟨i + 1, acc ++ (wrT (!mk) t1.tr), rfl, ⟨by omega, by rw [← hin9, hd9, show decide (i + 1 = 0) = false from decide_eq_false (by omega), zbd (f := true) it1, if_pos rfl]; simp only [List.append_assoc, List.nil_append], by simp only [List.length_append, List.length_cons, List.length_nil]; omega⟩, A.keep _ ⟨rfl, rfl, rfl, rfl, rfl, trivial⟩, M⟩
 ·
  have hb10' := of_decide_eq_false hb10
  refine sdc A zg hb10 λa A↦?_
  refine qa (hK9 _ _ (wp_cond_false (A.ev rfl) ?_))
  refine wp_exit (hK3 _ _ (wsk fun K19 hK19 => wrl (sdm A λa A↦?_)))
  refine sda A λa A↦?_
  refine qa (hK19 _ _ (wp_ret (hret _ _ (en1 A rfl (qf rfl) ?_))))
  exact ⟨by rw [zka (by omega), List.append_nil] at hin9; rw [hin9], M.bel⟩
theorem zre {w : World} {t : Dt} (h : t.rd w) : Rt w t.d.lo t.ts := by
 rw [← Dt.eta t, Dt.rd_iff] at h
 exact h.2.2.2.1
theorem vi {pl : Bool} {t : Dt} (h8 : t.d.k ≠ 8) (h9 : t.d.k ≠ 9) : wrT pl t.tr = xd pl t.d.k t.d.n t.d.y.q t.d.s t.d.rl := by rw [kx, if_neg h8, if_neg h9]
theorem zaa {w : World} {y : Nu} (hy : y.nm w) (hl : LenQ y.q) (hs : jx y.q = true) : Calls Tryz.prog 15 #[.agg #[.bool y.q.b1, .slice y.o1 y.q.t1.length y.c1, .slice y.o2 y.q.q1.length y.c2, .bool y.q.b2, .slice y.o3 y.q.t2.length y.c3, .slice y.o4 y.q.q2.length y.c4], .int .i64 10] w fun e w' => e = .returned (.tuple #[.string ⟨(jg 10 y.q).toArray⟩, .int .i64 0]) ∧ Below w.heap.size w w' := zdg hy hl (r := 10) (.inr (.inr (.inl rfl))) hs
set_option maxHeartbeats 8000000 in
theorem zab {n : Nat} (ih : Tells n) : Tells (n + 1) := by
 intro w t mk hn ht gt hmax
 have hk0 := (zq gt).1.h0
 have hk1 := (zq gt).1.h1
 have hn9 := zfb (zq gt).1
 have hbp9 := qeb (t := t)
 have hbw9 := qla (t := t)
 have hsl := zf t.d.s
 have M : Mg w w ([]) := Mg.start w
 refine qm (l := [(0, .agg (t.d.cells t.ts.length).toArray), (1, .bool mk)]) Tryz.func10 rfl Tryz.ntmps10 rfl rfl ?_
 intro Q hret hnorm hP a A
 refine wsk fun K1 hK1 => wrl (xa (vs := [.int .i64 t.d.k, .int .i64 t.d.n, .bool t.d.y.q.b1, .slice t.d.y.o1 t.d.y.q.t1.length t.d.y.c1, .slice t.d.y.o2 t.d.y.q.q1.length t.d.y.c2, .bool t.d.y.q.b2, .slice t.d.y.o3 t.d.y.q.t2.length t.d.y.c3, .slice t.d.y.o4 t.d.y.q.q2.length t.d.y.c4, .string t.d.s, .slice t.d.ro t.d.rl.length t.d.rc, .slice t.d.lo t.ts.length t.d.lc]) (t := 30) A M rfl rfl rfl pg (zb rfl rfl) (by decide) ?_)
 intro g2 w3 M a A
 refine sda A λa A↦?_
 refine qa (hK1 _ _ (wsk fun K4 hK4 => wsk fun K5 hK5 => wrl (sdo (v := .pointer (some ⟨g2, 0, none⟩)) A (qb UdC_fld_30_0 rfl rfl) λa A↦?_)))
 refine sdo A (qk M UdC_is1_3 rfl 0 rfl rfl) λa A↦?_
 refine qa (hK5 _ _ (wp_block (wsk fun K6 hK6 => wrl ?_)))
 rcases tf ((t.d.k == 1)) with hb7 | hb7
 ·
  have hb7' := eq_of_beq hb7
  refine sdc A qg hb7 λa A↦?_
  refine sda A λa A↦?_
  refine qa (hK6 _ _ (wp_cond_true (A.ev rfl) ?_))
  refine wsk fun K8 hK8 => wrl (sda A λa A↦?_)
  refine qa (hK8 _ _ (wp_ret (hret _ _ (en1 A rfl (qf rfl) ?_))))
  exact ⟨by
   rw [show wrT (!mk) t.tr = [40, 41] from by
    rw [vi (by omega) (by omega)]
    unfold xd
    repeat (first | rw [if_pos (by omega)] | rw [if_neg (by omega)])
    try rfl], M.bel⟩
 ·
  have hb7' := ne_of_beq_false hb7
  refine sdc A qg hb7 λa A↦?_
  refine sda A λa A↦?_
  refine qa (hK6 _ _ (wp_cond_false (A.ev rfl) ?_))
  refine wsk fun K9 hK9 => wrl ?_
  rcases tf ((t.d.k == 2)) with hb10 | hb10
  ·
   have hb10' := eq_of_beq hb10
   refine sdc A qg hb10 λa A↦?_
   refine sda A λa A↦?_
   refine qa (hK9 _ _ (wp_cond_true (A.ev rfl) ?_))
   refine wsk fun K11 hK11 => wsk fun K12 hK12 => wrl (sdo (v := .pointer (some ⟨g2, 1, none⟩)) A (qb UdC_fld_30_1 rfl rfl) λa A↦?_)
   refine sdo A (qk M UdC_is1_3 rfl 0 rfl rfl) λa A↦?_
   rcases tf ((t.d.n == 1)) with hb13 | hb13
   ·
    have hb13' := eq_of_beq hb13
    refine sdc A qg hb13 λa A↦?_
    refine qa (hK12 _ _ (wp_cond_true (A.ev rfl) ?_))
    refine wsk fun K14 hK14 => wrl (sda A λa A↦?_)
    refine qa (hK14 _ _ (wp_ret (hret _ _ (en1 A rfl (qf rfl) ?_))))
    exact ⟨by
     rw [show wrT (!mk) t.tr = [35, 116] from by
      rw [vi (by omega) (by omega)]
      unfold xd
      repeat (first | rw [if_pos (by omega)] | rw [if_neg (by omega)])
      try rfl], M.bel⟩
   ·
    have hb13' := ne_of_beq_false hb13
    refine sdc A qg hb13 λa A↦?_
    refine qa (hK12 _ _ (wp_cond_false (A.ev rfl) ?_))
    refine wp_skip (hK11 _ _ (wsk fun K15 hK15 => wrl (sda A λa A↦?_)))
    refine qa (hK15 _ _ (wp_ret (hret _ _ (en1 A rfl (qf rfl) ?_))))
    exact ⟨by
     rw [show wrT (!mk) t.tr = [35, 102] from by
      rw [vi (by omega) (by omega)]
      unfold xd
      repeat (first | rw [if_pos (by omega)] | rw [if_neg (by omega)])
      try rfl], M.bel⟩
  ·
   have hb10' := ne_of_beq_false hb10
   refine sdc A qg hb10 λa A↦?_
   refine sda A λa A↦?_
   refine qa (hK9 _ _ (wp_cond_false (A.ev rfl) ?_))
   refine wsk fun K16 hK16 => wrl ?_
   rcases tf ((t.d.k == 3)) with hb17 | hb17
   ·
    have hb17' := eq_of_beq hb17
    refine sdc A qg hb17 λa A↦?_
    refine sda A λa A↦?_
    refine qa (hK16 _ _ (wp_cond_true (A.ev rfl) ?_))
    refine wsk fun K18 hK18 => wrl (sdo (v := .pointer (some ⟨g2, 2, none⟩)) A (qb UdC_fld_30_2 rfl rfl) λa A↦?_)
    refine sdo A (zn M UdC_isS_26 rfl 0 rfl (cs := [.bool t.d.y.q.b1, .slice t.d.y.o1 t.d.y.q.t1.length t.d.y.c1, .slice t.d.y.o2 t.d.y.q.q1.length t.d.y.c2, .bool t.d.y.q.b2, .slice t.d.y.o3 t.d.y.q.t2.length t.d.y.c3, .slice t.d.y.o4 t.d.y.q.q2.length t.d.y.c4]) rfl rfl) λa A↦?_
    refine gcl A M (ef rfl rfl) ((zaa (y := t.d.y) (Nu.below (Dt.okT ht).1.num M.bel) (Dt.okT ht).1.len ((zq gt).1.h3 (by omega)))) fun w20 hb19 M a A => ?_
    refine sdm A λa A↦?_
    iterate 2 refine sdo A (qp (vs := [.string (⟨(jg 10 t.d.y.q).toArray⟩), .int .i64 0]) rfl rfl) λa A↦?_
    iterate 2 refine sda A λa A↦?_
    refine qa (hK18 _ _ (wsk fun K21 hK21 => wrl (sdm A λa A↦?_)))
    refine sda A λa A↦?_
    refine qa (hK21 _ _ (wp_ret (hret _ _ (en1 A rfl (qf rfl) ?_))))
    exact ⟨by
     rw [show wrT (!mk) t.tr = jg 10 t.d.y.q from by
      rw [vi (by omega) (by omega)]
      unfold xd
      repeat (first | rw [if_pos (by omega)] | rw [if_neg (by omega)])
      try rfl], M.bel⟩
   ·
    have hb17' := ne_of_beq_false hb17
    refine sdc A qg hb17 λa A↦?_
    refine sda A λa A↦?_
    refine qa (hK16 _ _ (wp_cond_false (A.ev rfl) ?_))
    refine wsk fun K22 hK22 => wrl ?_
    rcases tf ((t.d.k == 4)) with hb23 | hb23
    ·
     have hb23' := eq_of_beq hb23
     refine sdc A qg hb23 λa A↦?_
     refine sda A λa A↦?_
     refine qa (hK22 _ _ (wp_cond_true (A.ev rfl) ?_))
     refine wsk fun K24 hK24 => wsk fun K25 hK25 => wrl (sdm A λa A↦?_)
     refine qa (hK25 _ _ ?_)
     refine wp_cond_split (t := mk) (A.ev rfl) (fun hc26 => ?_) (fun hc26 => ?_)
     ·
      refine wsk fun K27 hK27 => wrl (sdo (v := .pointer (some ⟨g2, 1, none⟩)) A (qb UdC_fld_30_1 rfl rfl) λa A↦?_)
      refine sdo A (qk M UdC_is1_3 rfl 0 rfl rfl) λa A↦?_
      refine gcl A M (ef rfl rfl) ((show Calls Tryz.prog 16 #[.int .i64 t.d.n] _ _ from by rw [← Int.toNat_of_nonneg hn9.1]; exact zeb (qzd ((zq gt).1.h4 (by omega)) hn9.1))) fun w29 hb28 M a A => ?_
      refine sda A λa A↦?_
      refine qa (hK27 _ _ (wp_ret (hret _ _ (en1 A rfl (qf rfl) ?_))))
      exact ⟨by
       rw [show wrT (!mk) t.tr = kv false ((t.d.n.toNat : Nat) : Int) from by
        rw [Int.toNat_of_nonneg hn9.1]
        rw [vi (by omega) (by omega)]
        unfold xd
        repeat (first | rw [if_pos (by omega)] | rw [if_neg (by omega)])
        rw [hc26]
        try rfl], M.bel⟩
     ·
      refine wp_skip (hK24 _ _ (wsk fun K30 hK30 => wrl (sdo (v := .pointer (some ⟨g2, 1, none⟩)) A (qb UdC_fld_30_1 rfl rfl) λa A↦?_)))
      refine sdo A (qk M UdC_is1_3 rfl 0 rfl rfl) λa A↦?_
      refine sdo (v := .int .i32 (((t.d.n.toNat : Nat) : Int))) A (qt rfl (ar_conv Tryz.underlying3 Tryz.underlying21 ((in_i32 (by omega) (by omega)).trans (by omega)))) λa A↦?_
      refine sdo (v := .string (⟨(Lib.encodeRune ((t.d.n.toNat : Nat) : Int)).toArray⟩)) A (qt rfl (qhc (n := t.d.n.toNat) Tryz.underlying21 Tryz.underlying9 (qzd ((zq gt).1.h4 (by omega)) hn9.1))) λa A↦?_
      refine sda A λa A↦?_
      refine qa (hK30 _ _ (wp_ret (hret _ _ (en1 A rfl (qf rfl) ?_))))
      exact ⟨by
       rw [show wrT (!mk) t.tr = Lib.encodeRune ((t.d.n.toNat : Nat) : Int) from by
        rw [Int.toNat_of_nonneg hn9.1]
        rw [vi (by omega) (by omega)]
        unfold xd
        repeat (first | rw [if_pos (by omega)] | rw [if_neg (by omega)])
        rw [hc26]
        try rfl], M.bel⟩
    ·
     have hb23' := ne_of_beq_false hb23
     refine sdc A qg hb23 λa A↦?_
     refine sda A λa A↦?_
     refine qa (hK22 _ _ (wp_cond_false (A.ev rfl) ?_))
     refine wsk fun K31 hK31 => wrl ?_
     rcases tf ((t.d.k == 5)) with hb32 | hb32
     ·
      have hb32' := eq_of_beq hb32
      refine sdc A qg hb32 λa A↦?_
      refine sda A λa A↦?_
      refine qa (hK31 _ _ (wp_cond_true (A.ev rfl) ?_))
      refine wsk fun K33 hK33 => wsk fun K34 hK34 => wrl (sdm A λa A↦?_)
      refine qa (hK34 _ _ ?_)
      refine wp_cond_split (t := mk) (A.ev rfl) (fun hc35 => ?_) (fun hc35 => ?_)
      ·
       refine wsk fun K36 hK36 => wrl (sdo (v := .pointer (some ⟨g2, 8, none⟩)) A (qb UdC_fld_30_3 rfl rfl) λa A↦?_)
       refine sdo A (qk M UdC_is1_9 rfl 0 rfl rfl) λa A↦?_
       refine gcl A M (ef rfl rfl) (zje (by omega)) fun w38 hb37 M a A => ?_
       refine sda A λa A↦?_
       refine qa (hK36 _ _ (wp_ret (hret _ _ (en1 A rfl (qf rfl) ?_))))
       exact ⟨by
        rw [show wrT (!mk) t.tr = qcd false t.d.s from by
         rw [vi (by omega) (by omega)]
         unfold xd
         repeat (first | rw [if_pos (by omega)] | rw [if_neg (by omega)])
         rw [hc35]
         try rfl], M.bel⟩
      ·
       refine wp_skip (hK33 _ _ (wsk fun K39 hK39 => wrl (sdo (v := .pointer (some ⟨g2, 8, none⟩)) A (qb UdC_fld_30_3 rfl rfl) λa A↦?_)))
       refine sdo A (qk M UdC_is1_9 rfl 0 rfl rfl) λa A↦?_
       refine sda A λa A↦?_
       refine qa (hK39 _ _ (wp_ret (hret _ _ (en1 A rfl (qf rfl) ?_))))
       exact ⟨by
        rw [show wrT (!mk) t.tr = t.d.s.data.toList from by
         rw [vi (by omega) (by omega)]
         unfold xd
         repeat (first | rw [if_pos (by omega)] | rw [if_neg (by omega)])
         rw [hc35]
         try rfl, yp], M.bel⟩
     ·
      have hb32' := ne_of_beq_false hb32
      refine sdc A qg hb32 λa A↦?_
      refine sda A λa A↦?_
      refine qa (hK31 _ _ (wp_cond_false (A.ev rfl) ?_))
      refine wsk fun K40 hK40 => wrl ?_
      rcases tf ((t.d.k == 6)) with hb41 | hb41
      ·
       have hb41' := eq_of_beq hb41
       refine sdc A qg hb41 λa A↦?_
       refine sda A λa A↦?_
       refine qa (hK40 _ _ (wp_cond_true (A.ev rfl) ?_))
       refine wsk fun K42 hK42 => wsk fun K43 hK43 => wrl (sdm A λa A↦?_)
       refine qa (hK43 _ _ ?_)
       refine wp_cond_split (t := mk) (A.ev rfl) (fun hc44 => ?_) (fun hc44 => ?_)
       ·
        refine wsk fun K45 hK45 => wrl (sdo (v := .pointer (some ⟨g2, 8, none⟩)) A (qb UdC_fld_30_3 rfl rfl) λa A↦?_)
        refine sdo A (qk M UdC_is1_9 rfl 0 rfl rfl) λa A↦?_
        refine gcl A M (ef rfl rfl) (zjh (by omega)) fun w47 hb46 M a A => ?_
        refine sda A λa A↦?_
        refine qa (hK45 _ _ (wp_ret (hret _ _ (en1 A rfl (qf rfl) ?_))))
        exact ⟨by
         rw [show wrT (!mk) t.tr = kw false t.d.s from by
          rw [vi (by omega) (by omega)]
          unfold xd
          repeat (first | rw [if_pos (by omega)] | rw [if_neg (by omega)])
          rw [hc44]
          try rfl], M.bel⟩
       ·
        refine wp_skip (hK42 _ _ (wsk fun K48 hK48 => wrl (sdo (v := .pointer (some ⟨g2, 8, none⟩)) A (qb UdC_fld_30_3 rfl rfl) λa A↦?_)))
        refine sdo A (qk M UdC_is1_9 rfl 0 rfl rfl) λa A↦?_
        refine sda A λa A↦?_
        refine qa (hK48 _ _ (wp_ret (hret _ _ (en1 A rfl (qf rfl) ?_))))
        exact ⟨by
         rw [show wrT (!mk) t.tr = t.d.s.data.toList from by
          rw [vi (by omega) (by omega)]
          unfold xd
          repeat (first | rw [if_pos (by omega)] | rw [if_neg (by omega)])
          rw [hc44]
          try rfl, yp], M.bel⟩
      ·
       have hb41' := ne_of_beq_false hb41
       refine sdc A qg hb41 λa A↦?_
       refine sda A λa A↦?_
       refine qa (hK40 _ _ (wp_cond_false (A.ev rfl) ?_))
       refine wsk fun K49 hK49 => wrl ?_
       rcases tf ((t.d.k == 7)) with hb50 | hb50
       ·
        have hb50' := eq_of_beq hb50
        refine sdc A qg hb50 λa A↦?_
        refine sda A λa A↦?_
        refine qa (hK49 _ _ (wp_cond_true (A.ev rfl) ?_))
        refine wsk fun K51 hK51 => wrl (sda A λa A↦?_)
        refine qa (hK51 _ _ (wsk fun K52 hK52 => wsk fun K53 hK53 => wrl (sda A λa A↦?_)))
        refine qa (hK53 _ _ (wp_block (zt (fun m_ a w1 => ∃ (i : Nat) (acc : List UInt8), m_ = 1 + (t.d.rl.length - i) ∧ (i ≤ t.d.rl.length ∧ acc ++ qib (decide (i = 0)) (t.d.rl.drop i) = qib true t.d.rl ∧ acc.length ≤ 4 * i) ∧ Sl a 156 [(0, .agg (t.d.cells t.ts.length).toArray), (1, .bool mk), (2, .pointer (some ⟨g2, 0, none⟩)), (4, .string (⟨#[]⟩)), (7, .string (⟨(acc).toArray⟩)), (8, .int .i64 (((i : Nat) : Int))), (12, .pointer (some ⟨g2, 0, none⟩)), (13, .int .i64 t.d.k), (14, .bool false), (15, .bool false), (16, .bool false), (17, .bool false), (21, .bool false), (22, .bool false), (30, .bool false), (31, .bool false), (40, .bool false), (41, .bool false), (48, .bool false), (49, .bool false), (56, .bool true), (57, .bool true)] ∧ Mg w w1 (.obj g2 (.cells (t.d.cells t.ts.length).toArray 30) :: [])) _ ⟨0, [], rfl, ⟨Nat.zero_le _, rfl, Nat.zero_le _⟩, A.keep _ ⟨rfl, rfl, rfl, rfl, rfl, rfl, rfl, rfl, rfl, rfl, rfl, rfl, rfl, rfl, rfl, rfl, rfl, rfl, rfl, rfl, rfl, rfl, trivial⟩, M⟩ ?_)))
        clear M A
        rintro m_ a w54 ⟨i, acc, rfl, hinv56, A, M⟩ K55 hK55
        obtain ⟨hi0, hin9, ha9⟩ := hinv56
        refine wsk fun K57 hK57 => wsk fun K58 hK58 => wrl (sdm A λa A↦?_)
        refine sdo (v := .pointer (some ⟨g2, 9, none⟩)) A (qb UdC_fld_30_4 rfl rfl) λa A↦?_
        refine sdo A (qk M UdC_is1_27 rfl 0 rfl rfl) λa A↦?_
        refine sdo A (qx Tryz.underlying27 rfl) λa A↦?_
        rcases tf (decide (((i : Nat) : Int) < ((t.d.rl.length : Nat) : Int))) with hb59 | hb59
        ·
         have hb59' := of_decide_eq_true hb59
         refine sdc A zg hb59 λa A↦?_
         refine qa (hK58 _ _ (wp_cond_true (A.ev rfl) ?_))
         refine wp_skip (hK57 _ _ (wsk fun K60 hK60 => wp_block (wsk fun K61 hK61 => wsk fun K62 hK62 => wrl (sdm A λa A↦?_))))
         rcases tf (decide (0 < ((i : Nat) : Int))) with hb63 | hb63
         ·
          have hb63' := of_decide_eq_true hb63
          refine sdc A je hb63 λa A↦?_
          refine qa (hK62 _ _ (wp_cond_true (A.ev rfl) ?_))
          refine wrl (sdm A λa A↦?_)
          refine sdo (v := .string (⟨(acc ++ ([32])).toArray⟩)) A (qe rfl rfl (qj (a := acc) (b := [32]) (by first | omega | (simp only [List.length_append, List.length_cons, List.length_nil]; omega)))) λa A↦?_
          refine sda A λa A↦?_
          refine qa (hK61 _ _ (wrl (sdm A λa A↦?_)))
          refine sdo (v := .pointer (some ⟨g2, 9, none⟩)) A (qb UdC_fld_30_4 rfl rfl) λa A↦?_
          refine sdo A (qk M UdC_is1_27 rfl 0 rfl rfl) λa A↦?_
          refine sdm A λa A↦?_
          obtain ⟨bx, ox, hx1, hx2, hx3⟩ := qfg (i := i) (Dt.okT ht).1.raw (by omega)
          have hX8 : (t.d.rl.getD i 0).toNat < 256 := UInt8.toNat_lt _
          have hd3 := qfd ⟨(t.d.rl.getD i 0).toNat, hX8⟩
          simp only at hd3
          refine sdo (v := .pointer (some ⟨bx, ox + i, none⟩)) A (jf (k := i) Tryz.underlying27 (by kernel_rfl) rfl rfl rfl hx1 (by omega)) λa A↦?_
          refine sdo A (qej M hx2 (hx3 i (by omega)) UdC_is1_5 rfl) λa A↦?_
          refine sdo (v := .int .i64 ((((t.d.rl.getD i 0).toNat : Nat) : Int))) A (qt rfl (ar_conv Tryz.underlying5 Tryz.underlying3 (in_i64 (by omega) (by omega)))) λa A↦?_
          refine gcl A M (ef rfl rfl) (C.rdec_any (t.d.rl.getD i 0).toNat (by omega) _) fun w65 hb64 M a A => ?_
          refine sdo (v := .string (⟨((acc ++ ([32])) ++ (C.decD (t.d.rl.getD i 0).toNat)).toArray⟩)) A (qe rfl rfl (qj (a := acc ++ ([32])) (b := C.decD (t.d.rl.getD i 0).toNat) (by first | omega | (simp only [List.length_append, List.length_cons, List.length_nil]; omega)))) λa A↦?_
          refine sda A λa A↦?_
          refine qa (hK60 _ _ (wrl (sdm A λa A↦?_)))
          refine sdo (v := .int .i64 (((i + 1 : Nat) : Int))) A (qe rfl rfl (fun w => (zx (jw (by omega) (by omega)) w).trans (by rw [show (((i : Nat) : Int) + 1 : Int) = ((i + 1 : Nat) : Int) from by omega]))) λa A↦?_
          refine sda A λa A↦?_
          refine qa ?_
          have hd9 : decide (i = 0) = false := decide_eq_false (by omega)
          refine hK55 _ _ _ (by omega) ⟨i + 1, (acc ++ ([32])) ++ (C.decD (t.d.rl.getD i 0).toNat), rfl, ⟨by omega, by rw [← hin9, hd9, show decide (i + 1 = 0) = false from decide_eq_false (by omega), qih (f := false) (i := i) (by omega), if_neg (show ¬ false = true by decide)]; simp only [List.append_assoc, List.nil_append], by simp only [List.length_append, List.length_cons, List.length_nil]; omega⟩, A.keep _ ⟨rfl, rfl, rfl, rfl, rfl, rfl, rfl, rfl, rfl, rfl, rfl, rfl, rfl, rfl, rfl, rfl, rfl, rfl, rfl, rfl, rfl, rfl, trivial⟩, M⟩
         ·
          have hb63' := of_decide_eq_false hb63
          refine sdc A je hb63 λa A↦?_
          refine qa (hK62 _ _ (wp_cond_false (A.ev rfl) ?_))
          refine wp_skip (hK61 _ _ (wrl (sdm A λa A↦?_)))
          refine sdo (v := .pointer (some ⟨g2, 9, none⟩)) A (qb UdC_fld_30_4 rfl rfl) λa A↦?_
          refine sdo A (qk M UdC_is1_27 rfl 0 rfl rfl) λa A↦?_
          refine sdm A λa A↦?_
          obtain ⟨bx, ox, hx1, hx2, hx3⟩ := qfg (i := i) (Dt.okT ht).1.raw (by omega)
          have hX8 : (t.d.rl.getD i 0).toNat < 256 := UInt8.toNat_lt _
          have hd3 := qfd ⟨(t.d.rl.getD i 0).toNat, hX8⟩
          simp only at hd3
          refine sdo (v := .pointer (some ⟨bx, ox + i, none⟩)) A (jf (k := i) Tryz.underlying27 (by kernel_rfl) rfl rfl rfl hx1 (by omega)) λa A↦?_
          refine sdo A (qej M hx2 (hx3 i (by omega)) UdC_is1_5 rfl) λa A↦?_
          refine sdo (v := .int .i64 ((((t.d.rl.getD i 0).toNat : Nat) : Int))) A (qt rfl (ar_conv Tryz.underlying5 Tryz.underlying3 (in_i64 (by omega) (by omega)))) λa A↦?_
          refine gcl A M (ef rfl rfl) (C.rdec_any (t.d.rl.getD i 0).toNat (by omega) _) fun w67 hb66 M a A => ?_
          refine sdo (v := .string (⟨(acc ++ (C.decD (t.d.rl.getD i 0).toNat)).toArray⟩)) A (qe rfl rfl (qj (a := acc) (b := C.decD (t.d.rl.getD i 0).toNat) (by first | omega | (simp only [List.length_append, List.length_cons, List.length_nil]; omega)))) λa A↦?_
          refine sda A λa A↦?_
          refine qa (hK60 _ _ (wrl (sdm A λa A↦?_)))
          refine sdo (v := .int .i64 (((i + 1 : Nat) : Int))) A (qe rfl rfl (fun w => (zx (jw (by omega) (by omega)) w).trans (by rw [show (((i : Nat) : Int) + 1 : Int) = ((i + 1 : Nat) : Int) from by omega]))) λa A↦?_
          refine sda A λa A↦?_
          refine qa ?_
          have hd9 : decide (i = 0) = true := decide_eq_true (by omega)
          refine hK55 _ _ _ (by omega) ⟨i + 1, acc ++ (C.decD (t.d.rl.getD i 0).toNat), rfl, ⟨by omega, by rw [← hin9, hd9, show decide (i + 1 = 0) = false from decide_eq_false (by omega), qih (f := true) (i := i) (by omega), if_pos rfl]; simp only [List.append_assoc, List.nil_append], by simp only [List.length_append, List.length_cons, List.length_nil]; omega⟩, A.keep _ ⟨rfl, rfl, rfl, rfl, rfl, rfl, rfl, rfl, rfl, rfl, rfl, rfl, rfl, rfl, rfl, rfl, rfl, rfl, rfl, rfl, rfl, rfl, trivial⟩, M⟩
        ·
         have hb59' := of_decide_eq_false hb59
         refine sdc A zg hb59 λa A↦?_
         refine qa (hK58 _ _ (wp_cond_false (A.ev rfl) ?_))
         refine wp_exit (hK52 _ _ (wsk fun K68 hK68 => wrl (sdm A λa A↦?_)))
         refine sdo (v := .string (⟨(([35, 118, 117, 56, 40]) ++ acc).toArray⟩)) A (qe rfl rfl (qj (a := [35, 118, 117, 56, 40]) (b := acc) (by first | omega | (simp only [List.length_append, List.length_cons, List.length_nil]; omega)))) λa A↦?_
         refine sdo (v := .string (⟨((([35, 118, 117, 56, 40]) ++ acc) ++ ([41])).toArray⟩)) A (qe rfl rfl (qj (a := ([35, 118, 117, 56, 40]) ++ acc) (b := [41]) (by first | omega | (simp only [List.length_append, List.length_cons, List.length_nil]; omega)))) λa A↦?_
         refine sda A λa A↦?_
         refine qa (hK68 _ _ (wp_ret (hret _ _ (en1 A rfl (qf rfl) ?_))))
         exact ⟨by
          rw [show wrT (!mk) t.tr = (([35, 118, 117, 56, 40]) ++ acc) ++ ([41]) from by
           rw [quc (by omega), List.append_nil] at hin9
           rw [hin9]
           rw [vi (by omega) (by omega)]
           unfold xd
           repeat (first | rw [if_pos (by omega)] | rw [if_neg (by omega)])
           try rfl], M.bel⟩
       ·
        have hb50' := ne_of_beq_false hb50
        refine sdc A qg hb50 λa A↦?_
        refine sda A λa A↦?_
        refine qa (hK49 _ _ (wp_cond_false (A.ev rfl) ?_))
        refine wsk fun K69 hK69 => wrl ?_
        rcases tf ((t.d.k == 9)) with hb70 | hb70
        ·
         have hb70' := eq_of_beq hb70
         refine sdc A qg hb70 λa A↦?_
         refine sda A λa A↦?_
         refine qa (hK69 _ _ (wp_cond_true (A.ev rfl) ?_))
         refine wsk fun K71 hK71 => wrl (sdo (v := .pointer (some ⟨g2, 10, none⟩)) A (qb UdC_fld_30_5 rfl rfl) λa A↦?_)
         refine sdo A (qk M UdC_is1_28 rfl 0 rfl rfl) λa A↦?_
         refine sdm A λa A↦?_
         refine sct A (ef rfl rfl) (qvh ih (ts := t.ts) (mk := mk) (zre (Dt.keep M.bel _ ht)) (fun c hc => zii (Dt.keep M.bel _ ht) hc) (zq gt).2.2 (by have := qff (t := t); omega) (by have := qff (t := t); omega) (Dt.okT ht).2) ?_
         rintro _ w73 ⟨rfl, hb72⟩
         have hwl := qre (!mk) true (t.ts.map Dt.tr) (fun x hx => by obtain ⟨c, hc, rfl⟩ := List.mem_map.1 hx; exact (qba _ _ ((zq gt).2.2 c hc)).1)
         have hbl := qff (t := t)
         replace M := M.call hb72
         refine ⟨_, rfl, ?_⟩
         intro a A
         refine sdo (v := .string (⟨(([35, 40]) ++ (wrL (!mk) true (t.ts.map Dt.tr))).toArray⟩)) A (qe rfl rfl (qj (a := [35, 40]) (b := wrL (!mk) true (t.ts.map Dt.tr)) (by first | omega | (simp only [List.length_append, List.length_cons, List.length_nil]; omega)))) λa A↦?_
         refine sdo (v := .string (⟨((([35, 40]) ++ (wrL (!mk) true (t.ts.map Dt.tr))) ++ ([41])).toArray⟩)) A (qe rfl rfl (qj (a := ([35, 40]) ++ (wrL (!mk) true (t.ts.map Dt.tr))) (b := [41]) (by first | omega | (simp only [List.length_append, List.length_cons, List.length_nil]; omega)))) λa A↦?_
         refine sda A λa A↦?_
         refine qa (hK71 _ _ (wp_ret (hret _ _ (en1 A rfl (qf rfl) ?_))))
         exact ⟨by rw [kx, if_neg (by omega), if_pos (by omega)], M.bel⟩
        ·
         have hb70' := ne_of_beq_false hb70
         refine sdc A qg hb70 λa A↦?_
         refine sda A λa A↦?_
         refine qa (hK69 _ _ (wp_cond_false (A.ev rfl) ?_))
         refine wsk fun K74 hK74 => wrl ?_
         rcases tf ((t.d.k == 10)) with hb75 | hb75
         ·
          have hb75' := eq_of_beq hb75
          refine sdc A qg hb75 λa A↦?_
          refine sda A λa A↦?_
          refine qa (hK74 _ _ (wp_cond_true (A.ev rfl) ?_))
          refine wsk fun K76 hK76 => wrl (sda A λa A↦?_)
          refine qa (hK76 _ _ (wp_ret (hret _ _ (en1 A rfl (qf rfl) ?_))))
          exact ⟨by
           rw [show wrT (!mk) t.tr = [35, 60, 118, 111, 105, 100, 62] from by
            rw [vi (by omega) (by omega)]
            unfold xd
            repeat (first | rw [if_pos (by omega)] | rw [if_neg (by omega)])
            try rfl], M.bel⟩
         ·
          have hb75' := ne_of_beq_false hb75
          refine sdc A qg hb75 λa A↦?_
          refine sda A λa A↦?_
          refine qa (hK74 _ _ (wp_cond_false (A.ev rfl) ?_))
          refine wsk fun K77 hK77 => wrl ?_
          rcases tf ((t.d.k == 11)) with hb78 | hb78
          ·
           have hb78' := eq_of_beq hb78
           refine sdc A qg hb78 λa A↦?_
           refine sda A λa A↦?_
           refine qa (hK77 _ _ (wp_cond_true (A.ev rfl) ?_))
           refine wsk fun K79 hK79 => wrl (sdo (v := .pointer (some ⟨g2, 8, none⟩)) A (qb UdC_fld_30_3 rfl rfl) λa A↦?_)
           refine sdo A (qk M UdC_is1_9 rfl 0 rfl rfl) λa A↦?_
           refine sdo (v := .string (⟨(([35, 60]) ++ t.d.s.data.toList).toArray⟩)) A (qe rfl rfl (qug (a := [35, 60]) (s := t.d.s) (by first | omega | (simp only [List.length_append, List.length_cons, List.length_nil]; omega)))) λa A↦?_
           refine sdo (v := .string (⟨((([35, 60]) ++ t.d.s.data.toList) ++ ([62])).toArray⟩)) A (qe rfl rfl (qj (a := ([35, 60]) ++ t.d.s.data.toList) (b := [62]) (by first | omega | (simp only [List.length_append, List.length_cons, List.length_nil]; omega)))) λa A↦?_
           refine sda A λa A↦?_
           refine qa (hK79 _ _ (wp_ret (hret _ _ (en1 A rfl (qf rfl) ?_))))
           exact ⟨by
            rw [show wrT (!mk) t.tr = (([35, 60]) ++ t.d.s.data.toList) ++ ([62]) from by
             rw [vi (by omega) (by omega)]
             unfold xd
             repeat (first | rw [if_pos (by omega)] | rw [if_neg (by omega)])
             try rfl], M.bel⟩
          ·
           have hb78' := ne_of_beq_false hb78
           refine sdc A qg hb78 λa A↦?_
           refine sda A λa A↦?_
           refine qa (hK77 _ _ (wp_cond_false (A.ev rfl) ?_))
           refine wp_skip (hK4 _ _ (wsk fun K80 hK80 => ?_))
           have h8 : t.d.k = 8 := by omega
           have l2t := (zq gt).1.h8 h8
           obtain ⟨q0, bq0, oq0, iq0, mq0, rq0_, lq0, Hq0⟩ := qgd ht (i := 0) (by omega)
           obtain ⟨q1, bq1, oq1, iq1, mq1, rq1_, lq1, Hq1⟩ := qgd ht (i := 1) (by omega)
           refine wrl (yj (e := 30) (sz := 11) (m := 0) (vs := []) A M rfl rfl rfl (qr rfl (by kernel_rfl)) rfl rfl (.inl (by decide)) ?_)
           intro g81 w82 M a A
           refine sda A λa A↦?_
           refine qa (hK80 _ _ (wsk fun K83 hK83 => wrl (sdo A (zn M UdC_isS_30 rfl 1 rfl (cs := [.int .i64 t.d.k, .int .i64 t.d.n, .bool t.d.y.q.b1, .slice t.d.y.o1 t.d.y.q.t1.length t.d.y.c1, .slice t.d.y.o2 t.d.y.q.q1.length t.d.y.c2, .bool t.d.y.q.b2, .slice t.d.y.o3 t.d.y.q.t2.length t.d.y.c3, .slice t.d.y.o4 t.d.y.q.q2.length t.d.y.c4, .string t.d.s, .slice t.d.ro t.d.rl.length t.d.rc, .slice t.d.lo t.ts.length t.d.lc]) rfl rfl) λa A↦?_)))
           refine xa (vs := [.int .i64 0, .int .i64 0, .bool false, .slice none 0 0, .slice none 0 0, .bool false, .slice none 0 0, .slice none 0 0, .string (⟨#[]⟩), .slice none 0 0, .slice none 0 0]) (t := 30) A M rfl rfl rfl pg (zv (z := .agg #[.int .i64 0, .int .i64 0, .bool false, .slice none 0 0, .slice none 0 0, .bool false, .slice none 0 0, .slice none 0 0, .string (⟨#[]⟩), .slice none 0 0, .slice none 0 0]) (by kernel_rfl) rfl) (by decide) ?_
           intro g84 w85 M a A
           refine qz (us := [.int .i64 t.d.k, .int .i64 t.d.n, .bool t.d.y.q.b1, .slice t.d.y.o1 t.d.y.q.t1.length t.d.y.c1, .slice t.d.y.o2 t.d.y.q.q1.length t.d.y.c2, .bool t.d.y.q.b2, .slice t.d.y.o3 t.d.y.q.t2.length t.d.y.c3, .slice t.d.y.o4 t.d.y.q.q2.length t.d.y.c4, .string t.d.s, .slice t.d.ro t.d.rl.length t.d.rc, .slice t.d.lo t.ts.length t.d.lc]) (L' := (.obj g84 (.cells (t.d.cells t.ts.length).toArray 30) :: .row 30 11 (.slice (some ⟨g81, 0, none⟩) 0 0) 0 ([]) :: .obj g2 (.cells (t.d.cells t.ts.length).toArray 30) :: [])) A M rfl rfl (qw rfl rfl rfl (by kernel_rfl) M 0 rfl rfl rfl) 0 rfl rfl rfl ?_
           intro w86 M
           refine qa (hK83 _ _ (wsk fun K87 hK87 => wp_block ?_))
           replace M : Mg w w86 (.obj g84 (.cells (t.d.cells t.ts.length).toArray 30) :: .row 30 11 (.slice (some ⟨g81, 0, none⟩) 0 0) 0 ([]) :: []) := by
            have h9 := M.sub (.cons_cons _ (.cons_cons _ (.cons _ (.refl _))))
            exact h9
           refine zt (fun m_ a w1 => ∃ (us : List Dt) (p : Dt) (so : Option Addr) (ca : Nat), m_ = 1 + p.tr.bulk ∧ (Sp w (!mk) t q0 q1 us p) ∧ Sl a 156 [(0, .agg (t.d.cells t.ts.length).toArray), (1, .bool mk), (2, .pointer (some ⟨g2, 0, none⟩)), (4, .string (⟨#[]⟩)), (9, .slice so us.length ca), (10, .pointer (some ⟨g84, 0, none⟩)), (12, .pointer (some ⟨g2, 0, none⟩)), (13, .int .i64 t.d.k), (14, .bool false), (15, .bool false), (16, .bool false), (17, .bool false), (21, .bool false), (22, .bool false), (30, .bool false), (31, .bool false), (40, .bool false), (41, .bool false), (48, .bool false), (49, .bool false), (56, .bool false), (57, .bool false), (81, .bool false), (82, .bool false), (89, .bool false), (90, .bool false), (91, .bool false), (92, .bool false), (97, .slice (some ⟨g81, 0, none⟩) 0 0), (98, .agg (t.d.cells t.ts.length).toArray)] ∧ Mg w w1 (.obj g84 (.cells (p.d.cells p.ts.length).toArray 30) :: .row 30 11 (.slice so us.length ca) us.length ((dtC us)) :: [])) _ ⟨[], t, some ⟨g81, 0, none⟩, 0, rfl, (.start ht gt), A.keep _ ⟨rfl, rfl, rfl, rfl, rfl, rfl, rfl, rfl, rfl, rfl, rfl, rfl, rfl, rfl, rfl, rfl, rfl, rfl, rfl, rfl, rfl, rfl, rfl, rfl, rfl, rfl, rfl, rfl, rfl, rfl, trivial⟩, M⟩ ?_
           clear M A
           rintro m_ a w88 ⟨us, p, so, ca, rfl, hinv90, A, M⟩ K89 hK89
           have S := hinv90
           have hbk := S.bk
           have hpb := qeb (t := p)
           refine wsk fun K91 hK91 => wsk fun K92 hK92 => wrl (sdo (v := .pointer (some ⟨g84, 0, none⟩)) A (qb UdC_fld_30_0 rfl rfl) λa A↦?_)
           refine sdo A (qk M UdC_is1_3 rfl 0 rfl rfl) λa A↦?_
           rcases tf ((p.d.k == 8)) with hb93 | hb93
           ·
            have hb93' := eq_of_beq hb93
            refine sdc A qg hb93 λa A↦?_
            refine qa (hK92 _ _ (wp_cond_true (A.ev rfl) ?_))
            refine wp_skip (hK91 _ _ (wp_block (wsk fun K94 hK94 => ?_)))
            have l2p := (zq S.gd).1.h8 hb93'
            obtain ⟨p0, bp0, op0, ip0, mp0, rp0_, lp0, Hp0⟩ := qgd S.rd (i := 0) (by omega)
            obtain ⟨p1, bp1, op1, ip1, mp1, rp1_, lp1, Hp1⟩ := qgd S.rd (i := 1) (by omega)
            have hbp := qbi l2p ip0 ip1
            refine wrl (sdm A λa A↦?_)
            refine sdo (v := .pointer (some ⟨g84, 10, none⟩)) A (qb UdC_fld_30_5 rfl rfl) λa A↦?_
            refine sdo A (qk M UdC_is1_28 rfl 0 rfl rfl) λa A↦?_
            refine sdo (v := .pointer (some ⟨bp0, op0 + 0 * 11, none⟩)) A (zk (k := 0) Tryz.underlying28 (by kernel_rfl) rfl rfl rfl lp0 (by omega)) λa A↦?_
            refine sdo A (jt M Hp0 UdC_isS_30 rfl rfl) λa A↦?_
            refine yj (e := 30) (sz := 11) (m := 1) (vs := [.int .i64 p0.d.k, .int .i64 p0.d.n, .bool p0.d.y.q.b1, .slice p0.d.y.o1 p0.d.y.q.t1.length p0.d.y.c1, .slice p0.d.y.o2 p0.d.y.q.q1.length p0.d.y.c2, .bool p0.d.y.q.b2, .slice p0.d.y.o3 p0.d.y.q.t2.length p0.d.y.c3, .slice p0.d.y.o4 p0.d.y.q.q2.length p0.d.y.c4, .string p0.d.s, .slice p0.d.ro p0.d.rl.length p0.d.rc, .slice p0.d.lo p0.ts.length p0.d.lc]) A M rfl rfl rfl (qr rfl (by kernel_rfl)) rfl rfl (.inl (by decide)) ?_
            intro g95 w96 M a A
            refine qbe (e := 30) (sz := 11) (k := 2) (q := us.length) (m := 1) (xs := (dtC us)) (news := [.int .i64 p0.d.k, .int .i64 p0.d.n, .bool p0.d.y.q.b1, .slice p0.d.y.o1 p0.d.y.q.t1.length p0.d.y.c1, .slice p0.d.y.o2 p0.d.y.q.q1.length p0.d.y.c2, .bool p0.d.y.q.b2, .slice p0.d.y.o3 p0.d.y.q.t2.length p0.d.y.c3, .slice p0.d.y.o4 p0.d.y.q.q2.length p0.d.y.c4, .string p0.d.s, .slice p0.d.ro p0.d.rl.length p0.d.rc, .slice p0.d.lo p0.ts.length p0.d.lc]) (L' := fun v97 => (.row 30 11 (.slice (some ⟨g95, 0, none⟩) 1 1) 1 ([.int .i64 p0.d.k, .int .i64 p0.d.n, .bool p0.d.y.q.b1, .slice p0.d.y.o1 p0.d.y.q.t1.length p0.d.y.c1, .slice p0.d.y.o2 p0.d.y.q.q1.length p0.d.y.c2, .bool p0.d.y.q.b2, .slice p0.d.y.o3 p0.d.y.q.t2.length p0.d.y.c3, .slice p0.d.y.o4 p0.d.y.q.q2.length p0.d.y.c4, .string p0.d.s, .slice p0.d.ro p0.d.rl.length p0.d.rc, .slice p0.d.lo p0.ts.length p0.d.lc]) :: .obj g84 (.cells (p.d.cells p.ts.length).toArray 30) :: .row 30 11 (v97) (us.length + 1) ((dtC us) ++ [.int .i64 p0.d.k, .int .i64 p0.d.n, .bool p0.d.y.q.b1, .slice p0.d.y.o1 p0.d.y.q.t1.length p0.d.y.c1, .slice p0.d.y.o2 p0.d.y.q.q1.length p0.d.y.c2, .bool p0.d.y.q.b2, .slice p0.d.y.o3 p0.d.y.q.t2.length p0.d.y.c3, .slice p0.d.y.o4 p0.d.y.q.q2.length p0.d.y.c4, .string p0.d.s, .slice p0.d.ro p0.d.rl.length p0.d.rc, .slice p0.d.lo p0.ts.length p0.d.lc]) :: [])) A rfl rfl rfl (qbd (z := .agg #[.int .i64 0, .int .i64 0, .bool false, .slice none 0 0, .slice none 0 0, .bool false, .slice none 0 0, .slice none 0 0, .string ⟨#[]⟩, .slice none 0 0, .slice none 0 0]) (sz := 11) (by_ := 192) Tryz.underlying28 (by kernel_rfl) rfl rfl rfl M 2 rfl rfl 0 rfl rfl rfl rfl (by omega)) (fun _ => rfl) ?_
            intro v97 w98 M a A
            refine sda A λa A↦?_
            refine qa (hK94 _ _ (wrl (sdo (v := .pointer (some ⟨g84, 10, none⟩)) A (qb UdC_fld_30_5 rfl rfl) λa A↦?_)))
            refine sdo A (qk M UdC_is1_28 rfl 1 rfl rfl) λa A↦?_
            refine sdo (v := .pointer (some ⟨bp1, op1 + 1 * 11, none⟩)) A (zk (k := 1) Tryz.underlying28 (by kernel_rfl) rfl rfl rfl lp1 (by omega)) λa A↦?_
            refine sdo A (jt M Hp1 UdC_isS_30 rfl rfl) λa A↦?_
            refine qz (us := [.int .i64 p1.d.k, .int .i64 p1.d.n, .bool p1.d.y.q.b1, .slice p1.d.y.o1 p1.d.y.q.t1.length p1.d.y.c1, .slice p1.d.y.o2 p1.d.y.q.q1.length p1.d.y.c2, .bool p1.d.y.q.b2, .slice p1.d.y.o3 p1.d.y.q.t2.length p1.d.y.c3, .slice p1.d.y.o4 p1.d.y.q.q2.length p1.d.y.c4, .string p1.d.s, .slice p1.d.ro p1.d.rl.length p1.d.rc, .slice p1.d.lo p1.ts.length p1.d.lc]) (L' := (.row 30 11 (.slice (some ⟨g95, 0, none⟩) 1 1) 1 ([.int .i64 p0.d.k, .int .i64 p0.d.n, .bool p0.d.y.q.b1, .slice p0.d.y.o1 p0.d.y.q.t1.length p0.d.y.c1, .slice p0.d.y.o2 p0.d.y.q.q1.length p0.d.y.c2, .bool p0.d.y.q.b2, .slice p0.d.y.o3 p0.d.y.q.t2.length p0.d.y.c3, .slice p0.d.y.o4 p0.d.y.q.q2.length p0.d.y.c4, .string p0.d.s, .slice p0.d.ro p0.d.rl.length p0.d.rc, .slice p0.d.lo p0.ts.length p0.d.lc]) :: .obj g84 (.cells (p1.d.cells p1.ts.length).toArray 30) :: .row 30 11 (v97) (us.length + 1) ((dtC us) ++ [.int .i64 p0.d.k, .int .i64 p0.d.n, .bool p0.d.y.q.b1, .slice p0.d.y.o1 p0.d.y.q.t1.length p0.d.y.c1, .slice p0.d.y.o2 p0.d.y.q.q1.length p0.d.y.c2, .bool p0.d.y.q.b2, .slice p0.d.y.o3 p0.d.y.q.t2.length p0.d.y.c3, .slice p0.d.y.o4 p0.d.y.q.q2.length p0.d.y.c4, .string p0.d.s, .slice p0.d.ro p0.d.rl.length p0.d.rc, .slice p0.d.lo p0.ts.length p0.d.lc]) :: [])) A M rfl rfl (qw rfl rfl rfl (by kernel_rfl) M 1 rfl rfl rfl) 1 rfl rfl rfl ?_
            intro w99 M
            refine qa ?_
            replace M : Mg w w99 (.obj g84 (.cells (p1.d.cells p1.ts.length).toArray 30) :: .row 30 11 (v97) ((us ++ [p0]).length) ((dtC (us ++ [p0]))) :: []) := by
             have h9 := M.sub (.cons _ (.cons_cons _ (.cons_cons _ (.refl _))))
             rw [zji, List.length_append]
             exact h9
            obtain ⟨so100, ca101, rfl⟩ := qbb (M.has 1 rfl)
            refine hK89 _ _ _ (by omega) ⟨us ++ [p0], p1, so100, ca101, rfl, (S.go iq0 iq1 hb93' l2p ip0 ip1 rp0_ rp1_ ((zq S.gd).2.2 _ mp0) ((zq S.gd).2.2 _ mp1)), A.keep _ ⟨rfl, rfl, rfl, rfl, rfl, rfl, rfl, rfl, rfl, rfl, rfl, rfl, rfl, rfl, rfl, rfl, rfl, rfl, rfl, rfl, rfl, rfl, rfl, rfl, rfl, rfl, rfl, rfl, rfl, rfl, trivial⟩, M⟩
           ·
            have hb93' := ne_of_beq_false hb93
            refine sdc A qg hb93 λa A↦?_
            refine qa (hK92 _ _ (wp_cond_false (A.ev rfl) ?_))
            refine wp_exit (hK87 _ _ (wsk fun K102 hK102 => ?_))
            have hJ103 : ∀ a w1, (((isQ q0.tr && qtT q1.tr) = false) ∧ Sl a 156 [(0, .agg (t.d.cells t.ts.length).toArray), (1, .bool mk), (2, .pointer (some ⟨g2, 0, none⟩)), (9, .slice so us.length ca), (10, .pointer (some ⟨g84, 0, none⟩)), (12, .pointer (some ⟨g2, 0, none⟩)), (13, .int .i64 t.d.k), (14, .bool false), (15, .bool false), (16, .bool false), (17, .bool false), (21, .bool false), (22, .bool false), (30, .bool false), (31, .bool false), (40, .bool false), (41, .bool false), (48, .bool false), (49, .bool false), (56, .bool false), (57, .bool false), (81, .bool false), (82, .bool false), (89, .bool false), (90, .bool false), (91, .bool false), (92, .bool false), (97, .slice (some ⟨g81, 0, none⟩) 0 0), (98, .agg (t.d.cells t.ts.length).toArray), (99, .pointer (some ⟨g84, 0, none⟩)), (100, .int .i64 p.d.k), (101, .bool false)] ∧ Mg w w1 (.obj g84 (.cells (p.d.cells p.ts.length).toArray 30) :: .row 30 11 (.slice so us.length ca) us.length ((dtC us)) :: [])) → K102 a w1 := by
             clear A M
             rintro a w104 ⟨hf105, A, M⟩
             have hq9 := hf105
             refine hK102 _ _ (wsk fun K106 hK106 => ?_)
             have hu0 : us.length ≠ 0 := fun e => hb93' (by rw [S.z e]; exact h8)
             refine wrl ?_
             iterate 2 refine sdm A λa A↦?_
             refine sct A (ef rfl rfl) (qvh ih (ts := us) (mk := mk) (zpj M 1 rfl rfl) (fun c hc => Dt.keep M.bel _ (S.ur c hc)) S.ug (by omega) (by omega) (by omega)) ?_
             rintro _ w108 ⟨rfl, hb107⟩
             have hwl := qre (!mk) true (us.map Dt.tr) (fun x hx => by obtain ⟨c, hc, rfl⟩ := List.mem_map.1 hx; exact (qba _ _ (S.ug c hc)).1)
             replace M := M.call hb107
             refine ⟨_, rfl, ?_⟩
             intro a A
             refine sdo (v := .string (⟨(([40]) ++ (wrL (!mk) true (us.map Dt.tr))).toArray⟩)) A (qe rfl rfl (qj (a := [40]) (b := wrL (!mk) true (us.map Dt.tr)) (by first | omega | (simp only [List.length_append, List.length_cons, List.length_nil]; omega)))) λa A↦?_
             refine sda A λa A↦?_
             refine qa (hK106 _ _ (wsk fun K109 hK109 => wsk fun K110 hK110 => wrl (sdo (v := .pointer (some ⟨g84, 0, none⟩)) A (qb UdC_fld_30_0 rfl rfl) λa A↦?_)))
             refine sdo A (qk M UdC_is1_3 rfl 0 rfl rfl) λa A↦?_
             rcases tf ((p.d.k != 1)) with hb111 | hb111
             ·
              have hb111' := bne_iff_ne.1 hb111
              refine sdc A zw hb111 λa A↦?_
              refine qa (hK110 _ _ (wp_cond_true (A.ev rfl) ?_))
              refine wrl (sdm A λa A↦?_)
              refine sdo A (zn M UdC_isS_30 rfl 0 rfl (cs := [.int .i64 p.d.k, .int .i64 p.d.n, .bool p.d.y.q.b1, .slice p.d.y.o1 p.d.y.q.t1.length p.d.y.c1, .slice p.d.y.o2 p.d.y.q.q1.length p.d.y.c2, .bool p.d.y.q.b2, .slice p.d.y.o3 p.d.y.q.t2.length p.d.y.c3, .slice p.d.y.o4 p.d.y.q.q2.length p.d.y.c4, .string p.d.s, .slice p.d.ro p.d.rl.length p.d.rc, .slice p.d.lo p.ts.length p.d.lc]) rfl rfl) λa A↦?_
              refine sdm A λa A↦?_
              refine sct A (ef rfl rfl) (ih (t := p) (mk := mk) (by omega) (Dt.keep M.bel _ S.rd) S.gd (by omega)) ?_
              rintro _ w113 ⟨rfl, hb112⟩
              have hwrp := (qba (!mk) p.tr S.gd).1
              replace M := M.call hb112
              refine ⟨_, rfl, ?_⟩
              intro a A
              refine sdo (v := .string (⟨(([32, 46, 32]) ++ (wrT (!mk) p.tr)).toArray⟩)) A (qe rfl rfl (qj (a := [32, 46, 32]) (b := wrT (!mk) p.tr) (by first | omega | (simp only [List.length_append, List.length_cons, List.length_nil]; omega)))) λa A↦?_
              refine sdo (v := .string (⟨((([40]) ++ (wrL (!mk) true (us.map Dt.tr))) ++ (([32, 46, 32]) ++ (wrT (!mk) p.tr))).toArray⟩)) A (qe rfl rfl (qj (a := ([40]) ++ (wrL (!mk) true (us.map Dt.tr))) (b := ([32, 46, 32]) ++ (wrT (!mk) p.tr)) (by first | omega | (simp only [List.length_append, List.length_cons, List.length_nil]; omega)))) λa A↦?_
              refine sda A λa A↦?_
              refine qa (hK109 _ _ (wsk fun K114 hK114 => wrl (sdm A λa A↦?_)))
              refine sdo (v := .string (⟨(((([40]) ++ (wrL (!mk) true (us.map Dt.tr))) ++ (([32, 46, 32]) ++ (wrT (!mk) p.tr))) ++ ([41])).toArray⟩)) A (qe rfl rfl (qj (a := (([40]) ++ (wrL (!mk) true (us.map Dt.tr))) ++ (([32, 46, 32]) ++ (wrT (!mk) p.tr))) (b := [41]) (by first | omega | (simp only [List.length_append, List.length_cons, List.length_nil]; omega)))) λa A↦?_
              refine sda A λa A↦?_
              refine qa (hK114 _ _ (wp_ret (hret _ _ (en1 A rfl (qf rfl) ?_))))
              exact ⟨by rw [show wrT (!mk) t.tr = ((([40]) ++ (wrL (!mk) true (us.map Dt.tr))) ++ (([32, 46, 32]) ++ (wrT (!mk) p.tr))) ++ ([41]) from by
               rw [S.list h8 l2t iq0 iq1 hb93' hq9, zhb hb93' (by omega)]
               simp only [List.append_assoc, List.append_nil, List.cons_append, List.nil_append]], M.bel⟩
             ·
              have hb111' := bne_eq_false_iff_eq.1 hb111
              refine sdc A zw hb111 λa A↦?_
              refine qa (hK110 _ _ (wp_cond_false (A.ev rfl) ?_))
              refine wp_skip (hK109 _ _ (wsk fun K115 hK115 => wrl (sdm A λa A↦?_)))
              refine sdo (v := .string (⟨((([40]) ++ (wrL (!mk) true (us.map Dt.tr))) ++ ([41])).toArray⟩)) A (qe rfl rfl (qj (a := ([40]) ++ (wrL (!mk) true (us.map Dt.tr))) (b := [41]) (by first | omega | (simp only [List.length_append, List.length_cons, List.length_nil]; omega)))) λa A↦?_
              refine sda A λa A↦?_
              refine qa (hK115 _ _ (wp_ret (hret _ _ (en1 A rfl (qf rfl) ?_))))
              exact ⟨by rw [show wrT (!mk) t.tr = (([40]) ++ (wrL (!mk) true (us.map Dt.tr))) ++ ([41]) from by
               rw [S.list h8 l2t iq0 iq1 hb93' hq9, zha (by omega)]
               simp only [List.append_assoc, List.append_nil, List.cons_append, List.nil_append]], M.bel⟩
            refine wsk fun K116 hK116 => ?_
            have hu0 : us.length ≠ 0 := fun e => hb93' (by rw [S.z e]; exact h8)
            refine wrl (sdm A λa A↦?_)
            refine sdo A (qx Tryz.underlying28 rfl) λa A↦?_
            rcases tf ((((us.length : Nat) : Int) == 2)) with hb117 | hb117
            ·
             have hb117' := eq_of_beq hb117
             refine sdc A qg hb117 λa A↦?_
             refine sdm A λa A↦?_
             refine sdo (v := .pointer (some ⟨g84, 0, none⟩)) A (qb UdC_fld_30_0 rfl rfl) λa A↦?_
             refine sdo A (qk M UdC_is1_3 rfl 0 rfl rfl) λa A↦?_
             rcases tf ((p.d.k == 1)) with hb118 | hb118
             ·
              have hb118' := eq_of_beq hb118
              refine sdc A qg hb118 λa A↦?_
              refine sdk (v := .bool true) A λa A↦?_
              iterate 2 refine sdm A λa A↦?_
              obtain ⟨gu, hgu⟩ := qfh M 1 rfl (by omega)
              obtain ⟨c0, hu2, _, hts2⟩ := S.o2 (by omega)
              refine sdo (v := .pointer (some ⟨gu, 0 * 11, none⟩)) A (zy (k := 0) Tryz.underlying28 (by kernel_rfl) rfl rfl rfl hgu (show 0 < us.length by omega)) λa A↦?_
              refine sdo (v := .pointer (some ⟨gu, 0 * 11 + 0, none⟩)) A (qb UdC_fld_30_0 rfl rfl) λa A↦?_
              refine sdo A (xq (j := 0 * 11 + 0) M 1 rfl hgu (by rw [hu2]; rfl) UdC_is1_3 rfl) λa A↦?_
              rcases tf ((q0.d.k == 6)) with hb119 | hb119
              ·
               have hb119' := eq_of_beq hb119
               refine sdc A qg hb119 λa A↦?_
               refine sdk (v := .bool true) A λa A↦?_
               iterate 2 refine sdm A λa A↦?_
               refine sdo (v := .pointer (some ⟨gu, 0 * 11, none⟩)) A (zy (k := 0) Tryz.underlying28 (by kernel_rfl) rfl rfl rfl hgu (show 0 < us.length by omega)) λa A↦?_
               refine sdo (v := .pointer (some ⟨gu, 0 * 11 + 8, none⟩)) A (qb UdC_fld_30_3 rfl rfl) λa A↦?_
               refine sdo A (xq (j := 0 * 11 + 8) M 1 rfl hgu (by rw [hu2]; rfl) UdC_is1_9 rfl) λa A↦?_
               rcases tf (decide (q0.d.s = ⟨#[113, 117, 111, 116, 101]⟩)) with hb120 | hb120
               ·
                have hb120' := of_decide_eq_true hb120
                refine sdo (v := .bool true) A (qe rfl rfl (fun w => (zl Tryz.underlying9 w).trans (by rw [hb120] <;> rfl))) λa A↦?_
                refine sdk (v := .bool true) A λa A↦?_
                refine qa (hK116 _ _ (wp_cond_true (A.ev rfl) ?_))
                refine wsk fun K121 hK121 => wrl (sdm A λa A↦?_)
                refine sdo (v := .pointer (some ⟨gu, 1 * 11, none⟩)) A (zy (k := 1) Tryz.underlying28 (by kernel_rfl) rfl rfl rfl hgu (show 1 < us.length by omega)) λa A↦?_
                refine sdo A (zhe (o := 1 * 11) M 1 rfl hgu UdC_isS_30 (by rw [hu2]) rfl rfl) λa A↦?_
                refine sdm A λa A↦?_
                refine sct A (ef rfl rfl) (ih (t := c0) (mk := mk) (by have := ul (hu2 ▸ List.mem_cons_of_mem _ List.mem_cons_self : c0 ∈ us); omega) (Dt.keep M.bel _ (S.ur c0 (hu2 ▸ List.mem_cons_of_mem _ List.mem_cons_self))) (S.ug c0 (hu2 ▸ List.mem_cons_of_mem _ List.mem_cons_self)) (by have := ul (hu2 ▸ List.mem_cons_of_mem _ List.mem_cons_self : c0 ∈ us); omega)) ?_
                rintro _ w123 ⟨rfl, hb122⟩
                have hwrc0 := (qba (!mk) c0.tr (S.ug c0 (hu2 ▸ List.mem_cons_of_mem _ List.mem_cons_self))).1
                have hbc0 := ul (hu2 ▸ List.mem_cons_of_mem _ List.mem_cons_self : c0 ∈ us)
                replace M := M.call hb122
                refine ⟨_, rfl, ?_⟩
                intro a A
                refine sdo (v := .string (⟨(([39]) ++ (wrT (!mk) c0.tr)).toArray⟩)) A (qe rfl rfl (qj (a := [39]) (b := wrT (!mk) c0.tr) (by first | omega | (simp only [List.length_append, List.length_cons, List.length_nil]; omega)))) λa A↦?_
                refine sda A λa A↦?_
                refine qa (hK121 _ _ (wp_ret (hret _ _ (en1 A rfl (qf rfl) ?_))))
                exact ⟨by rw [S.quote h8 l2t iq0 iq1 hu2 hb118' (by rw [qhb, decide_eq_true hb119', decide_eq_true hb120']; rfl)], M.bel⟩
               ·
                have hb120' := of_decide_eq_false hb120
                refine sdo (v := .bool false) A (qe rfl rfl (fun w => (zl Tryz.underlying9 w).trans (by rw [hb120] <;> rfl))) λa A↦?_
                refine sdk (v := .bool false) A λa A↦?_
                refine qa (hK116 _ _ (wp_cond_false (A.ev rfl) ?_))
                refine wp_skip ?_
                exact hJ103 _ _ ⟨(S.no h8 hb93' (.inr (.inr (by rw [qhb, decide_eq_false hb120', Bool.and_false])))), A.keep _ ⟨rfl, rfl, rfl, rfl, rfl, rfl, rfl, rfl, rfl, rfl, rfl, rfl, rfl, rfl, rfl, rfl, rfl, rfl, rfl, rfl, rfl, rfl, rfl, rfl, rfl, rfl, rfl, rfl, rfl, rfl, rfl, rfl, trivial⟩, M⟩
              ·
               have hb119' := ne_of_beq_false hb119
               refine sdc A qg hb119 λa A↦?_
               refine sdk (v := .bool false) A λa A↦?_
               refine sdm A λa A↦?_
               iterate 5 refine qh A rfl rfl rfl λa A↦?_
               refine sdk (v := .bool false) A λa A↦?_
               refine qa (hK116 _ _ (wp_cond_false (A.ev rfl) ?_))
               refine wp_skip ?_
               exact hJ103 _ _ ⟨(S.no h8 hb93' (.inr (.inr (by rw [qhb, decide_eq_false hb119', Bool.false_and])))), A.keep _ ⟨rfl, rfl, rfl, rfl, rfl, rfl, rfl, rfl, rfl, rfl, rfl, rfl, rfl, rfl, rfl, rfl, rfl, rfl, rfl, rfl, rfl, rfl, rfl, rfl, rfl, rfl, rfl, rfl, rfl, rfl, rfl, rfl, trivial⟩, M⟩
             ·
              have hb118' := ne_of_beq_false hb118
              refine sdc A qg hb118 λa A↦?_
              refine sdk (v := .bool false) A λa A↦?_
              refine sdm A λa A↦?_
              iterate 5 refine qh A rfl rfl rfl λa A↦?_
              refine sdk (v := .bool false) A λa A↦?_
              refine sdm A λa A↦?_
              iterate 5 refine qh A rfl rfl rfl λa A↦?_
              refine sdk (v := .bool false) A λa A↦?_
              refine qa (hK116 _ _ (wp_cond_false (A.ev rfl) ?_))
              refine wp_skip ?_
              exact hJ103 _ _ ⟨(S.no h8 hb93' (.inr (.inl hb118'))), A.keep _ ⟨rfl, rfl, rfl, rfl, rfl, rfl, rfl, rfl, rfl, rfl, rfl, rfl, rfl, rfl, rfl, rfl, rfl, rfl, rfl, rfl, rfl, rfl, rfl, rfl, rfl, rfl, rfl, rfl, rfl, rfl, rfl, rfl, trivial⟩, M⟩
            ·
             have hb117' := ne_of_beq_false hb117
             refine sdc A qg hb117 λa A↦?_
             refine sdm A λa A↦?_
             iterate 3 refine qh A rfl rfl rfl λa A↦?_
             refine sdk (v := .bool false) A λa A↦?_
             refine sdm A λa A↦?_
             iterate 5 refine qh A rfl rfl rfl λa A↦?_
             refine sdk (v := .bool false) A λa A↦?_
             refine sdm A λa A↦?_
             iterate 5 refine qh A rfl rfl rfl λa A↦?_
             refine sdk (v := .bool false) A λa A↦?_
             refine qa (hK116 _ _ (wp_cond_false (A.ev rfl) ?_))
             refine wp_skip ?_
             exact hJ103 _ _ ⟨(S.no h8 hb93' (.inl (by omega))), A.keep _ ⟨rfl, rfl, rfl, rfl, rfl, rfl, rfl, rfl, rfl, rfl, rfl, rfl, rfl, rfl, rfl, rfl, rfl, rfl, rfl, rfl, rfl, rfl, rfl, rfl, rfl, rfl, rfl, rfl, rfl, rfl, rfl, rfl, trivial⟩, M⟩
theorem TrV_is1_27 : Is1 Tryz.prog 27 := ⟨⟨_, Tryz.underlying27, rfl⟩, by kernel_rfl⟩
theorem TrV_is1_28 : Is1 Tryz.prog 28 := ⟨⟨_, Tryz.underlying28, rfl⟩, by kernel_rfl⟩
theorem TrV_is1_3 : Is1 Tryz.prog 3 := ⟨⟨_, Tryz.underlying3, rfl⟩, by kernel_rfl⟩
theorem TrV_is1_4 : Is1 Tryz.prog 4 := ⟨⟨_, Tryz.underlying4, rfl⟩, by kernel_rfl⟩
theorem TrV_is1_9 : Is1 Tryz.prog 9 := ⟨⟨_, Tryz.underlying9, rfl⟩, by kernel_rfl⟩
theorem TrV_fld_26_0 : FieldAt Tryz.prog 26 0 0 := ⟨_, _, Tryz.underlying26, rfl, rfl, by kernel_rfl⟩
theorem TrV_fld_26_1 : FieldAt Tryz.prog 26 1 3 := ⟨_, _, Tryz.underlying26, rfl, rfl, by kernel_rfl⟩
theorem TrV_fld_30_0 : FieldAt Tryz.prog 30 0 0 := ⟨_, _, Tryz.underlying30, rfl, rfl, by kernel_rfl⟩
theorem TrV_fld_30_1 : FieldAt Tryz.prog 30 1 1 := ⟨_, _, Tryz.underlying30, rfl, rfl, by kernel_rfl⟩
theorem TrV_fld_30_2 : FieldAt Tryz.prog 30 2 2 := ⟨_, _, Tryz.underlying30, rfl, rfl, by kernel_rfl⟩
theorem TrV_fld_30_3 : FieldAt Tryz.prog 30 3 8 := ⟨_, _, Tryz.underlying30, rfl, rfl, by kernel_rfl⟩
theorem TrV_fld_30_4 : FieldAt Tryz.prog 30 4 9 := ⟨_, _, Tryz.underlying30, rfl, rfl, by kernel_rfl⟩
theorem TrV_fld_30_5 : FieldAt Tryz.prog 30 5 10 := ⟨_, _, Tryz.underlying30, rfl, rfl, by kernel_rfl⟩
theorem TrV_fld_96_1 : FieldAt Tryz.prog 96 1 1 := ⟨_, _, Tryz.underlying96, rfl, rfl, by kernel_rfl⟩
theorem TrV_isS_24 : IsS Tryz.prog 24 3 := ⟨⟨_, Tryz.underlying24⟩, by kernel_rfl⟩
theorem TrV_isS_26 : IsS Tryz.prog 26 6 := ⟨⟨_, Tryz.underlying26⟩, by kernel_rfl⟩
theorem qvi {w : World} {so : Option Addr} {cap : Nat} {l : List UInt8} (hb : Rb w so l) (hlen : l.length ≤ 2000000) : Calls Tryz.prog 87 #[.int .i64 1, .slice so l.length cap] w fun e w' => ∃ v, e = .returned v ∧ Mg w w' [.row 96 3 v (jq l).length (ju (jq l))] := by
 have M : Mg w w ([]) := Mg.start w
 refine qm (l := [(0, .int .i64 1), (1, .slice so l.length cap)]) Tryz.func87 rfl Tryz.ntmps87 rfl rfl ?_
 intro Q hret hnorm hP a A
 refine wsk fun K1 hK1 => wrl (sda A λa A↦?_)
 refine qa (hK1 _ _ (wsk fun K2 hK2 => wsk fun K3 hK3 => wrl (sdm A λa A↦?_)))
 refine sdo (v := .bool true) A (qe rfl rfl (fun w => by kernel_rfl)) λa A↦?_
 refine qa (hK3 _ _ (wp_cond_true (A.ev rfl) ?_))
 refine wsk fun K4 hK4 => wrl (sdm A λa A↦?_)
 refine sct A (ef rfl rfl) (zci (hb.below M.bel) hlen) ?_
 rintro _ w5 ⟨v9, rfl, hM9⟩
 replace M : Mg w w5 (.row 96 3 (v9) ((jq l).length) ((ju (jq l))) :: []) := (M.both hM9 (xm vq) (vt (by simp) (xm vq)))
 refine ⟨_, rfl, ?_⟩
 intro a A
 refine sda A λa A↦?_
 refine qa (hK4 _ _ (wp_ret (hret _ _ (en1 A rfl (qf rfl) ?_))))
 exact ⟨_, rfl, M⟩
theorem qlg {w : World} {s : ByteArray} (hs : s.size ≤ 2000000) {r : Bool} (hr : okS s = r) : Calls Tryz.prog 63 #[.string s] w fun e w' => e = .returned (.bool r) ∧ Below w.heap.size w w' := by
 have hul : (jq s.data.toList).length ≤ s.data.toList.length := qkh _ _ _
 have hsl : s.data.toList.length ≤ 2000000 := by rw [zf]; exact hs
 have M : Mg w w ([]) := Mg.start w
 refine qm (l := [(0, .string s)]) Tryz.func63 rfl Tryz.ntmps63 rfl rfl ?_
 intro Q hret hnorm hP a A
 refine wsk fun K1 hK1 => wrl (sda A λa A↦?_)
 refine qa (hK1 _ _ (wsk fun K2 hK2 => wrl (sdm A λa A↦?_)))
 refine zmc A M rfl Tryz.underlying9 Tryz.underlying27 Tryz.underlying5 rfl rfl rfl rfl ?_
 intro so3 ca4 w5 hrb6 M a A
 refine sct A (ef rfl rfl) (qvi hrb6 (by rw [zf]; exact hs)) ?_
 rintro _ w10 ⟨v9, rfl, hM7⟩
 obtain ⟨so8, ca9, rfl⟩ := qbb (hM7.has 0 rfl)
 replace M : Mg w w10 (.row 96 3 (.slice so8 ((jq s.data.toList).length) ca9) ((jq s.data.toList).length) ((ju (jq s.data.toList))) :: []) := (M.both hM7 (xm vq) (vt (by simp) (xm vq)))
 refine ⟨_, rfl, ?_⟩
 intro a A
 refine sda A λa A↦?_
 refine qa (hK2 _ _ (wsk fun K11 hK11 => wsk fun K12 hK12 => wrl (sda A λa A↦?_)))
 refine qa (hK12 _ _ (wp_block (zt (fun m_ a w1 => ∃ (i : Nat), m_ = 1 + ((jq s.data.toList).length - i) ∧ (i ≤ (jq s.data.toList).length ∧ ∀ j ua ur, j < i → (jq s.data.toList)[j]? = some (ua, ur) → ur ≠ -1) ∧ Sl a 19 [(0, .string s), (3, .slice so8 ((jq s.data.toList).length) ca9), (4, .int .i64 (((i : Nat) : Int))), (5, .string s), (6, .slice so3 s.data.toList.length ca4), (7, .slice so8 ((jq s.data.toList).length) ca9)] ∧ Mg w w1 (.row 96 3 (.slice so8 ((jq s.data.toList).length) ca9) ((jq s.data.toList).length) ((ju (jq s.data.toList))) :: [])) _ ⟨0, rfl, ⟨Nat.zero_le _, fun j ua ur hj => absurd hj (Nat.not_lt_zero _)⟩, A.keep _ ⟨rfl, rfl, rfl, rfl, rfl, rfl, trivial⟩, M⟩ ?_)))
 clear M A
 rintro m_ a w13 ⟨i, rfl, hinv15, A, M⟩ K14 hK14
 obtain ⟨hi0, hin9⟩ := hinv15
 refine wsk fun K16 hK16 => wsk fun K17 hK17 => wrl ?_
 iterate 2 refine sdm A λa A↦?_
 refine sdo A (qx Tryz.underlying93 rfl) λa A↦?_
 rcases tf (decide (((i : Nat) : Int) < (((jq s.data.toList).length : Nat) : Int))) with hb18 | hb18
 ·
  have hb18' := of_decide_eq_true hb18
  refine sdc A zg hb18 λa A↦?_
  refine qa (hK17 _ _ (wp_cond_true (A.ev rfl) ?_))
  refine wp_skip (hK16 _ _ (wsk fun K19 hK19 => wp_block (wsk fun K20 hK20 => wrl ?_)))
  iterate 2 refine sdm A λa A↦?_
  obtain ⟨gu, hgu⟩ := qfh M 0 rfl (by omega)
  obtain ⟨ua, ur, hu⟩ := zhf (us := jq s.data.toList) (i := i) (by omega)
  refine sdo (v := .pointer (some ⟨gu, i * 3, none⟩)) A (zy Tryz.underlying93 (by kernel_rfl) rfl rfl rfl hgu (show i < (jq s.data.toList).length by omega)) λa A↦?_
  refine sdo (v := .pointer (some ⟨gu, i * 3 + 1, none⟩)) A (qb TrV_fld_96_1 rfl rfl) λa A↦?_
  by_cases hf : ur = -1
  ·
   refine sdo (v := .bool true) A (xq M 0 rfl hgu ((qkg _ i 1 _ hu (by decide)).trans (by rw [if_pos hf]; rfl)) TrV_is1_4 rfl) λa A↦?_
   refine qa (hK20 _ _ (wp_cond_true (A.ev rfl) ?_))
   refine wsk fun K21 hK21 => wrl (sda A λa A↦?_)
   refine qa (hK21 _ _ (wp_ret (hret _ _ (en1 A rfl (qf rfl) ?_))))
   subst hr
   exact ⟨by rw [zmd hu hf], M.bel⟩
  ·
   refine sdo (v := .bool false) A (xq M 0 rfl hgu ((qkg _ i 1 _ hu (by decide)).trans (by rw [if_neg hf]; rfl)) TrV_is1_4 rfl) λa A↦?_
   refine qa (hK20 _ _ (wp_cond_false (A.ev rfl) ?_))
   refine wp_skip (hK19 _ _ (wrl (sdm A λa A↦?_)))
   refine sdo (v := .int .i64 (((i + 1 : Nat) : Int))) A (qe rfl rfl (fun w => (zx (jw (by omega) (by omega)) w).trans (by rw [show (((i : Nat) : Int) + 1 : Int) = ((i + 1 : Nat) : Int) from by omega]))) λa A↦?_
   refine sda A λa A↦?_
   refine qa ?_
   refine hK14 _ _ _ (by omega) ⟨i + 1, rfl, ⟨by omega, fun j va vr hj hv => if h9 : j < i then hin9 j va vr h9 hv else by have h8 : j = i := (by omega); subst h8; rw [hu] at hv; injection hv with h7; injection h7 with _ h6; rw [← h6]; exact hf⟩, A.keep _ ⟨rfl, rfl, rfl, rfl, rfl, rfl, trivial⟩, M⟩
 ·
  have hb18' := of_decide_eq_false hb18
  refine sdc A zg hb18 λa A↦?_
  refine qa (hK17 _ _ (wp_cond_false (A.ev rfl) ?_))
  refine wp_exit (hK11 _ _ (wsk fun K22 hK22 => wrl (sda A λa A↦?_)))
  refine qa (hK22 _ _ (wp_ret (hret _ _ (en1 A rfl (qf rfl) ?_))))
  subst hr
  exact ⟨by rw [zhh (fun j ua ur hj => hin9 j ua ur (by have := (List.getElem?_eq_some_iff.1 hj).1; omega) hj)], M.bel⟩
theorem qoe {w : World} {n : Int} {r : Bool} (hr : vz n = r) : Calls Tryz.prog 65 #[.int .i64 n] w fun e w' => e = .returned (.bool r) ∧ Below w.heap.size w w' := by
 have M : Mg w w ([]) := Mg.start w
 refine qm (l := [(0, .int .i64 n)]) Tryz.func65 rfl Tryz.ntmps65 rfl rfl ?_
 intro Q hret hnorm hP a A
 refine wsk fun K1 hK1 => wrl (sda A λa A↦?_)
 refine qa (hK1 _ _ (wsk fun K2 hK2 => wrl (sdm A λa A↦?_)))
 rcases tf (decide (0 ≤ n)) with hb3 | hb3
 ·
  have hb3' := of_decide_eq_true hb3
  refine sdc A jh hb3 λa A↦?_
  iterate 2 refine sdm A λa A↦?_
  rcases tf (decide (n ≤ 1114111)) with hb4 | hb4
  ·
   have hb4' := of_decide_eq_true hb4
   refine sdc A vf hb4 λa A↦?_
   refine sdk (v := .bool true) A λa A↦?_
   iterate 2 refine sdm A λa A↦?_
   rcases tf (decide (n < 55296)) with hb5 | hb5
   ·
    have hb5' := of_decide_eq_true hb5
    refine sdc A zg hb5 λa A↦?_
    refine sdm A λa A↦?_
    iterate 2 refine qh A rfl rfl rfl λa A↦?_
    iterate 2 refine sdk (v := .bool true) A λa A↦?_
    refine sda A λa A↦?_
    refine qa (hK2 _ _ (wp_ret (hret _ _ (en1 A rfl (qf rfl) ?_))))
    subst hr
    exact ⟨by rw [show vz n = true from by unfold vz; apply decide_eq_true; omega], M.bel⟩
   ·
    have hb5' := of_decide_eq_false hb5
    refine sdc A zg hb5 λa A↦?_
    iterate 2 refine sdm A λa A↦?_
    rcases tf (decide (57343 < n)) with hb6 | hb6
    ·
     have hb6' := of_decide_eq_true hb6
     refine sdc A je hb6 λa A↦?_
     iterate 2 refine sdk (v := .bool true) A λa A↦?_
     refine sda A λa A↦?_
     refine qa (hK2 _ _ (wp_ret (hret _ _ (en1 A rfl (qf rfl) ?_))))
     subst hr
     exact ⟨by rw [show vz n = true from by unfold vz; apply decide_eq_true; omega], M.bel⟩
    ·
     have hb6' := of_decide_eq_false hb6
     refine sdc A je hb6 λa A↦?_
     iterate 2 refine sdk (v := .bool false) A λa A↦?_
     refine sda A λa A↦?_
     refine qa (hK2 _ _ (wp_ret (hret _ _ (en1 A rfl (qf rfl) ?_))))
     subst hr
     exact ⟨by rw [show vz n = false from by unfold vz; apply decide_eq_false; omega], M.bel⟩
  ·
   have hb4' := of_decide_eq_false hb4
   refine sdc A vf hb4 λa A↦?_
   refine sdk (v := .bool false) A λa A↦?_
   refine sdm A λa A↦?_
   iterate 3 refine qh A rfl rfl rfl λa A↦?_
   iterate 2 refine yb A rfl rfl rfl λa A↦?_
   refine qh A rfl rfl rfl λa A↦?_
   refine sdk (v := .bool false) A λa A↦?_
   refine sda A λa A↦?_
   refine qa (hK2 _ _ (wp_ret (hret _ _ (en1 A rfl (qf rfl) ?_))))
   subst hr
   exact ⟨by rw [show vz n = false from by unfold vz; apply decide_eq_false; omega], M.bel⟩
 ·
  have hb3' := of_decide_eq_false hb3
  refine sdc A jh hb3 λa A↦?_
  refine sdm A λa A↦?_
  iterate 2 refine qh A rfl rfl rfl λa A↦?_
  refine sdk (v := .bool false) A λa A↦?_
  refine sdm A λa A↦?_
  iterate 3 refine qh A rfl rfl rfl λa A↦?_
  iterate 2 refine yb A rfl rfl rfl λa A↦?_
  refine qh A rfl rfl rfl λa A↦?_
  refine sdk (v := .bool false) A λa A↦?_
  refine sda A λa A↦?_
  refine qa (hK2 _ _ (wp_ret (hret _ _ (en1 A rfl (qf rfl) ?_))))
  subst hr
  exact ⟨by rw [show vz n = false from by unfold vz; apply decide_eq_false; omega], M.bel⟩
/-- Sound by its kind, asked in the document's order. -/
def vk (k n : Int) (q : Q6) (s : ByteArray) (mr ml : Nat) : Bool :=
 if k < 1 ∨ 11 < k ∨ okS s = false then false
 else if k = 3 ∧ jx q = false then false
 else if k ≠ 3 ∧ (kg q.b1 q.t1.length q.q1.length = false ∨ kg q.b2 q.t2.length q.q2.length = false) then false
 else if s ≠ ⟨#[]⟩ ∧ k ≠ 5 ∧ k ≠ 6 ∧ k ≠ 11 then false
 else if 0 < mr ∧ k ≠ 7 then false
 else if k = 2 ∧ n ≠ 0 ∧ n ≠ 1 then false
 else if k = 4 ∧ vz n = false then false
 else if k ≠ 2 ∧ k ≠ 4 ∧ n ≠ 0 then false
 else if k = 8 then decide (ml = 2)
 else decide (k = 9 ∨ ml = 0)
theorem znd : okS ⟨#[]⟩ = true := by unfold okS; rfl
theorem jd (k n : Int) (q : Q6) (s : ByteArray) (mr ml : Nat) : jj k n q s mr ml = vk k n q s mr ml := by
 have hv : s = ⟨#[]⟩ → okS s = true := by rintro rfl; exact znd
 have hn0 : kg false 0 0 = true := rfl
 unfold jj vk
 by_cases hk : k < 1 ∨ 11 < k
 ·
  rw [if_pos (show k < 1 ∨ 11 < k ∨ okS s = false by omega)]
  repeat (rw [if_neg (by omega)])
 ·
  have h11 : k = 1 ∨ k = 2 ∨ k = 3 ∨ k = 4 ∨ k = 5 ∨ k = 6 ∨ k = 7 ∨ k = 8 ∨ k = 9 ∨ k = 10 ∨ k = 11 := by omega
  simp only [vl, hn0]
  generalize kg q.b1 q.t1.length q.q1.length = B1
  generalize kg q.b2 q.t2.length q.q2.length = B2
  generalize jx q = S1
  generalize vz n = S2
  by_cases hs : s = ⟨#[]⟩
  ·
   rw [hv hs]
   have hs2 : ¬ s ≠ ⟨#[]⟩ := fun h => h hs
   rcases h11 with h | h | h | h | h | h | h | h | h | h | h <;> subst h <;> cases B1 <;> cases B2 <;> cases S1 <;> cases S2 <;> simp [hs] <;> by_cases hm : mr = 0 <;> simp [hm] <;> by_cases hn : n = 0 <;> simp [hn] <;> first | omega | (by_cases hn1 : n = 1 <;> simp [hn1]) | skip
  ·
   cases hV : okS s <;> rcases h11 with h | h | h | h | h | h | h | h | h | h | h <;> subst h <;> cases B1 <;> cases B2 <;> cases S1 <;> cases S2 <;> simp [hs] <;> by_cases hm : mr = 0 <;> simp [hm] <;> by_cases hn : n = 0 <;> simp [hn] <;> first | omega | skip
section
variable {k n : Int} {q : Q6} {s : ByteArray} {mr ml : Nat}
def ShA (k : Int) (s : ByteArray) : Prop := 1 ≤ k ∧ k ≤ 11 ∧ okS s = true
def ShB (k : Int) (q : Q6) : Prop := (k = 3 → jx q = true) ∧ (k ≠ 3 → kg q.b1 q.t1.length q.q1.length = true ∧ kg q.b2 q.t2.length q.q2.length = true)
def ShC (k : Int) (s : ByteArray) : Prop := s = ⟨#[]⟩ ∨ k = 5 ∨ k = 6 ∨ k = 11
def ShD (k : Int) (mr : Nat) : Prop := mr = 0 ∨ k = 7
def ShE (k n : Int) : Prop := (k = 2 → n = 0 ∨ n = 1) ∧ (k = 4 → vz n = true) ∧ (k ≠ 2 → k ≠ 4 → n = 0)
theorem sh1 (h : k < 1 ∨ 11 < k ∨ okS s = false) : vk k n q s mr ml = false := by unfold vk; rw [if_pos h]
theorem shA (a : ShA k s) : ¬ (k < 1 ∨ 11 < k ∨ okS s = false) := fun e => by
 rcases e with e | e | e
 ·
  have := a.1; omega
 ·
  have := a.2.1; omega
 ·
  rw [a.2.2] at e; cases e
theorem sh2 (a : ShA k s) (h : k = 3) (S : jx q = false) : vk k n q s mr ml = false := by unfold vk; rw [if_neg (shA a), if_pos ⟨h, S⟩]
theorem sh3 (a : ShA k s) (h : k ≠ 3) (S : kg q.b1 q.t1.length q.q1.length = false ∨ kg q.b2 q.t2.length q.q2.length = false) : vk k n q s mr ml = false := by unfold vk; rw [if_neg (shA a), if_neg (fun e => h e.1), if_pos ⟨h, S⟩]
theorem zne (b : ShB k q) : ¬ (k = 3 ∧ jx q = false) := fun e => by have := b.1 e.1; rw [e.2] at this; cases this
theorem znf (b : ShB k q) : ¬ (k ≠ 3 ∧ (kg q.b1 q.t1.length q.q1.length = false ∨ kg q.b2 q.t2.length q.q2.length = false)) := fun e => by
 have := b.2 e.1
 rcases e.2 with h | h
 ·
  rw [this.1] at h; cases h
 ·
  rw [this.2] at h; cases h
theorem sh4 (a : ShA k s) (b : ShB k q) (h : s ≠ ⟨#[]⟩ ∧ k ≠ 5 ∧ k ≠ 6 ∧ k ≠ 11) : vk k n q s mr ml = false := by unfold vk; rw [if_neg (shA a), if_neg (zne b), if_neg (znf b), if_pos h]
theorem shC (c : ShC k s) : ¬ (s ≠ ⟨#[]⟩ ∧ k ≠ 5 ∧ k ≠ 6 ∧ k ≠ 11) := fun e => by rcases c with h | h | h | h <;> first | exact e.1 h | exact e.2.1 h | exact e.2.2.1 h | exact e.2.2.2 h
theorem sh5 (a : ShA k s) (b : ShB k q) (c : ShC k s) (h : 0 < mr ∧ k ≠ 7) : vk k n q s mr ml = false := by unfold vk; rw [if_neg (shA a), if_neg (zne b), if_neg (znf b), if_neg (shC c), if_pos h]
theorem shD (d : ShD k mr) : ¬ (0 < mr ∧ k ≠ 7) := fun e => by rcases d with h | h <;> omega
theorem sh6 (a : ShA k s) (b : ShB k q) (c : ShC k s) (d : ShD k mr) (h : (k = 2 ∧ n ≠ 0 ∧ n ≠ 1) ∨ (k = 4 ∧ vz n = false) ∨ (k ≠ 2 ∧ k ≠ 4 ∧ n ≠ 0)) : vk k n q s mr ml = false := by
 unfold vk
 rw [if_neg (shA a), if_neg (zne b), if_neg (znf b), if_neg (shC c), if_neg (shD d)]
 rcases h with h | h | h
 ·
  rw [if_pos h]
 ·
  rw [if_neg (by omega), if_pos h]
 ·
  rw [if_neg (by omega), if_neg (fun e => h.2.1 e.1), if_pos h]
theorem sh9 (a : ShA k s) (b : ShB k q) (c : ShC k s) (d : ShD k mr) (e : ShE k n) : vk k n q s mr ml = if k = 8 then decide (ml = 2) else decide (k = 9 ∨ ml = 0) := by
 unfold vk
 have e1 := e.1
 have e3 := e.2.2
 rw [if_neg (shA a), if_neg (zne b), if_neg (znf b), if_neg (shC c), if_neg (shD d), if_neg (fun h => by have := e1 h.1; omega), if_neg (fun h => by have := e.2.1 h.1; rw [h.2] at this; cases this), if_neg (fun h => by have := e3 h.1 h.2.1; omega)]
end
theorem qlh {w : World} {d : Nd} {ts : List Dt} (hok : NdOk w d) (hs2 : d.s.size ≤ 2000000) (hlen : ts.length ≤ 9223372036854775807) {r : Bool} (hr : jj d.k d.n d.y.q d.s d.rl.length ts.length = r) : Calls Tryz.prog 33 #[.agg (d.cells ts.length).toArray] w fun e w' => e = .returned (.bool r) ∧ Below w.heap.size w w' := by
 have hrl : d.rl.length ≤ 9223372036854775807 := Nat.le_trans hok.rcap hok.rmax
 have M : Mg w w ([]) := Mg.start w
 refine qm (l := [(0, .agg (d.cells ts.length).toArray)]) Tryz.func33 rfl Tryz.ntmps33 rfl rfl ?_
 intro Q hret hnorm hP a A
 refine wsk fun K1 hK1 => wrl (xa (vs := [.int .i64 d.k, .int .i64 d.n, .bool d.y.q.b1, .slice d.y.o1 d.y.q.t1.length d.y.c1, .slice d.y.o2 d.y.q.q1.length d.y.c2, .bool d.y.q.b2, .slice d.y.o3 d.y.q.t2.length d.y.c3, .slice d.y.o4 d.y.q.q2.length d.y.c4, .string d.s, .slice d.ro d.rl.length d.rc, .slice d.lo ts.length d.lc]) (t := 30) A M rfl rfl rfl pg (zb rfl rfl) (by decide) ?_)
 intro g2 w3 M a A
 refine sda A λa A↦?_
 refine qa (hK1 _ _ (wsk fun K4 hK4 => ?_))
 have hJ5 : ∀ a w1, ((ShA d.k d.s) ∧ Sl a 100 [(0, .agg (d.cells ts.length).toArray), (1, .pointer (some ⟨g2, 0, none⟩))] ∧ Mg w w1 (.obj g2 (.cells (d.cells ts.length).toArray 30) :: [])) → K4 a w1 := by
  clear A M
  rintro a w6 ⟨hf7, A, M⟩
  have hSA := hf7
  refine hK4 _ _ (wsk fun K8 hK8 => ?_)
  have hJ9 : ∀ a w1, ((ShB d.k d.y.q) ∧ Sl a 100 [(0, .agg (d.cells ts.length).toArray), (1, .pointer (some ⟨g2, 0, none⟩))] ∧ Mg w w1 (.obj g2 (.cells (d.cells ts.length).toArray 30) :: [])) → K8 a w1 := by
   clear A M
   rintro a w10 ⟨hf11, A, M⟩
   have hSB := hf11
   refine hK8 _ _ (wsk fun K12 hK12 => ?_)
   have hJ13 : ∀ a w1, ((ShC d.k d.s) ∧ Sl a 100 [(0, .agg (d.cells ts.length).toArray), (1, .pointer (some ⟨g2, 0, none⟩))] ∧ Mg w w1 (.obj g2 (.cells (d.cells ts.length).toArray 30) :: [])) → K12 a w1 := by
    clear A M
    rintro a w14 ⟨hf15, A, M⟩
    have hSC := hf15
    refine hK12 _ _ (wsk fun K16 hK16 => ?_)
    have hJ17 : ∀ a w1, ((ShD d.k d.rl.length) ∧ Sl a 100 [(0, .agg (d.cells ts.length).toArray), (1, .pointer (some ⟨g2, 0, none⟩))] ∧ Mg w w1 (.obj g2 (.cells (d.cells ts.length).toArray 30) :: [])) → K16 a w1 := by
     clear A M
     rintro a w18 ⟨hf19, A, M⟩
     have hSD := hf19
     refine hK16 _ _ (wsk fun K20 hK20 => ?_)
     have hJ21 : ∀ a w1, ((ShE d.k d.n) ∧ Sl a 100 [(0, .agg (d.cells ts.length).toArray), (1, .pointer (some ⟨g2, 0, none⟩))] ∧ Mg w w1 (.obj g2 (.cells (d.cells ts.length).toArray 30) :: [])) → K20 a w1 := by
      clear A M
      rintro a w22 ⟨hf23, A, M⟩
      have hSE := hf23
      refine hK20 _ _ (wsk fun K24 hK24 => wsk fun K25 hK25 => wrl (sdo (v := .pointer (some ⟨g2, 0, none⟩)) A (qb TrV_fld_30_0 rfl rfl) λa A↦?_))
      refine sdo A (qk M TrV_is1_3 rfl 0 rfl rfl) λa A↦?_
      rcases tf ((d.k == 8)) with hb26 | hb26
      ·
       have hb26' := eq_of_beq hb26
       refine sdc A qg hb26 λa A↦?_
       refine qa (hK25 _ _ (wp_cond_true (A.ev rfl) ?_))
       refine wsk fun K27 hK27 => wrl (sdo (v := .pointer (some ⟨g2, 10, none⟩)) A (qb TrV_fld_30_5 rfl rfl) λa A↦?_)
       refine sdo A (qk M TrV_is1_28 rfl 0 rfl rfl) λa A↦?_
       refine sdo A (qx Tryz.underlying28 rfl) λa A↦?_
       rcases tf ((((ts.length : Nat) : Int) == 2)) with hb28 | hb28
       ·
        have hb28' := eq_of_beq hb28
        refine sdc A qg hb28 λa A↦?_
        refine sda A λa A↦?_
        refine qa (hK27 _ _ (wp_ret (hret _ _ (en1 A rfl (qf rfl) ?_))))
        exact ⟨by rw [← hr, jd, sh9 hSA hSB hSC hSD hSE, if_pos (by omega), decide_eq_true (show (ts.length = 2) by omega)], M.bel⟩
       ·
        have hb28' := ne_of_beq_false hb28
        refine sdc A qg hb28 λa A↦?_
        refine sda A λa A↦?_
        refine qa (hK27 _ _ (wp_ret (hret _ _ (en1 A rfl (qf rfl) ?_))))
        exact ⟨by rw [← hr, jd, sh9 hSA hSB hSC hSD hSE, if_pos (by omega), decide_eq_false (show ¬ (ts.length = 2) by omega)], M.bel⟩
      ·
       have hb26' := ne_of_beq_false hb26
       refine sdc A qg hb26 λa A↦?_
       refine qa (hK25 _ _ (wp_cond_false (A.ev rfl) ?_))
       refine wp_skip (hK24 _ _ (wsk fun K29 hK29 => wrl (sdo (v := .pointer (some ⟨g2, 0, none⟩)) A (qb TrV_fld_30_0 rfl rfl) λa A↦?_)))
       refine sdo A (qk M TrV_is1_3 rfl 0 rfl rfl) λa A↦?_
       rcases tf ((d.k == 9)) with hb30 | hb30
       ·
        have hb30' := eq_of_beq hb30
        refine sdc A qg hb30 λa A↦?_
        refine sdm A λa A↦?_
        iterate 4 refine qh A rfl rfl rfl λa A↦?_
        refine sdk (v := .bool true) A λa A↦?_
        refine sda A λa A↦?_
        refine qa (hK29 _ _ (wp_ret (hret _ _ (en1 A rfl (qf rfl) ?_))))
        exact ⟨by rw [← hr, jd, sh9 hSA hSB hSC hSD hSE, if_neg (by omega), decide_eq_true (show (d.k = 9 ∨ ts.length = 0) by omega)], M.bel⟩
       ·
        have hb30' := ne_of_beq_false hb30
        refine sdc A qg hb30 λa A↦?_
        refine sdm A λa A↦?_
        refine sdo (v := .pointer (some ⟨g2, 10, none⟩)) A (qb TrV_fld_30_5 rfl rfl) λa A↦?_
        refine sdo A (qk M TrV_is1_28 rfl 0 rfl rfl) λa A↦?_
        refine sdo A (qx Tryz.underlying28 rfl) λa A↦?_
        rcases tf ((((ts.length : Nat) : Int) == 0)) with hb31 | hb31
        ·
         have hb31' := eq_of_beq hb31
         refine sdc A qg hb31 λa A↦?_
         refine sdk (v := .bool true) A λa A↦?_
         refine sda A λa A↦?_
         refine qa (hK29 _ _ (wp_ret (hret _ _ (en1 A rfl (qf rfl) ?_))))
         exact ⟨by rw [← hr, jd, sh9 hSA hSB hSC hSD hSE, if_neg (by omega), decide_eq_true (show (d.k = 9 ∨ ts.length = 0) by omega)], M.bel⟩
        ·
         have hb31' := ne_of_beq_false hb31
         refine sdc A qg hb31 λa A↦?_
         refine sdk (v := .bool false) A λa A↦?_
         refine sda A λa A↦?_
         refine qa (hK29 _ _ (wp_ret (hret _ _ (en1 A rfl (qf rfl) ?_))))
         exact ⟨by rw [← hr, jd, sh9 hSA hSB hSC hSD hSE, if_neg (by omega), decide_eq_false (show ¬ (d.k = 9 ∨ ts.length = 0) by omega)], M.bel⟩
     refine wsk fun K32 hK32 => wrl (sdo (v := .pointer (some ⟨g2, 0, none⟩)) A (qb TrV_fld_30_0 rfl rfl) λa A↦?_)
     refine sdo A (qk M TrV_is1_3 rfl 0 rfl rfl) λa A↦?_
     refine qa (hK32 _ _ (wp_block (wsk fun K33 hK33 => wrl ?_)))
     rcases tf ((d.k == 2)) with hb34 | hb34
     ·
      have hb34' := eq_of_beq hb34
      refine sdc A qg hb34 λa A↦?_
      refine sda A λa A↦?_
      refine qa (hK33 _ _ (wp_cond_true (A.ev rfl) ?_))
      refine wsk fun K35 hK35 => wrl (sdo (v := .pointer (some ⟨g2, 1, none⟩)) A (qb TrV_fld_30_1 rfl rfl) λa A↦?_)
      refine sdo A (qk M TrV_is1_3 rfl 0 rfl rfl) λa A↦?_
      rcases tf ((d.n != 0)) with hb36 | hb36
      ·
       have hb36' := bne_iff_ne.1 hb36
       refine sdc A zw hb36 λa A↦?_
       refine sdm A λa A↦?_
       refine sdo (v := .pointer (some ⟨g2, 1, none⟩)) A (qb TrV_fld_30_1 rfl rfl) λa A↦?_
       refine sdo A (qk M TrV_is1_3 rfl 0 rfl rfl) λa A↦?_
       rcases tf ((d.n != 1)) with hb37 | hb37
       ·
        have hb37' := bne_iff_ne.1 hb37
        refine sdc A zw hb37 λa A↦?_
        refine sdk (v := .bool true) A λa A↦?_
        refine qa (hK35 _ _ (wp_cond_true (A.ev rfl) ?_))
        refine wsk fun K38 hK38 => wrl (sda A λa A↦?_)
        refine qa (hK38 _ _ (wp_ret (hret _ _ (en1 A rfl (qf rfl) ?_))))
        exact ⟨by rw [← hr, jd, sh6 hSA hSB hSC hSD (.inl ⟨by omega, by omega, by omega⟩)], M.bel⟩
       ·
        have hb37' := bne_eq_false_iff_eq.1 hb37
        refine sdc A zw hb37 λa A↦?_
        refine sdk (v := .bool false) A λa A↦?_
        refine qa (hK35 _ _ (wp_cond_false (A.ev rfl) ?_))
        refine wp_skip ?_
        exact hJ21 _ _ ⟨⟨fun h => by omega, fun h => absurd h (by omega), fun h h2 => by omega⟩, A.keep _ ⟨rfl, rfl, trivial⟩, M⟩
      ·
       have hb36' := bne_eq_false_iff_eq.1 hb36
       refine sdc A zw hb36 λa A↦?_
       refine sdm A λa A↦?_
       iterate 3 refine qh A rfl rfl rfl λa A↦?_
       refine sdk (v := .bool false) A λa A↦?_
       refine qa (hK35 _ _ (wp_cond_false (A.ev rfl) ?_))
       refine wp_skip ?_
       exact hJ21 _ _ ⟨⟨fun h => by omega, fun h => absurd h (by omega), fun h h2 => by omega⟩, A.keep _ ⟨rfl, rfl, trivial⟩, M⟩
     ·
      have hb34' := ne_of_beq_false hb34
      refine sdc A qg hb34 λa A↦?_
      refine sda A λa A↦?_
      refine qa (hK33 _ _ (wp_cond_false (A.ev rfl) ?_))
      refine wsk fun K39 hK39 => wrl ?_
      rcases tf ((d.k == 4)) with hb40 | hb40
      ·
       have hb40' := eq_of_beq hb40
       refine sdc A qg hb40 λa A↦?_
       refine sda A λa A↦?_
       refine qa (hK39 _ _ (wp_cond_true (A.ev rfl) ?_))
       refine wsk fun K41 hK41 => wrl (sdo (v := .pointer (some ⟨g2, 1, none⟩)) A (qb TrV_fld_30_1 rfl rfl) λa A↦?_)
       refine sdo A (qk M TrV_is1_3 rfl 0 rfl rfl) λa A↦?_
       rcases tf (vz d.n) with hb42 | hb42
       ·
        refine gcl A M (ef rfl rfl) (qoe hb42) fun w44 hb43 M a A => ?_
        refine sdo (v := .bool false) A (qy rfl zj) λa A↦?_
        refine qa (hK41 _ _ (wp_cond_false (A.ev rfl) ?_))
        refine wp_skip ?_
        exact hJ21 _ _ ⟨⟨fun h => by omega, fun h => hb42, fun h h2 => by omega⟩, A.keep _ ⟨rfl, rfl, trivial⟩, M⟩
       ·
        refine gcl A M (ef rfl rfl) (qoe hb42) fun w46 hb45 M a A => ?_
        refine sdo (v := .bool true) A (qy rfl zj) λa A↦?_
        refine qa (hK41 _ _ (wp_cond_true (A.ev rfl) ?_))
        refine wsk fun K47 hK47 => wrl (sda A λa A↦?_)
        refine qa (hK47 _ _ (wp_ret (hret _ _ (en1 A rfl (qf rfl) ?_))))
        exact ⟨by rw [← hr, jd, sh6 hSA hSB hSC hSD (.inr (.inl ⟨by omega, hb42⟩))], M.bel⟩
      ·
       have hb40' := ne_of_beq_false hb40
       refine sdc A qg hb40 λa A↦?_
       refine sda A λa A↦?_
       refine qa (hK39 _ _ (wp_cond_false (A.ev rfl) ?_))
       refine wsk fun K48 hK48 => wrl (sdo (v := .pointer (some ⟨g2, 1, none⟩)) A (qb TrV_fld_30_1 rfl rfl) λa A↦?_)
       refine sdo A (qk M TrV_is1_3 rfl 0 rfl rfl) λa A↦?_
       rcases tf ((d.n != 0)) with hb49 | hb49
       ·
        have hb49' := bne_iff_ne.1 hb49
        refine sdc A zw hb49 λa A↦?_
        refine qa (hK48 _ _ (wp_cond_true (A.ev rfl) ?_))
        refine wsk fun K50 hK50 => wrl (sda A λa A↦?_)
        refine qa (hK50 _ _ (wp_ret (hret _ _ (en1 A rfl (qf rfl) ?_))))
        exact ⟨by rw [← hr, jd, sh6 hSA hSB hSC hSD (.inr (.inr ⟨by omega, by omega, by omega⟩))], M.bel⟩
       ·
        have hb49' := bne_eq_false_iff_eq.1 hb49
        refine sdc A zw hb49 λa A↦?_
        refine qa (hK48 _ _ (wp_cond_false (A.ev rfl) ?_))
        refine wp_skip ?_
        exact hJ21 _ _ ⟨⟨fun h => by omega, fun h => absurd h (by omega), fun h h2 => by omega⟩, A.keep _ ⟨rfl, rfl, trivial⟩, M⟩
    refine wsk fun K51 hK51 => wrl (sdo (v := .pointer (some ⟨g2, 9, none⟩)) A (qb TrV_fld_30_4 rfl rfl) λa A↦?_)
    refine sdo A (qk M TrV_is1_27 rfl 0 rfl rfl) λa A↦?_
    refine sdo A (qx Tryz.underlying27 rfl) λa A↦?_
    rcases tf (decide (0 < ((d.rl.length : Nat) : Int))) with hb52 | hb52
    ·
     have hb52' := of_decide_eq_true hb52
     refine sdc A je hb52 λa A↦?_
     refine sdm A λa A↦?_
     refine sdo (v := .pointer (some ⟨g2, 0, none⟩)) A (qb TrV_fld_30_0 rfl rfl) λa A↦?_
     refine sdo A (qk M TrV_is1_3 rfl 0 rfl rfl) λa A↦?_
     rcases tf ((d.k != 7)) with hb53 | hb53
     ·
      have hb53' := bne_iff_ne.1 hb53
      refine sdc A zw hb53 λa A↦?_
      refine sdk (v := .bool true) A λa A↦?_
      refine qa (hK51 _ _ (wp_cond_true (A.ev rfl) ?_))
      refine wsk fun K54 hK54 => wrl (sda A λa A↦?_)
      refine qa (hK54 _ _ (wp_ret (hret _ _ (en1 A rfl (qf rfl) ?_))))
      exact ⟨by rw [← hr, jd, sh5 hSA hSB hSC ⟨by omega, by omega⟩], M.bel⟩
     ·
      have hb53' := bne_eq_false_iff_eq.1 hb53
      refine sdc A zw hb53 λa A↦?_
      refine sdk (v := .bool false) A λa A↦?_
      refine qa (hK51 _ _ (wp_cond_false (A.ev rfl) ?_))
      refine wp_skip ?_
      exact hJ17 _ _ ⟨.inr (by omega), A.keep _ ⟨rfl, rfl, trivial⟩, M⟩
    ·
     have hb52' := of_decide_eq_false hb52
     refine sdc A je hb52 λa A↦?_
     refine sdm A λa A↦?_
     iterate 3 refine qh A rfl rfl rfl λa A↦?_
     refine sdk (v := .bool false) A λa A↦?_
     refine qa (hK51 _ _ (wp_cond_false (A.ev rfl) ?_))
     refine wp_skip ?_
     exact hJ17 _ _ ⟨.inl (by omega), A.keep _ ⟨rfl, rfl, trivial⟩, M⟩
   refine wsk fun K55 hK55 => wrl (sdo (v := .pointer (some ⟨g2, 8, none⟩)) A (qb TrV_fld_30_3 rfl rfl) λa A↦?_)
   refine sdo A (qk M TrV_is1_9 rfl 0 rfl rfl) λa A↦?_
   rcases tf (decide (d.s = ⟨#[]⟩)) with hb56 | hb56
   ·
    have hb56' := of_decide_eq_true hb56
    refine sdo (v := .bool false) A (qe rfl rfl (fun w => (ku Tryz.underlying9 w).trans (by rw [hb56] <;> rfl))) λa A↦?_
    refine sdm A λa A↦?_
    iterate 3 refine qh A rfl rfl rfl λa A↦?_
    refine sdk (v := .bool false) A λa A↦?_
    refine sdm A λa A↦?_
    iterate 3 refine qh A rfl rfl rfl λa A↦?_
    refine sdk (v := .bool false) A λa A↦?_
    refine sdm A λa A↦?_
    iterate 3 refine qh A rfl rfl rfl λa A↦?_
    refine sdk (v := .bool false) A λa A↦?_
    refine qa (hK55 _ _ (wp_cond_false (A.ev rfl) ?_))
    refine wp_skip ?_
    exact hJ13 _ _ ⟨.inl hb56', A.keep _ ⟨rfl, rfl, trivial⟩, M⟩
   ·
    have hb56' := of_decide_eq_false hb56
    refine sdo (v := .bool true) A (qe rfl rfl (fun w => (ku Tryz.underlying9 w).trans (by rw [hb56] <;> rfl))) λa A↦?_
    refine sdm A λa A↦?_
    refine sdo (v := .pointer (some ⟨g2, 0, none⟩)) A (qb TrV_fld_30_0 rfl rfl) λa A↦?_
    refine sdo A (qk M TrV_is1_3 rfl 0 rfl rfl) λa A↦?_
    rcases tf ((d.k != 5)) with hb57 | hb57
    ·
     have hb57' := bne_iff_ne.1 hb57
     refine sdc A zw hb57 λa A↦?_
     refine sdk (v := .bool true) A λa A↦?_
     refine sdm A λa A↦?_
     refine sdo (v := .pointer (some ⟨g2, 0, none⟩)) A (qb TrV_fld_30_0 rfl rfl) λa A↦?_
     refine sdo A (qk M TrV_is1_3 rfl 0 rfl rfl) λa A↦?_
     rcases tf ((d.k != 6)) with hb58 | hb58
     ·
      have hb58' := bne_iff_ne.1 hb58
      refine sdc A zw hb58 λa A↦?_
      refine sdk (v := .bool true) A λa A↦?_
      refine sdm A λa A↦?_
      refine sdo (v := .pointer (some ⟨g2, 0, none⟩)) A (qb TrV_fld_30_0 rfl rfl) λa A↦?_
      refine sdo A (qk M TrV_is1_3 rfl 0 rfl rfl) λa A↦?_
      rcases tf ((d.k != 11)) with hb59 | hb59
      ·
       have hb59' := bne_iff_ne.1 hb59
       refine sdc A zw hb59 λa A↦?_
       refine sdk (v := .bool true) A λa A↦?_
       refine qa (hK55 _ _ (wp_cond_true (A.ev rfl) ?_))
       refine wsk fun K60 hK60 => wrl (sda A λa A↦?_)
       refine qa (hK60 _ _ (wp_ret (hret _ _ (en1 A rfl (qf rfl) ?_))))
       exact ⟨by rw [← hr, jd, sh4 hSA hSB ⟨hb56', by omega, by omega, by omega⟩], M.bel⟩
      ·
       have hb59' := bne_eq_false_iff_eq.1 hb59
       refine sdc A zw hb59 λa A↦?_
       refine sdk (v := .bool false) A λa A↦?_
       refine qa (hK55 _ _ (wp_cond_false (A.ev rfl) ?_))
       refine wp_skip ?_
       exact hJ13 _ _ ⟨.inr (by omega), A.keep _ ⟨rfl, rfl, trivial⟩, M⟩
     ·
      have hb58' := bne_eq_false_iff_eq.1 hb58
      refine sdc A zw hb58 λa A↦?_
      refine sdk (v := .bool false) A λa A↦?_
      refine sdm A λa A↦?_
      iterate 3 refine qh A rfl rfl rfl λa A↦?_
      refine sdk (v := .bool false) A λa A↦?_
      refine qa (hK55 _ _ (wp_cond_false (A.ev rfl) ?_))
      refine wp_skip ?_
      exact hJ13 _ _ ⟨.inr (by omega), A.keep _ ⟨rfl, rfl, trivial⟩, M⟩
    ·
     have hb57' := bne_eq_false_iff_eq.1 hb57
     refine sdc A zw hb57 λa A↦?_
     refine sdk (v := .bool false) A λa A↦?_
     refine sdm A λa A↦?_
     iterate 3 refine qh A rfl rfl rfl λa A↦?_
     refine sdk (v := .bool false) A λa A↦?_
     refine sdm A λa A↦?_
     iterate 3 refine qh A rfl rfl rfl λa A↦?_
     refine sdk (v := .bool false) A λa A↦?_
     refine qa (hK55 _ _ (wp_cond_false (A.ev rfl) ?_))
     refine wp_skip ?_
     exact hJ13 _ _ ⟨.inr (by omega), A.keep _ ⟨rfl, rfl, trivial⟩, M⟩
  refine wsk fun K61 hK61 => wrl (sdo (v := .pointer (some ⟨g2, 0, none⟩)) A (qb TrV_fld_30_0 rfl rfl) λa A↦?_)
  refine sdo A (qk M TrV_is1_3 rfl 0 rfl rfl) λa A↦?_
  rcases tf ((d.k == 3)) with hb62 | hb62
  ·
   have hb62' := eq_of_beq hb62
   refine sdc A qg hb62 λa A↦?_
   refine qa (hK61 _ _ (wp_cond_true (A.ev rfl) ?_))
   refine wsk fun K63 hK63 => wrl (sdo (v := .pointer (some ⟨g2, 2, none⟩)) A (qb TrV_fld_30_2 rfl rfl) λa A↦?_)
   refine sdo A (zn M TrV_isS_26 rfl 0 rfl (cs := [.bool d.y.q.b1, .slice d.y.o1 d.y.q.t1.length d.y.c1, .slice d.y.o2 d.y.q.q1.length d.y.c2, .bool d.y.q.b2, .slice d.y.o3 d.y.q.t2.length d.y.c3, .slice d.y.o4 d.y.q.q2.length d.y.c4]) rfl rfl) λa A↦?_
   rcases tf (jx d.y.q) with hb64 | hb64
   ·
    refine gcl A M (ef rfl rfl) (qai (Nu.below hok.num M.bel) hok.len hb64) fun w66 hb65 M a A => ?_
    refine sdo (v := .bool false) A (qy rfl zj) λa A↦?_
    refine qa (hK63 _ _ (wp_cond_false (A.ev rfl) ?_))
    refine wp_skip ?_
    exact hJ9 _ _ ⟨⟨fun _ => hb64, fun h => absurd (show d.k = 3 by omega) h⟩, A.keep _ ⟨rfl, rfl, trivial⟩, M⟩
   ·
    refine gcl A M (ef rfl rfl) (qai (Nu.below hok.num M.bel) hok.len hb64) fun w68 hb67 M a A => ?_
    refine sdo (v := .bool true) A (qy rfl zj) λa A↦?_
    refine qa (hK63 _ _ (wp_cond_true (A.ev rfl) ?_))
    refine wsk fun K69 hK69 => wrl (sda A λa A↦?_)
    refine qa (hK69 _ _ (wp_ret (hret _ _ (en1 A rfl (qf rfl) ?_))))
    exact ⟨by rw [← hr, jd, sh2 hSA (by omega) hb64], M.bel⟩
  ·
   have hb62' := ne_of_beq_false hb62
   refine sdc A qg hb62 λa A↦?_
   refine qa (hK61 _ _ (wp_cond_false (A.ev rfl) ?_))
   refine wsk fun K70 hK70 => wrl (sdo (v := .pointer (some ⟨g2, 2, none⟩)) A (qb TrV_fld_30_2 rfl rfl) λa A↦?_)
   refine sdo (v := .pointer (some ⟨g2, 2, none⟩)) A (qb TrV_fld_26_0 rfl rfl) λa A↦?_
   refine sdo A (zn M TrV_isS_24 rfl 0 rfl (cs := [.bool d.y.q.b1, .slice d.y.o1 d.y.q.t1.length d.y.c1, .slice d.y.o2 d.y.q.q1.length d.y.c2]) rfl rfl) λa A↦?_
   rcases tf (kg d.y.q.b1 d.y.q.t1.length d.y.q.q1.length) with hb71 | hb71
   ·
    refine gcl A M (ef rfl rfl) (qcb hok.len.l1 hok.len.l2 hb71) fun w73 hb72 M a A => ?_
    refine sdo (v := .bool false) A (qy rfl zj) λa A↦?_
    refine sdm A λa A↦?_
    refine sdo (v := .pointer (some ⟨g2, 2, none⟩)) A (qb TrV_fld_30_2 rfl rfl) λa A↦?_
    refine sdo (v := .pointer (some ⟨g2, 5, none⟩)) A (qb TrV_fld_26_1 rfl rfl) λa A↦?_
    refine sdo A (zn M TrV_isS_24 rfl 0 rfl (cs := [.bool d.y.q.b2, .slice d.y.o3 d.y.q.t2.length d.y.c3, .slice d.y.o4 d.y.q.q2.length d.y.c4]) rfl rfl) λa A↦?_
    rcases tf (kg d.y.q.b2 d.y.q.t2.length d.y.q.q2.length) with hb74 | hb74
    ·
     refine gcl A M (ef rfl rfl) (qcb hok.len.l3 hok.len.l4 hb74) fun w76 hb75 M a A => ?_
     refine sdo (v := .bool false) A (qy rfl zj) λa A↦?_
     refine sdk (v := .bool false) A λa A↦?_
     refine qa (hK70 _ _ (wp_cond_false (A.ev rfl) ?_))
     refine wp_skip ?_
     exact hJ9 _ _ ⟨⟨fun h => absurd h (by omega), fun _ => ⟨hb71, hb74⟩⟩, A.keep _ ⟨rfl, rfl, trivial⟩, M⟩
    ·
     refine gcl A M (ef rfl rfl) (qcb hok.len.l3 hok.len.l4 hb74) fun w78 hb77 M a A => ?_
     refine sdo (v := .bool true) A (qy rfl zj) λa A↦?_
     refine sdk (v := .bool true) A λa A↦?_
     refine qa (hK70 _ _ (wp_cond_true (A.ev rfl) ?_))
     refine wsk fun K79 hK79 => wrl (sda A λa A↦?_)
     refine qa (hK79 _ _ (wp_ret (hret _ _ (en1 A rfl (qf rfl) ?_))))
     exact ⟨by rw [← hr, jd, sh3 hSA (by omega) (.inr hb74)], M.bel⟩
   ·
    refine gcl A M (ef rfl rfl) (qcb hok.len.l1 hok.len.l2 hb71) fun w81 hb80 M a A => ?_
    refine sdo (v := .bool true) A (qy rfl zj) λa A↦?_
    refine sdm A λa A↦?_
    iterate 5 refine qh A rfl rfl rfl λa A↦?_
    refine sdk (v := .bool true) A λa A↦?_
    refine qa (hK70 _ _ (wp_cond_true (A.ev rfl) ?_))
    refine wsk fun K82 hK82 => wrl (sda A λa A↦?_)
    refine qa (hK82 _ _ (wp_ret (hret _ _ (en1 A rfl (qf rfl) ?_))))
    exact ⟨by rw [← hr, jd, sh3 hSA (by omega) (.inl hb71)], M.bel⟩
 refine wsk fun K83 hK83 => wrl (sdo (v := .pointer (some ⟨g2, 0, none⟩)) A (qb TrV_fld_30_0 rfl rfl) λa A↦?_)
 refine sdo A (qk M TrV_is1_3 rfl 0 rfl rfl) λa A↦?_
 rcases tf (decide (d.k < 1)) with hb84 | hb84
 ·
  have hb84' := of_decide_eq_true hb84
  refine sdc A zg hb84 λa A↦?_
  refine sdm A λa A↦?_
  iterate 3 refine qh A rfl rfl rfl λa A↦?_
  refine sdk (v := .bool true) A λa A↦?_
  refine sdm A λa A↦?_
  iterate 4 refine qh A rfl rfl rfl λa A↦?_
  refine sdk (v := .bool true) A λa A↦?_
  refine qa (hK83 _ _ (wp_cond_true (A.ev rfl) ?_))
  refine wsk fun K85 hK85 => wrl (sda A λa A↦?_)
  refine qa (hK85 _ _ (wp_ret (hret _ _ (en1 A rfl (qf rfl) ?_))))
  exact ⟨by rw [← hr, jd, sh1 (by omega)], M.bel⟩
 ·
  have hb84' := of_decide_eq_false hb84
  refine sdc A zg hb84 λa A↦?_
  refine sdm A λa A↦?_
  refine sdo (v := .pointer (some ⟨g2, 0, none⟩)) A (qb TrV_fld_30_0 rfl rfl) λa A↦?_
  refine sdo A (qk M TrV_is1_3 rfl 0 rfl rfl) λa A↦?_
  rcases tf (decide (11 < d.k)) with hb86 | hb86
  ·
   have hb86' := of_decide_eq_true hb86
   refine sdc A je hb86 λa A↦?_
   refine sdk (v := .bool true) A λa A↦?_
   refine sdm A λa A↦?_
   iterate 4 refine qh A rfl rfl rfl λa A↦?_
   refine sdk (v := .bool true) A λa A↦?_
   refine qa (hK83 _ _ (wp_cond_true (A.ev rfl) ?_))
   refine wsk fun K87 hK87 => wrl (sda A λa A↦?_)
   refine qa (hK87 _ _ (wp_ret (hret _ _ (en1 A rfl (qf rfl) ?_))))
   exact ⟨by rw [← hr, jd, sh1 (by omega)], M.bel⟩
  ·
   have hb86' := of_decide_eq_false hb86
   refine sdc A je hb86 λa A↦?_
   refine sdk (v := .bool false) A λa A↦?_
   refine sdm A λa A↦?_
   refine sdo (v := .pointer (some ⟨g2, 8, none⟩)) A (qb TrV_fld_30_3 rfl rfl) λa A↦?_
   refine sdo A (qk M TrV_is1_9 rfl 0 rfl rfl) λa A↦?_
   rcases tf (okS d.s) with hb88 | hb88
   ·
    refine gcl A M (ef rfl rfl) (qlg hs2 hb88) fun w90 hb89 M a A => ?_
    refine sdo (v := .bool false) A (qy rfl zj) λa A↦?_
    refine sdk (v := .bool false) A λa A↦?_
    refine qa (hK83 _ _ (wp_cond_false (A.ev rfl) ?_))
    refine wp_skip ?_
    exact hJ5 _ _ ⟨⟨by omega, by omega, hb88⟩, A.keep _ ⟨rfl, rfl, trivial⟩, M⟩
   ·
    refine gcl A M (ef rfl rfl) (qlg hs2 hb88) fun w92 hb91 M a A => ?_
    refine sdo (v := .bool true) A (qy rfl zj) λa A↦?_
    refine sdk (v := .bool true) A λa A↦?_
    refine qa (hK83 _ _ (wp_cond_true (A.ev rfl) ?_))
    refine wsk fun K93 hK93 => wrl (sda A λa A↦?_)
    refine qa (hK93 _ _ (wp_ret (hret _ _ (en1 A rfl (qf rfl) ?_))))
    exact ⟨by rw [← hr, jd, sh1 (.inr (.inr hb88))], M.bel⟩
theorem TrW_is1_28 : Is1 Tryz.prog 28 := ⟨⟨_, Tryz.underlying28, rfl⟩, by kernel_rfl⟩
theorem TrW_is1_3 : Is1 Tryz.prog 3 := ⟨⟨_, Tryz.underlying3, rfl⟩, by kernel_rfl⟩
theorem TrW_fld_30_0 : FieldAt Tryz.prog 30 0 0 := ⟨_, _, Tryz.underlying30, rfl, rfl, by kernel_rfl⟩
theorem TrW_fld_30_5 : FieldAt Tryz.prog 30 5 10 := ⟨_, _, Tryz.underlying30, rfl, rfl, by kernel_rfl⟩
theorem TrW_isS_30 : IsS Tryz.prog 30 11 := ⟨⟨_, Tryz.underlying30⟩, by kernel_rfl⟩
def Counts (t : Dt) : Prop := ∀ {w : World} {dp left : Int}, t.rd w → t.tr.bulk ≤ 2000000 → 0 ≤ left → left ≤ 20000 → 0 ≤ dp → dp ≤ 201 → Calls Tryz.prog 14 #[.agg t.cells.toArray, .int .i64 dp, .int .i64 left] w fun e w' => e = .returned (.int .i64 (qcc jc dp left t.tr)) ∧ Below w.heap.size w w'
theorem zed : ∀ t : Dt, Counts t := Dt.indT fun d ts ih => by
 intro w dp left hrd hbk hl0 hl1 hd0 hd1
 have hok := (Dt.rd_iff.1 hrd)
 have hlen : ts.length ≤ 9223372036854775807 := Nat.le_trans hok.2.1 hok.2.2.1
 have M : Mg w w ([]) := Mg.start w
 refine qm (l := [(0, .agg (d.cells ts.length).toArray), (1, .int .i64 dp), (2, .int .i64 left)]) Tryz.func14 rfl Tryz.ntmps14 rfl rfl ?_
 intro Q hret hnorm hP a A
 refine wsk fun K1 hK1 => wrl (xa (vs := [.int .i64 d.k, .int .i64 d.n, .bool d.y.q.b1, .slice d.y.o1 d.y.q.t1.length d.y.c1, .slice d.y.o2 d.y.q.q1.length d.y.c2, .bool d.y.q.b2, .slice d.y.o3 d.y.q.t2.length d.y.c3, .slice d.y.o4 d.y.q.q2.length d.y.c4, .string d.s, .slice d.ro d.rl.length d.rc, .slice d.lo ts.length d.lc]) (t := 30) A M rfl rfl rfl pg (zb rfl rfl) (by decide) ?_)
 intro g2 w3 M a A
 refine sda A λa A↦?_
 refine qa (hK1 _ _ (wsk fun K4 hK4 => wsk fun K5 hK5 => wrl (sdm A λa A↦?_)))
 rcases tf (decide (200 < dp)) with hb6 | hb6
 ·
  have hb6' := of_decide_eq_true hb6
  refine sdc A je hb6 λa A↦?_
  refine sdm A λa A↦?_
  iterate 2 refine qh A rfl rfl rfl λa A↦?_
  refine sdk (v := .bool true) A λa A↦?_
  refine sdm A λa A↦?_
  iterate 3 refine qh A rfl rfl rfl λa A↦?_
  refine sdk (v := .bool true) A λa A↦?_
  refine qa (hK5 _ _ (wp_cond_true (A.ev rfl) ?_))
  refine wsk fun K7 hK7 => wrl (sda A λa A↦?_)
  refine qa (hK7 _ _ (wp_ret (hret _ _ (en1 A rfl (qf rfl) ?_))))
  rw [qpe (by omega)]
  exact ⟨rfl, M.bel⟩
 ·
  have hb6' := of_decide_eq_false hb6
  refine sdc A je hb6 λa A↦?_
  iterate 2 refine sdm A λa A↦?_
  rcases tf (decide (left ≤ 0)) with hb8 | hb8
  ·
   have hb8' := of_decide_eq_true hb8
   refine sdc A vf hb8 λa A↦?_
   refine sdk (v := .bool true) A λa A↦?_
   refine sdm A λa A↦?_
   iterate 3 refine qh A rfl rfl rfl λa A↦?_
   refine sdk (v := .bool true) A λa A↦?_
   refine qa (hK5 _ _ (wp_cond_true (A.ev rfl) ?_))
   refine wsk fun K9 hK9 => wrl (sda A λa A↦?_)
   refine qa (hK9 _ _ (wp_ret (hret _ _ (en1 A rfl (qf rfl) ?_))))
   rw [qpe (by omega)]
   exact ⟨rfl, M.bel⟩
  ·
   have hb8' := of_decide_eq_false hb8
   refine sdc A vf hb8 λa A↦?_
   refine sdk (v := .bool false) A λa A↦?_
   refine sdm A λa A↦?_
   refine sdo A (zn M TrW_isS_30 rfl 0 rfl (cs := [.int .i64 d.k, .int .i64 d.n, .bool d.y.q.b1, .slice d.y.o1 d.y.q.t1.length d.y.c1, .slice d.y.o2 d.y.q.q1.length d.y.c2, .bool d.y.q.b2, .slice d.y.o3 d.y.q.t2.length d.y.c3, .slice d.y.o4 d.y.q.q2.length d.y.c4, .string d.s, .slice d.ro d.rl.length d.rc, .slice d.lo ts.length d.lc]) rfl rfl) λa A↦?_
   rcases tf (jj d.k d.n d.y.q d.s d.rl.length ts.length) with hb10 | hb10
   ·
    refine gcl A M (ef rfl rfl) (qlh (hok.1.below M.bel) (Nat.le_trans qmh hbk) hlen hb10) fun w12 hb11 M a A => ?_
    refine sdo (v := .bool false) A (qy rfl zj) λa A↦?_
    refine sdk (v := .bool false) A λa A↦?_
    refine qa (hK5 _ _ (wp_cond_false (A.ev rfl) ?_))
    refine wp_skip (hK4 _ _ (wsk fun K13 hK13 => wrl (sdm A λa A↦?_)))
    refine sdo (v := .int .i64 (left - 1)) A (qe rfl rfl (zad (jw (by omega) (by omega)))) λa A↦?_
    refine sda A λa A↦?_
    refine qa (hK13 _ _ (wsk fun K14 hK14 => wsk fun K15 hK15 => wrl (sda A λa A↦?_)))
    refine qa (hK15 _ _ (wp_block (zt (fun m_ a w1 => ∃ (i : Nat) (m : Int), m_ = 1 + (ts.length - i) ∧ (i ≤ ts.length ∧ qei jc dp (decide (d.k = 8)) 0 (left - 1) ((ts.map Dt.tr).drop 0) = qei jc dp (decide (d.k = 8)) i m ((ts.map Dt.tr).drop i) ∧ -1 ≤ m ∧ m ≤ 20000) ∧ Sl a 52 [(0, .agg (d.cells ts.length).toArray), (1, .int .i64 dp), (2, .int .i64 m), (3, .pointer (some ⟨g2, 0, none⟩)), (6, .int .i64 0), (7, .int .i64 (((i : Nat) : Int))), (9, .int .i64 dp), (10, .bool false), (11, .bool false), (12, .int .i64 left), (13, .bool false), (14, .bool false), (15, .bool false), (16, .agg (d.cells ts.length).toArray), (17, .bool true), (18, .bool false), (19, .bool false), (20, .int .i64 left), (21, .int .i64 (left - 1))] ∧ Mg w w1 (.obj g2 (.cells (d.cells ts.length).toArray 30) :: [])) _ ⟨0, left - 1, rfl, ⟨Nat.zero_le _, rfl, by omega, by omega⟩, A.keep _ ⟨rfl, rfl, rfl, rfl, rfl, rfl, rfl, rfl, rfl, rfl, rfl, rfl, rfl, rfl, rfl, rfl, rfl, rfl, rfl, trivial⟩, M⟩ ?_)))
    clear M A
    rintro m_ a w16 ⟨i, m, rfl, hinv18, A, M⟩ K17 hK17
    obtain ⟨hi0, hin9, hm0, hm1_⟩ := hinv18
    refine wsk fun K19 hK19 => wsk fun K20 hK20 => wrl (sdm A λa A↦?_)
    refine sdo (v := .pointer (some ⟨g2, 10, none⟩)) A (qb TrW_fld_30_5 rfl rfl) λa A↦?_
    refine sdo A (qk M TrW_is1_28 rfl 0 rfl rfl) λa A↦?_
    refine sdo A (qx Tryz.underlying28 rfl) λa A↦?_
    rcases tf (decide (((i : Nat) : Int) < ((ts.length : Nat) : Int))) with hb21 | hb21
    ·
     have hb21' := of_decide_eq_true hb21
     refine sdc A zg hb21 λa A↦?_
     iterate 2 refine sdm A λa A↦?_
     rcases tf (decide (0 ≤ m)) with hb22 | hb22
     ·
      have hb22' := of_decide_eq_true hb22
      refine sdc A jh hb22 λa A↦?_
      refine sdk (v := .bool true) A λa A↦?_
      refine qa (hK20 _ _ (wp_cond_true (A.ev rfl) ?_))
      refine wp_skip (hK19 _ _ (wsk fun K23 hK23 => wp_block (wsk fun K24 hK24 => wrl (sdm A λa A↦?_))))
      refine sdo (v := .int .i64 (dp + 1)) A (qe rfl rfl (zx (jw (by omega) (by omega)))) λa A↦?_
      refine sda A λa A↦?_
      refine qa (hK24 _ _ (wsk fun K25 hK25 => wsk fun K26 hK26 => wrl (sdo (v := .pointer (some ⟨g2, 0, none⟩)) A (qb TrW_fld_30_0 rfl rfl) λa A↦?_)))
      refine sdo A (qk M TrW_is1_3 rfl 0 rfl rfl) λa A↦?_
      rcases tf ((d.k == 8)) with hb27 | hb27
      ·
       have hb27' := eq_of_beq hb27
       refine sdc A qg hb27 λa A↦?_
       iterate 2 refine sdm A λa A↦?_
       rcases tf ((((i : Nat) : Int) == 1)) with hb28 | hb28
       ·
        have hb28' := eq_of_beq hb28
        refine sdc A qg hb28 λa A↦?_
        refine sdk (v := .bool true) A λa A↦?_
        refine qa (hK26 _ _ (wp_cond_true (A.ev rfl) ?_))
        refine wrl (sdm A λa A↦?_)
        refine sda A λa A↦?_
        refine qa (hK25 _ _ ?_)
        obtain ⟨t1, b1, o1, hi1, hm1, hr1, hl1, hH1⟩ := kid hrd (i := i) (by omega)
        have hD : (if decide (d.k = 8) = true ∧ i = 1 then dp else dp + 1) = dp := if_pos ⟨decide_eq_true hb27', by omega⟩
        refine wrl (sdo (v := .pointer (some ⟨g2, 10, none⟩)) A (qb TrW_fld_30_5 rfl rfl) λa A↦?_)
        refine sdo A (qk M TrW_is1_28 rfl 0 rfl rfl) λa A↦?_
        refine sdm A λa A↦?_
        refine sdo (v := .pointer (some ⟨b1, o1 + i * 11, none⟩)) A (zk (k := i) Tryz.underlying28 (by kernel_rfl) rfl rfl rfl hl1 (by omega)) λa A↦?_
        refine sdo A (jt M hH1 TrW_isS_30 rfl rfl) λa A↦?_
        iterate 2 refine sdm A λa A↦?_
        refine gcl A M (ef rfl rfl) (ih t1 hm1 (Dt.keep M.bel _ hr1) (by have := qfb (d := d) hm1; omega) (by omega) (by omega) (by omega) (by omega)) fun w30 hb29 M a A => ?_
        refine sda A λa A↦?_
        refine qa (hK23 _ _ (wrl (sdm A λa A↦?_)))
        refine sdo (v := .int .i64 (((i + 1 : Nat) : Int))) A (qe rfl rfl (fun w => (zx (jw (by omega) (by omega)) w).trans (by rw [show (((i : Nat) : Int) + 1 : Int) = ((i + 1 : Nat) : Int) from by omega]))) λa A↦?_
        refine sda A λa A↦?_
        refine qa ?_
        have hc9 := qwf jc t1.tr (dp) m (by omega)
        refine hK17 _ _ _ (by omega) ⟨i + 1, qcc jc (dp) m t1.tr, rfl, ⟨by omega, by rw [hin9, qpf hi1 (by omega) hD], by omega, by omega⟩, A.keep _ ⟨rfl, rfl, rfl, rfl, rfl, rfl, rfl, rfl, rfl, rfl, rfl, rfl, rfl, rfl, rfl, rfl, rfl, rfl, rfl, trivial⟩, M⟩
       ·
        have hb28' := ne_of_beq_false hb28
        refine sdc A qg hb28 λa A↦?_
        refine sdk (v := .bool false) A λa A↦?_
        refine qa (hK26 _ _ (wp_cond_false (A.ev rfl) ?_))
        refine wp_skip (hK25 _ _ ?_)
        obtain ⟨t1, b1, o1, hi1, hm1, hr1, hl1, hH1⟩ := kid hrd (i := i) (by omega)
        have hD : (if decide (d.k = 8) = true ∧ i = 1 then dp else dp + 1) = dp + 1 := if_neg (fun e => by omega)
        refine wrl (sdo (v := .pointer (some ⟨g2, 10, none⟩)) A (qb TrW_fld_30_5 rfl rfl) λa A↦?_)
        refine sdo A (qk M TrW_is1_28 rfl 0 rfl rfl) λa A↦?_
        refine sdm A λa A↦?_
        refine sdo (v := .pointer (some ⟨b1, o1 + i * 11, none⟩)) A (zk (k := i) Tryz.underlying28 (by kernel_rfl) rfl rfl rfl hl1 (by omega)) λa A↦?_
        refine sdo A (jt M hH1 TrW_isS_30 rfl rfl) λa A↦?_
        iterate 2 refine sdm A λa A↦?_
        refine gcl A M (ef rfl rfl) (ih t1 hm1 (Dt.keep M.bel _ hr1) (by have := qfb (d := d) hm1; omega) (by omega) (by omega) (by omega) (by omega)) fun w32 hb31 M a A => ?_
        refine sda A λa A↦?_
        refine qa (hK23 _ _ (wrl (sdm A λa A↦?_)))
        refine sdo (v := .int .i64 (((i + 1 : Nat) : Int))) A (qe rfl rfl (fun w => (zx (jw (by omega) (by omega)) w).trans (by rw [show (((i : Nat) : Int) + 1 : Int) = ((i + 1 : Nat) : Int) from by omega]))) λa A↦?_
        refine sda A λa A↦?_
        refine qa ?_
        have hc9 := qwf jc t1.tr (dp + 1) m (by omega)
        refine hK17 _ _ _ (by omega) ⟨i + 1, qcc jc (dp + 1) m t1.tr, rfl, ⟨by omega, by rw [hin9, qpf hi1 (by omega) hD], by omega, by omega⟩, A.keep _ ⟨rfl, rfl, rfl, rfl, rfl, rfl, rfl, rfl, rfl, rfl, rfl, rfl, rfl, rfl, rfl, rfl, rfl, rfl, rfl, trivial⟩, M⟩
      ·
       have hb27' := ne_of_beq_false hb27
       refine sdc A qg hb27 λa A↦?_
       refine sdm A λa A↦?_
       iterate 2 refine qh A rfl rfl rfl λa A↦?_
       refine sdk (v := .bool false) A λa A↦?_
       refine qa (hK26 _ _ (wp_cond_false (A.ev rfl) ?_))
       refine wp_skip (hK25 _ _ ?_)
       obtain ⟨t1, b1, o1, hi1, hm1, hr1, hl1, hH1⟩ := kid hrd (i := i) (by omega)
       have hD : (if decide (d.k = 8) = true ∧ i = 1 then dp else dp + 1) = dp + 1 := if_neg (fun e => hb27' (of_decide_eq_true e.1))
       refine wrl (sdo (v := .pointer (some ⟨g2, 10, none⟩)) A (qb TrW_fld_30_5 rfl rfl) λa A↦?_)
       refine sdo A (qk M TrW_is1_28 rfl 0 rfl rfl) λa A↦?_
       refine sdm A λa A↦?_
       refine sdo (v := .pointer (some ⟨b1, o1 + i * 11, none⟩)) A (zk (k := i) Tryz.underlying28 (by kernel_rfl) rfl rfl rfl hl1 (by omega)) λa A↦?_
       refine sdo A (jt M hH1 TrW_isS_30 rfl rfl) λa A↦?_
       iterate 2 refine sdm A λa A↦?_
       refine gcl A M (ef rfl rfl) (ih t1 hm1 (Dt.keep M.bel _ hr1) (by have := qfb (d := d) hm1; omega) (by omega) (by omega) (by omega) (by omega)) fun w34 hb33 M a A => ?_
       refine sda A λa A↦?_
       refine qa (hK23 _ _ (wrl (sdm A λa A↦?_)))
       refine sdo (v := .int .i64 (((i + 1 : Nat) : Int))) A (qe rfl rfl (fun w => (zx (jw (by omega) (by omega)) w).trans (by rw [show (((i : Nat) : Int) + 1 : Int) = ((i + 1 : Nat) : Int) from by omega]))) λa A↦?_
       refine sda A λa A↦?_
       refine qa ?_
       have hc9 := qwf jc t1.tr (dp + 1) m (by omega)
       refine hK17 _ _ _ (by omega) ⟨i + 1, qcc jc (dp + 1) m t1.tr, rfl, ⟨by omega, by rw [hin9, qpf hi1 (by omega) hD], by omega, by omega⟩, A.keep _ ⟨rfl, rfl, rfl, rfl, rfl, rfl, rfl, rfl, rfl, rfl, rfl, rfl, rfl, rfl, rfl, rfl, rfl, rfl, rfl, trivial⟩, M⟩
     ·
      have hb22' := of_decide_eq_false hb22
      refine sdc A jh hb22 λa A↦?_
      refine sdk (v := .bool false) A λa A↦?_
      refine qa (hK20 _ _ (wp_cond_false (A.ev rfl) ?_))
      refine wp_exit (hK14 _ _ (wsk fun K35 hK35 => wrl (sdm A λa A↦?_)))
      refine sda A λa A↦?_
      refine qa (hK35 _ _ (wp_ret (hret _ _ (en1 A rfl (qf rfl) ?_))))
      rw [zag (by omega) (by omega) (by rw [kn]; exact hb10), hin9, qjc (by omega)]
      exact ⟨rfl, M.bel⟩
    ·
     have hb21' := of_decide_eq_false hb21
     refine sdc A zg hb21 λa A↦?_
     refine sdm A λa A↦?_
     iterate 2 refine qh A rfl rfl rfl λa A↦?_
     refine sdk (v := .bool false) A λa A↦?_
     refine qa (hK20 _ _ (wp_cond_false (A.ev rfl) ?_))
     refine wp_exit (hK14 _ _ (wsk fun K36 hK36 => wrl (sdm A λa A↦?_)))
     refine sda A λa A↦?_
     refine qa (hK36 _ _ (wp_ret (hret _ _ (en1 A rfl (qf rfl) ?_))))
     rw [zag (by omega) (by omega) (by rw [kn]; exact hb10), hin9, uf (by omega), qei]
     exact ⟨rfl, M.bel⟩
   ·
    refine gcl A M (ef rfl rfl) (qlh (hok.1.below M.bel) (Nat.le_trans qmh hbk) hlen hb10) fun w38 hb37 M a A => ?_
    refine sdo (v := .bool true) A (qy rfl zj) λa A↦?_
    refine sdk (v := .bool true) A λa A↦?_
    refine qa (hK5 _ _ (wp_cond_true (A.ev rfl) ?_))
    refine wsk fun K39 hK39 => wrl (sda A λa A↦?_)
    refine qa (hK39 _ _ (wp_ret (hret _ _ (en1 A rfl (qf rfl) ?_))))
    rw [qpe (.inr (.inr (by rw [kn]; exact hb10)))]
    exact ⟨rfl, M.bel⟩
theorem zee {w : World} {d : Nd} {ts : List Dt} (hrd : (Dt.mk d ts).rd w) (hbk : (Dt.mk d ts).tr.bulk ≤ 2000000) : Calls Tryz.prog 9 #[.agg (d.cells ts.length).toArray] w fun e w' => e = .returned (.bool (xv jc (Dt.mk d ts).tr)) ∧ Below w.heap.size w w' := by
 have M : Mg w w ([]) := Mg.start w
 refine qm (l := [(0, .agg (d.cells ts.length).toArray)]) Tryz.func9 rfl Tryz.ntmps9 rfl rfl ?_
 intro Q hret hnorm hP a A
 refine wsk fun K1 hK1 => wrl (xa (vs := [.int .i64 d.k, .int .i64 d.n, .bool d.y.q.b1, .slice d.y.o1 d.y.q.t1.length d.y.c1, .slice d.y.o2 d.y.q.q1.length d.y.c2, .bool d.y.q.b2, .slice d.y.o3 d.y.q.t2.length d.y.c3, .slice d.y.o4 d.y.q.q2.length d.y.c4, .string d.s, .slice d.ro d.rl.length d.rc, .slice d.lo ts.length d.lc]) (t := 30) A M rfl rfl rfl pg (zb rfl rfl) (by decide) ?_)
 intro g2 w3 M a A
 refine sda A λa A↦?_
 refine qa (hK1 _ _ (wsk fun K4 hK4 => wrl (sdo A (zn M TrW_isS_30 rfl 0 rfl (cs := [.int .i64 d.k, .int .i64 d.n, .bool d.y.q.b1, .slice d.y.o1 d.y.q.t1.length d.y.c1, .slice d.y.o2 d.y.q.q1.length d.y.c2, .bool d.y.q.b2, .slice d.y.o3 d.y.q.t2.length d.y.c3, .slice d.y.o4 d.y.q.q2.length d.y.c4, .string d.s, .slice d.ro d.rl.length d.rc, .slice d.lo ts.length d.lc]) rfl rfl) λa A↦?_)))
 refine gcl A M (ef rfl rfl) (zed (Dt.mk d ts) (Dt.keep M.bel _ hrd) hbk (by omega) (by omega) (by omega) (by omega)) fun w5 hb9 M a A => ?_
 refine sdo (v := .bool (decide (0 ≤ qcc jc 1 20000 (Dt.mk d ts).tr))) A (qe rfl rfl jh) λa A↦?_
 refine sda A λa A↦?_
 refine qa (hK4 _ _ (wp_ret (hret _ _ (en1 A rfl (qf rfl) ?_))))
 exact ⟨by rw [← qse], M.bel⟩
theorem rsound_any {w : World} {t : Dt} (hrd : t.rd w) (hbk : t.tr.bulk ≤ 2000000) : Calls Tryz.prog 9 #[.agg t.cells.toArray] w fun e w' => e = .returned (.bool (xv jc t.tr)) ∧ Below w.heap.size w w' := by
 obtain ⟨d, ts⟩ := t
 exact zee hrd hbk
theorem UdD_isS_30 : IsS Tryz.prog 30 11 := ⟨⟨_, Tryz.underlying30⟩, by kernel_rfl⟩
theorem qof : ∀ n, Tells n
 | 0 => fun h => absurd h (Nat.not_lt_zero _)
 | n + 1 => zab (qof n)
/-- The symbol a b. -/
def sDt : Dt := .mk ⟨6, 0, ⟨Q6.none, none, 0, none, 0, none, 0, none, 0⟩, ⟨#[97, 32, 98]⟩, none, 0, [], none, 0⟩ []
theorem zsc (w : World) : sDt.rd w := by
 unfold sDt
 rw [Dt.rd_iff]
 exact ⟨⟨⟨Sc.none w, Sc.none w, Sc.none w, Sc.none w⟩, ⟨by decide, by decide, by decide, by decide⟩, ⟨fun k => absurd rfl k⟩, by decide, by decide, by decide, by decide, by decide, by decide, by decide⟩, by decide, by decide, fun k => absurd rfl k, fun _ k => by cases k⟩
theorem zqa : sDt.tr = .mk 6 0 Q6.none ⟨#[97, 32, 98]⟩ [] [] := by unfold sDt; rw [Dt.tr_mk]; rfl
theorem zng : xv jc sDt.tr = true := by
 rw [zqa]
 unfold xv
 rw [jo, yx, uz, qdd, jc]
 rfl
theorem zrf : C.hexD 32 = [50, 48] := vj (by omega) (qdf (by omega))
theorem zqb : wrT false sDt.tr = [97, 92, 120, 50, 48, 59, 98] := by
 rw [zqa, wrT, if_neg (by decide), if_neg (by decide)]
 show kw false ⟨#[97, 32, 98]⟩ = _
 rw [qxi (by decide) (by decide) (by decide)]
 show inL true (qn [97, 32, 98]) = _
 rw [yf (by decide), yf (by decide), yf (by decide)]
 show inS true 97 ++ (inS false 32 ++ (inS false 98 ++ [])) = _
 rw [qkb (by decide +kernel), qne (by decide +kernel), qkb (by decide +kernel)]
 show Lib.encodeRune 97 ++ ((jk ((32 : Nat) : Int) ++ [59]) ++ (Lib.encodeRune 98 ++ [])) = _
 rw [ke, zrf]
 rfl
theorem zqc : sDt.tr.bulk ≤ 1048576 := by rw [zqa, vg, Tr.bulks]; decide
theorem zac {w : World} (hTb : Tabs8 w) (hz : C.Tz16 w) (htp : C.Tp10 w) : Calls Tryz.prog 4 #[.agg #[.int .i64 6, .int .i64 0, .bool false, .slice none 0 0, .slice none 0 0, .bool false, .slice none 0 0, .slice none 0 0, .string (⟨#[97, 32, 98]⟩), .slice none 0 0, .slice none 0 0]] w fun e w' => e = .returned (.tuple #[.string ⟨#[97, 92, 120, 50, 48, 59, 98]⟩, .int .i64 0]) ∧ Below w.heap.size w w' := by
 have h := qoc (t := sDt) (zsc w) hTb hz htp zqc
 rw [qzg zng, zqb] at h
 exact h
theorem zef {w : World} (hTb : Tabs8 w) (hz : C.Tz16 w) (htp : C.Tp10 w) : Calls Tryz.prog 7 #[] w fun e w' => e = .returned (.bool true) ∧ Below w.heap.size w w' := by
 have M : Mg w w ([]) := Mg.start w
 refine qm (l := []) Tryz.func7 rfl Tryz.ntmps7 rfl rfl ?_
 intro Q hret hnorm hP a A
 refine wsk fun K1 hK1 => wrl (sda A λa A↦?_)
 refine qa (hK1 _ _ (wsk fun K2 hK2 => wrl (sdo (v := .agg #[.int .i64 6, .int .i64 0, .bool false, .slice none 0 0, .slice none 0 0, .bool false, .slice none 0 0, .slice none 0 0, .string (⟨#[97, 32, 98]⟩), .slice none 0 0, .slice none 0 0]) A (jb rfl (fun w => by kernel_rfl)) λa A↦?_)))
 refine gcl A M (ef rfl rfl) (zac (hTb.below M.bel) (vm hz M.bel) (htp.below M.bel)) fun w4 hb3 M a A => ?_
 refine sdm A λa A↦?_
 iterate 2 refine sdo A (qp (vs := [.string (bsL [97, 92, 120, 50, 48, 59, 98]), .int .i64 0]) rfl rfl) λa A↦?_
 iterate 2 refine sda A λa A↦?_
 refine qa (hK2 _ _ (wsk fun K5 hK5 => wrl (sdm A λa A↦?_)))
 refine sdo (v := .bool true) A (qe rfl rfl (fun w => by kernel_rfl)) λa A↦?_
 iterate 2 refine sdm A λa A↦?_
 rcases tf (decide (bsL [97, 92, 120, 50, 48, 59, 98] = ⟨#[97, 92, 120, 50, 48, 59, 98]⟩)) with hb6 | hb6
 ·
  have hb6' := of_decide_eq_true hb6
  refine sdo (v := .bool true) A (qe rfl rfl (fun w => (zl Tryz.underlying9 w).trans (by rw [hb6] <;> rfl))) λa A↦?_
  refine sdk (v := .bool true) A λa A↦?_
  refine sda A λa A↦?_
  refine qa (hK5 _ _ (wp_ret (hret _ _ (en1 A rfl (qf rfl) ?_))))
  exact ⟨rfl, M.bel⟩
 ·
  have hb6' := of_decide_eq_false hb6
  refine sdo (v := .bool false) A (qe rfl rfl (fun w => (zl Tryz.underlying9 w).trans (by rw [hb6] <;> rfl))) λa A↦?_
  refine sdk (v := .bool false) A λa A↦?_
  refine sda A λa A↦?_
  refine qa (hK5 _ _ (wp_ret (hret _ _ (en1 A rfl (qf rfl) ?_))))
  exact absurd rfl hb6'
theorem qog {w : World} {t : Dt} (ht : t.rd w) (hmax : t.tr.bulk ≤ 1048576) (mk : Bool) : Calls Tryz.prog 5 #[.agg (t.d.cells t.ts.length).toArray, .bool mk] w fun e w' => e = .returned (.tuple #[.string ⟨(wrA (!mk) t.tr).1.toArray⟩, .int .i64 (wrA (!mk) t.tr).2]) ∧ Below w.heap.size w w' := by
 have M : Mg w w ([]) := Mg.start w
 refine qm (l := [(0, .agg (t.d.cells t.ts.length).toArray), (1, .bool mk)]) Tryz.func5 rfl Tryz.ntmps5 rfl rfl ?_
 intro Q hret hnorm hP a A
 refine wsk fun K1 hK1 => wrl (xa (vs := [.int .i64 t.d.k, .int .i64 t.d.n, .bool t.d.y.q.b1, .slice t.d.y.o1 t.d.y.q.t1.length t.d.y.c1, .slice t.d.y.o2 t.d.y.q.q1.length t.d.y.c2, .bool t.d.y.q.b2, .slice t.d.y.o3 t.d.y.q.t2.length t.d.y.c3, .slice t.d.y.o4 t.d.y.q.q2.length t.d.y.c4, .string t.d.s, .slice t.d.ro t.d.rl.length t.d.rc, .slice t.d.lo t.ts.length t.d.lc]) (t := 30) A M rfl rfl rfl pg (zb rfl rfl) (by decide) ?_)
 intro g2 w3 M a A
 iterate 2 refine sda A λa A↦?_
 refine qa (hK1 _ _ (wsk fun K4 hK4 => wsk fun K5 hK5 => wrl (sdo A (zn M UdD_isS_30 rfl 0 rfl (cs := [.int .i64 t.d.k, .int .i64 t.d.n, .bool t.d.y.q.b1, .slice t.d.y.o1 t.d.y.q.t1.length t.d.y.c1, .slice t.d.y.o2 t.d.y.q.q1.length t.d.y.c2, .bool t.d.y.q.b2, .slice t.d.y.o3 t.d.y.q.t2.length t.d.y.c3, .slice t.d.y.o4 t.d.y.q.q2.length t.d.y.c4, .string t.d.s, .slice t.d.ro t.d.rl.length t.d.rc, .slice t.d.lo t.ts.length t.d.lc]) rfl rfl) λa A↦?_)))
 rcases tf (xv jc t.tr) with hb6 | hb6
 ·
  refine gcl A M (ef rfl rfl) ((hb6 ▸ rsound_any (t := t) (Dt.keep M.bel _ ht) (by omega))) fun w8 hb7 M a A => ?_
  refine sdo (v := .bool false) A (qy rfl zj) λa A↦?_
  refine qa (hK5 _ _ (wp_cond_false (A.ev rfl) ?_))
  refine wp_skip (hK4 _ _ (wsk fun K9 hK9 => wrl (sdo A (zn M UdD_isS_30 rfl 0 rfl (cs := [.int .i64 t.d.k, .int .i64 t.d.n, .bool t.d.y.q.b1, .slice t.d.y.o1 t.d.y.q.t1.length t.d.y.c1, .slice t.d.y.o2 t.d.y.q.q1.length t.d.y.c2, .bool t.d.y.q.b2, .slice t.d.y.o3 t.d.y.q.t2.length t.d.y.c3, .slice t.d.y.o4 t.d.y.q.q2.length t.d.y.c4, .string t.d.s, .slice t.d.ro t.d.rl.length t.d.rc, .slice t.d.lo t.ts.length t.d.lc]) rfl rfl) λa A↦?_)))
  refine sdm A λa A↦?_
  refine gcl A M (ef rfl rfl) (qof (t.tr.bulk + 1) (mk := mk) (Nat.lt_succ_self _) (Dt.keep M.bel _ ht) (qph ht hb6) hmax) fun w11 hb10 M a A => ?_
  iterate 2 refine sda A λa A↦?_
  refine qa (hK9 _ _ (wp_ret (hret _ _ (en2 A rfl (qf rfl) (qf rfl) ?_))))
  exact ⟨by rw [qzg hb6] <;> rfl, M.bel⟩
 ·
  refine gcl A M (ef rfl rfl) ((hb6 ▸ rsound_any (t := t) (Dt.keep M.bel _ ht) (by omega))) fun w13 hb12 M a A => ?_
  refine sdo (v := .bool true) A (qy rfl zj) λa A↦?_
  refine qa (hK5 _ _ (wp_cond_true (A.ev rfl) ?_))
  refine wsk fun K14 hK14 => wrl ?_
  iterate 2 refine sda A λa A↦?_
  refine qa (hK14 _ _ (wp_ret (hret _ _ (en2 A rfl (qf rfl) (qf rfl) ?_))))
  exact ⟨by rw [zjd hb6] <;> rfl, M.bel⟩
theorem qli {w : World} {t : Dt} (ht : t.rd w) (hTb : Tabs8 w) (hz : C.Tz16 w) (htp : C.Tp10 w) (hmax : t.tr.bulk ≤ 1048576) : Calls Tryz.prog 3 #[.agg (t.d.cells t.ts.length).toArray] w fun e w' => e = .returned (.bool true) ∧ Below w.heap.size w w' := by
 have M : Mg w w ([]) := Mg.start w
 refine qm (l := [(0, .agg (t.d.cells t.ts.length).toArray)]) Tryz.func3 rfl Tryz.ntmps3 rfl rfl ?_
 intro Q hret hnorm hP a A
 refine wsk fun K1 hK1 => wrl (xa (vs := [.int .i64 t.d.k, .int .i64 t.d.n, .bool t.d.y.q.b1, .slice t.d.y.o1 t.d.y.q.t1.length t.d.y.c1, .slice t.d.y.o2 t.d.y.q.q1.length t.d.y.c2, .bool t.d.y.q.b2, .slice t.d.y.o3 t.d.y.q.t2.length t.d.y.c3, .slice t.d.y.o4 t.d.y.q.q2.length t.d.y.c4, .string t.d.s, .slice t.d.ro t.d.rl.length t.d.rc, .slice t.d.lo t.ts.length t.d.lc]) (t := 30) A M rfl rfl rfl pg (zb rfl rfl) (by decide) ?_)
 intro g2 w3 M a A
 refine sda A λa A↦?_
 refine qa (hK1 _ _ (wsk fun K4 hK4 => wrl (sdo A (zn M UdD_isS_30 rfl 0 rfl (cs := [.int .i64 t.d.k, .int .i64 t.d.n, .bool t.d.y.q.b1, .slice t.d.y.o1 t.d.y.q.t1.length t.d.y.c1, .slice t.d.y.o2 t.d.y.q.q1.length t.d.y.c2, .bool t.d.y.q.b2, .slice t.d.y.o3 t.d.y.q.t2.length t.d.y.c3, .slice t.d.y.o4 t.d.y.q.q2.length t.d.y.c4, .string t.d.s, .slice t.d.ro t.d.rl.length t.d.rc, .slice t.d.lo t.ts.length t.d.lc]) rfl rfl) λa A↦?_)))
 refine gcl A M (ef rfl rfl) (qoc (Dt.keep M.bel _ ht) (hTb.below M.bel) (vm hz M.bel) (htp.below M.bel) hmax) fun w6 hb5 M a A => ?_
 refine sdm A λa A↦?_
 iterate 2 refine sdo A (qp (vs := [.string (bsL (wrA false t.tr).1), .int .i64 ((wrA false t.tr).2)]) rfl rfl) λa A↦?_
 iterate 2 refine sda A λa A↦?_
 refine qa (hK4 _ _ (wsk fun K7 hK7 => wrl (sdo A (zn M UdD_isS_30 rfl 0 rfl (cs := [.int .i64 t.d.k, .int .i64 t.d.n, .bool t.d.y.q.b1, .slice t.d.y.o1 t.d.y.q.t1.length t.d.y.c1, .slice t.d.y.o2 t.d.y.q.q1.length t.d.y.c2, .bool t.d.y.q.b2, .slice t.d.y.o3 t.d.y.q.t2.length t.d.y.c3, .slice t.d.y.o4 t.d.y.q.q2.length t.d.y.c4, .string t.d.s, .slice t.d.ro t.d.rl.length t.d.rc, .slice t.d.lo t.ts.length t.d.lc]) rfl rfl) λa A↦?_)))
 refine gcl A M (ef rfl rfl) (qog (Dt.keep M.bel _ ht) hmax true) fun w9 hb8 M a A => ?_
 refine sdm A λa A↦?_
 iterate 2 refine sdo A (qp (vs := [.string (bsL (wrA false t.tr).1), .int .i64 ((wrA false t.tr).2)]) rfl rfl) λa A↦?_
 iterate 2 refine sda A λa A↦?_
 refine qa (hK7 _ _ (wsk fun K10 hK10 => wrl (sdo A (zn M UdD_isS_30 rfl 0 rfl (cs := [.int .i64 t.d.k, .int .i64 t.d.n, .bool t.d.y.q.b1, .slice t.d.y.o1 t.d.y.q.t1.length t.d.y.c1, .slice t.d.y.o2 t.d.y.q.q1.length t.d.y.c2, .bool t.d.y.q.b2, .slice t.d.y.o3 t.d.y.q.t2.length t.d.y.c3, .slice t.d.y.o4 t.d.y.q.q2.length t.d.y.c4, .string t.d.s, .slice t.d.ro t.d.rl.length t.d.rc, .slice t.d.lo t.ts.length t.d.lc]) rfl rfl) λa A↦?_)))
 refine gcl A M (ef rfl rfl) (qvf (Dt.keep M.bel _ ht) (hTb.below M.bel) (vm hz M.bel) (htp.below M.bel) hmax) fun w12 hb11 M a A => ?_
 refine sdm A λa A↦?_
 iterate 2 refine sdo A (qp (vs := [.string (bsL (wrA true t.tr).1), .int .i64 ((wrA true t.tr).2)]) rfl rfl) λa A↦?_
 iterate 2 refine sda A λa A↦?_
 refine qa (hK10 _ _ (wsk fun K13 hK13 => wrl (sdo A (zn M UdD_isS_30 rfl 0 rfl (cs := [.int .i64 t.d.k, .int .i64 t.d.n, .bool t.d.y.q.b1, .slice t.d.y.o1 t.d.y.q.t1.length t.d.y.c1, .slice t.d.y.o2 t.d.y.q.q1.length t.d.y.c2, .bool t.d.y.q.b2, .slice t.d.y.o3 t.d.y.q.t2.length t.d.y.c3, .slice t.d.y.o4 t.d.y.q.q2.length t.d.y.c4, .string t.d.s, .slice t.d.ro t.d.rl.length t.d.rc, .slice t.d.lo t.ts.length t.d.lc]) rfl rfl) λa A↦?_)))
 refine gcl A M (ef rfl rfl) (qog (Dt.keep M.bel _ ht) hmax false) fun w15 hb14 M a A => ?_
 refine sdm A λa A↦?_
 iterate 2 refine sdo A (qp (vs := [.string (bsL (wrA true t.tr).1), .int .i64 ((wrA true t.tr).2)]) rfl rfl) λa A↦?_
 iterate 2 refine sda A λa A↦?_
 refine qa (hK13 _ _ (wsk fun K16 hK16 => wrl (sct A (ef rfl rfl) (zef (hTb.below M.bel) (vm hz M.bel) (htp.below M.bel)) ?_)))
 rintro _ w18 ⟨rfl, hb17⟩
 replace M := M.call hb17
 refine ⟨_, rfl, ?_⟩
 intro a A
 iterate 3 refine sdm A λa A↦?_
 rcases tf (decide (bsL (wrA false t.tr).1 = bsL (wrA false t.tr).1)) with hb19 | hb19
 ·
  have hb19' := of_decide_eq_true hb19
  refine sdo (v := .bool true) A (qe rfl rfl (fun w => (zl Tryz.underlying9 w).trans (by rw [hb19] <;> rfl))) λa A↦?_
  refine sdk (v := .bool true) A λa A↦?_
  iterate 3 refine sdm A λa A↦?_
  refine sdo (v := .bool true) A (qe rfl rfl (fun w => (qg w).trans (by rw [show (((wrA false t.tr).2 == (wrA false t.tr).2)) = true from (beq_self_eq_true _)]))) λa A↦?_
  refine sdk (v := .bool true) A λa A↦?_
  iterate 3 refine sdm A λa A↦?_
  rcases tf (decide (bsL (wrA true t.tr).1 = bsL (wrA true t.tr).1)) with hb20 | hb20
  ·
   have hb20' := of_decide_eq_true hb20
   refine sdo (v := .bool true) A (qe rfl rfl (fun w => (zl Tryz.underlying9 w).trans (by rw [hb20] <;> rfl))) λa A↦?_
   refine sdk (v := .bool true) A λa A↦?_
   iterate 3 refine sdm A λa A↦?_
   refine sdo (v := .bool true) A (qe rfl rfl (fun w => (qg w).trans (by rw [show (((wrA true t.tr).2 == (wrA true t.tr).2)) = true from (beq_self_eq_true _)]))) λa A↦?_
   refine sdk (v := .bool true) A λa A↦?_
   refine sda A λa A↦?_
   refine qa (hK16 _ _ (wp_ret (hret _ _ (en1 A rfl (qf rfl) ?_))))
   exact ⟨rfl, M.bel⟩
  ·
   have hb20' := of_decide_eq_false hb20
   refine sdo (v := .bool false) A (qe rfl rfl (fun w => (zl Tryz.underlying9 w).trans (by rw [hb20] <;> rfl))) λa A↦?_
   refine sdk (v := .bool false) A λa A↦?_
   refine sdm A λa A↦?_
   iterate 3 refine qh A rfl rfl rfl λa A↦?_
   refine sdk (v := .bool false) A λa A↦?_
   refine sda A λa A↦?_
   refine qa (hK16 _ _ (wp_ret (hret _ _ (en1 A rfl (qf rfl) ?_))))
   exact absurd rfl hb20'
 ·
  have hb19' := of_decide_eq_false hb19
  refine sdo (v := .bool false) A (qe rfl rfl (fun w => (zl Tryz.underlying9 w).trans (by rw [hb19] <;> rfl))) λa A↦?_
  refine sdk (v := .bool false) A λa A↦?_
  refine sdm A λa A↦?_
  iterate 3 refine qh A rfl rfl rfl λa A↦?_
  refine sdk (v := .bool false) A λa A↦?_
  refine sdm A λa A↦?_
  iterate 3 refine qh A rfl rfl rfl λa A↦?_
  refine sdk (v := .bool false) A λa A↦?_
  refine sdm A λa A↦?_
  iterate 3 refine qh A rfl rfl rfl λa A↦?_
  refine sdk (v := .bool false) A λa A↦?_
  refine sda A λa A↦?_
  refine qa (hK16 _ _ (wp_ret (hret _ _ (en1 A rfl (qf rfl) ?_))))
  exact absurd rfl hb19'
end Go.Proofs.YtabpjchfkbhfpaaGreatDoor.G
