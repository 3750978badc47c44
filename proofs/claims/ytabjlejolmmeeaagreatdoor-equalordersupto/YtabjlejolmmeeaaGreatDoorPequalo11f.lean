/- Walks of Equal, Cmp and Hash. Walks of the laws of the order and of the hash. What a bound on the bulk of what is read gives. Transcoders that come in as arguments. Rows of bytes that come in as arguments; the first part of a row, and of a text. Data that come in as arguments. -/
import Derived.Test.YtabjlejolmmeeaaGreatDoorPequalo11e
import Derived.Test.YtabjlejolmmeeaaGreatDoorRows
import Derived.Test.YtabjlejolmmeeaaGreatDoorPequalo11b
import Derived.Test.YtabjlejolmmeeaaGreatDoorProg
import Derived.WalkKit
import Derived.ProofKit
import Derived.OpenShut
import Derived.ChangeOld
import Derived.Lib.SmallJoins
import Derived.Deep.Strs
import Derived.Test.YtabjlejolmmeeaaGreatDoorPequalo11a
import Derived.Test.YtabjlejolmmeeaaGreatDoorPequalo11d
import Derived.Deep.Slices
namespace Go.Proofs.YtabjlejolmmeeaaGreatDoor.G
open Go.RowKit
set_option linter.unusedVariables false
set_option linter.unusedSimpArgs false
set_option maxRecDepth 100000
theorem EqC_isS_30 : IsS Tryz.prog 30 11 := ⟨⟨_, Tryz.underlying30⟩, by kernel_rfl⟩
theorem both_any {w : World} {t u : Dt} (ht : t.rd w) (hu : u.rd w) (hT : Tabs8 w) : Calls Tryz.prog 13 #[.agg (t.d.cells t.ts.length).toArray, .agg (u.d.cells u.ts.length).toArray] w fun e w' => e = .returned (.bool (soundT shapeT t.tr && soundT shapeT u.tr : Bool)) ∧ Below w.heap.size w w' := by
 have hM : Mg w w ([]) := Mg.start w
 refine walk_of (l := [(0, .agg (t.d.cells t.ts.length).toArray), (1, .agg (u.d.cells u.ts.length).toArray)]) Tryz.func13 rfl Tryz.ntmps13 rfl rfl ?_
 intro Q hret hnorm hP a hA
 refine wp_seq_k (fun K1 hK1 => ?_)
 refine wp_region_lit ?_
 refine s_new (vs := [.int .i64 t.d.k, .int .i64 t.d.n, .bool t.d.y.q.b1, .slice t.d.y.o1 t.d.y.q.t1.length t.d.y.c1, .slice t.d.y.o2 t.d.y.q.q1.length t.d.y.c2, .bool t.d.y.q.b2, .slice t.d.y.o3 t.d.y.q.t2.length t.d.y.c3, .slice t.d.y.o4 t.d.y.q.q2.length t.d.y.c4, .string t.d.s, .slice t.d.ro t.d.rl.length t.d.rc, .slice t.d.lo t.ts.length t.d.lc]) (t := 30) hA hM rfl rfl rfl (fun g => .pointer (some ⟨g, 0, none⟩)) (does_box rfl rfl) (by decide) ?_
 intro g2 w3 hM a hA
 refine s_new (vs := [.int .i64 u.d.k, .int .i64 u.d.n, .bool u.d.y.q.b1, .slice u.d.y.o1 u.d.y.q.t1.length u.d.y.c1, .slice u.d.y.o2 u.d.y.q.q1.length u.d.y.c2, .bool u.d.y.q.b2, .slice u.d.y.o3 u.d.y.q.t2.length u.d.y.c3, .slice u.d.y.o4 u.d.y.q.q2.length u.d.y.c4, .string u.d.s, .slice u.d.ro u.d.rl.length u.d.rc, .slice u.d.lo u.ts.length u.d.lc]) (t := 30) hA hM rfl rfl rfl (fun g => .pointer (some ⟨g, 0, none⟩)) (does_box rfl rfl) (by decide) ?_
 intro g4 w5 hM a hA
 refine seq_do hA rfl rfl rfl (does_assign rfl) ?_
 intro a hA
 refine seq_end ?_
 refine hK1 _ _ ?_
 refine wp_seq_k (fun K6 hK6 => ?_)
 refine wp_region_lit ?_
 refine seq_do hA rfl rfl rfl (m_loadS hM EqC_isS_30 rfl 1 rfl (cs := [.int .i64 t.d.k, .int .i64 t.d.n, .bool t.d.y.q.b1, .slice t.d.y.o1 t.d.y.q.t1.length t.d.y.c1, .slice t.d.y.o2 t.d.y.q.q1.length t.d.y.c2, .bool t.d.y.q.b2, .slice t.d.y.o3 t.d.y.q.t2.length t.d.y.c3, .slice t.d.y.o4 t.d.y.q.q2.length t.d.y.c4, .string t.d.s, .slice t.d.ro t.d.rl.length t.d.rc, .slice t.d.lo t.ts.length t.d.lc]) rfl rfl) ?_
 intro a hA
 rcases Bool.eq_false_or_eq_true (soundT shapeT t.tr) with hb7 | hb7
 · refine seq_call hA rfl rfl rfl (enters_func rfl rfl (fun w => by kernel_rfl)) ((hb7 ▸ sound_any (t := t) (Dt.keep hM.bel _ ht) (hT.below hM.bel))) ?_
   rintro _ w9 ⟨rfl, hb8⟩
   replace hM := hM.call hb8
   refine ⟨_, rfl, ?_⟩
   intro a hA
   refine seq_do hA rfl rfl rfl (does_move rfl) ?_
   intro a hA
   refine seq_do hA rfl rfl rfl (m_loadS hM EqC_isS_30 rfl 0 rfl (cs := [.int .i64 u.d.k, .int .i64 u.d.n, .bool u.d.y.q.b1, .slice u.d.y.o1 u.d.y.q.t1.length u.d.y.c1, .slice u.d.y.o2 u.d.y.q.q1.length u.d.y.c2, .bool u.d.y.q.b2, .slice u.d.y.o3 u.d.y.q.t2.length u.d.y.c3, .slice u.d.y.o4 u.d.y.q.q2.length u.d.y.c4, .string u.d.s, .slice u.d.ro u.d.rl.length u.d.rc, .slice u.d.lo u.ts.length u.d.lc]) rfl rfl) ?_
   intro a hA
   rcases Bool.eq_false_or_eq_true (soundT shapeT u.tr) with hb10 | hb10
   · refine seq_call hA rfl rfl rfl (enters_func rfl rfl (fun w => by kernel_rfl)) ((hb10 ▸ sound_any (t := u) (Dt.keep hM.bel _ hu) (hT.below hM.bel))) ?_
     rintro _ w12 ⟨rfl, hb11⟩
     replace hM := hM.call hb11
     refine ⟨_, rfl, ?_⟩
     intro a hA
     refine seq_do (v := .bool true) hA rfl rfl rfl (does_pick rfl rfl rfl rfl) ?_
     intro a hA
     refine seq_do hA rfl rfl rfl (does_assign rfl) ?_
     intro a hA
     refine seq_end ?_
     refine hK6 _ _ ?_
     refine wp_ret ?_
     refine hret _ _ ?_
     refine ends (v := .bool true) hA rfl (.cons (res_tmp rfl) .nil) rfl ?_
     exact ⟨by simp_all, hM.bel⟩
   · refine seq_call hA rfl rfl rfl (enters_func rfl rfl (fun w => by kernel_rfl)) ((hb10 ▸ sound_any (t := u) (Dt.keep hM.bel _ hu) (hT.below hM.bel))) ?_
     rintro _ w14 ⟨rfl, hb13⟩
     replace hM := hM.call hb13
     refine ⟨_, rfl, ?_⟩
     intro a hA
     refine seq_do (v := .bool false) hA rfl rfl rfl (does_pick rfl rfl rfl rfl) ?_
     intro a hA
     refine seq_do hA rfl rfl rfl (does_assign rfl) ?_
     intro a hA
     refine seq_end ?_
     refine hK6 _ _ ?_
     refine wp_ret ?_
     refine hret _ _ ?_
     refine ends (v := .bool false) hA rfl (.cons (res_tmp rfl) .nil) rfl ?_
     exact ⟨by simp_all, hM.bel⟩
 · refine seq_call hA rfl rfl rfl (enters_func rfl rfl (fun w => by kernel_rfl)) ((hb7 ▸ sound_any (t := t) (Dt.keep hM.bel _ ht) (hT.below hM.bel))) ?_
   rintro _ w16 ⟨rfl, hb15⟩
   replace hM := hM.call hb15
   refine ⟨_, rfl, ?_⟩
   intro a hA
   refine seq_do hA rfl rfl rfl (does_move rfl) ?_
   intro a hA
   refine seq_skip hA rfl rfl rfl ?_
   intro a hA
   refine seq_skip hA rfl rfl rfl ?_
   intro a hA
   refine seq_do (v := .bool false) hA rfl rfl rfl (does_pick rfl rfl rfl rfl) ?_
   intro a hA
   refine seq_do hA rfl rfl rfl (does_assign rfl) ?_
   intro a hA
   refine seq_end ?_
   refine hK6 _ _ ?_
   refine wp_ret ?_
   refine hret _ _ ?_
   refine ends (v := .bool false) hA rfl (.cons (res_tmp rfl) .nil) rfl ?_
   exact ⟨by simp_all, hM.bel⟩
theorem equal_any {w : World} {t u : Dt} (ht : t.rd w) (hu : u.rd w) (hT : Tabs8 w) : Calls Tryz.prog 7 #[.agg (t.d.cells t.ts.length).toArray, .agg (u.d.cells u.ts.length).toArray] w fun e w' => e = .returned (.bool (equT t.tr u.tr)) ∧ Below w.heap.size w w' := by
 have hM : Mg w w ([]) := Mg.start w
 refine walk_of (l := [(0, .agg (t.d.cells t.ts.length).toArray), (1, .agg (u.d.cells u.ts.length).toArray)]) Tryz.func7 rfl Tryz.ntmps7 rfl rfl ?_
 intro Q hret hnorm hP a hA
 refine wp_seq_k (fun K1 hK1 => ?_)
 refine wp_region_lit ?_
 refine s_new (vs := [.int .i64 t.d.k, .int .i64 t.d.n, .bool t.d.y.q.b1, .slice t.d.y.o1 t.d.y.q.t1.length t.d.y.c1, .slice t.d.y.o2 t.d.y.q.q1.length t.d.y.c2, .bool t.d.y.q.b2, .slice t.d.y.o3 t.d.y.q.t2.length t.d.y.c3, .slice t.d.y.o4 t.d.y.q.q2.length t.d.y.c4, .string t.d.s, .slice t.d.ro t.d.rl.length t.d.rc, .slice t.d.lo t.ts.length t.d.lc]) (t := 30) hA hM rfl rfl rfl (fun g => .pointer (some ⟨g, 0, none⟩)) (does_box rfl rfl) (by decide) ?_
 intro g2 w3 hM a hA
 refine s_new (vs := [.int .i64 u.d.k, .int .i64 u.d.n, .bool u.d.y.q.b1, .slice u.d.y.o1 u.d.y.q.t1.length u.d.y.c1, .slice u.d.y.o2 u.d.y.q.q1.length u.d.y.c2, .bool u.d.y.q.b2, .slice u.d.y.o3 u.d.y.q.t2.length u.d.y.c3, .slice u.d.y.o4 u.d.y.q.q2.length u.d.y.c4, .string u.d.s, .slice u.d.ro u.d.rl.length u.d.rc, .slice u.d.lo u.ts.length u.d.lc]) (t := 30) hA hM rfl rfl rfl (fun g => .pointer (some ⟨g, 0, none⟩)) (does_box rfl rfl) (by decide) ?_
 intro g4 w5 hM a hA
 refine seq_do hA rfl rfl rfl (does_assign rfl) ?_
 intro a hA
 refine seq_end ?_
 refine hK1 _ _ ?_
 refine wp_seq_k (fun K6 hK6 => ?_)
 refine wp_region_lit ?_
 refine seq_do hA rfl rfl rfl (m_loadS hM EqC_isS_30 rfl 1 rfl (cs := [.int .i64 t.d.k, .int .i64 t.d.n, .bool t.d.y.q.b1, .slice t.d.y.o1 t.d.y.q.t1.length t.d.y.c1, .slice t.d.y.o2 t.d.y.q.q1.length t.d.y.c2, .bool t.d.y.q.b2, .slice t.d.y.o3 t.d.y.q.t2.length t.d.y.c3, .slice t.d.y.o4 t.d.y.q.q2.length t.d.y.c4, .string t.d.s, .slice t.d.ro t.d.rl.length t.d.rc, .slice t.d.lo t.ts.length t.d.lc]) rfl rfl) ?_
 intro a hA
 refine seq_do hA rfl rfl rfl (m_loadS hM EqC_isS_30 rfl 0 rfl (cs := [.int .i64 u.d.k, .int .i64 u.d.n, .bool u.d.y.q.b1, .slice u.d.y.o1 u.d.y.q.t1.length u.d.y.c1, .slice u.d.y.o2 u.d.y.q.q1.length u.d.y.c2, .bool u.d.y.q.b2, .slice u.d.y.o3 u.d.y.q.t2.length u.d.y.c3, .slice u.d.y.o4 u.d.y.q.q2.length u.d.y.c4, .string u.d.s, .slice u.d.ro u.d.rl.length u.d.rc, .slice u.d.lo u.ts.length u.d.lc]) rfl rfl) ?_
 intro a hA
 rcases Bool.eq_false_or_eq_true ((soundT shapeT t.tr && soundT shapeT u.tr)) with hb7 | hb7
 · refine seq_call hA rfl rfl rfl (enters_func rfl rfl (fun w => by kernel_rfl)) ((hb7 ▸ both_any (Dt.keep hM.bel _ ht) (Dt.keep hM.bel _ hu) (hT.below hM.bel))) ?_
   rintro _ w9 ⟨rfl, hb8⟩
   replace hM := hM.call hb8
   refine ⟨_, rfl, ?_⟩
   intro a hA
   refine seq_do hA rfl rfl rfl (does_move rfl) ?_
   intro a hA
   refine seq_do hA rfl rfl rfl (m_loadS hM EqC_isS_30 rfl 1 rfl (cs := [.int .i64 t.d.k, .int .i64 t.d.n, .bool t.d.y.q.b1, .slice t.d.y.o1 t.d.y.q.t1.length t.d.y.c1, .slice t.d.y.o2 t.d.y.q.q1.length t.d.y.c2, .bool t.d.y.q.b2, .slice t.d.y.o3 t.d.y.q.t2.length t.d.y.c3, .slice t.d.y.o4 t.d.y.q.q2.length t.d.y.c4, .string t.d.s, .slice t.d.ro t.d.rl.length t.d.rc, .slice t.d.lo t.ts.length t.d.lc]) rfl rfl) ?_
   intro a hA
   refine seq_do hA rfl rfl rfl (m_loadS hM EqC_isS_30 rfl 0 rfl (cs := [.int .i64 u.d.k, .int .i64 u.d.n, .bool u.d.y.q.b1, .slice u.d.y.o1 u.d.y.q.t1.length u.d.y.c1, .slice u.d.y.o2 u.d.y.q.q1.length u.d.y.c2, .bool u.d.y.q.b2, .slice u.d.y.o3 u.d.y.q.t2.length u.d.y.c3, .slice u.d.y.o4 u.d.y.q.q2.length u.d.y.c4, .string u.d.s, .slice u.d.ro u.d.rl.length u.d.rc, .slice u.d.lo u.ts.length u.d.lc]) rfl rfl) ?_
   intro a hA
   refine seq_call hA rfl rfl rfl (enters_func rfl rfl (fun w => by kernel_rfl)) (orders_all (t.tr.bulk + 1) (Nat.lt_succ_self _) (Dt.keep hM.bel _ ht) (Dt.keep hM.bel _ hu) (good_of ht (both_ok hb7).1) (good_of hu (both_ok hb7).2)) ?_
   rintro _ w11 ⟨rfl, hb10⟩
   replace hM := hM.call hb10
   refine ⟨_, rfl, ?_⟩
   intro a hA
   rcases Bool.eq_false_or_eq_true ((ordT t.tr u.tr == 0)) with hb12 | hb12
   · have hb12' := eq_of_beq hb12
     refine seq_do (v := .bool true) hA rfl rfl rfl (does_bin rfl rfl (fun w => (bin_eql w).trans (by rw [hb12]))) ?_
     intro a hA
     refine seq_do (v := .bool true) hA rfl rfl rfl (does_pick rfl rfl rfl rfl) ?_
     intro a hA
     refine seq_do hA rfl rfl rfl (does_assign rfl) ?_
     intro a hA
     refine seq_end ?_
     refine hK6 _ _ ?_
     refine wp_ret ?_
     refine hret _ _ ?_
     refine ends (v := .bool true) hA rfl (.cons (res_tmp rfl) .nil) rfl ?_
     exact ⟨by unfold equT; simp_all, hM.bel⟩
   · have hb12' := ne_of_beq_false hb12
     refine seq_do (v := .bool false) hA rfl rfl rfl (does_bin rfl rfl (fun w => (bin_eql w).trans (by rw [hb12]))) ?_
     intro a hA
     refine seq_do (v := .bool false) hA rfl rfl rfl (does_pick rfl rfl rfl rfl) ?_
     intro a hA
     refine seq_do hA rfl rfl rfl (does_assign rfl) ?_
     intro a hA
     refine seq_end ?_
     refine hK6 _ _ ?_
     refine wp_ret ?_
     refine hret _ _ ?_
     refine ends (v := .bool false) hA rfl (.cons (res_tmp rfl) .nil) rfl ?_
     exact ⟨by unfold equT; simp_all, hM.bel⟩
 · refine seq_call hA rfl rfl rfl (enters_func rfl rfl (fun w => by kernel_rfl)) ((hb7 ▸ both_any (Dt.keep hM.bel _ ht) (Dt.keep hM.bel _ hu) (hT.below hM.bel))) ?_
   rintro _ w14 ⟨rfl, hb13⟩
   replace hM := hM.call hb13
   refine ⟨_, rfl, ?_⟩
   intro a hA
   refine seq_do hA rfl rfl rfl (does_move rfl) ?_
   intro a hA
   refine seq_skip hA rfl rfl rfl ?_
   intro a hA
   refine seq_skip hA rfl rfl rfl ?_
   intro a hA
   refine seq_skip hA rfl rfl rfl ?_
   intro a hA
   refine seq_skip hA rfl rfl rfl ?_
   intro a hA
   refine seq_do (v := .bool false) hA rfl rfl rfl (does_pick rfl rfl rfl rfl) ?_
   intro a hA
   refine seq_do hA rfl rfl rfl (does_assign rfl) ?_
   intro a hA
   refine seq_end ?_
   refine hK6 _ _ ?_
   refine wp_ret ?_
   refine hret _ _ ?_
   refine ends (v := .bool false) hA rfl (.cons (res_tmp rfl) .nil) rfl ?_
   exact ⟨by unfold equT; simp_all, hM.bel⟩
theorem cmp_any {w : World} {t u : Dt} (ht : t.rd w) (hu : u.rd w) (hT : Tabs8 w) : Calls Tryz.prog 9 #[.agg (t.d.cells t.ts.length).toArray, .agg (u.d.cells u.ts.length).toArray] w fun e w' => e = .returned (.int .i64 (cmpT t.tr u.tr)) ∧ Below w.heap.size w w' := by
 have hM : Mg w w ([]) := Mg.start w
 refine walk_of (l := [(0, .agg (t.d.cells t.ts.length).toArray), (1, .agg (u.d.cells u.ts.length).toArray)]) Tryz.func9 rfl Tryz.ntmps9 rfl rfl ?_
 intro Q hret hnorm hP a hA
 refine wp_seq_k (fun K1 hK1 => ?_)
 refine wp_region_lit ?_
 refine s_new (vs := [.int .i64 t.d.k, .int .i64 t.d.n, .bool t.d.y.q.b1, .slice t.d.y.o1 t.d.y.q.t1.length t.d.y.c1, .slice t.d.y.o2 t.d.y.q.q1.length t.d.y.c2, .bool t.d.y.q.b2, .slice t.d.y.o3 t.d.y.q.t2.length t.d.y.c3, .slice t.d.y.o4 t.d.y.q.q2.length t.d.y.c4, .string t.d.s, .slice t.d.ro t.d.rl.length t.d.rc, .slice t.d.lo t.ts.length t.d.lc]) (t := 30) hA hM rfl rfl rfl (fun g => .pointer (some ⟨g, 0, none⟩)) (does_box rfl rfl) (by decide) ?_
 intro g2 w3 hM a hA
 refine s_new (vs := [.int .i64 u.d.k, .int .i64 u.d.n, .bool u.d.y.q.b1, .slice u.d.y.o1 u.d.y.q.t1.length u.d.y.c1, .slice u.d.y.o2 u.d.y.q.q1.length u.d.y.c2, .bool u.d.y.q.b2, .slice u.d.y.o3 u.d.y.q.t2.length u.d.y.c3, .slice u.d.y.o4 u.d.y.q.q2.length u.d.y.c4, .string u.d.s, .slice u.d.ro u.d.rl.length u.d.rc, .slice u.d.lo u.ts.length u.d.lc]) (t := 30) hA hM rfl rfl rfl (fun g => .pointer (some ⟨g, 0, none⟩)) (does_box rfl rfl) (by decide) ?_
 intro g4 w5 hM a hA
 refine seq_do hA rfl rfl rfl (does_assign rfl) ?_
 intro a hA
 refine seq_end ?_
 refine hK1 _ _ ?_
 refine wp_seq_k (fun K6 hK6 => ?_)
 refine wp_seq_k (fun K7 hK7 => ?_)
 refine wp_region_lit ?_
 refine seq_do hA rfl rfl rfl (m_loadS hM EqC_isS_30 rfl 1 rfl (cs := [.int .i64 t.d.k, .int .i64 t.d.n, .bool t.d.y.q.b1, .slice t.d.y.o1 t.d.y.q.t1.length t.d.y.c1, .slice t.d.y.o2 t.d.y.q.q1.length t.d.y.c2, .bool t.d.y.q.b2, .slice t.d.y.o3 t.d.y.q.t2.length t.d.y.c3, .slice t.d.y.o4 t.d.y.q.q2.length t.d.y.c4, .string t.d.s, .slice t.d.ro t.d.rl.length t.d.rc, .slice t.d.lo t.ts.length t.d.lc]) rfl rfl) ?_
 intro a hA
 refine seq_do hA rfl rfl rfl (m_loadS hM EqC_isS_30 rfl 0 rfl (cs := [.int .i64 u.d.k, .int .i64 u.d.n, .bool u.d.y.q.b1, .slice u.d.y.o1 u.d.y.q.t1.length u.d.y.c1, .slice u.d.y.o2 u.d.y.q.q1.length u.d.y.c2, .bool u.d.y.q.b2, .slice u.d.y.o3 u.d.y.q.t2.length u.d.y.c3, .slice u.d.y.o4 u.d.y.q.q2.length u.d.y.c4, .string u.d.s, .slice u.d.ro u.d.rl.length u.d.rc, .slice u.d.lo u.ts.length u.d.lc]) rfl rfl) ?_
 intro a hA
 rcases Bool.eq_false_or_eq_true ((soundT shapeT t.tr && soundT shapeT u.tr)) with hb8 | hb8
 · refine seq_call hA rfl rfl rfl (enters_func rfl rfl (fun w => by kernel_rfl)) ((hb8 ▸ both_any (Dt.keep hM.bel _ ht) (Dt.keep hM.bel _ hu) (hT.below hM.bel))) ?_
   rintro _ w10 ⟨rfl, hb9⟩
   replace hM := hM.call hb9
   refine ⟨_, rfl, ?_⟩
   intro a hA
   refine seq_do (v := .bool false) hA rfl rfl rfl (does_un rfl un_not) ?_
   intro a hA
   refine seq_end ?_
   refine hK7 _ _ ?_
   refine wp_cond_false (hA.ev rfl) ?_
   refine wp_skip ?_
   refine hK6 _ _ ?_
   refine wp_seq_k (fun K11 hK11 => ?_)
   refine wp_region_lit ?_
   refine seq_do hA rfl rfl rfl (m_loadS hM EqC_isS_30 rfl 1 rfl (cs := [.int .i64 t.d.k, .int .i64 t.d.n, .bool t.d.y.q.b1, .slice t.d.y.o1 t.d.y.q.t1.length t.d.y.c1, .slice t.d.y.o2 t.d.y.q.q1.length t.d.y.c2, .bool t.d.y.q.b2, .slice t.d.y.o3 t.d.y.q.t2.length t.d.y.c3, .slice t.d.y.o4 t.d.y.q.q2.length t.d.y.c4, .string t.d.s, .slice t.d.ro t.d.rl.length t.d.rc, .slice t.d.lo t.ts.length t.d.lc]) rfl rfl) ?_
   intro a hA
   refine seq_do hA rfl rfl rfl (m_loadS hM EqC_isS_30 rfl 0 rfl (cs := [.int .i64 u.d.k, .int .i64 u.d.n, .bool u.d.y.q.b1, .slice u.d.y.o1 u.d.y.q.t1.length u.d.y.c1, .slice u.d.y.o2 u.d.y.q.q1.length u.d.y.c2, .bool u.d.y.q.b2, .slice u.d.y.o3 u.d.y.q.t2.length u.d.y.c3, .slice u.d.y.o4 u.d.y.q.q2.length u.d.y.c4, .string u.d.s, .slice u.d.ro u.d.rl.length u.d.rc, .slice u.d.lo u.ts.length u.d.lc]) rfl rfl) ?_
   intro a hA
   refine seq_call hA rfl rfl rfl (enters_func rfl rfl (fun w => by kernel_rfl)) (orders_all (t.tr.bulk + 1) (Nat.lt_succ_self _) (Dt.keep hM.bel _ ht) (Dt.keep hM.bel _ hu) (good_of ht (both_ok hb8).1) (good_of hu (both_ok hb8).2)) ?_
   rintro _ w13 ⟨rfl, hb12⟩
   replace hM := hM.call hb12
   refine ⟨_, rfl, ?_⟩
   intro a hA
   refine seq_do hA rfl rfl rfl (does_assign rfl) ?_
   intro a hA
   refine seq_end ?_
   refine hK11 _ _ ?_
   refine wp_ret ?_
   refine hret _ _ ?_
   refine ends (v := .int .i64 (ordT t.tr u.tr)) hA rfl (.cons (res_tmp rfl) .nil) rfl ?_
   exact ⟨by unfold cmpT; rw [if_pos (both_ok hb8)], hM.bel⟩
 · refine seq_call hA rfl rfl rfl (enters_func rfl rfl (fun w => by kernel_rfl)) ((hb8 ▸ both_any (Dt.keep hM.bel _ ht) (Dt.keep hM.bel _ hu) (hT.below hM.bel))) ?_
   rintro _ w15 ⟨rfl, hb14⟩
   replace hM := hM.call hb14
   refine ⟨_, rfl, ?_⟩
   intro a hA
   refine seq_do (v := .bool true) hA rfl rfl rfl (does_un rfl un_not) ?_
   intro a hA
   refine seq_end ?_
   refine hK7 _ _ ?_
   refine wp_cond_true (hA.ev rfl) ?_
   refine wp_seq_k (fun K16 hK16 => ?_)
   refine wp_region_lit ?_
   refine seq_do hA rfl rfl rfl (does_assign rfl) ?_
   intro a hA
   refine seq_end ?_
   refine hK16 _ _ ?_
   refine wp_ret ?_
   refine hret _ _ ?_
   refine ends (v := .int .i64 0) hA rfl (.cons (res_tmp rfl) .nil) rfl ?_
   exact ⟨by unfold cmpT; rw [if_neg (both_no hb8)], hM.bel⟩
theorem EqD_isS_30 : IsS Tryz.prog 30 11 := ⟨⟨_, Tryz.underlying30⟩, by kernel_rfl⟩
theorem acmp_any {w : World} (hT : Tabs8 w) : Calls Tryz.prog 9 #[.agg #[.int .i64 2, .int .i64 0, .bool false, .slice none 0 0, .slice none 0 0, .bool false, .slice none 0 0, .slice none 0 0, .string (⟨#[]⟩), .slice none 0 0, .slice none 0 0], .agg #[.int .i64 2, .int .i64 1, .bool false, .slice none 0 0, .slice none 0 0, .bool false, .slice none 0 0, .slice none 0 0, .string (⟨#[]⟩), .slice none 0 0, .slice none 0 0]] w fun e w' => e = .returned (.int .i64 (-1)) ∧ Below w.heap.size w w' := by
  have h := cmp_any (t := bDt 0) (u := bDt 1) (b_rd (.inl rfl) w) (b_rd (.inr rfl) w) hT
  rw [b_cmp] at h
  exact h
theorem aequ1_any {w : World} (hT : Tabs8 w) : Calls Tryz.prog 7 #[.agg #[.int .i64 2, .int .i64 1, .bool false, .slice none 0 0, .slice none 0 0, .bool false, .slice none 0 0, .slice none 0 0, .string (⟨#[]⟩), .slice none 0 0, .slice none 0 0], .agg #[.int .i64 2, .int .i64 1, .bool false, .slice none 0 0, .slice none 0 0, .bool false, .slice none 0 0, .slice none 0 0, .string (⟨#[]⟩), .slice none 0 0, .slice none 0 0]] w fun e w' => e = .returned (.bool true) ∧ Below w.heap.size w w' := by
  have h := equal_any (t := bDt 1) (u := bDt 1) (b_rd (.inr rfl) w) (b_rd (.inr rfl) w) hT
  rw [b_equ (.inr rfl) (.inr rfl)] at h
  exact h
theorem aequ0_any {w : World} (hT : Tabs8 w) : Calls Tryz.prog 7 #[.agg #[.int .i64 2, .int .i64 0, .bool false, .slice none 0 0, .slice none 0 0, .bool false, .slice none 0 0, .slice none 0 0, .string (⟨#[]⟩), .slice none 0 0, .slice none 0 0], .agg #[.int .i64 2, .int .i64 1, .bool false, .slice none 0 0, .slice none 0 0, .bool false, .slice none 0 0, .slice none 0 0, .string (⟨#[]⟩), .slice none 0 0, .slice none 0 0]] w fun e w' => e = .returned (.bool false) ∧ Below w.heap.size w w' := by
  have h := equal_any (t := bDt 0) (u := bDt 1) (b_rd (.inl rfl) w) (b_rd (.inr rfl) w) hT
  rw [b_equ (.inl rfl) (.inr rfl)] at h
  exact h
theorem awake_any {w : World} (hT : Tabs8 w) : Calls Tryz.prog 6 #[] w fun e w' => e = .returned (.bool true) ∧ Below w.heap.size w w' := by
 have hM : Mg w w ([]) := Mg.start w
 refine walk_of (l := []) Tryz.func6 rfl Tryz.ntmps6 rfl rfl ?_
 intro Q hret hnorm hP a hA
 refine wp_seq_k (fun K1 hK1 => ?_)
 refine wp_region_lit ?_
 refine seq_do hA rfl rfl rfl (does_assign rfl) ?_
 intro a hA
 refine seq_end ?_
 refine hK1 _ _ ?_
 refine wp_seq_k (fun K2 hK2 => ?_)
 refine wp_region_lit ?_
 refine seq_do (v := .agg #[.int .i64 2, .int .i64 0, .bool false, .slice none 0 0, .slice none 0 0, .bool false, .slice none 0 0, .slice none 0 0, .string (⟨#[]⟩), .slice none 0 0, .slice none 0 0]) hA rfl rfl rfl (does_build rfl (fun w => by kernel_rfl)) ?_
 intro a hA
 refine seq_do (v := .agg #[.int .i64 2, .int .i64 1, .bool false, .slice none 0 0, .slice none 0 0, .bool false, .slice none 0 0, .slice none 0 0, .string (⟨#[]⟩), .slice none 0 0, .slice none 0 0]) hA rfl rfl rfl (does_build rfl (fun w => by kernel_rfl)) ?_
 intro a hA
 refine s_new (vs := [.int .i64 0, .int .i64 0, .bool false, .slice none 0 0, .slice none 0 0, .bool false, .slice none 0 0, .slice none 0 0, .string (⟨#[]⟩), .slice none 0 0, .slice none 0 0]) (t := 30) hA hM rfl rfl rfl (fun g => .pointer (some ⟨g, 0, none⟩)) (does_alloc (z := .agg #[.int .i64 0, .int .i64 0, .bool false, .slice none 0 0, .slice none 0 0, .bool false, .slice none 0 0, .slice none 0 0, .string (⟨#[]⟩), .slice none 0 0, .slice none 0 0]) (by kernel_rfl) rfl) (by decide) ?_
 intro g3 w4 hM a hA
 refine s_new (vs := [.int .i64 0, .int .i64 0, .bool false, .slice none 0 0, .slice none 0 0, .bool false, .slice none 0 0, .slice none 0 0, .string (⟨#[]⟩), .slice none 0 0, .slice none 0 0]) (t := 30) hA hM rfl rfl rfl (fun g => .pointer (some ⟨g, 0, none⟩)) (does_alloc (z := .agg #[.int .i64 0, .int .i64 0, .bool false, .slice none 0 0, .slice none 0 0, .bool false, .slice none 0 0, .slice none 0 0, .string (⟨#[]⟩), .slice none 0 0, .slice none 0 0]) (by kernel_rfl) rfl) (by decide) ?_
 intro g5 w6 hM a hA
 refine s_store (us := [.int .i64 2, .int .i64 0, .bool false, .slice none 0 0, .slice none 0 0, .bool false, .slice none 0 0, .slice none 0 0, .string (⟨#[]⟩), .slice none 0 0, .slice none 0 0]) (L' := (.obj g5 (.cells #[.int .i64 0, .int .i64 0, .bool false, .slice none 0 0, .slice none 0 0, .bool false, .slice none 0 0, .slice none 0 0, .string (⟨#[]⟩), .slice none 0 0, .slice none 0 0] 30) :: .obj g3 (.cells #[.int .i64 2, .int .i64 0, .bool false, .slice none 0 0, .slice none 0 0, .bool false, .slice none 0 0, .slice none 0 0, .string (⟨#[]⟩), .slice none 0 0, .slice none 0 0] 30) :: [])) hA hM rfl rfl (m_store rfl rfl rfl (by kernel_rfl) hM 1 rfl rfl rfl) 1 rfl rfl rfl ?_
 intro w7 hM
 refine s_store (us := [.int .i64 2, .int .i64 1, .bool false, .slice none 0 0, .slice none 0 0, .bool false, .slice none 0 0, .slice none 0 0, .string (⟨#[]⟩), .slice none 0 0, .slice none 0 0]) (L' := (.obj g5 (.cells #[.int .i64 2, .int .i64 1, .bool false, .slice none 0 0, .slice none 0 0, .bool false, .slice none 0 0, .slice none 0 0, .string (⟨#[]⟩), .slice none 0 0, .slice none 0 0] 30) :: .obj g3 (.cells #[.int .i64 2, .int .i64 0, .bool false, .slice none 0 0, .slice none 0 0, .bool false, .slice none 0 0, .slice none 0 0, .string (⟨#[]⟩), .slice none 0 0, .slice none 0 0] 30) :: [])) hA hM rfl rfl (m_store rfl rfl rfl (by kernel_rfl) hM 0 rfl rfl rfl) 0 rfl rfl rfl ?_
 intro w8 hM
 refine seq_end ?_
 refine hK2 _ _ ?_
 refine wp_seq_k (fun K9 hK9 => ?_)
 refine wp_region_lit ?_
 refine seq_do hA rfl rfl rfl (m_loadS hM EqD_isS_30 rfl 1 rfl (cs := [.int .i64 2, .int .i64 0, .bool false, .slice none 0 0, .slice none 0 0, .bool false, .slice none 0 0, .slice none 0 0, .string (⟨#[]⟩), .slice none 0 0, .slice none 0 0]) rfl rfl) ?_
 intro a hA
 refine seq_do hA rfl rfl rfl (m_loadS hM EqD_isS_30 rfl 0 rfl (cs := [.int .i64 2, .int .i64 1, .bool false, .slice none 0 0, .slice none 0 0, .bool false, .slice none 0 0, .slice none 0 0, .string (⟨#[]⟩), .slice none 0 0, .slice none 0 0]) rfl rfl) ?_
 intro a hA
 refine seq_call hA rfl rfl rfl (enters_func rfl rfl (fun w => by kernel_rfl)) (acmp_any (hT.below hM.bel)) ?_
 rintro _ w11 ⟨rfl, hb10⟩
 replace hM := hM.call hb10
 refine ⟨_, rfl, ?_⟩
 intro a hA
 refine seq_do (v := .bool true) hA rfl rfl rfl (does_bin rfl rfl (fun w => by kernel_rfl)) ?_
 intro a hA
 refine seq_do hA rfl rfl rfl (does_move rfl) ?_
 intro a hA
 refine seq_do hA rfl rfl rfl (m_loadS hM EqD_isS_30 rfl 0 rfl (cs := [.int .i64 2, .int .i64 1, .bool false, .slice none 0 0, .slice none 0 0, .bool false, .slice none 0 0, .slice none 0 0, .string (⟨#[]⟩), .slice none 0 0, .slice none 0 0]) rfl rfl) ?_
 intro a hA
 refine seq_do hA rfl rfl rfl (m_loadS hM EqD_isS_30 rfl 0 rfl (cs := [.int .i64 2, .int .i64 1, .bool false, .slice none 0 0, .slice none 0 0, .bool false, .slice none 0 0, .slice none 0 0, .string (⟨#[]⟩), .slice none 0 0, .slice none 0 0]) rfl rfl) ?_
 intro a hA
 refine seq_call hA rfl rfl rfl (enters_func rfl rfl (fun w => by kernel_rfl)) (aequ1_any (hT.below hM.bel)) ?_
 rintro _ w13 ⟨rfl, hb12⟩
 replace hM := hM.call hb12
 refine ⟨_, rfl, ?_⟩
 intro a hA
 refine seq_do (v := .bool true) hA rfl rfl rfl (does_pick rfl rfl rfl rfl) ?_
 intro a hA
 refine seq_do hA rfl rfl rfl (does_move rfl) ?_
 intro a hA
 refine seq_do hA rfl rfl rfl (m_loadS hM EqD_isS_30 rfl 1 rfl (cs := [.int .i64 2, .int .i64 0, .bool false, .slice none 0 0, .slice none 0 0, .bool false, .slice none 0 0, .slice none 0 0, .string (⟨#[]⟩), .slice none 0 0, .slice none 0 0]) rfl rfl) ?_
 intro a hA
 refine seq_do hA rfl rfl rfl (m_loadS hM EqD_isS_30 rfl 0 rfl (cs := [.int .i64 2, .int .i64 1, .bool false, .slice none 0 0, .slice none 0 0, .bool false, .slice none 0 0, .slice none 0 0, .string (⟨#[]⟩), .slice none 0 0, .slice none 0 0]) rfl rfl) ?_
 intro a hA
 refine seq_call hA rfl rfl rfl (enters_func rfl rfl (fun w => by kernel_rfl)) (aequ0_any (hT.below hM.bel)) ?_
 rintro _ w15 ⟨rfl, hb14⟩
 replace hM := hM.call hb14
 refine ⟨_, rfl, ?_⟩
 intro a hA
 refine seq_do (v := .bool true) hA rfl rfl rfl (does_un rfl un_not) ?_
 intro a hA
 refine seq_do (v := .bool true) hA rfl rfl rfl (does_pick rfl rfl rfl rfl) ?_
 intro a hA
 refine seq_do hA rfl rfl rfl (does_assign rfl) ?_
 intro a hA
 refine seq_end ?_
 refine hK9 _ _ ?_
 refine wp_ret ?_
 refine hret _ _ ?_
 refine ends (v := .bool true) hA rfl (.cons (res_tmp rfl) .nil) rfl ?_
 exact ⟨rfl, hM.bel⟩
set_option maxHeartbeats 4000000 in
theorem equalOrders_any {w : World} {t u v : Dt} (ht : t.rd w) (hu : u.rd w) (hv : v.rd w) (hT : Tabs8 w) (bt : t.tr.bulk ≤ 1048576) (bu : u.tr.bulk ≤ 1048576) (bv : v.tr.bulk ≤ 1048576) : Calls Tryz.prog 4 #[.agg (t.d.cells t.ts.length).toArray, .agg (u.d.cells u.ts.length).toArray, .agg (v.d.cells v.ts.length).toArray] w fun e w' => e = .returned (.bool true) ∧ Below w.heap.size w w' := by
 have c1 := cmpT_range t.tr u.tr
 have c2 := cmpT_range u.tr v.tr
 have c3 := cmpT_range t.tr v.tr
 have hM : Mg w w ([]) := Mg.start w
 refine walk_of (l := [(0, .agg (t.d.cells t.ts.length).toArray), (1, .agg (u.d.cells u.ts.length).toArray), (2, .agg (v.d.cells v.ts.length).toArray)]) Tryz.func4 rfl Tryz.ntmps4 rfl rfl ?_
 intro Q hret hnorm hP a hA
 refine wp_seq_k (fun K1 hK1 => ?_)
 refine wp_region_lit ?_
 refine s_new (vs := [.int .i64 t.d.k, .int .i64 t.d.n, .bool t.d.y.q.b1, .slice t.d.y.o1 t.d.y.q.t1.length t.d.y.c1, .slice t.d.y.o2 t.d.y.q.q1.length t.d.y.c2, .bool t.d.y.q.b2, .slice t.d.y.o3 t.d.y.q.t2.length t.d.y.c3, .slice t.d.y.o4 t.d.y.q.q2.length t.d.y.c4, .string t.d.s, .slice t.d.ro t.d.rl.length t.d.rc, .slice t.d.lo t.ts.length t.d.lc]) (t := 30) hA hM rfl rfl rfl (fun g => .pointer (some ⟨g, 0, none⟩)) (does_box rfl rfl) (by decide) ?_
 intro g2 w3 hM a hA
 refine s_new (vs := [.int .i64 u.d.k, .int .i64 u.d.n, .bool u.d.y.q.b1, .slice u.d.y.o1 u.d.y.q.t1.length u.d.y.c1, .slice u.d.y.o2 u.d.y.q.q1.length u.d.y.c2, .bool u.d.y.q.b2, .slice u.d.y.o3 u.d.y.q.t2.length u.d.y.c3, .slice u.d.y.o4 u.d.y.q.q2.length u.d.y.c4, .string u.d.s, .slice u.d.ro u.d.rl.length u.d.rc, .slice u.d.lo u.ts.length u.d.lc]) (t := 30) hA hM rfl rfl rfl (fun g => .pointer (some ⟨g, 0, none⟩)) (does_box rfl rfl) (by decide) ?_
 intro g4 w5 hM a hA
 refine s_new (vs := [.int .i64 v.d.k, .int .i64 v.d.n, .bool v.d.y.q.b1, .slice v.d.y.o1 v.d.y.q.t1.length v.d.y.c1, .slice v.d.y.o2 v.d.y.q.q1.length v.d.y.c2, .bool v.d.y.q.b2, .slice v.d.y.o3 v.d.y.q.t2.length v.d.y.c3, .slice v.d.y.o4 v.d.y.q.q2.length v.d.y.c4, .string v.d.s, .slice v.d.ro v.d.rl.length v.d.rc, .slice v.d.lo v.ts.length v.d.lc]) (t := 30) hA hM rfl rfl rfl (fun g => .pointer (some ⟨g, 0, none⟩)) (does_box rfl rfl) (by decide) ?_
 intro g6 w7 hM a hA
 refine seq_do hA rfl rfl rfl (does_assign rfl) ?_
 intro a hA
 refine seq_end ?_
 refine hK1 _ _ ?_
 refine wp_seq_k (fun K8 hK8 => ?_)
 refine wp_draw (S := fun w1 => Mg w w1 (.obj g6 (.cells (v.d.cells v.ts.length).toArray 30) :: .obj g4 (.cells (u.d.cells u.ts.length).toArray 30) :: .obj g2 (.cells (t.d.cells t.ts.length).toArray 30) :: [])) (by kernel_rfl) ?_
 replace hM := hM.drew
 refine any_tk hA 0 rfl rfl rfl rfl hP (hM.sub (.cons_cons _ (.cons_cons _ (.cons_cons _ (List.nil_sublist _))))) (fun w1 hM => m_loadS hM EqD_isS_30 rfl 2 rfl (cs := [.int .i64 t.d.k, .int .i64 t.d.n, .bool t.d.y.q.b1, .slice t.d.y.o1 t.d.y.q.t1.length t.d.y.c1, .slice t.d.y.o2 t.d.y.q.q1.length t.d.y.c2, .bool t.d.y.q.b2, .slice t.d.y.o3 t.d.y.q.t2.length t.d.y.c3, .slice t.d.y.o4 t.d.y.q.q2.length t.d.y.c4, .string t.d.s, .slice t.d.ro t.d.rl.length t.d.rc, .slice t.d.lo t.ts.length t.d.lc]) rfl rfl) ?_
 intro a hA
 refine any_tk hA 1 rfl rfl rfl rfl hP (hM.sub (.cons_cons _ (.cons_cons _ (.cons_cons _ (List.nil_sublist _))))) (fun w1 hM => m_loadS hM EqD_isS_30 rfl 1 rfl (cs := [.int .i64 u.d.k, .int .i64 u.d.n, .bool u.d.y.q.b1, .slice u.d.y.o1 u.d.y.q.t1.length u.d.y.c1, .slice u.d.y.o2 u.d.y.q.q1.length u.d.y.c2, .bool u.d.y.q.b2, .slice u.d.y.o3 u.d.y.q.t2.length u.d.y.c3, .slice u.d.y.o4 u.d.y.q.q2.length u.d.y.c4, .string u.d.s, .slice u.d.ro u.d.rl.length u.d.rc, .slice u.d.lo u.ts.length u.d.lc]) rfl rfl) ?_
 intro a hA
 refine any_tk hA 3 rfl rfl rfl rfl hP (hM.sub (.cons_cons _ (.cons_cons _ (.cons_cons _ (List.nil_sublist _))))) (fun w1 hM => m_loadS hM EqD_isS_30 rfl 1 rfl (cs := [.int .i64 u.d.k, .int .i64 u.d.n, .bool u.d.y.q.b1, .slice u.d.y.o1 u.d.y.q.t1.length u.d.y.c1, .slice u.d.y.o2 u.d.y.q.q1.length u.d.y.c2, .bool u.d.y.q.b2, .slice u.d.y.o3 u.d.y.q.t2.length u.d.y.c3, .slice u.d.y.o4 u.d.y.q.q2.length u.d.y.c4, .string u.d.s, .slice u.d.ro u.d.rl.length u.d.rc, .slice u.d.lo u.ts.length u.d.lc]) rfl rfl) ?_
 intro a hA
 refine any_tk hA 4 rfl rfl rfl rfl hP (hM.sub (.cons_cons _ (.cons_cons _ (.cons_cons _ (List.nil_sublist _))))) (fun w1 hM => m_loadS hM EqD_isS_30 rfl 0 rfl (cs := [.int .i64 v.d.k, .int .i64 v.d.n, .bool v.d.y.q.b1, .slice v.d.y.o1 v.d.y.q.t1.length v.d.y.c1, .slice v.d.y.o2 v.d.y.q.q1.length v.d.y.c2, .bool v.d.y.q.b2, .slice v.d.y.o3 v.d.y.q.t2.length v.d.y.c3, .slice v.d.y.o4 v.d.y.q.q2.length v.d.y.c4, .string v.d.s, .slice v.d.ro v.d.rl.length v.d.rc, .slice v.d.lo v.ts.length v.d.lc]) rfl rfl) ?_
 intro a hA
 refine any_tk hA 6 rfl rfl rfl rfl hP (hM.sub (.cons_cons _ (.cons_cons _ (.cons_cons _ (List.nil_sublist _))))) (fun w1 hM => m_loadS hM EqD_isS_30 rfl 2 rfl (cs := [.int .i64 t.d.k, .int .i64 t.d.n, .bool t.d.y.q.b1, .slice t.d.y.o1 t.d.y.q.t1.length t.d.y.c1, .slice t.d.y.o2 t.d.y.q.q1.length t.d.y.c2, .bool t.d.y.q.b2, .slice t.d.y.o3 t.d.y.q.t2.length t.d.y.c3, .slice t.d.y.o4 t.d.y.q.q2.length t.d.y.c4, .string t.d.s, .slice t.d.ro t.d.rl.length t.d.rc, .slice t.d.lo t.ts.length t.d.lc]) rfl rfl) ?_
 intro a hA
 refine any_tk hA 7 rfl rfl rfl rfl hP (hM.sub (.cons_cons _ (.cons_cons _ (.cons_cons _ (List.nil_sublist _))))) (fun w1 hM => m_loadS hM EqD_isS_30 rfl 0 rfl (cs := [.int .i64 v.d.k, .int .i64 v.d.n, .bool v.d.y.q.b1, .slice v.d.y.o1 v.d.y.q.t1.length v.d.y.c1, .slice v.d.y.o2 v.d.y.q.q1.length v.d.y.c2, .bool v.d.y.q.b2, .slice v.d.y.o3 v.d.y.q.t2.length v.d.y.c3, .slice v.d.y.o4 v.d.y.q.q2.length v.d.y.c4, .string v.d.s, .slice v.d.ro v.d.rl.length v.d.rc, .slice v.d.lo v.ts.length v.d.lc]) rfl rfl) ?_
 intro a hA
 refine any_one (by kernel_rfl) (op_call hA 2 rfl rfl rfl rfl (enters_func rfl rfl (fun w => by kernel_rfl)) (cmp_any (Dt.keep hM.bel _ ht) (Dt.keep hM.bel _ hu) (hT.below hM.bel)) ?_)
 rintro _ w10 ⟨rfl, hb9⟩
 replace hM := hM.call hb9
 refine ⟨_, rfl, (hM.sub (.cons_cons _ (.cons_cons _ (.cons_cons _ (List.nil_sublist _))))), ?_⟩
 intro a hA
 refine any_one (by kernel_rfl) (op_call hA 5 rfl rfl rfl rfl (enters_func rfl rfl (fun w => by kernel_rfl)) (cmp_any (Dt.keep hM.bel _ hu) (Dt.keep hM.bel _ hv) (hT.below hM.bel)) ?_)
 rintro _ w12 ⟨rfl, hb11⟩
 replace hM := hM.call hb11
 refine ⟨_, rfl, (hM.sub (.cons_cons _ (.cons_cons _ (.cons_cons _ (List.nil_sublist _))))), ?_⟩
 intro a hA
 refine any_one (by kernel_rfl) (op_call hA 8 rfl rfl rfl rfl (enters_func rfl rfl (fun w => by kernel_rfl)) (cmp_any (Dt.keep hM.bel _ ht) (Dt.keep hM.bel _ hv) (hT.below hM.bel)) ?_)
 rintro _ w14 ⟨rfl, hb13⟩
 replace hM := hM.call hb13
 refine ⟨_, rfl, (hM.sub (.cons_cons _ (.cons_cons _ (.cons_cons _ (List.nil_sublist _))))), ?_⟩
 intro a hA
 refine any_tk hA 9 rfl rfl rfl rfl hP (hM.sub (.cons_cons _ (.cons_cons _ (.cons_cons _ (List.nil_sublist _))))) (fun w1 hM => does_assign rfl) ?_
 intro a hA
 refine any_tk hA 10 rfl rfl rfl rfl hP (hM.sub (.cons_cons _ (.cons_cons _ (.cons_cons _ (List.nil_sublist _))))) (fun w1 hM => does_assign rfl) ?_
 intro a hA
 refine any_tk hA 11 rfl rfl rfl rfl hP (hM.sub (.cons_cons _ (.cons_cons _ (.cons_cons _ (List.nil_sublist _))))) (fun w1 hM => does_assign rfl) ?_
 intro a hA
 refine any_end (by kernel_rfl) ?_
 refine hK8 _ _ ?_
 refine wp_seq_k (fun K15 hK15 => ?_)
 refine wp_seq_k (fun K16 hK16 => ?_)
 refine wp_region_lit ?_
 refine seq_call hA rfl rfl rfl (enters_func rfl rfl (fun w => by kernel_rfl)) (awake_any (hT.below hM.bel)) ?_
 rintro _ w18 ⟨rfl, hb17⟩
 replace hM := hM.call hb17
 refine ⟨_, rfl, ?_⟩
 intro a hA
 refine seq_do (v := .bool false) hA rfl rfl rfl (does_un rfl un_not) ?_
 intro a hA
 refine seq_do hA rfl rfl rfl (does_move rfl) ?_
 intro a hA
 refine seq_do hA rfl rfl rfl (m_loadS hM EqD_isS_30 rfl 1 rfl (cs := [.int .i64 u.d.k, .int .i64 u.d.n, .bool u.d.y.q.b1, .slice u.d.y.o1 u.d.y.q.t1.length u.d.y.c1, .slice u.d.y.o2 u.d.y.q.q1.length u.d.y.c2, .bool u.d.y.q.b2, .slice u.d.y.o3 u.d.y.q.t2.length u.d.y.c3, .slice u.d.y.o4 u.d.y.q.q2.length u.d.y.c4, .string u.d.s, .slice u.d.ro u.d.rl.length u.d.rc, .slice u.d.lo u.ts.length u.d.lc]) rfl rfl) ?_
 intro a hA
 refine seq_do hA rfl rfl rfl (m_loadS hM EqD_isS_30 rfl 2 rfl (cs := [.int .i64 t.d.k, .int .i64 t.d.n, .bool t.d.y.q.b1, .slice t.d.y.o1 t.d.y.q.t1.length t.d.y.c1, .slice t.d.y.o2 t.d.y.q.q1.length t.d.y.c2, .bool t.d.y.q.b2, .slice t.d.y.o3 t.d.y.q.t2.length t.d.y.c3, .slice t.d.y.o4 t.d.y.q.q2.length t.d.y.c4, .string t.d.s, .slice t.d.ro t.d.rl.length t.d.rc, .slice t.d.lo t.ts.length t.d.lc]) rfl rfl) ?_
 intro a hA
 refine seq_call hA rfl rfl rfl (enters_func rfl rfl (fun w => by kernel_rfl)) (cmp_any (Dt.keep hM.bel _ hu) (Dt.keep hM.bel _ ht) (hT.below hM.bel)) ?_
 rintro _ w20 ⟨rfl, hb19⟩
 replace hM := hM.call hb19
 refine ⟨_, rfl, ?_⟩
 intro a hA
 refine seq_do hA rfl rfl rfl (does_move rfl) ?_
 intro a hA
 refine seq_do (v := .int .i64 (-(cmpT t.tr u.tr))) hA rfl rfl rfl (does_un rfl (ar_neg (in_i64 (by omega) (by omega)))) ?_
 intro a hA
 refine seq_do (v := .bool false) hA rfl rfl rfl (does_bin rfl rfl (fun w => (bin_neq w).trans (by rw [show ((cmpT u.tr t.tr != -(cmpT t.tr u.tr))) = false from (bne_eq_false_iff_eq.2 (cmpT_turn _ _))]))) ?_
 intro a hA
 refine seq_do (v := .bool false) hA rfl rfl rfl (does_pick rfl rfl rfl rfl) ?_
 intro a hA
 refine seq_do hA rfl rfl rfl (does_move rfl) ?_
 intro a hA
 refine seq_do hA rfl rfl rfl (m_loadS hM EqD_isS_30 rfl 2 rfl (cs := [.int .i64 t.d.k, .int .i64 t.d.n, .bool t.d.y.q.b1, .slice t.d.y.o1 t.d.y.q.t1.length t.d.y.c1, .slice t.d.y.o2 t.d.y.q.q1.length t.d.y.c2, .bool t.d.y.q.b2, .slice t.d.y.o3 t.d.y.q.t2.length t.d.y.c3, .slice t.d.y.o4 t.d.y.q.q2.length t.d.y.c4, .string t.d.s, .slice t.d.ro t.d.rl.length t.d.rc, .slice t.d.lo t.ts.length t.d.lc]) rfl rfl) ?_
 intro a hA
 refine seq_do hA rfl rfl rfl (m_loadS hM EqD_isS_30 rfl 2 rfl (cs := [.int .i64 t.d.k, .int .i64 t.d.n, .bool t.d.y.q.b1, .slice t.d.y.o1 t.d.y.q.t1.length t.d.y.c1, .slice t.d.y.o2 t.d.y.q.q1.length t.d.y.c2, .bool t.d.y.q.b2, .slice t.d.y.o3 t.d.y.q.t2.length t.d.y.c3, .slice t.d.y.o4 t.d.y.q.q2.length t.d.y.c4, .string t.d.s, .slice t.d.ro t.d.rl.length t.d.rc, .slice t.d.lo t.ts.length t.d.lc]) rfl rfl) ?_
 intro a hA
 refine seq_call hA rfl rfl rfl (enters_func rfl rfl (fun w => by kernel_rfl)) (cmp_any (Dt.keep hM.bel _ ht) (Dt.keep hM.bel _ ht) (hT.below hM.bel)) ?_
 rintro _ w22 ⟨rfl, hb21⟩
 replace hM := hM.call hb21
 refine ⟨_, rfl, ?_⟩
 intro a hA
 refine seq_do (v := .bool false) hA rfl rfl rfl (does_bin rfl rfl (fun w => (bin_neq w).trans (by rw [show ((cmpT t.tr t.tr != 0)) = false from (bne_eq_false_iff_eq.2 (cmpT_self _))]))) ?_
 intro a hA
 refine seq_do (v := .bool false) hA rfl rfl rfl (does_pick rfl rfl rfl rfl) ?_
 intro a hA
 refine seq_end ?_
 refine hK16 _ _ ?_
 refine wp_cond_false (hA.ev rfl) ?_
 refine wp_skip ?_
 refine hK15 _ _ ?_
 refine wp_seq_k (fun K23 hK23 => ?_)
 refine wp_seq_k (fun K24 hK24 => ?_)
 refine wp_region_lit ?_
 refine seq_do hA rfl rfl rfl (m_loadS hM EqD_isS_30 rfl 2 rfl (cs := [.int .i64 t.d.k, .int .i64 t.d.n, .bool t.d.y.q.b1, .slice t.d.y.o1 t.d.y.q.t1.length t.d.y.c1, .slice t.d.y.o2 t.d.y.q.q1.length t.d.y.c2, .bool t.d.y.q.b2, .slice t.d.y.o3 t.d.y.q.t2.length t.d.y.c3, .slice t.d.y.o4 t.d.y.q.q2.length t.d.y.c4, .string t.d.s, .slice t.d.ro t.d.rl.length t.d.rc, .slice t.d.lo t.ts.length t.d.lc]) rfl rfl) ?_
 intro a hA
 rcases Bool.eq_false_or_eq_true (soundT shapeT t.tr) with hb25 | hb25
 · refine seq_call hA rfl rfl rfl (enters_func rfl rfl (fun w => by kernel_rfl)) ((hb25 ▸ rsound_any (t := t) (Dt.keep hM.bel _ ht) (by omega))) ?_
   rintro _ w27 ⟨rfl, hb26⟩
   replace hM := hM.call hb26
   refine ⟨_, rfl, ?_⟩
   intro a hA
   refine seq_do (v := .bool false) hA rfl rfl rfl (does_un rfl un_not) ?_
   intro a hA
   refine seq_do hA rfl rfl rfl (does_move rfl) ?_
   intro a hA
   refine seq_do hA rfl rfl rfl (m_loadS hM EqD_isS_30 rfl 1 rfl (cs := [.int .i64 u.d.k, .int .i64 u.d.n, .bool u.d.y.q.b1, .slice u.d.y.o1 u.d.y.q.t1.length u.d.y.c1, .slice u.d.y.o2 u.d.y.q.q1.length u.d.y.c2, .bool u.d.y.q.b2, .slice u.d.y.o3 u.d.y.q.t2.length u.d.y.c3, .slice u.d.y.o4 u.d.y.q.q2.length u.d.y.c4, .string u.d.s, .slice u.d.ro u.d.rl.length u.d.rc, .slice u.d.lo u.ts.length u.d.lc]) rfl rfl) ?_
   intro a hA
   rcases Bool.eq_false_or_eq_true (soundT shapeT u.tr) with hb28 | hb28
   · refine seq_call hA rfl rfl rfl (enters_func rfl rfl (fun w => by kernel_rfl)) ((hb28 ▸ rsound_any (t := u) (Dt.keep hM.bel _ hu) (by omega))) ?_
     rintro _ w30 ⟨rfl, hb29⟩
     replace hM := hM.call hb29
     refine ⟨_, rfl, ?_⟩
     intro a hA
     refine seq_do (v := .bool false) hA rfl rfl rfl (does_un rfl un_not) ?_
     intro a hA
     refine seq_do (v := .bool false) hA rfl rfl rfl (does_pick rfl rfl rfl rfl) ?_
     intro a hA
     refine seq_do hA rfl rfl rfl (does_move rfl) ?_
     intro a hA
     refine seq_do hA rfl rfl rfl (m_loadS hM EqD_isS_30 rfl 0 rfl (cs := [.int .i64 v.d.k, .int .i64 v.d.n, .bool v.d.y.q.b1, .slice v.d.y.o1 v.d.y.q.t1.length v.d.y.c1, .slice v.d.y.o2 v.d.y.q.q1.length v.d.y.c2, .bool v.d.y.q.b2, .slice v.d.y.o3 v.d.y.q.t2.length v.d.y.c3, .slice v.d.y.o4 v.d.y.q.q2.length v.d.y.c4, .string v.d.s, .slice v.d.ro v.d.rl.length v.d.rc, .slice v.d.lo v.ts.length v.d.lc]) rfl rfl) ?_
     intro a hA
     rcases Bool.eq_false_or_eq_true (soundT shapeT v.tr) with hb31 | hb31
     · refine seq_call hA rfl rfl rfl (enters_func rfl rfl (fun w => by kernel_rfl)) ((hb31 ▸ rsound_any (t := v) (Dt.keep hM.bel _ hv) (by omega))) ?_
       rintro _ w33 ⟨rfl, hb32⟩
       replace hM := hM.call hb32
       refine ⟨_, rfl, ?_⟩
       intro a hA
       refine seq_do (v := .bool false) hA rfl rfl rfl (does_un rfl un_not) ?_
       intro a hA
       refine seq_do (v := .bool false) hA rfl rfl rfl (does_pick rfl rfl rfl rfl) ?_
       intro a hA
       refine seq_end ?_
       refine hK24 _ _ ?_
       refine wp_cond_false (hA.ev rfl) ?_
       refine wp_skip ?_
       refine hK23 _ _ ?_
       refine wp_seq_k (fun K34 hK34 => ?_)
       refine wp_seq_k (fun K35 hK35 => ?_)
       obtain ⟨j1, j2, j3, j4⟩ := cmpT_J hb25 hb28 hb31
       refine wp_region_lit ?_
       refine seq_do hA rfl rfl rfl (does_move rfl) ?_
       intro a hA
       rcases Bool.eq_false_or_eq_true (decide (cmpT t.tr u.tr ≤ 0)) with hb36 | hb36
       · have hb36' := of_decide_eq_true hb36
         refine seq_do (v := .bool true) hA rfl rfl rfl (does_bin rfl rfl (fun w => (bin_leq w).trans (by rw [hb36]))) ?_
         intro a hA
         refine seq_do hA rfl rfl rfl (does_move rfl) ?_
         intro a hA
         refine seq_do hA rfl rfl rfl (does_move rfl) ?_
         intro a hA
         rcases Bool.eq_false_or_eq_true (decide (cmpT u.tr v.tr ≤ 0)) with hb37 | hb37
         · have hb37' := of_decide_eq_true hb37
           refine seq_do (v := .bool true) hA rfl rfl rfl (does_bin rfl rfl (fun w => (bin_leq w).trans (by rw [hb37]))) ?_
           intro a hA
           refine seq_do (v := .bool true) hA rfl rfl rfl (does_pick rfl rfl rfl rfl) ?_
           intro a hA
           refine seq_do hA rfl rfl rfl (does_move rfl) ?_
           intro a hA
           refine seq_do hA rfl rfl rfl (does_move rfl) ?_
           intro a hA
           rcases Bool.eq_false_or_eq_true (decide (0 < cmpT t.tr v.tr)) with hb38 | hb38
           · have hb38' := of_decide_eq_true hb38
             refine seq_do (v := .bool true) hA rfl rfl rfl (does_bin rfl rfl (fun w => (bin_gtr w).trans (by rw [hb38]))) ?_
             intro a hA
             refine seq_do (v := .bool true) hA rfl rfl rfl (does_pick rfl rfl rfl rfl) ?_
             intro a hA
             refine seq_do hA rfl rfl rfl (does_move rfl) ?_
             intro a hA
             refine seq_skip hA rfl rfl rfl ?_
             intro a hA
             refine seq_skip hA rfl rfl rfl ?_
             intro a hA
             refine seq_skip hA rfl rfl rfl ?_
             intro a hA
             refine seq_skipU hA rfl rfl rfl ?_
             intro a hA
             refine seq_skipU hA rfl rfl rfl ?_
             intro a hA
             refine seq_skip hA rfl rfl rfl ?_
             intro a hA
             refine seq_skip hA rfl rfl rfl ?_
             intro a hA
             refine seq_skipU hA rfl rfl rfl ?_
             intro a hA
             refine seq_skipU hA rfl rfl rfl ?_
             intro a hA
             refine seq_skip hA rfl rfl rfl ?_
             intro a hA
             refine seq_do (v := .bool true) hA rfl rfl rfl (does_pick rfl rfl rfl rfl) ?_
             intro a hA
             refine seq_do hA rfl rfl rfl (does_move rfl) ?_
             intro a hA
             refine seq_skip hA rfl rfl rfl ?_
             intro a hA
             refine seq_skip hA rfl rfl rfl ?_
             intro a hA
             refine seq_skip hA rfl rfl rfl ?_
             intro a hA
             refine seq_skipU hA rfl rfl rfl ?_
             intro a hA
             refine seq_skipU hA rfl rfl rfl ?_
             intro a hA
             refine seq_skip hA rfl rfl rfl ?_
             intro a hA
             refine seq_skip hA rfl rfl rfl ?_
             intro a hA
             refine seq_skipU hA rfl rfl rfl ?_
             intro a hA
             refine seq_skipU hA rfl rfl rfl ?_
             intro a hA
             refine seq_skip hA rfl rfl rfl ?_
             intro a hA
             refine seq_do (v := .bool true) hA rfl rfl rfl (does_pick rfl rfl rfl rfl) ?_
             intro a hA
             refine seq_end ?_
             refine hK35 _ _ ?_
             refine wp_cond_true (hA.ev rfl) ?_
             refine wp_seq_k (fun K39 hK39 => ?_)
             refine wp_region_lit ?_
             refine seq_do hA rfl rfl rfl (does_assign rfl) ?_
             intro a hA
             refine seq_end ?_
             refine hK39 _ _ ?_
             refine wp_ret ?_
             refine hret _ _ ?_
             refine ends (v := .bool false) hA rfl (.cons (res_tmp rfl) .nil) rfl ?_
             exfalso
             omega
           · have hb38' := of_decide_eq_false hb38
             refine seq_do (v := .bool false) hA rfl rfl rfl (does_bin rfl rfl (fun w => (bin_gtr w).trans (by rw [hb38]))) ?_
             intro a hA
             refine seq_do (v := .bool false) hA rfl rfl rfl (does_pick rfl rfl rfl rfl) ?_
             intro a hA
             refine seq_do hA rfl rfl rfl (does_move rfl) ?_
             intro a hA
             refine seq_do hA rfl rfl rfl (does_move rfl) ?_
             intro a hA
             rcases Bool.eq_false_or_eq_true (decide (cmpT t.tr u.tr < 0)) with hb40 | hb40
             · have hb40' := of_decide_eq_true hb40
               refine seq_do (v := .bool true) hA rfl rfl rfl (does_bin rfl rfl (fun w => (bin_lss w).trans (by rw [hb40]))) ?_
               intro a hA
               refine seq_do hA rfl rfl rfl (does_move rfl) ?_
               intro a hA
               refine seq_do hA rfl rfl rfl (does_move rfl) ?_
               intro a hA
               refine seq_do (v := .bool true) hA rfl rfl rfl (does_bin rfl rfl (fun w => (bin_leq w).trans (by rw [show (decide (cmpT u.tr v.tr ≤ 0)) = true from hb37]))) ?_
               intro a hA
               refine seq_do (v := .bool true) hA rfl rfl rfl (does_pick rfl rfl rfl rfl) ?_
               intro a hA
               refine seq_do hA rfl rfl rfl (does_move rfl) ?_
               intro a hA
               refine seq_do hA rfl rfl rfl (does_move rfl) ?_
               intro a hA
               rcases Bool.eq_false_or_eq_true (decide (0 ≤ cmpT t.tr v.tr)) with hb41 | hb41
               · have hb41' := of_decide_eq_true hb41
                 refine seq_do (v := .bool true) hA rfl rfl rfl (does_bin rfl rfl (fun w => (bin_geq w).trans (by rw [hb41]))) ?_
                 intro a hA
                 refine seq_do (v := .bool true) hA rfl rfl rfl (does_pick rfl rfl rfl rfl) ?_
                 intro a hA
                 refine seq_do (v := .bool true) hA rfl rfl rfl (does_pick rfl rfl rfl rfl) ?_
                 intro a hA
                 refine seq_do hA rfl rfl rfl (does_move rfl) ?_
                 intro a hA
                 refine seq_skip hA rfl rfl rfl ?_
                 intro a hA
                 refine seq_skip hA rfl rfl rfl ?_
                 intro a hA
                 refine seq_skip hA rfl rfl rfl ?_
                 intro a hA
                 refine seq_skipU hA rfl rfl rfl ?_
                 intro a hA
                 refine seq_skipU hA rfl rfl rfl ?_
                 intro a hA
                 refine seq_skip hA rfl rfl rfl ?_
                 intro a hA
                 refine seq_skip hA rfl rfl rfl ?_
                 intro a hA
                 refine seq_skipU hA rfl rfl rfl ?_
                 intro a hA
                 refine seq_skipU hA rfl rfl rfl ?_
                 intro a hA
                 refine seq_skip hA rfl rfl rfl ?_
                 intro a hA
                 refine seq_do (v := .bool true) hA rfl rfl rfl (does_pick rfl rfl rfl rfl) ?_
                 intro a hA
                 refine seq_end ?_
                 refine hK35 _ _ ?_
                 refine wp_cond_true (hA.ev rfl) ?_
                 refine wp_seq_k (fun K42 hK42 => ?_)
                 refine wp_region_lit ?_
                 refine seq_do hA rfl rfl rfl (does_assign rfl) ?_
                 intro a hA
                 refine seq_end ?_
                 refine hK42 _ _ ?_
                 refine wp_ret ?_
                 refine hret _ _ ?_
                 refine ends (v := .bool false) hA rfl (.cons (res_tmp rfl) .nil) rfl ?_
                 exfalso
                 omega
               · have hb41' := of_decide_eq_false hb41
                 refine seq_do (v := .bool false) hA rfl rfl rfl (does_bin rfl rfl (fun w => (bin_geq w).trans (by rw [hb41]))) ?_
                 intro a hA
                 refine seq_do (v := .bool false) hA rfl rfl rfl (does_pick rfl rfl rfl rfl) ?_
                 intro a hA
                 refine seq_do (v := .bool false) hA rfl rfl rfl (does_pick rfl rfl rfl rfl) ?_
                 intro a hA
                 refine seq_do hA rfl rfl rfl (does_move rfl) ?_
                 intro a hA
                 refine seq_do hA rfl rfl rfl (does_move rfl) ?_
                 intro a hA
                 refine seq_do (v := .bool true) hA rfl rfl rfl (does_bin rfl rfl (fun w => (bin_leq w).trans (by rw [show (decide (cmpT t.tr u.tr ≤ 0)) = true from hb36]))) ?_
                 intro a hA
                 refine seq_do hA rfl rfl rfl (does_move rfl) ?_
                 intro a hA
                 refine seq_do hA rfl rfl rfl (does_move rfl) ?_
                 intro a hA
                 rcases Bool.eq_false_or_eq_true (decide (cmpT u.tr v.tr < 0)) with hb43 | hb43
                 · have hb43' := of_decide_eq_true hb43
                   refine seq_do (v := .bool true) hA rfl rfl rfl (does_bin rfl rfl (fun w => (bin_lss w).trans (by rw [hb43]))) ?_
                   intro a hA
                   refine seq_do (v := .bool true) hA rfl rfl rfl (does_pick rfl rfl rfl rfl) ?_
                   intro a hA
                   refine seq_do hA rfl rfl rfl (does_move rfl) ?_
                   intro a hA
                   refine seq_do hA rfl rfl rfl (does_move rfl) ?_
                   intro a hA
                   refine seq_do (v := .bool false) hA rfl rfl rfl (does_bin rfl rfl (fun w => (bin_geq w).trans (by rw [show (decide (0 ≤ cmpT t.tr v.tr)) = false from hb41]))) ?_
                   intro a hA
                   refine seq_do (v := .bool false) hA rfl rfl rfl (does_pick rfl rfl rfl rfl) ?_
                   intro a hA
                   refine seq_do (v := .bool false) hA rfl rfl rfl (does_pick rfl rfl rfl rfl) ?_
                   intro a hA
                   refine seq_end ?_
                   refine hK35 _ _ ?_
                   refine wp_cond_false (hA.ev rfl) ?_
                   refine wp_skip ?_
                   refine hK34 _ _ ?_
                   refine wp_seq_k (fun K44 hK44 => ?_)
                   refine wp_region_lit ?_
                   refine seq_do hA rfl rfl rfl (does_move rfl) ?_
                   intro a hA
                   rcases Bool.eq_false_or_eq_true ((cmpT t.tr u.tr == 0)) with hb45 | hb45
                   · have hb45' := eq_of_beq hb45
                     refine seq_do (v := .bool true) hA rfl rfl rfl (does_bin rfl rfl (fun w => (bin_eql w).trans (by rw [hb45]))) ?_
                     intro a hA
                     refine seq_do hA rfl rfl rfl (m_loadS hM EqD_isS_30 rfl 2 rfl (cs := [.int .i64 t.d.k, .int .i64 t.d.n, .bool t.d.y.q.b1, .slice t.d.y.o1 t.d.y.q.t1.length t.d.y.c1, .slice t.d.y.o2 t.d.y.q.q1.length t.d.y.c2, .bool t.d.y.q.b2, .slice t.d.y.o3 t.d.y.q.t2.length t.d.y.c3, .slice t.d.y.o4 t.d.y.q.q2.length t.d.y.c4, .string t.d.s, .slice t.d.ro t.d.rl.length t.d.rc, .slice t.d.lo t.ts.length t.d.lc]) rfl rfl) ?_
                     intro a hA
                     refine seq_do hA rfl rfl rfl (m_loadS hM EqD_isS_30 rfl 1 rfl (cs := [.int .i64 u.d.k, .int .i64 u.d.n, .bool u.d.y.q.b1, .slice u.d.y.o1 u.d.y.q.t1.length u.d.y.c1, .slice u.d.y.o2 u.d.y.q.q1.length u.d.y.c2, .bool u.d.y.q.b2, .slice u.d.y.o3 u.d.y.q.t2.length u.d.y.c3, .slice u.d.y.o4 u.d.y.q.q2.length u.d.y.c4, .string u.d.s, .slice u.d.ro u.d.rl.length u.d.rc, .slice u.d.lo u.ts.length u.d.lc]) rfl rfl) ?_
                     intro a hA
                     refine seq_call hA rfl rfl rfl (enters_func rfl rfl (fun w => by kernel_rfl)) (((equT_of hb25 hb28 hb45) ▸ equal_any (Dt.keep hM.bel _ ht) (Dt.keep hM.bel _ hu) (hT.below hM.bel))) ?_
                     rintro _ w47 ⟨rfl, hb46⟩
                     replace hM := hM.call hb46
                     refine ⟨_, rfl, ?_⟩
                     intro a hA
                     refine seq_do (v := .bool true) hA rfl rfl rfl (does_bin rfl rfl (bin_eqlB Tryz.underlying4)) ?_
                     intro a hA
                     refine seq_do hA rfl rfl rfl (does_move rfl) ?_
                     intro a hA
                     refine seq_do hA rfl rfl rfl (does_move rfl) ?_
                     intro a hA
                     rcases Bool.eq_false_or_eq_true ((cmpT t.tr v.tr == 0)) with hb48 | hb48
                     · have hb48' := eq_of_beq hb48
                       refine seq_do (v := .bool true) hA rfl rfl rfl (does_bin rfl rfl (fun w => (bin_eql w).trans (by rw [hb48]))) ?_
                       intro a hA
                       refine seq_do hA rfl rfl rfl (m_loadS hM EqD_isS_30 rfl 2 rfl (cs := [.int .i64 t.d.k, .int .i64 t.d.n, .bool t.d.y.q.b1, .slice t.d.y.o1 t.d.y.q.t1.length t.d.y.c1, .slice t.d.y.o2 t.d.y.q.q1.length t.d.y.c2, .bool t.d.y.q.b2, .slice t.d.y.o3 t.d.y.q.t2.length t.d.y.c3, .slice t.d.y.o4 t.d.y.q.q2.length t.d.y.c4, .string t.d.s, .slice t.d.ro t.d.rl.length t.d.rc, .slice t.d.lo t.ts.length t.d.lc]) rfl rfl) ?_
                       intro a hA
                       refine seq_do hA rfl rfl rfl (m_loadS hM EqD_isS_30 rfl 0 rfl (cs := [.int .i64 v.d.k, .int .i64 v.d.n, .bool v.d.y.q.b1, .slice v.d.y.o1 v.d.y.q.t1.length v.d.y.c1, .slice v.d.y.o2 v.d.y.q.q1.length v.d.y.c2, .bool v.d.y.q.b2, .slice v.d.y.o3 v.d.y.q.t2.length v.d.y.c3, .slice v.d.y.o4 v.d.y.q.q2.length v.d.y.c4, .string v.d.s, .slice v.d.ro v.d.rl.length v.d.rc, .slice v.d.lo v.ts.length v.d.lc]) rfl rfl) ?_
                       intro a hA
                       refine seq_call hA rfl rfl rfl (enters_func rfl rfl (fun w => by kernel_rfl)) (((equT_of hb25 hb31 hb48) ▸ equal_any (Dt.keep hM.bel _ ht) (Dt.keep hM.bel _ hv) (hT.below hM.bel))) ?_
                       rintro _ w50 ⟨rfl, hb49⟩
                       replace hM := hM.call hb49
                       refine ⟨_, rfl, ?_⟩
                       intro a hA
                       refine seq_do (v := .bool true) hA rfl rfl rfl (does_bin rfl rfl (bin_eqlB Tryz.underlying4)) ?_
                       intro a hA
                       refine seq_do (v := .bool true) hA rfl rfl rfl (does_pick rfl rfl rfl rfl) ?_
                       intro a hA
                       refine seq_do hA rfl rfl rfl (does_assign rfl) ?_
                       intro a hA
                       refine seq_end ?_
                       refine hK44 _ _ ?_
                       refine wp_ret ?_
                       refine hret _ _ ?_
                       refine ends (v := .bool true) hA rfl (.cons (res_tmp rfl) .nil) rfl ?_
                       exact ⟨rfl, hM.bel⟩
                     · have hb48' := ne_of_beq_false hb48
                       refine seq_do (v := .bool false) hA rfl rfl rfl (does_bin rfl rfl (fun w => (bin_eql w).trans (by rw [hb48]))) ?_
                       intro a hA
                       refine seq_do hA rfl rfl rfl (m_loadS hM EqD_isS_30 rfl 2 rfl (cs := [.int .i64 t.d.k, .int .i64 t.d.n, .bool t.d.y.q.b1, .slice t.d.y.o1 t.d.y.q.t1.length t.d.y.c1, .slice t.d.y.o2 t.d.y.q.q1.length t.d.y.c2, .bool t.d.y.q.b2, .slice t.d.y.o3 t.d.y.q.t2.length t.d.y.c3, .slice t.d.y.o4 t.d.y.q.q2.length t.d.y.c4, .string t.d.s, .slice t.d.ro t.d.rl.length t.d.rc, .slice t.d.lo t.ts.length t.d.lc]) rfl rfl) ?_
                       intro a hA
                       refine seq_do hA rfl rfl rfl (m_loadS hM EqD_isS_30 rfl 0 rfl (cs := [.int .i64 v.d.k, .int .i64 v.d.n, .bool v.d.y.q.b1, .slice v.d.y.o1 v.d.y.q.t1.length v.d.y.c1, .slice v.d.y.o2 v.d.y.q.q1.length v.d.y.c2, .bool v.d.y.q.b2, .slice v.d.y.o3 v.d.y.q.t2.length v.d.y.c3, .slice v.d.y.o4 v.d.y.q.q2.length v.d.y.c4, .string v.d.s, .slice v.d.ro v.d.rl.length v.d.rc, .slice v.d.lo v.ts.length v.d.lc]) rfl rfl) ?_
                       intro a hA
                       refine seq_call hA rfl rfl rfl (enters_func rfl rfl (fun w => by kernel_rfl)) (((equT_of hb25 hb31 hb48) ▸ equal_any (Dt.keep hM.bel _ ht) (Dt.keep hM.bel _ hv) (hT.below hM.bel))) ?_
                       rintro _ w52 ⟨rfl, hb51⟩
                       replace hM := hM.call hb51
                       refine ⟨_, rfl, ?_⟩
                       intro a hA
                       refine seq_do (v := .bool true) hA rfl rfl rfl (does_bin rfl rfl (bin_eqlB Tryz.underlying4)) ?_
                       intro a hA
                       refine seq_do (v := .bool true) hA rfl rfl rfl (does_pick rfl rfl rfl rfl) ?_
                       intro a hA
                       refine seq_do hA rfl rfl rfl (does_assign rfl) ?_
                       intro a hA
                       refine seq_end ?_
                       refine hK44 _ _ ?_
                       refine wp_ret ?_
                       refine hret _ _ ?_
                       refine ends (v := .bool true) hA rfl (.cons (res_tmp rfl) .nil) rfl ?_
                       exact ⟨rfl, hM.bel⟩
                   · have hb45' := ne_of_beq_false hb45
                     refine seq_do (v := .bool false) hA rfl rfl rfl (does_bin rfl rfl (fun w => (bin_eql w).trans (by rw [hb45]))) ?_
                     intro a hA
                     refine seq_do hA rfl rfl rfl (m_loadS hM EqD_isS_30 rfl 2 rfl (cs := [.int .i64 t.d.k, .int .i64 t.d.n, .bool t.d.y.q.b1, .slice t.d.y.o1 t.d.y.q.t1.length t.d.y.c1, .slice t.d.y.o2 t.d.y.q.q1.length t.d.y.c2, .bool t.d.y.q.b2, .slice t.d.y.o3 t.d.y.q.t2.length t.d.y.c3, .slice t.d.y.o4 t.d.y.q.q2.length t.d.y.c4, .string t.d.s, .slice t.d.ro t.d.rl.length t.d.rc, .slice t.d.lo t.ts.length t.d.lc]) rfl rfl) ?_
                     intro a hA
                     refine seq_do hA rfl rfl rfl (m_loadS hM EqD_isS_30 rfl 1 rfl (cs := [.int .i64 u.d.k, .int .i64 u.d.n, .bool u.d.y.q.b1, .slice u.d.y.o1 u.d.y.q.t1.length u.d.y.c1, .slice u.d.y.o2 u.d.y.q.q1.length u.d.y.c2, .bool u.d.y.q.b2, .slice u.d.y.o3 u.d.y.q.t2.length u.d.y.c3, .slice u.d.y.o4 u.d.y.q.q2.length u.d.y.c4, .string u.d.s, .slice u.d.ro u.d.rl.length u.d.rc, .slice u.d.lo u.ts.length u.d.lc]) rfl rfl) ?_
                     intro a hA
                     refine seq_call hA rfl rfl rfl (enters_func rfl rfl (fun w => by kernel_rfl)) (((equT_of hb25 hb28 hb45) ▸ equal_any (Dt.keep hM.bel _ ht) (Dt.keep hM.bel _ hu) (hT.below hM.bel))) ?_
                     rintro _ w54 ⟨rfl, hb53⟩
                     replace hM := hM.call hb53
                     refine ⟨_, rfl, ?_⟩
                     intro a hA
                     refine seq_do (v := .bool true) hA rfl rfl rfl (does_bin rfl rfl (bin_eqlB Tryz.underlying4)) ?_
                     intro a hA
                     refine seq_do hA rfl rfl rfl (does_move rfl) ?_
                     intro a hA
                     refine seq_do hA rfl rfl rfl (does_move rfl) ?_
                     intro a hA
                     rcases Bool.eq_false_or_eq_true ((cmpT t.tr v.tr == 0)) with hb55 | hb55
                     · have hb55' := eq_of_beq hb55
                       refine seq_do (v := .bool true) hA rfl rfl rfl (does_bin rfl rfl (fun w => (bin_eql w).trans (by rw [hb55]))) ?_
                       intro a hA
                       refine seq_do hA rfl rfl rfl (m_loadS hM EqD_isS_30 rfl 2 rfl (cs := [.int .i64 t.d.k, .int .i64 t.d.n, .bool t.d.y.q.b1, .slice t.d.y.o1 t.d.y.q.t1.length t.d.y.c1, .slice t.d.y.o2 t.d.y.q.q1.length t.d.y.c2, .bool t.d.y.q.b2, .slice t.d.y.o3 t.d.y.q.t2.length t.d.y.c3, .slice t.d.y.o4 t.d.y.q.q2.length t.d.y.c4, .string t.d.s, .slice t.d.ro t.d.rl.length t.d.rc, .slice t.d.lo t.ts.length t.d.lc]) rfl rfl) ?_
                       intro a hA
                       refine seq_do hA rfl rfl rfl (m_loadS hM EqD_isS_30 rfl 0 rfl (cs := [.int .i64 v.d.k, .int .i64 v.d.n, .bool v.d.y.q.b1, .slice v.d.y.o1 v.d.y.q.t1.length v.d.y.c1, .slice v.d.y.o2 v.d.y.q.q1.length v.d.y.c2, .bool v.d.y.q.b2, .slice v.d.y.o3 v.d.y.q.t2.length v.d.y.c3, .slice v.d.y.o4 v.d.y.q.q2.length v.d.y.c4, .string v.d.s, .slice v.d.ro v.d.rl.length v.d.rc, .slice v.d.lo v.ts.length v.d.lc]) rfl rfl) ?_
                       intro a hA
                       refine seq_call hA rfl rfl rfl (enters_func rfl rfl (fun w => by kernel_rfl)) (((equT_of hb25 hb31 hb55) ▸ equal_any (Dt.keep hM.bel _ ht) (Dt.keep hM.bel _ hv) (hT.below hM.bel))) ?_
                       rintro _ w57 ⟨rfl, hb56⟩
                       replace hM := hM.call hb56
                       refine ⟨_, rfl, ?_⟩
                       intro a hA
                       refine seq_do (v := .bool true) hA rfl rfl rfl (does_bin rfl rfl (bin_eqlB Tryz.underlying4)) ?_
                       intro a hA
                       refine seq_do (v := .bool true) hA rfl rfl rfl (does_pick rfl rfl rfl rfl) ?_
                       intro a hA
                       refine seq_do hA rfl rfl rfl (does_assign rfl) ?_
                       intro a hA
                       refine seq_end ?_
                       refine hK44 _ _ ?_
                       refine wp_ret ?_
                       refine hret _ _ ?_
                       refine ends (v := .bool true) hA rfl (.cons (res_tmp rfl) .nil) rfl ?_
                       exact ⟨rfl, hM.bel⟩
                     · have hb55' := ne_of_beq_false hb55
                       refine seq_do (v := .bool false) hA rfl rfl rfl (does_bin rfl rfl (fun w => (bin_eql w).trans (by rw [hb55]))) ?_
                       intro a hA
                       refine seq_do hA rfl rfl rfl (m_loadS hM EqD_isS_30 rfl 2 rfl (cs := [.int .i64 t.d.k, .int .i64 t.d.n, .bool t.d.y.q.b1, .slice t.d.y.o1 t.d.y.q.t1.length t.d.y.c1, .slice t.d.y.o2 t.d.y.q.q1.length t.d.y.c2, .bool t.d.y.q.b2, .slice t.d.y.o3 t.d.y.q.t2.length t.d.y.c3, .slice t.d.y.o4 t.d.y.q.q2.length t.d.y.c4, .string t.d.s, .slice t.d.ro t.d.rl.length t.d.rc, .slice t.d.lo t.ts.length t.d.lc]) rfl rfl) ?_
                       intro a hA
                       refine seq_do hA rfl rfl rfl (m_loadS hM EqD_isS_30 rfl 0 rfl (cs := [.int .i64 v.d.k, .int .i64 v.d.n, .bool v.d.y.q.b1, .slice v.d.y.o1 v.d.y.q.t1.length v.d.y.c1, .slice v.d.y.o2 v.d.y.q.q1.length v.d.y.c2, .bool v.d.y.q.b2, .slice v.d.y.o3 v.d.y.q.t2.length v.d.y.c3, .slice v.d.y.o4 v.d.y.q.q2.length v.d.y.c4, .string v.d.s, .slice v.d.ro v.d.rl.length v.d.rc, .slice v.d.lo v.ts.length v.d.lc]) rfl rfl) ?_
                       intro a hA
                       refine seq_call hA rfl rfl rfl (enters_func rfl rfl (fun w => by kernel_rfl)) (((equT_of hb25 hb31 hb55) ▸ equal_any (Dt.keep hM.bel _ ht) (Dt.keep hM.bel _ hv) (hT.below hM.bel))) ?_
                       rintro _ w59 ⟨rfl, hb58⟩
                       replace hM := hM.call hb58
                       refine ⟨_, rfl, ?_⟩
                       intro a hA
                       refine seq_do (v := .bool true) hA rfl rfl rfl (does_bin rfl rfl (bin_eqlB Tryz.underlying4)) ?_
                       intro a hA
                       refine seq_do (v := .bool true) hA rfl rfl rfl (does_pick rfl rfl rfl rfl) ?_
                       intro a hA
                       refine seq_do hA rfl rfl rfl (does_assign rfl) ?_
                       intro a hA
                       refine seq_end ?_
                       refine hK44 _ _ ?_
                       refine wp_ret ?_
                       refine hret _ _ ?_
                       refine ends (v := .bool true) hA rfl (.cons (res_tmp rfl) .nil) rfl ?_
                       exact ⟨rfl, hM.bel⟩
                 · have hb43' := of_decide_eq_false hb43
                   refine seq_do (v := .bool false) hA rfl rfl rfl (does_bin rfl rfl (fun w => (bin_lss w).trans (by rw [hb43]))) ?_
                   intro a hA
                   refine seq_do (v := .bool false) hA rfl rfl rfl (does_pick rfl rfl rfl rfl) ?_
                   intro a hA
                   refine seq_do hA rfl rfl rfl (does_move rfl) ?_
                   intro a hA
                   refine seq_skip hA rfl rfl rfl ?_
                   intro a hA
                   refine seq_skip hA rfl rfl rfl ?_
                   intro a hA
                   refine seq_do (v := .bool false) hA rfl rfl rfl (does_pick rfl rfl rfl rfl) ?_
                   intro a hA
                   refine seq_do (v := .bool false) hA rfl rfl rfl (does_pick rfl rfl rfl rfl) ?_
                   intro a hA
                   refine seq_end ?_
                   refine hK35 _ _ ?_
                   refine wp_cond_false (hA.ev rfl) ?_
                   refine wp_skip ?_
                   refine hK34 _ _ ?_
                   refine wp_seq_k (fun K60 hK60 => ?_)
                   refine wp_region_lit ?_
                   refine seq_do hA rfl rfl rfl (does_move rfl) ?_
                   intro a hA
                   rcases Bool.eq_false_or_eq_true ((cmpT t.tr u.tr == 0)) with hb61 | hb61
                   · have hb61' := eq_of_beq hb61
                     refine seq_do (v := .bool true) hA rfl rfl rfl (does_bin rfl rfl (fun w => (bin_eql w).trans (by rw [hb61]))) ?_
                     intro a hA
                     refine seq_do hA rfl rfl rfl (m_loadS hM EqD_isS_30 rfl 2 rfl (cs := [.int .i64 t.d.k, .int .i64 t.d.n, .bool t.d.y.q.b1, .slice t.d.y.o1 t.d.y.q.t1.length t.d.y.c1, .slice t.d.y.o2 t.d.y.q.q1.length t.d.y.c2, .bool t.d.y.q.b2, .slice t.d.y.o3 t.d.y.q.t2.length t.d.y.c3, .slice t.d.y.o4 t.d.y.q.q2.length t.d.y.c4, .string t.d.s, .slice t.d.ro t.d.rl.length t.d.rc, .slice t.d.lo t.ts.length t.d.lc]) rfl rfl) ?_
                     intro a hA
                     refine seq_do hA rfl rfl rfl (m_loadS hM EqD_isS_30 rfl 1 rfl (cs := [.int .i64 u.d.k, .int .i64 u.d.n, .bool u.d.y.q.b1, .slice u.d.y.o1 u.d.y.q.t1.length u.d.y.c1, .slice u.d.y.o2 u.d.y.q.q1.length u.d.y.c2, .bool u.d.y.q.b2, .slice u.d.y.o3 u.d.y.q.t2.length u.d.y.c3, .slice u.d.y.o4 u.d.y.q.q2.length u.d.y.c4, .string u.d.s, .slice u.d.ro u.d.rl.length u.d.rc, .slice u.d.lo u.ts.length u.d.lc]) rfl rfl) ?_
                     intro a hA
                     refine seq_call hA rfl rfl rfl (enters_func rfl rfl (fun w => by kernel_rfl)) (((equT_of hb25 hb28 hb61) ▸ equal_any (Dt.keep hM.bel _ ht) (Dt.keep hM.bel _ hu) (hT.below hM.bel))) ?_
                     rintro _ w63 ⟨rfl, hb62⟩
                     replace hM := hM.call hb62
                     refine ⟨_, rfl, ?_⟩
                     intro a hA
                     refine seq_do (v := .bool true) hA rfl rfl rfl (does_bin rfl rfl (bin_eqlB Tryz.underlying4)) ?_
                     intro a hA
                     refine seq_do hA rfl rfl rfl (does_move rfl) ?_
                     intro a hA
                     refine seq_do hA rfl rfl rfl (does_move rfl) ?_
                     intro a hA
                     rcases Bool.eq_false_or_eq_true ((cmpT t.tr v.tr == 0)) with hb64 | hb64
                     · have hb64' := eq_of_beq hb64
                       refine seq_do (v := .bool true) hA rfl rfl rfl (does_bin rfl rfl (fun w => (bin_eql w).trans (by rw [hb64]))) ?_
                       intro a hA
                       refine seq_do hA rfl rfl rfl (m_loadS hM EqD_isS_30 rfl 2 rfl (cs := [.int .i64 t.d.k, .int .i64 t.d.n, .bool t.d.y.q.b1, .slice t.d.y.o1 t.d.y.q.t1.length t.d.y.c1, .slice t.d.y.o2 t.d.y.q.q1.length t.d.y.c2, .bool t.d.y.q.b2, .slice t.d.y.o3 t.d.y.q.t2.length t.d.y.c3, .slice t.d.y.o4 t.d.y.q.q2.length t.d.y.c4, .string t.d.s, .slice t.d.ro t.d.rl.length t.d.rc, .slice t.d.lo t.ts.length t.d.lc]) rfl rfl) ?_
                       intro a hA
                       refine seq_do hA rfl rfl rfl (m_loadS hM EqD_isS_30 rfl 0 rfl (cs := [.int .i64 v.d.k, .int .i64 v.d.n, .bool v.d.y.q.b1, .slice v.d.y.o1 v.d.y.q.t1.length v.d.y.c1, .slice v.d.y.o2 v.d.y.q.q1.length v.d.y.c2, .bool v.d.y.q.b2, .slice v.d.y.o3 v.d.y.q.t2.length v.d.y.c3, .slice v.d.y.o4 v.d.y.q.q2.length v.d.y.c4, .string v.d.s, .slice v.d.ro v.d.rl.length v.d.rc, .slice v.d.lo v.ts.length v.d.lc]) rfl rfl) ?_
                       intro a hA
                       refine seq_call hA rfl rfl rfl (enters_func rfl rfl (fun w => by kernel_rfl)) (((equT_of hb25 hb31 hb64) ▸ equal_any (Dt.keep hM.bel _ ht) (Dt.keep hM.bel _ hv) (hT.below hM.bel))) ?_
                       rintro _ w66 ⟨rfl, hb65⟩
                       replace hM := hM.call hb65
                       refine ⟨_, rfl, ?_⟩
                       intro a hA
                       refine seq_do (v := .bool true) hA rfl rfl rfl (does_bin rfl rfl (bin_eqlB Tryz.underlying4)) ?_
                       intro a hA
                       refine seq_do (v := .bool true) hA rfl rfl rfl (does_pick rfl rfl rfl rfl) ?_
                       intro a hA
                       refine seq_do hA rfl rfl rfl (does_assign rfl) ?_
                       intro a hA
                       refine seq_end ?_
                       refine hK60 _ _ ?_
                       refine wp_ret ?_
                       refine hret _ _ ?_
                       refine ends (v := .bool true) hA rfl (.cons (res_tmp rfl) .nil) rfl ?_
                       exact ⟨rfl, hM.bel⟩
                     · have hb64' := ne_of_beq_false hb64
                       refine seq_do (v := .bool false) hA rfl rfl rfl (does_bin rfl rfl (fun w => (bin_eql w).trans (by rw [hb64]))) ?_
                       intro a hA
                       refine seq_do hA rfl rfl rfl (m_loadS hM EqD_isS_30 rfl 2 rfl (cs := [.int .i64 t.d.k, .int .i64 t.d.n, .bool t.d.y.q.b1, .slice t.d.y.o1 t.d.y.q.t1.length t.d.y.c1, .slice t.d.y.o2 t.d.y.q.q1.length t.d.y.c2, .bool t.d.y.q.b2, .slice t.d.y.o3 t.d.y.q.t2.length t.d.y.c3, .slice t.d.y.o4 t.d.y.q.q2.length t.d.y.c4, .string t.d.s, .slice t.d.ro t.d.rl.length t.d.rc, .slice t.d.lo t.ts.length t.d.lc]) rfl rfl) ?_
                       intro a hA
                       refine seq_do hA rfl rfl rfl (m_loadS hM EqD_isS_30 rfl 0 rfl (cs := [.int .i64 v.d.k, .int .i64 v.d.n, .bool v.d.y.q.b1, .slice v.d.y.o1 v.d.y.q.t1.length v.d.y.c1, .slice v.d.y.o2 v.d.y.q.q1.length v.d.y.c2, .bool v.d.y.q.b2, .slice v.d.y.o3 v.d.y.q.t2.length v.d.y.c3, .slice v.d.y.o4 v.d.y.q.q2.length v.d.y.c4, .string v.d.s, .slice v.d.ro v.d.rl.length v.d.rc, .slice v.d.lo v.ts.length v.d.lc]) rfl rfl) ?_
                       intro a hA
                       refine seq_call hA rfl rfl rfl (enters_func rfl rfl (fun w => by kernel_rfl)) (((equT_of hb25 hb31 hb64) ▸ equal_any (Dt.keep hM.bel _ ht) (Dt.keep hM.bel _ hv) (hT.below hM.bel))) ?_
                       rintro _ w68 ⟨rfl, hb67⟩
                       replace hM := hM.call hb67
                       refine ⟨_, rfl, ?_⟩
                       intro a hA
                       refine seq_do (v := .bool true) hA rfl rfl rfl (does_bin rfl rfl (bin_eqlB Tryz.underlying4)) ?_
                       intro a hA
                       refine seq_do (v := .bool true) hA rfl rfl rfl (does_pick rfl rfl rfl rfl) ?_
                       intro a hA
                       refine seq_do hA rfl rfl rfl (does_assign rfl) ?_
                       intro a hA
                       refine seq_end ?_
                       refine hK60 _ _ ?_
                       refine wp_ret ?_
                       refine hret _ _ ?_
                       refine ends (v := .bool true) hA rfl (.cons (res_tmp rfl) .nil) rfl ?_
                       exact ⟨rfl, hM.bel⟩
                   · have hb61' := ne_of_beq_false hb61
                     refine seq_do (v := .bool false) hA rfl rfl rfl (does_bin rfl rfl (fun w => (bin_eql w).trans (by rw [hb61]))) ?_
                     intro a hA
                     refine seq_do hA rfl rfl rfl (m_loadS hM EqD_isS_30 rfl 2 rfl (cs := [.int .i64 t.d.k, .int .i64 t.d.n, .bool t.d.y.q.b1, .slice t.d.y.o1 t.d.y.q.t1.length t.d.y.c1, .slice t.d.y.o2 t.d.y.q.q1.length t.d.y.c2, .bool t.d.y.q.b2, .slice t.d.y.o3 t.d.y.q.t2.length t.d.y.c3, .slice t.d.y.o4 t.d.y.q.q2.length t.d.y.c4, .string t.d.s, .slice t.d.ro t.d.rl.length t.d.rc, .slice t.d.lo t.ts.length t.d.lc]) rfl rfl) ?_
                     intro a hA
                     refine seq_do hA rfl rfl rfl (m_loadS hM EqD_isS_30 rfl 1 rfl (cs := [.int .i64 u.d.k, .int .i64 u.d.n, .bool u.d.y.q.b1, .slice u.d.y.o1 u.d.y.q.t1.length u.d.y.c1, .slice u.d.y.o2 u.d.y.q.q1.length u.d.y.c2, .bool u.d.y.q.b2, .slice u.d.y.o3 u.d.y.q.t2.length u.d.y.c3, .slice u.d.y.o4 u.d.y.q.q2.length u.d.y.c4, .string u.d.s, .slice u.d.ro u.d.rl.length u.d.rc, .slice u.d.lo u.ts.length u.d.lc]) rfl rfl) ?_
                     intro a hA
                     refine seq_call hA rfl rfl rfl (enters_func rfl rfl (fun w => by kernel_rfl)) (((equT_of hb25 hb28 hb61) ▸ equal_any (Dt.keep hM.bel _ ht) (Dt.keep hM.bel _ hu) (hT.below hM.bel))) ?_
                     rintro _ w70 ⟨rfl, hb69⟩
                     replace hM := hM.call hb69
                     refine ⟨_, rfl, ?_⟩
                     intro a hA
                     refine seq_do (v := .bool true) hA rfl rfl rfl (does_bin rfl rfl (bin_eqlB Tryz.underlying4)) ?_
                     intro a hA
                     refine seq_do hA rfl rfl rfl (does_move rfl) ?_
                     intro a hA
                     refine seq_do hA rfl rfl rfl (does_move rfl) ?_
                     intro a hA
                     rcases Bool.eq_false_or_eq_true ((cmpT t.tr v.tr == 0)) with hb71 | hb71
                     · have hb71' := eq_of_beq hb71
                       refine seq_do (v := .bool true) hA rfl rfl rfl (does_bin rfl rfl (fun w => (bin_eql w).trans (by rw [hb71]))) ?_
                       intro a hA
                       refine seq_do hA rfl rfl rfl (m_loadS hM EqD_isS_30 rfl 2 rfl (cs := [.int .i64 t.d.k, .int .i64 t.d.n, .bool t.d.y.q.b1, .slice t.d.y.o1 t.d.y.q.t1.length t.d.y.c1, .slice t.d.y.o2 t.d.y.q.q1.length t.d.y.c2, .bool t.d.y.q.b2, .slice t.d.y.o3 t.d.y.q.t2.length t.d.y.c3, .slice t.d.y.o4 t.d.y.q.q2.length t.d.y.c4, .string t.d.s, .slice t.d.ro t.d.rl.length t.d.rc, .slice t.d.lo t.ts.length t.d.lc]) rfl rfl) ?_
                       intro a hA
                       refine seq_do hA rfl rfl rfl (m_loadS hM EqD_isS_30 rfl 0 rfl (cs := [.int .i64 v.d.k, .int .i64 v.d.n, .bool v.d.y.q.b1, .slice v.d.y.o1 v.d.y.q.t1.length v.d.y.c1, .slice v.d.y.o2 v.d.y.q.q1.length v.d.y.c2, .bool v.d.y.q.b2, .slice v.d.y.o3 v.d.y.q.t2.length v.d.y.c3, .slice v.d.y.o4 v.d.y.q.q2.length v.d.y.c4, .string v.d.s, .slice v.d.ro v.d.rl.length v.d.rc, .slice v.d.lo v.ts.length v.d.lc]) rfl rfl) ?_
                       intro a hA
                       refine seq_call hA rfl rfl rfl (enters_func rfl rfl (fun w => by kernel_rfl)) (((equT_of hb25 hb31 hb71) ▸ equal_any (Dt.keep hM.bel _ ht) (Dt.keep hM.bel _ hv) (hT.below hM.bel))) ?_
                       rintro _ w73 ⟨rfl, hb72⟩
                       replace hM := hM.call hb72
                       refine ⟨_, rfl, ?_⟩
                       intro a hA
                       refine seq_do (v := .bool true) hA rfl rfl rfl (does_bin rfl rfl (bin_eqlB Tryz.underlying4)) ?_
                       intro a hA
                       refine seq_do (v := .bool true) hA rfl rfl rfl (does_pick rfl rfl rfl rfl) ?_
                       intro a hA
                       refine seq_do hA rfl rfl rfl (does_assign rfl) ?_
                       intro a hA
                       refine seq_end ?_
                       refine hK60 _ _ ?_
                       refine wp_ret ?_
                       refine hret _ _ ?_
                       refine ends (v := .bool true) hA rfl (.cons (res_tmp rfl) .nil) rfl ?_
                       exact ⟨rfl, hM.bel⟩
                     · have hb71' := ne_of_beq_false hb71
                       refine seq_do (v := .bool false) hA rfl rfl rfl (does_bin rfl rfl (fun w => (bin_eql w).trans (by rw [hb71]))) ?_
                       intro a hA
                       refine seq_do hA rfl rfl rfl (m_loadS hM EqD_isS_30 rfl 2 rfl (cs := [.int .i64 t.d.k, .int .i64 t.d.n, .bool t.d.y.q.b1, .slice t.d.y.o1 t.d.y.q.t1.length t.d.y.c1, .slice t.d.y.o2 t.d.y.q.q1.length t.d.y.c2, .bool t.d.y.q.b2, .slice t.d.y.o3 t.d.y.q.t2.length t.d.y.c3, .slice t.d.y.o4 t.d.y.q.q2.length t.d.y.c4, .string t.d.s, .slice t.d.ro t.d.rl.length t.d.rc, .slice t.d.lo t.ts.length t.d.lc]) rfl rfl) ?_
                       intro a hA
                       refine seq_do hA rfl rfl rfl (m_loadS hM EqD_isS_30 rfl 0 rfl (cs := [.int .i64 v.d.k, .int .i64 v.d.n, .bool v.d.y.q.b1, .slice v.d.y.o1 v.d.y.q.t1.length v.d.y.c1, .slice v.d.y.o2 v.d.y.q.q1.length v.d.y.c2, .bool v.d.y.q.b2, .slice v.d.y.o3 v.d.y.q.t2.length v.d.y.c3, .slice v.d.y.o4 v.d.y.q.q2.length v.d.y.c4, .string v.d.s, .slice v.d.ro v.d.rl.length v.d.rc, .slice v.d.lo v.ts.length v.d.lc]) rfl rfl) ?_
                       intro a hA
                       refine seq_call hA rfl rfl rfl (enters_func rfl rfl (fun w => by kernel_rfl)) (((equT_of hb25 hb31 hb71) ▸ equal_any (Dt.keep hM.bel _ ht) (Dt.keep hM.bel _ hv) (hT.below hM.bel))) ?_
                       rintro _ w75 ⟨rfl, hb74⟩
                       replace hM := hM.call hb74
                       refine ⟨_, rfl, ?_⟩
                       intro a hA
                       refine seq_do (v := .bool true) hA rfl rfl rfl (does_bin rfl rfl (bin_eqlB Tryz.underlying4)) ?_
                       intro a hA
                       refine seq_do (v := .bool true) hA rfl rfl rfl (does_pick rfl rfl rfl rfl) ?_
                       intro a hA
                       refine seq_do hA rfl rfl rfl (does_assign rfl) ?_
                       intro a hA
                       refine seq_end ?_
                       refine hK60 _ _ ?_
                       refine wp_ret ?_
                       refine hret _ _ ?_
                       refine ends (v := .bool true) hA rfl (.cons (res_tmp rfl) .nil) rfl ?_
                       exact ⟨rfl, hM.bel⟩
             · have hb40' := of_decide_eq_false hb40
               refine seq_do (v := .bool false) hA rfl rfl rfl (does_bin rfl rfl (fun w => (bin_lss w).trans (by rw [hb40]))) ?_
               intro a hA
               refine seq_do hA rfl rfl rfl (does_move rfl) ?_
               intro a hA
               refine seq_skip hA rfl rfl rfl ?_
               intro a hA
               refine seq_skip hA rfl rfl rfl ?_
               intro a hA
               refine seq_do (v := .bool false) hA rfl rfl rfl (does_pick rfl rfl rfl rfl) ?_
               intro a hA
               refine seq_do hA rfl rfl rfl (does_move rfl) ?_
               intro a hA
               refine seq_skip hA rfl rfl rfl ?_
               intro a hA
               refine seq_skip hA rfl rfl rfl ?_
               intro a hA
               refine seq_do (v := .bool false) hA rfl rfl rfl (does_pick rfl rfl rfl rfl) ?_
               intro a hA
               refine seq_do (v := .bool false) hA rfl rfl rfl (does_pick rfl rfl rfl rfl) ?_
               intro a hA
               refine seq_do hA rfl rfl rfl (does_move rfl) ?_
               intro a hA
               refine seq_do hA rfl rfl rfl (does_move rfl) ?_
               intro a hA
               refine seq_do (v := .bool true) hA rfl rfl rfl (does_bin rfl rfl (fun w => (bin_leq w).trans (by rw [show (decide (cmpT t.tr u.tr ≤ 0)) = true from hb36]))) ?_
               intro a hA
               refine seq_do hA rfl rfl rfl (does_move rfl) ?_
               intro a hA
               refine seq_do hA rfl rfl rfl (does_move rfl) ?_
               intro a hA
               rcases Bool.eq_false_or_eq_true (decide (cmpT u.tr v.tr < 0)) with hb76 | hb76
               · have hb76' := of_decide_eq_true hb76
                 refine seq_do (v := .bool true) hA rfl rfl rfl (does_bin rfl rfl (fun w => (bin_lss w).trans (by rw [hb76]))) ?_
                 intro a hA
                 refine seq_do (v := .bool true) hA rfl rfl rfl (does_pick rfl rfl rfl rfl) ?_
                 intro a hA
                 refine seq_do hA rfl rfl rfl (does_move rfl) ?_
                 intro a hA
                 refine seq_do hA rfl rfl rfl (does_move rfl) ?_
                 intro a hA
                 rcases Bool.eq_false_or_eq_true (decide (0 ≤ cmpT t.tr v.tr)) with hb77 | hb77
                 · have hb77' := of_decide_eq_true hb77
                   refine seq_do (v := .bool true) hA rfl rfl rfl (does_bin rfl rfl (fun w => (bin_geq w).trans (by rw [hb77]))) ?_
                   intro a hA
                   refine seq_do (v := .bool true) hA rfl rfl rfl (does_pick rfl rfl rfl rfl) ?_
                   intro a hA
                   refine seq_do (v := .bool true) hA rfl rfl rfl (does_pick rfl rfl rfl rfl) ?_
                   intro a hA
                   refine seq_end ?_
                   refine hK35 _ _ ?_
                   refine wp_cond_true (hA.ev rfl) ?_
                   refine wp_seq_k (fun K78 hK78 => ?_)
                   refine wp_region_lit ?_
                   refine seq_do hA rfl rfl rfl (does_assign rfl) ?_
                   intro a hA
                   refine seq_end ?_
                   refine hK78 _ _ ?_
                   refine wp_ret ?_
                   refine hret _ _ ?_
                   refine ends (v := .bool false) hA rfl (.cons (res_tmp rfl) .nil) rfl ?_
                   exfalso
                   omega
                 · have hb77' := of_decide_eq_false hb77
                   refine seq_do (v := .bool false) hA rfl rfl rfl (does_bin rfl rfl (fun w => (bin_geq w).trans (by rw [hb77]))) ?_
                   intro a hA
                   refine seq_do (v := .bool false) hA rfl rfl rfl (does_pick rfl rfl rfl rfl) ?_
                   intro a hA
                   refine seq_do (v := .bool false) hA rfl rfl rfl (does_pick rfl rfl rfl rfl) ?_
                   intro a hA
                   refine seq_end ?_
                   refine hK35 _ _ ?_
                   refine wp_cond_false (hA.ev rfl) ?_
                   refine wp_skip ?_
                   refine hK34 _ _ ?_
                   refine wp_seq_k (fun K79 hK79 => ?_)
                   refine wp_region_lit ?_
                   refine seq_do hA rfl rfl rfl (does_move rfl) ?_
                   intro a hA
                   rcases Bool.eq_false_or_eq_true ((cmpT t.tr u.tr == 0)) with hb80 | hb80
                   · have hb80' := eq_of_beq hb80
                     refine seq_do (v := .bool true) hA rfl rfl rfl (does_bin rfl rfl (fun w => (bin_eql w).trans (by rw [hb80]))) ?_
                     intro a hA
                     refine seq_do hA rfl rfl rfl (m_loadS hM EqD_isS_30 rfl 2 rfl (cs := [.int .i64 t.d.k, .int .i64 t.d.n, .bool t.d.y.q.b1, .slice t.d.y.o1 t.d.y.q.t1.length t.d.y.c1, .slice t.d.y.o2 t.d.y.q.q1.length t.d.y.c2, .bool t.d.y.q.b2, .slice t.d.y.o3 t.d.y.q.t2.length t.d.y.c3, .slice t.d.y.o4 t.d.y.q.q2.length t.d.y.c4, .string t.d.s, .slice t.d.ro t.d.rl.length t.d.rc, .slice t.d.lo t.ts.length t.d.lc]) rfl rfl) ?_
                     intro a hA
                     refine seq_do hA rfl rfl rfl (m_loadS hM EqD_isS_30 rfl 1 rfl (cs := [.int .i64 u.d.k, .int .i64 u.d.n, .bool u.d.y.q.b1, .slice u.d.y.o1 u.d.y.q.t1.length u.d.y.c1, .slice u.d.y.o2 u.d.y.q.q1.length u.d.y.c2, .bool u.d.y.q.b2, .slice u.d.y.o3 u.d.y.q.t2.length u.d.y.c3, .slice u.d.y.o4 u.d.y.q.q2.length u.d.y.c4, .string u.d.s, .slice u.d.ro u.d.rl.length u.d.rc, .slice u.d.lo u.ts.length u.d.lc]) rfl rfl) ?_
                     intro a hA
                     refine seq_call hA rfl rfl rfl (enters_func rfl rfl (fun w => by kernel_rfl)) (((equT_of hb25 hb28 hb80) ▸ equal_any (Dt.keep hM.bel _ ht) (Dt.keep hM.bel _ hu) (hT.below hM.bel))) ?_
                     rintro _ w82 ⟨rfl, hb81⟩
                     replace hM := hM.call hb81
                     refine ⟨_, rfl, ?_⟩
                     intro a hA
                     refine seq_do (v := .bool true) hA rfl rfl rfl (does_bin rfl rfl (bin_eqlB Tryz.underlying4)) ?_
                     intro a hA
                     refine seq_do hA rfl rfl rfl (does_move rfl) ?_
                     intro a hA
                     refine seq_do hA rfl rfl rfl (does_move rfl) ?_
                     intro a hA
                     rcases Bool.eq_false_or_eq_true ((cmpT t.tr v.tr == 0)) with hb83 | hb83
                     · have hb83' := eq_of_beq hb83
                       refine seq_do (v := .bool true) hA rfl rfl rfl (does_bin rfl rfl (fun w => (bin_eql w).trans (by rw [hb83]))) ?_
                       intro a hA
                       refine seq_do hA rfl rfl rfl (m_loadS hM EqD_isS_30 rfl 2 rfl (cs := [.int .i64 t.d.k, .int .i64 t.d.n, .bool t.d.y.q.b1, .slice t.d.y.o1 t.d.y.q.t1.length t.d.y.c1, .slice t.d.y.o2 t.d.y.q.q1.length t.d.y.c2, .bool t.d.y.q.b2, .slice t.d.y.o3 t.d.y.q.t2.length t.d.y.c3, .slice t.d.y.o4 t.d.y.q.q2.length t.d.y.c4, .string t.d.s, .slice t.d.ro t.d.rl.length t.d.rc, .slice t.d.lo t.ts.length t.d.lc]) rfl rfl) ?_
                       intro a hA
                       refine seq_do hA rfl rfl rfl (m_loadS hM EqD_isS_30 rfl 0 rfl (cs := [.int .i64 v.d.k, .int .i64 v.d.n, .bool v.d.y.q.b1, .slice v.d.y.o1 v.d.y.q.t1.length v.d.y.c1, .slice v.d.y.o2 v.d.y.q.q1.length v.d.y.c2, .bool v.d.y.q.b2, .slice v.d.y.o3 v.d.y.q.t2.length v.d.y.c3, .slice v.d.y.o4 v.d.y.q.q2.length v.d.y.c4, .string v.d.s, .slice v.d.ro v.d.rl.length v.d.rc, .slice v.d.lo v.ts.length v.d.lc]) rfl rfl) ?_
                       intro a hA
                       refine seq_call hA rfl rfl rfl (enters_func rfl rfl (fun w => by kernel_rfl)) (((equT_of hb25 hb31 hb83) ▸ equal_any (Dt.keep hM.bel _ ht) (Dt.keep hM.bel _ hv) (hT.below hM.bel))) ?_
                       rintro _ w85 ⟨rfl, hb84⟩
                       replace hM := hM.call hb84
                       refine ⟨_, rfl, ?_⟩
                       intro a hA
                       refine seq_do (v := .bool true) hA rfl rfl rfl (does_bin rfl rfl (bin_eqlB Tryz.underlying4)) ?_
                       intro a hA
                       refine seq_do (v := .bool true) hA rfl rfl rfl (does_pick rfl rfl rfl rfl) ?_
                       intro a hA
                       refine seq_do hA rfl rfl rfl (does_assign rfl) ?_
                       intro a hA
                       refine seq_end ?_
                       refine hK79 _ _ ?_
                       refine wp_ret ?_
                       refine hret _ _ ?_
                       refine ends (v := .bool true) hA rfl (.cons (res_tmp rfl) .nil) rfl ?_
                       exact ⟨rfl, hM.bel⟩
                     · have hb83' := ne_of_beq_false hb83
                       refine seq_do (v := .bool false) hA rfl rfl rfl (does_bin rfl rfl (fun w => (bin_eql w).trans (by rw [hb83]))) ?_
                       intro a hA
                       refine seq_do hA rfl rfl rfl (m_loadS hM EqD_isS_30 rfl 2 rfl (cs := [.int .i64 t.d.k, .int .i64 t.d.n, .bool t.d.y.q.b1, .slice t.d.y.o1 t.d.y.q.t1.length t.d.y.c1, .slice t.d.y.o2 t.d.y.q.q1.length t.d.y.c2, .bool t.d.y.q.b2, .slice t.d.y.o3 t.d.y.q.t2.length t.d.y.c3, .slice t.d.y.o4 t.d.y.q.q2.length t.d.y.c4, .string t.d.s, .slice t.d.ro t.d.rl.length t.d.rc, .slice t.d.lo t.ts.length t.d.lc]) rfl rfl) ?_
                       intro a hA
                       refine seq_do hA rfl rfl rfl (m_loadS hM EqD_isS_30 rfl 0 rfl (cs := [.int .i64 v.d.k, .int .i64 v.d.n, .bool v.d.y.q.b1, .slice v.d.y.o1 v.d.y.q.t1.length v.d.y.c1, .slice v.d.y.o2 v.d.y.q.q1.length v.d.y.c2, .bool v.d.y.q.b2, .slice v.d.y.o3 v.d.y.q.t2.length v.d.y.c3, .slice v.d.y.o4 v.d.y.q.q2.length v.d.y.c4, .string v.d.s, .slice v.d.ro v.d.rl.length v.d.rc, .slice v.d.lo v.ts.length v.d.lc]) rfl rfl) ?_
                       intro a hA
                       refine seq_call hA rfl rfl rfl (enters_func rfl rfl (fun w => by kernel_rfl)) (((equT_of hb25 hb31 hb83) ▸ equal_any (Dt.keep hM.bel _ ht) (Dt.keep hM.bel _ hv) (hT.below hM.bel))) ?_
                       rintro _ w87 ⟨rfl, hb86⟩
                       replace hM := hM.call hb86
                       refine ⟨_, rfl, ?_⟩
                       intro a hA
                       refine seq_do (v := .bool true) hA rfl rfl rfl (does_bin rfl rfl (bin_eqlB Tryz.underlying4)) ?_
                       intro a hA
                       refine seq_do (v := .bool true) hA rfl rfl rfl (does_pick rfl rfl rfl rfl) ?_
                       intro a hA
                       refine seq_do hA rfl rfl rfl (does_assign rfl) ?_
                       intro a hA
                       refine seq_end ?_
                       refine hK79 _ _ ?_
                       refine wp_ret ?_
                       refine hret _ _ ?_
                       refine ends (v := .bool true) hA rfl (.cons (res_tmp rfl) .nil) rfl ?_
                       exact ⟨rfl, hM.bel⟩
                   · have hb80' := ne_of_beq_false hb80
                     refine seq_do (v := .bool false) hA rfl rfl rfl (does_bin rfl rfl (fun w => (bin_eql w).trans (by rw [hb80]))) ?_
                     intro a hA
                     refine seq_do hA rfl rfl rfl (m_loadS hM EqD_isS_30 rfl 2 rfl (cs := [.int .i64 t.d.k, .int .i64 t.d.n, .bool t.d.y.q.b1, .slice t.d.y.o1 t.d.y.q.t1.length t.d.y.c1, .slice t.d.y.o2 t.d.y.q.q1.length t.d.y.c2, .bool t.d.y.q.b2, .slice t.d.y.o3 t.d.y.q.t2.length t.d.y.c3, .slice t.d.y.o4 t.d.y.q.q2.length t.d.y.c4, .string t.d.s, .slice t.d.ro t.d.rl.length t.d.rc, .slice t.d.lo t.ts.length t.d.lc]) rfl rfl) ?_
                     intro a hA
                     refine seq_do hA rfl rfl rfl (m_loadS hM EqD_isS_30 rfl 1 rfl (cs := [.int .i64 u.d.k, .int .i64 u.d.n, .bool u.d.y.q.b1, .slice u.d.y.o1 u.d.y.q.t1.length u.d.y.c1, .slice u.d.y.o2 u.d.y.q.q1.length u.d.y.c2, .bool u.d.y.q.b2, .slice u.d.y.o3 u.d.y.q.t2.length u.d.y.c3, .slice u.d.y.o4 u.d.y.q.q2.length u.d.y.c4, .string u.d.s, .slice u.d.ro u.d.rl.length u.d.rc, .slice u.d.lo u.ts.length u.d.lc]) rfl rfl) ?_
                     intro a hA
                     refine seq_call hA rfl rfl rfl (enters_func rfl rfl (fun w => by kernel_rfl)) (((equT_of hb25 hb28 hb80) ▸ equal_any (Dt.keep hM.bel _ ht) (Dt.keep hM.bel _ hu) (hT.below hM.bel))) ?_
                     rintro _ w89 ⟨rfl, hb88⟩
                     replace hM := hM.call hb88
                     refine ⟨_, rfl, ?_⟩
                     intro a hA
                     refine seq_do (v := .bool true) hA rfl rfl rfl (does_bin rfl rfl (bin_eqlB Tryz.underlying4)) ?_
                     intro a hA
                     refine seq_do hA rfl rfl rfl (does_move rfl) ?_
                     intro a hA
                     refine seq_do hA rfl rfl rfl (does_move rfl) ?_
                     intro a hA
                     rcases Bool.eq_false_or_eq_true ((cmpT t.tr v.tr == 0)) with hb90 | hb90
                     · have hb90' := eq_of_beq hb90
                       refine seq_do (v := .bool true) hA rfl rfl rfl (does_bin rfl rfl (fun w => (bin_eql w).trans (by rw [hb90]))) ?_
                       intro a hA
                       refine seq_do hA rfl rfl rfl (m_loadS hM EqD_isS_30 rfl 2 rfl (cs := [.int .i64 t.d.k, .int .i64 t.d.n, .bool t.d.y.q.b1, .slice t.d.y.o1 t.d.y.q.t1.length t.d.y.c1, .slice t.d.y.o2 t.d.y.q.q1.length t.d.y.c2, .bool t.d.y.q.b2, .slice t.d.y.o3 t.d.y.q.t2.length t.d.y.c3, .slice t.d.y.o4 t.d.y.q.q2.length t.d.y.c4, .string t.d.s, .slice t.d.ro t.d.rl.length t.d.rc, .slice t.d.lo t.ts.length t.d.lc]) rfl rfl) ?_
                       intro a hA
                       refine seq_do hA rfl rfl rfl (m_loadS hM EqD_isS_30 rfl 0 rfl (cs := [.int .i64 v.d.k, .int .i64 v.d.n, .bool v.d.y.q.b1, .slice v.d.y.o1 v.d.y.q.t1.length v.d.y.c1, .slice v.d.y.o2 v.d.y.q.q1.length v.d.y.c2, .bool v.d.y.q.b2, .slice v.d.y.o3 v.d.y.q.t2.length v.d.y.c3, .slice v.d.y.o4 v.d.y.q.q2.length v.d.y.c4, .string v.d.s, .slice v.d.ro v.d.rl.length v.d.rc, .slice v.d.lo v.ts.length v.d.lc]) rfl rfl) ?_
                       intro a hA
                       refine seq_call hA rfl rfl rfl (enters_func rfl rfl (fun w => by kernel_rfl)) (((equT_of hb25 hb31 hb90) ▸ equal_any (Dt.keep hM.bel _ ht) (Dt.keep hM.bel _ hv) (hT.below hM.bel))) ?_
                       rintro _ w92 ⟨rfl, hb91⟩
                       replace hM := hM.call hb91
                       refine ⟨_, rfl, ?_⟩
                       intro a hA
                       refine seq_do (v := .bool true) hA rfl rfl rfl (does_bin rfl rfl (bin_eqlB Tryz.underlying4)) ?_
                       intro a hA
                       refine seq_do (v := .bool true) hA rfl rfl rfl (does_pick rfl rfl rfl rfl) ?_
                       intro a hA
                       refine seq_do hA rfl rfl rfl (does_assign rfl) ?_
                       intro a hA
                       refine seq_end ?_
                       refine hK79 _ _ ?_
                       refine wp_ret ?_
                       refine hret _ _ ?_
                       refine ends (v := .bool true) hA rfl (.cons (res_tmp rfl) .nil) rfl ?_
                       exact ⟨rfl, hM.bel⟩
                     · have hb90' := ne_of_beq_false hb90
                       refine seq_do (v := .bool false) hA rfl rfl rfl (does_bin rfl rfl (fun w => (bin_eql w).trans (by rw [hb90]))) ?_
                       intro a hA
                       refine seq_do hA rfl rfl rfl (m_loadS hM EqD_isS_30 rfl 2 rfl (cs := [.int .i64 t.d.k, .int .i64 t.d.n, .bool t.d.y.q.b1, .slice t.d.y.o1 t.d.y.q.t1.length t.d.y.c1, .slice t.d.y.o2 t.d.y.q.q1.length t.d.y.c2, .bool t.d.y.q.b2, .slice t.d.y.o3 t.d.y.q.t2.length t.d.y.c3, .slice t.d.y.o4 t.d.y.q.q2.length t.d.y.c4, .string t.d.s, .slice t.d.ro t.d.rl.length t.d.rc, .slice t.d.lo t.ts.length t.d.lc]) rfl rfl) ?_
                       intro a hA
                       refine seq_do hA rfl rfl rfl (m_loadS hM EqD_isS_30 rfl 0 rfl (cs := [.int .i64 v.d.k, .int .i64 v.d.n, .bool v.d.y.q.b1, .slice v.d.y.o1 v.d.y.q.t1.length v.d.y.c1, .slice v.d.y.o2 v.d.y.q.q1.length v.d.y.c2, .bool v.d.y.q.b2, .slice v.d.y.o3 v.d.y.q.t2.length v.d.y.c3, .slice v.d.y.o4 v.d.y.q.q2.length v.d.y.c4, .string v.d.s, .slice v.d.ro v.d.rl.length v.d.rc, .slice v.d.lo v.ts.length v.d.lc]) rfl rfl) ?_
                       intro a hA
                       refine seq_call hA rfl rfl rfl (enters_func rfl rfl (fun w => by kernel_rfl)) (((equT_of hb25 hb31 hb90) ▸ equal_any (Dt.keep hM.bel _ ht) (Dt.keep hM.bel _ hv) (hT.below hM.bel))) ?_
                       rintro _ w94 ⟨rfl, hb93⟩
                       replace hM := hM.call hb93
                       refine ⟨_, rfl, ?_⟩
                       intro a hA
                       refine seq_do (v := .bool true) hA rfl rfl rfl (does_bin rfl rfl (bin_eqlB Tryz.underlying4)) ?_
                       intro a hA
                       refine seq_do (v := .bool true) hA rfl rfl rfl (does_pick rfl rfl rfl rfl) ?_
                       intro a hA
                       refine seq_do hA rfl rfl rfl (does_assign rfl) ?_
                       intro a hA
                       refine seq_end ?_
                       refine hK79 _ _ ?_
                       refine wp_ret ?_
                       refine hret _ _ ?_
                       refine ends (v := .bool true) hA rfl (.cons (res_tmp rfl) .nil) rfl ?_
                       exact ⟨rfl, hM.bel⟩
               · have hb76' := of_decide_eq_false hb76
                 refine seq_do (v := .bool false) hA rfl rfl rfl (does_bin rfl rfl (fun w => (bin_lss w).trans (by rw [hb76]))) ?_
                 intro a hA
                 refine seq_do (v := .bool false) hA rfl rfl rfl (does_pick rfl rfl rfl rfl) ?_
                 intro a hA
                 refine seq_do hA rfl rfl rfl (does_move rfl) ?_
                 intro a hA
                 refine seq_skip hA rfl rfl rfl ?_
                 intro a hA
                 refine seq_skip hA rfl rfl rfl ?_
                 intro a hA
                 refine seq_do (v := .bool false) hA rfl rfl rfl (does_pick rfl rfl rfl rfl) ?_
                 intro a hA
                 refine seq_do (v := .bool false) hA rfl rfl rfl (does_pick rfl rfl rfl rfl) ?_
                 intro a hA
                 refine seq_end ?_
                 refine hK35 _ _ ?_
                 refine wp_cond_false (hA.ev rfl) ?_
                 refine wp_skip ?_
                 refine hK34 _ _ ?_
                 refine wp_seq_k (fun K95 hK95 => ?_)
                 refine wp_region_lit ?_
                 refine seq_do hA rfl rfl rfl (does_move rfl) ?_
                 intro a hA
                 rcases Bool.eq_false_or_eq_true ((cmpT t.tr u.tr == 0)) with hb96 | hb96
                 · have hb96' := eq_of_beq hb96
                   refine seq_do (v := .bool true) hA rfl rfl rfl (does_bin rfl rfl (fun w => (bin_eql w).trans (by rw [hb96]))) ?_
                   intro a hA
                   refine seq_do hA rfl rfl rfl (m_loadS hM EqD_isS_30 rfl 2 rfl (cs := [.int .i64 t.d.k, .int .i64 t.d.n, .bool t.d.y.q.b1, .slice t.d.y.o1 t.d.y.q.t1.length t.d.y.c1, .slice t.d.y.o2 t.d.y.q.q1.length t.d.y.c2, .bool t.d.y.q.b2, .slice t.d.y.o3 t.d.y.q.t2.length t.d.y.c3, .slice t.d.y.o4 t.d.y.q.q2.length t.d.y.c4, .string t.d.s, .slice t.d.ro t.d.rl.length t.d.rc, .slice t.d.lo t.ts.length t.d.lc]) rfl rfl) ?_
                   intro a hA
                   refine seq_do hA rfl rfl rfl (m_loadS hM EqD_isS_30 rfl 1 rfl (cs := [.int .i64 u.d.k, .int .i64 u.d.n, .bool u.d.y.q.b1, .slice u.d.y.o1 u.d.y.q.t1.length u.d.y.c1, .slice u.d.y.o2 u.d.y.q.q1.length u.d.y.c2, .bool u.d.y.q.b2, .slice u.d.y.o3 u.d.y.q.t2.length u.d.y.c3, .slice u.d.y.o4 u.d.y.q.q2.length u.d.y.c4, .string u.d.s, .slice u.d.ro u.d.rl.length u.d.rc, .slice u.d.lo u.ts.length u.d.lc]) rfl rfl) ?_
                   intro a hA
                   refine seq_call hA rfl rfl rfl (enters_func rfl rfl (fun w => by kernel_rfl)) (((equT_of hb25 hb28 hb96) ▸ equal_any (Dt.keep hM.bel _ ht) (Dt.keep hM.bel _ hu) (hT.below hM.bel))) ?_
                   rintro _ w98 ⟨rfl, hb97⟩
                   replace hM := hM.call hb97
                   refine ⟨_, rfl, ?_⟩
                   intro a hA
                   refine seq_do (v := .bool true) hA rfl rfl rfl (does_bin rfl rfl (bin_eqlB Tryz.underlying4)) ?_
                   intro a hA
                   refine seq_do hA rfl rfl rfl (does_move rfl) ?_
                   intro a hA
                   refine seq_do hA rfl rfl rfl (does_move rfl) ?_
                   intro a hA
                   rcases Bool.eq_false_or_eq_true ((cmpT t.tr v.tr == 0)) with hb99 | hb99
                   · have hb99' := eq_of_beq hb99
                     refine seq_do (v := .bool true) hA rfl rfl rfl (does_bin rfl rfl (fun w => (bin_eql w).trans (by rw [hb99]))) ?_
                     intro a hA
                     refine seq_do hA rfl rfl rfl (m_loadS hM EqD_isS_30 rfl 2 rfl (cs := [.int .i64 t.d.k, .int .i64 t.d.n, .bool t.d.y.q.b1, .slice t.d.y.o1 t.d.y.q.t1.length t.d.y.c1, .slice t.d.y.o2 t.d.y.q.q1.length t.d.y.c2, .bool t.d.y.q.b2, .slice t.d.y.o3 t.d.y.q.t2.length t.d.y.c3, .slice t.d.y.o4 t.d.y.q.q2.length t.d.y.c4, .string t.d.s, .slice t.d.ro t.d.rl.length t.d.rc, .slice t.d.lo t.ts.length t.d.lc]) rfl rfl) ?_
                     intro a hA
                     refine seq_do hA rfl rfl rfl (m_loadS hM EqD_isS_30 rfl 0 rfl (cs := [.int .i64 v.d.k, .int .i64 v.d.n, .bool v.d.y.q.b1, .slice v.d.y.o1 v.d.y.q.t1.length v.d.y.c1, .slice v.d.y.o2 v.d.y.q.q1.length v.d.y.c2, .bool v.d.y.q.b2, .slice v.d.y.o3 v.d.y.q.t2.length v.d.y.c3, .slice v.d.y.o4 v.d.y.q.q2.length v.d.y.c4, .string v.d.s, .slice v.d.ro v.d.rl.length v.d.rc, .slice v.d.lo v.ts.length v.d.lc]) rfl rfl) ?_
                     intro a hA
                     refine seq_call hA rfl rfl rfl (enters_func rfl rfl (fun w => by kernel_rfl)) (((equT_of hb25 hb31 hb99) ▸ equal_any (Dt.keep hM.bel _ ht) (Dt.keep hM.bel _ hv) (hT.below hM.bel))) ?_
                     rintro _ w101 ⟨rfl, hb100⟩
                     replace hM := hM.call hb100
                     refine ⟨_, rfl, ?_⟩
                     intro a hA
                     refine seq_do (v := .bool true) hA rfl rfl rfl (does_bin rfl rfl (bin_eqlB Tryz.underlying4)) ?_
                     intro a hA
                     refine seq_do (v := .bool true) hA rfl rfl rfl (does_pick rfl rfl rfl rfl) ?_
                     intro a hA
                     refine seq_do hA rfl rfl rfl (does_assign rfl) ?_
                     intro a hA
                     refine seq_end ?_
                     refine hK95 _ _ ?_
                     refine wp_ret ?_
                     refine hret _ _ ?_
                     refine ends (v := .bool true) hA rfl (.cons (res_tmp rfl) .nil) rfl ?_
                     exact ⟨rfl, hM.bel⟩
                   · have hb99' := ne_of_beq_false hb99
                     refine seq_do (v := .bool false) hA rfl rfl rfl (does_bin rfl rfl (fun w => (bin_eql w).trans (by rw [hb99]))) ?_
                     intro a hA
                     refine seq_do hA rfl rfl rfl (m_loadS hM EqD_isS_30 rfl 2 rfl (cs := [.int .i64 t.d.k, .int .i64 t.d.n, .bool t.d.y.q.b1, .slice t.d.y.o1 t.d.y.q.t1.length t.d.y.c1, .slice t.d.y.o2 t.d.y.q.q1.length t.d.y.c2, .bool t.d.y.q.b2, .slice t.d.y.o3 t.d.y.q.t2.length t.d.y.c3, .slice t.d.y.o4 t.d.y.q.q2.length t.d.y.c4, .string t.d.s, .slice t.d.ro t.d.rl.length t.d.rc, .slice t.d.lo t.ts.length t.d.lc]) rfl rfl) ?_
                     intro a hA
                     refine seq_do hA rfl rfl rfl (m_loadS hM EqD_isS_30 rfl 0 rfl (cs := [.int .i64 v.d.k, .int .i64 v.d.n, .bool v.d.y.q.b1, .slice v.d.y.o1 v.d.y.q.t1.length v.d.y.c1, .slice v.d.y.o2 v.d.y.q.q1.length v.d.y.c2, .bool v.d.y.q.b2, .slice v.d.y.o3 v.d.y.q.t2.length v.d.y.c3, .slice v.d.y.o4 v.d.y.q.q2.length v.d.y.c4, .string v.d.s, .slice v.d.ro v.d.rl.length v.d.rc, .slice v.d.lo v.ts.length v.d.lc]) rfl rfl) ?_
                     intro a hA
                     refine seq_call hA rfl rfl rfl (enters_func rfl rfl (fun w => by kernel_rfl)) (((equT_of hb25 hb31 hb99) ▸ equal_any (Dt.keep hM.bel _ ht) (Dt.keep hM.bel _ hv) (hT.below hM.bel))) ?_
                     rintro _ w103 ⟨rfl, hb102⟩
                     replace hM := hM.call hb102
                     refine ⟨_, rfl, ?_⟩
                     intro a hA
                     refine seq_do (v := .bool true) hA rfl rfl rfl (does_bin rfl rfl (bin_eqlB Tryz.underlying4)) ?_
                     intro a hA
                     refine seq_do (v := .bool true) hA rfl rfl rfl (does_pick rfl rfl rfl rfl) ?_
                     intro a hA
                     refine seq_do hA rfl rfl rfl (does_assign rfl) ?_
                     intro a hA
                     refine seq_end ?_
                     refine hK95 _ _ ?_
                     refine wp_ret ?_
                     refine hret _ _ ?_
                     refine ends (v := .bool true) hA rfl (.cons (res_tmp rfl) .nil) rfl ?_
                     exact ⟨rfl, hM.bel⟩
                 · have hb96' := ne_of_beq_false hb96
                   refine seq_do (v := .bool false) hA rfl rfl rfl (does_bin rfl rfl (fun w => (bin_eql w).trans (by rw [hb96]))) ?_
                   intro a hA
                   refine seq_do hA rfl rfl rfl (m_loadS hM EqD_isS_30 rfl 2 rfl (cs := [.int .i64 t.d.k, .int .i64 t.d.n, .bool t.d.y.q.b1, .slice t.d.y.o1 t.d.y.q.t1.length t.d.y.c1, .slice t.d.y.o2 t.d.y.q.q1.length t.d.y.c2, .bool t.d.y.q.b2, .slice t.d.y.o3 t.d.y.q.t2.length t.d.y.c3, .slice t.d.y.o4 t.d.y.q.q2.length t.d.y.c4, .string t.d.s, .slice t.d.ro t.d.rl.length t.d.rc, .slice t.d.lo t.ts.length t.d.lc]) rfl rfl) ?_
                   intro a hA
                   refine seq_do hA rfl rfl rfl (m_loadS hM EqD_isS_30 rfl 1 rfl (cs := [.int .i64 u.d.k, .int .i64 u.d.n, .bool u.d.y.q.b1, .slice u.d.y.o1 u.d.y.q.t1.length u.d.y.c1, .slice u.d.y.o2 u.d.y.q.q1.length u.d.y.c2, .bool u.d.y.q.b2, .slice u.d.y.o3 u.d.y.q.t2.length u.d.y.c3, .slice u.d.y.o4 u.d.y.q.q2.length u.d.y.c4, .string u.d.s, .slice u.d.ro u.d.rl.length u.d.rc, .slice u.d.lo u.ts.length u.d.lc]) rfl rfl) ?_
                   intro a hA
                   refine seq_call hA rfl rfl rfl (enters_func rfl rfl (fun w => by kernel_rfl)) (((equT_of hb25 hb28 hb96) ▸ equal_any (Dt.keep hM.bel _ ht) (Dt.keep hM.bel _ hu) (hT.below hM.bel))) ?_
                   rintro _ w105 ⟨rfl, hb104⟩
                   replace hM := hM.call hb104
                   refine ⟨_, rfl, ?_⟩
                   intro a hA
                   refine seq_do (v := .bool true) hA rfl rfl rfl (does_bin rfl rfl (bin_eqlB Tryz.underlying4)) ?_
                   intro a hA
                   refine seq_do hA rfl rfl rfl (does_move rfl) ?_
                   intro a hA
                   refine seq_do hA rfl rfl rfl (does_move rfl) ?_
                   intro a hA
                   rcases Bool.eq_false_or_eq_true ((cmpT t.tr v.tr == 0)) with hb106 | hb106
                   · have hb106' := eq_of_beq hb106
                     refine seq_do (v := .bool true) hA rfl rfl rfl (does_bin rfl rfl (fun w => (bin_eql w).trans (by rw [hb106]))) ?_
                     intro a hA
                     refine seq_do hA rfl rfl rfl (m_loadS hM EqD_isS_30 rfl 2 rfl (cs := [.int .i64 t.d.k, .int .i64 t.d.n, .bool t.d.y.q.b1, .slice t.d.y.o1 t.d.y.q.t1.length t.d.y.c1, .slice t.d.y.o2 t.d.y.q.q1.length t.d.y.c2, .bool t.d.y.q.b2, .slice t.d.y.o3 t.d.y.q.t2.length t.d.y.c3, .slice t.d.y.o4 t.d.y.q.q2.length t.d.y.c4, .string t.d.s, .slice t.d.ro t.d.rl.length t.d.rc, .slice t.d.lo t.ts.length t.d.lc]) rfl rfl) ?_
                     intro a hA
                     refine seq_do hA rfl rfl rfl (m_loadS hM EqD_isS_30 rfl 0 rfl (cs := [.int .i64 v.d.k, .int .i64 v.d.n, .bool v.d.y.q.b1, .slice v.d.y.o1 v.d.y.q.t1.length v.d.y.c1, .slice v.d.y.o2 v.d.y.q.q1.length v.d.y.c2, .bool v.d.y.q.b2, .slice v.d.y.o3 v.d.y.q.t2.length v.d.y.c3, .slice v.d.y.o4 v.d.y.q.q2.length v.d.y.c4, .string v.d.s, .slice v.d.ro v.d.rl.length v.d.rc, .slice v.d.lo v.ts.length v.d.lc]) rfl rfl) ?_
                     intro a hA
                     refine seq_call hA rfl rfl rfl (enters_func rfl rfl (fun w => by kernel_rfl)) (((equT_of hb25 hb31 hb106) ▸ equal_any (Dt.keep hM.bel _ ht) (Dt.keep hM.bel _ hv) (hT.below hM.bel))) ?_
                     rintro _ w108 ⟨rfl, hb107⟩
                     replace hM := hM.call hb107
                     refine ⟨_, rfl, ?_⟩
                     intro a hA
                     refine seq_do (v := .bool true) hA rfl rfl rfl (does_bin rfl rfl (bin_eqlB Tryz.underlying4)) ?_
                     intro a hA
                     refine seq_do (v := .bool true) hA rfl rfl rfl (does_pick rfl rfl rfl rfl) ?_
                     intro a hA
                     refine seq_do hA rfl rfl rfl (does_assign rfl) ?_
                     intro a hA
                     refine seq_end ?_
                     refine hK95 _ _ ?_
                     refine wp_ret ?_
                     refine hret _ _ ?_
                     refine ends (v := .bool true) hA rfl (.cons (res_tmp rfl) .nil) rfl ?_
                     exact ⟨rfl, hM.bel⟩
                   · have hb106' := ne_of_beq_false hb106
                     refine seq_do (v := .bool false) hA rfl rfl rfl (does_bin rfl rfl (fun w => (bin_eql w).trans (by rw [hb106]))) ?_
                     intro a hA
                     refine seq_do hA rfl rfl rfl (m_loadS hM EqD_isS_30 rfl 2 rfl (cs := [.int .i64 t.d.k, .int .i64 t.d.n, .bool t.d.y.q.b1, .slice t.d.y.o1 t.d.y.q.t1.length t.d.y.c1, .slice t.d.y.o2 t.d.y.q.q1.length t.d.y.c2, .bool t.d.y.q.b2, .slice t.d.y.o3 t.d.y.q.t2.length t.d.y.c3, .slice t.d.y.o4 t.d.y.q.q2.length t.d.y.c4, .string t.d.s, .slice t.d.ro t.d.rl.length t.d.rc, .slice t.d.lo t.ts.length t.d.lc]) rfl rfl) ?_
                     intro a hA
                     refine seq_do hA rfl rfl rfl (m_loadS hM EqD_isS_30 rfl 0 rfl (cs := [.int .i64 v.d.k, .int .i64 v.d.n, .bool v.d.y.q.b1, .slice v.d.y.o1 v.d.y.q.t1.length v.d.y.c1, .slice v.d.y.o2 v.d.y.q.q1.length v.d.y.c2, .bool v.d.y.q.b2, .slice v.d.y.o3 v.d.y.q.t2.length v.d.y.c3, .slice v.d.y.o4 v.d.y.q.q2.length v.d.y.c4, .string v.d.s, .slice v.d.ro v.d.rl.length v.d.rc, .slice v.d.lo v.ts.length v.d.lc]) rfl rfl) ?_
                     intro a hA
                     refine seq_call hA rfl rfl rfl (enters_func rfl rfl (fun w => by kernel_rfl)) (((equT_of hb25 hb31 hb106) ▸ equal_any (Dt.keep hM.bel _ ht) (Dt.keep hM.bel _ hv) (hT.below hM.bel))) ?_
                     rintro _ w110 ⟨rfl, hb109⟩
                     replace hM := hM.call hb109
                     refine ⟨_, rfl, ?_⟩
                     intro a hA
                     refine seq_do (v := .bool true) hA rfl rfl rfl (does_bin rfl rfl (bin_eqlB Tryz.underlying4)) ?_
                     intro a hA
                     refine seq_do (v := .bool true) hA rfl rfl rfl (does_pick rfl rfl rfl rfl) ?_
                     intro a hA
                     refine seq_do hA rfl rfl rfl (does_assign rfl) ?_
                     intro a hA
                     refine seq_end ?_
                     refine hK95 _ _ ?_
                     refine wp_ret ?_
                     refine hret _ _ ?_
                     refine ends (v := .bool true) hA rfl (.cons (res_tmp rfl) .nil) rfl ?_
                     exact ⟨rfl, hM.bel⟩
         · have hb37' := of_decide_eq_false hb37
           refine seq_do (v := .bool false) hA rfl rfl rfl (does_bin rfl rfl (fun w => (bin_leq w).trans (by rw [hb37]))) ?_
           intro a hA
           refine seq_do (v := .bool false) hA rfl rfl rfl (does_pick rfl rfl rfl rfl) ?_
           intro a hA
           refine seq_do hA rfl rfl rfl (does_move rfl) ?_
           intro a hA
           refine seq_skip hA rfl rfl rfl ?_
           intro a hA
           refine seq_skip hA rfl rfl rfl ?_
           intro a hA
           refine seq_do (v := .bool false) hA rfl rfl rfl (does_pick rfl rfl rfl rfl) ?_
           intro a hA
           refine seq_do hA rfl rfl rfl (does_move rfl) ?_
           intro a hA
           refine seq_do hA rfl rfl rfl (does_move rfl) ?_
           intro a hA
           rcases Bool.eq_false_or_eq_true (decide (cmpT t.tr u.tr < 0)) with hb111 | hb111
           · have hb111' := of_decide_eq_true hb111
             refine seq_do (v := .bool true) hA rfl rfl rfl (does_bin rfl rfl (fun w => (bin_lss w).trans (by rw [hb111]))) ?_
             intro a hA
             refine seq_do hA rfl rfl rfl (does_move rfl) ?_
             intro a hA
             refine seq_do hA rfl rfl rfl (does_move rfl) ?_
             intro a hA
             refine seq_do (v := .bool false) hA rfl rfl rfl (does_bin rfl rfl (fun w => (bin_leq w).trans (by rw [show (decide (cmpT u.tr v.tr ≤ 0)) = false from hb37]))) ?_
             intro a hA
             refine seq_do (v := .bool false) hA rfl rfl rfl (does_pick rfl rfl rfl rfl) ?_
             intro a hA
             refine seq_do hA rfl rfl rfl (does_move rfl) ?_
             intro a hA
             refine seq_skip hA rfl rfl rfl ?_
             intro a hA
             refine seq_skip hA rfl rfl rfl ?_
             intro a hA
             refine seq_do (v := .bool false) hA rfl rfl rfl (does_pick rfl rfl rfl rfl) ?_
             intro a hA
             refine seq_do (v := .bool false) hA rfl rfl rfl (does_pick rfl rfl rfl rfl) ?_
             intro a hA
             refine seq_do hA rfl rfl rfl (does_move rfl) ?_
             intro a hA
             refine seq_do hA rfl rfl rfl (does_move rfl) ?_
             intro a hA
             refine seq_do (v := .bool true) hA rfl rfl rfl (does_bin rfl rfl (fun w => (bin_leq w).trans (by rw [show (decide (cmpT t.tr u.tr ≤ 0)) = true from hb36]))) ?_
             intro a hA
             refine seq_do hA rfl rfl rfl (does_move rfl) ?_
             intro a hA
             refine seq_do hA rfl rfl rfl (does_move rfl) ?_
             intro a hA
             refine seq_do (v := .bool false) hA rfl rfl rfl (does_bin rfl rfl (fun w => (bin_lss w).trans (by rw [show (decide (cmpT u.tr v.tr < 0)) = false from (decide_eq_false (by omega))]))) ?_
             intro a hA
             refine seq_do (v := .bool false) hA rfl rfl rfl (does_pick rfl rfl rfl rfl) ?_
             intro a hA
             refine seq_do hA rfl rfl rfl (does_move rfl) ?_
             intro a hA
             refine seq_skip hA rfl rfl rfl ?_
             intro a hA
             refine seq_skip hA rfl rfl rfl ?_
             intro a hA
             refine seq_do (v := .bool false) hA rfl rfl rfl (does_pick rfl rfl rfl rfl) ?_
             intro a hA
             refine seq_do (v := .bool false) hA rfl rfl rfl (does_pick rfl rfl rfl rfl) ?_
             intro a hA
             refine seq_end ?_
             refine hK35 _ _ ?_
             refine wp_cond_false (hA.ev rfl) ?_
             refine wp_skip ?_
             refine hK34 _ _ ?_
             refine wp_seq_k (fun K112 hK112 => ?_)
             refine wp_region_lit ?_
             refine seq_do hA rfl rfl rfl (does_move rfl) ?_
             intro a hA
             rcases Bool.eq_false_or_eq_true ((cmpT t.tr u.tr == 0)) with hb113 | hb113
             · have hb113' := eq_of_beq hb113
               refine seq_do (v := .bool true) hA rfl rfl rfl (does_bin rfl rfl (fun w => (bin_eql w).trans (by rw [hb113]))) ?_
               intro a hA
               refine seq_do hA rfl rfl rfl (m_loadS hM EqD_isS_30 rfl 2 rfl (cs := [.int .i64 t.d.k, .int .i64 t.d.n, .bool t.d.y.q.b1, .slice t.d.y.o1 t.d.y.q.t1.length t.d.y.c1, .slice t.d.y.o2 t.d.y.q.q1.length t.d.y.c2, .bool t.d.y.q.b2, .slice t.d.y.o3 t.d.y.q.t2.length t.d.y.c3, .slice t.d.y.o4 t.d.y.q.q2.length t.d.y.c4, .string t.d.s, .slice t.d.ro t.d.rl.length t.d.rc, .slice t.d.lo t.ts.length t.d.lc]) rfl rfl) ?_
               intro a hA
               refine seq_do hA rfl rfl rfl (m_loadS hM EqD_isS_30 rfl 1 rfl (cs := [.int .i64 u.d.k, .int .i64 u.d.n, .bool u.d.y.q.b1, .slice u.d.y.o1 u.d.y.q.t1.length u.d.y.c1, .slice u.d.y.o2 u.d.y.q.q1.length u.d.y.c2, .bool u.d.y.q.b2, .slice u.d.y.o3 u.d.y.q.t2.length u.d.y.c3, .slice u.d.y.o4 u.d.y.q.q2.length u.d.y.c4, .string u.d.s, .slice u.d.ro u.d.rl.length u.d.rc, .slice u.d.lo u.ts.length u.d.lc]) rfl rfl) ?_
               intro a hA
               refine seq_call hA rfl rfl rfl (enters_func rfl rfl (fun w => by kernel_rfl)) (((equT_of hb25 hb28 hb113) ▸ equal_any (Dt.keep hM.bel _ ht) (Dt.keep hM.bel _ hu) (hT.below hM.bel))) ?_
               rintro _ w115 ⟨rfl, hb114⟩
               replace hM := hM.call hb114
               refine ⟨_, rfl, ?_⟩
               intro a hA
               refine seq_do (v := .bool true) hA rfl rfl rfl (does_bin rfl rfl (bin_eqlB Tryz.underlying4)) ?_
               intro a hA
               refine seq_do hA rfl rfl rfl (does_move rfl) ?_
               intro a hA
               refine seq_do hA rfl rfl rfl (does_move rfl) ?_
               intro a hA
               rcases Bool.eq_false_or_eq_true ((cmpT t.tr v.tr == 0)) with hb116 | hb116
               · have hb116' := eq_of_beq hb116
                 refine seq_do (v := .bool true) hA rfl rfl rfl (does_bin rfl rfl (fun w => (bin_eql w).trans (by rw [hb116]))) ?_
                 intro a hA
                 refine seq_do hA rfl rfl rfl (m_loadS hM EqD_isS_30 rfl 2 rfl (cs := [.int .i64 t.d.k, .int .i64 t.d.n, .bool t.d.y.q.b1, .slice t.d.y.o1 t.d.y.q.t1.length t.d.y.c1, .slice t.d.y.o2 t.d.y.q.q1.length t.d.y.c2, .bool t.d.y.q.b2, .slice t.d.y.o3 t.d.y.q.t2.length t.d.y.c3, .slice t.d.y.o4 t.d.y.q.q2.length t.d.y.c4, .string t.d.s, .slice t.d.ro t.d.rl.length t.d.rc, .slice t.d.lo t.ts.length t.d.lc]) rfl rfl) ?_
                 intro a hA
                 refine seq_do hA rfl rfl rfl (m_loadS hM EqD_isS_30 rfl 0 rfl (cs := [.int .i64 v.d.k, .int .i64 v.d.n, .bool v.d.y.q.b1, .slice v.d.y.o1 v.d.y.q.t1.length v.d.y.c1, .slice v.d.y.o2 v.d.y.q.q1.length v.d.y.c2, .bool v.d.y.q.b2, .slice v.d.y.o3 v.d.y.q.t2.length v.d.y.c3, .slice v.d.y.o4 v.d.y.q.q2.length v.d.y.c4, .string v.d.s, .slice v.d.ro v.d.rl.length v.d.rc, .slice v.d.lo v.ts.length v.d.lc]) rfl rfl) ?_
                 intro a hA
                 refine seq_call hA rfl rfl rfl (enters_func rfl rfl (fun w => by kernel_rfl)) (((equT_of hb25 hb31 hb116) ▸ equal_any (Dt.keep hM.bel _ ht) (Dt.keep hM.bel _ hv) (hT.below hM.bel))) ?_
                 rintro _ w118 ⟨rfl, hb117⟩
                 replace hM := hM.call hb117
                 refine ⟨_, rfl, ?_⟩
                 intro a hA
                 refine seq_do (v := .bool true) hA rfl rfl rfl (does_bin rfl rfl (bin_eqlB Tryz.underlying4)) ?_
                 intro a hA
                 refine seq_do (v := .bool true) hA rfl rfl rfl (does_pick rfl rfl rfl rfl) ?_
                 intro a hA
                 refine seq_do hA rfl rfl rfl (does_assign rfl) ?_
                 intro a hA
                 refine seq_end ?_
                 refine hK112 _ _ ?_
                 refine wp_ret ?_
                 refine hret _ _ ?_
                 refine ends (v := .bool true) hA rfl (.cons (res_tmp rfl) .nil) rfl ?_
                 exact ⟨rfl, hM.bel⟩
               · have hb116' := ne_of_beq_false hb116
                 refine seq_do (v := .bool false) hA rfl rfl rfl (does_bin rfl rfl (fun w => (bin_eql w).trans (by rw [hb116]))) ?_
                 intro a hA
                 refine seq_do hA rfl rfl rfl (m_loadS hM EqD_isS_30 rfl 2 rfl (cs := [.int .i64 t.d.k, .int .i64 t.d.n, .bool t.d.y.q.b1, .slice t.d.y.o1 t.d.y.q.t1.length t.d.y.c1, .slice t.d.y.o2 t.d.y.q.q1.length t.d.y.c2, .bool t.d.y.q.b2, .slice t.d.y.o3 t.d.y.q.t2.length t.d.y.c3, .slice t.d.y.o4 t.d.y.q.q2.length t.d.y.c4, .string t.d.s, .slice t.d.ro t.d.rl.length t.d.rc, .slice t.d.lo t.ts.length t.d.lc]) rfl rfl) ?_
                 intro a hA
                 refine seq_do hA rfl rfl rfl (m_loadS hM EqD_isS_30 rfl 0 rfl (cs := [.int .i64 v.d.k, .int .i64 v.d.n, .bool v.d.y.q.b1, .slice v.d.y.o1 v.d.y.q.t1.length v.d.y.c1, .slice v.d.y.o2 v.d.y.q.q1.length v.d.y.c2, .bool v.d.y.q.b2, .slice v.d.y.o3 v.d.y.q.t2.length v.d.y.c3, .slice v.d.y.o4 v.d.y.q.q2.length v.d.y.c4, .string v.d.s, .slice v.d.ro v.d.rl.length v.d.rc, .slice v.d.lo v.ts.length v.d.lc]) rfl rfl) ?_
                 intro a hA
                 refine seq_call hA rfl rfl rfl (enters_func rfl rfl (fun w => by kernel_rfl)) (((equT_of hb25 hb31 hb116) ▸ equal_any (Dt.keep hM.bel _ ht) (Dt.keep hM.bel _ hv) (hT.below hM.bel))) ?_
                 rintro _ w120 ⟨rfl, hb119⟩
                 replace hM := hM.call hb119
                 refine ⟨_, rfl, ?_⟩
                 intro a hA
                 refine seq_do (v := .bool true) hA rfl rfl rfl (does_bin rfl rfl (bin_eqlB Tryz.underlying4)) ?_
                 intro a hA
                 refine seq_do (v := .bool true) hA rfl rfl rfl (does_pick rfl rfl rfl rfl) ?_
                 intro a hA
                 refine seq_do hA rfl rfl rfl (does_assign rfl) ?_
                 intro a hA
                 refine seq_end ?_
                 refine hK112 _ _ ?_
                 refine wp_ret ?_
                 refine hret _ _ ?_
                 refine ends (v := .bool true) hA rfl (.cons (res_tmp rfl) .nil) rfl ?_
                 exact ⟨rfl, hM.bel⟩
             · have hb113' := ne_of_beq_false hb113
               refine seq_do (v := .bool false) hA rfl rfl rfl (does_bin rfl rfl (fun w => (bin_eql w).trans (by rw [hb113]))) ?_
               intro a hA
               refine seq_do hA rfl rfl rfl (m_loadS hM EqD_isS_30 rfl 2 rfl (cs := [.int .i64 t.d.k, .int .i64 t.d.n, .bool t.d.y.q.b1, .slice t.d.y.o1 t.d.y.q.t1.length t.d.y.c1, .slice t.d.y.o2 t.d.y.q.q1.length t.d.y.c2, .bool t.d.y.q.b2, .slice t.d.y.o3 t.d.y.q.t2.length t.d.y.c3, .slice t.d.y.o4 t.d.y.q.q2.length t.d.y.c4, .string t.d.s, .slice t.d.ro t.d.rl.length t.d.rc, .slice t.d.lo t.ts.length t.d.lc]) rfl rfl) ?_
               intro a hA
               refine seq_do hA rfl rfl rfl (m_loadS hM EqD_isS_30 rfl 1 rfl (cs := [.int .i64 u.d.k, .int .i64 u.d.n, .bool u.d.y.q.b1, .slice u.d.y.o1 u.d.y.q.t1.length u.d.y.c1, .slice u.d.y.o2 u.d.y.q.q1.length u.d.y.c2, .bool u.d.y.q.b2, .slice u.d.y.o3 u.d.y.q.t2.length u.d.y.c3, .slice u.d.y.o4 u.d.y.q.q2.length u.d.y.c4, .string u.d.s, .slice u.d.ro u.d.rl.length u.d.rc, .slice u.d.lo u.ts.length u.d.lc]) rfl rfl) ?_
               intro a hA
               refine seq_call hA rfl rfl rfl (enters_func rfl rfl (fun w => by kernel_rfl)) (((equT_of hb25 hb28 hb113) ▸ equal_any (Dt.keep hM.bel _ ht) (Dt.keep hM.bel _ hu) (hT.below hM.bel))) ?_
               rintro _ w122 ⟨rfl, hb121⟩
               replace hM := hM.call hb121
               refine ⟨_, rfl, ?_⟩
               intro a hA
               refine seq_do (v := .bool true) hA rfl rfl rfl (does_bin rfl rfl (bin_eqlB Tryz.underlying4)) ?_
               intro a hA
               refine seq_do hA rfl rfl rfl (does_move rfl) ?_
               intro a hA
               refine seq_do hA rfl rfl rfl (does_move rfl) ?_
               intro a hA
               rcases Bool.eq_false_or_eq_true ((cmpT t.tr v.tr == 0)) with hb123 | hb123
               · have hb123' := eq_of_beq hb123
                 refine seq_do (v := .bool true) hA rfl rfl rfl (does_bin rfl rfl (fun w => (bin_eql w).trans (by rw [hb123]))) ?_
                 intro a hA
                 refine seq_do hA rfl rfl rfl (m_loadS hM EqD_isS_30 rfl 2 rfl (cs := [.int .i64 t.d.k, .int .i64 t.d.n, .bool t.d.y.q.b1, .slice t.d.y.o1 t.d.y.q.t1.length t.d.y.c1, .slice t.d.y.o2 t.d.y.q.q1.length t.d.y.c2, .bool t.d.y.q.b2, .slice t.d.y.o3 t.d.y.q.t2.length t.d.y.c3, .slice t.d.y.o4 t.d.y.q.q2.length t.d.y.c4, .string t.d.s, .slice t.d.ro t.d.rl.length t.d.rc, .slice t.d.lo t.ts.length t.d.lc]) rfl rfl) ?_
                 intro a hA
                 refine seq_do hA rfl rfl rfl (m_loadS hM EqD_isS_30 rfl 0 rfl (cs := [.int .i64 v.d.k, .int .i64 v.d.n, .bool v.d.y.q.b1, .slice v.d.y.o1 v.d.y.q.t1.length v.d.y.c1, .slice v.d.y.o2 v.d.y.q.q1.length v.d.y.c2, .bool v.d.y.q.b2, .slice v.d.y.o3 v.d.y.q.t2.length v.d.y.c3, .slice v.d.y.o4 v.d.y.q.q2.length v.d.y.c4, .string v.d.s, .slice v.d.ro v.d.rl.length v.d.rc, .slice v.d.lo v.ts.length v.d.lc]) rfl rfl) ?_
                 intro a hA
                 refine seq_call hA rfl rfl rfl (enters_func rfl rfl (fun w => by kernel_rfl)) (((equT_of hb25 hb31 hb123) ▸ equal_any (Dt.keep hM.bel _ ht) (Dt.keep hM.bel _ hv) (hT.below hM.bel))) ?_
                 rintro _ w125 ⟨rfl, hb124⟩
                 replace hM := hM.call hb124
                 refine ⟨_, rfl, ?_⟩
                 intro a hA
                 refine seq_do (v := .bool true) hA rfl rfl rfl (does_bin rfl rfl (bin_eqlB Tryz.underlying4)) ?_
                 intro a hA
                 refine seq_do (v := .bool true) hA rfl rfl rfl (does_pick rfl rfl rfl rfl) ?_
                 intro a hA
                 refine seq_do hA rfl rfl rfl (does_assign rfl) ?_
                 intro a hA
                 refine seq_end ?_
                 refine hK112 _ _ ?_
                 refine wp_ret ?_
                 refine hret _ _ ?_
                 refine ends (v := .bool true) hA rfl (.cons (res_tmp rfl) .nil) rfl ?_
                 exact ⟨rfl, hM.bel⟩
               · have hb123' := ne_of_beq_false hb123
                 refine seq_do (v := .bool false) hA rfl rfl rfl (does_bin rfl rfl (fun w => (bin_eql w).trans (by rw [hb123]))) ?_
                 intro a hA
                 refine seq_do hA rfl rfl rfl (m_loadS hM EqD_isS_30 rfl 2 rfl (cs := [.int .i64 t.d.k, .int .i64 t.d.n, .bool t.d.y.q.b1, .slice t.d.y.o1 t.d.y.q.t1.length t.d.y.c1, .slice t.d.y.o2 t.d.y.q.q1.length t.d.y.c2, .bool t.d.y.q.b2, .slice t.d.y.o3 t.d.y.q.t2.length t.d.y.c3, .slice t.d.y.o4 t.d.y.q.q2.length t.d.y.c4, .string t.d.s, .slice t.d.ro t.d.rl.length t.d.rc, .slice t.d.lo t.ts.length t.d.lc]) rfl rfl) ?_
                 intro a hA
                 refine seq_do hA rfl rfl rfl (m_loadS hM EqD_isS_30 rfl 0 rfl (cs := [.int .i64 v.d.k, .int .i64 v.d.n, .bool v.d.y.q.b1, .slice v.d.y.o1 v.d.y.q.t1.length v.d.y.c1, .slice v.d.y.o2 v.d.y.q.q1.length v.d.y.c2, .bool v.d.y.q.b2, .slice v.d.y.o3 v.d.y.q.t2.length v.d.y.c3, .slice v.d.y.o4 v.d.y.q.q2.length v.d.y.c4, .string v.d.s, .slice v.d.ro v.d.rl.length v.d.rc, .slice v.d.lo v.ts.length v.d.lc]) rfl rfl) ?_
                 intro a hA
                 refine seq_call hA rfl rfl rfl (enters_func rfl rfl (fun w => by kernel_rfl)) (((equT_of hb25 hb31 hb123) ▸ equal_any (Dt.keep hM.bel _ ht) (Dt.keep hM.bel _ hv) (hT.below hM.bel))) ?_
                 rintro _ w127 ⟨rfl, hb126⟩
                 replace hM := hM.call hb126
                 refine ⟨_, rfl, ?_⟩
                 intro a hA
                 refine seq_do (v := .bool true) hA rfl rfl rfl (does_bin rfl rfl (bin_eqlB Tryz.underlying4)) ?_
                 intro a hA
                 refine seq_do (v := .bool true) hA rfl rfl rfl (does_pick rfl rfl rfl rfl) ?_
                 intro a hA
                 refine seq_do hA rfl rfl rfl (does_assign rfl) ?_
                 intro a hA
                 refine seq_end ?_
                 refine hK112 _ _ ?_
                 refine wp_ret ?_
                 refine hret _ _ ?_
                 refine ends (v := .bool true) hA rfl (.cons (res_tmp rfl) .nil) rfl ?_
                 exact ⟨rfl, hM.bel⟩
           · have hb111' := of_decide_eq_false hb111
             refine seq_do (v := .bool false) hA rfl rfl rfl (does_bin rfl rfl (fun w => (bin_lss w).trans (by rw [hb111]))) ?_
             intro a hA
             refine seq_do hA rfl rfl rfl (does_move rfl) ?_
             intro a hA
             refine seq_skip hA rfl rfl rfl ?_
             intro a hA
             refine seq_skip hA rfl rfl rfl ?_
             intro a hA
             refine seq_do (v := .bool false) hA rfl rfl rfl (does_pick rfl rfl rfl rfl) ?_
             intro a hA
             refine seq_do hA rfl rfl rfl (does_move rfl) ?_
             intro a hA
             refine seq_skip hA rfl rfl rfl ?_
             intro a hA
             refine seq_skip hA rfl rfl rfl ?_
             intro a hA
             refine seq_do (v := .bool false) hA rfl rfl rfl (does_pick rfl rfl rfl rfl) ?_
             intro a hA
             refine seq_do (v := .bool false) hA rfl rfl rfl (does_pick rfl rfl rfl rfl) ?_
             intro a hA
             refine seq_do hA rfl rfl rfl (does_move rfl) ?_
             intro a hA
             refine seq_do hA rfl rfl rfl (does_move rfl) ?_
             intro a hA
             refine seq_do (v := .bool true) hA rfl rfl rfl (does_bin rfl rfl (fun w => (bin_leq w).trans (by rw [show (decide (cmpT t.tr u.tr ≤ 0)) = true from hb36]))) ?_
             intro a hA
             refine seq_do hA rfl rfl rfl (does_move rfl) ?_
             intro a hA
             refine seq_do hA rfl rfl rfl (does_move rfl) ?_
             intro a hA
             refine seq_do (v := .bool false) hA rfl rfl rfl (does_bin rfl rfl (fun w => (bin_lss w).trans (by rw [show (decide (cmpT u.tr v.tr < 0)) = false from (decide_eq_false (by omega))]))) ?_
             intro a hA
             refine seq_do (v := .bool false) hA rfl rfl rfl (does_pick rfl rfl rfl rfl) ?_
             intro a hA
             refine seq_do hA rfl rfl rfl (does_move rfl) ?_
             intro a hA
             refine seq_skip hA rfl rfl rfl ?_
             intro a hA
             refine seq_skip hA rfl rfl rfl ?_
             intro a hA
             refine seq_do (v := .bool false) hA rfl rfl rfl (does_pick rfl rfl rfl rfl) ?_
             intro a hA
             refine seq_do (v := .bool false) hA rfl rfl rfl (does_pick rfl rfl rfl rfl) ?_
             intro a hA
             refine seq_end ?_
             refine hK35 _ _ ?_
             refine wp_cond_false (hA.ev rfl) ?_
             refine wp_skip ?_
             refine hK34 _ _ ?_
             refine wp_seq_k (fun K128 hK128 => ?_)
             refine wp_region_lit ?_
             refine seq_do hA rfl rfl rfl (does_move rfl) ?_
             intro a hA
             rcases Bool.eq_false_or_eq_true ((cmpT t.tr u.tr == 0)) with hb129 | hb129
             · have hb129' := eq_of_beq hb129
               refine seq_do (v := .bool true) hA rfl rfl rfl (does_bin rfl rfl (fun w => (bin_eql w).trans (by rw [hb129]))) ?_
               intro a hA
               refine seq_do hA rfl rfl rfl (m_loadS hM EqD_isS_30 rfl 2 rfl (cs := [.int .i64 t.d.k, .int .i64 t.d.n, .bool t.d.y.q.b1, .slice t.d.y.o1 t.d.y.q.t1.length t.d.y.c1, .slice t.d.y.o2 t.d.y.q.q1.length t.d.y.c2, .bool t.d.y.q.b2, .slice t.d.y.o3 t.d.y.q.t2.length t.d.y.c3, .slice t.d.y.o4 t.d.y.q.q2.length t.d.y.c4, .string t.d.s, .slice t.d.ro t.d.rl.length t.d.rc, .slice t.d.lo t.ts.length t.d.lc]) rfl rfl) ?_
               intro a hA
               refine seq_do hA rfl rfl rfl (m_loadS hM EqD_isS_30 rfl 1 rfl (cs := [.int .i64 u.d.k, .int .i64 u.d.n, .bool u.d.y.q.b1, .slice u.d.y.o1 u.d.y.q.t1.length u.d.y.c1, .slice u.d.y.o2 u.d.y.q.q1.length u.d.y.c2, .bool u.d.y.q.b2, .slice u.d.y.o3 u.d.y.q.t2.length u.d.y.c3, .slice u.d.y.o4 u.d.y.q.q2.length u.d.y.c4, .string u.d.s, .slice u.d.ro u.d.rl.length u.d.rc, .slice u.d.lo u.ts.length u.d.lc]) rfl rfl) ?_
               intro a hA
               refine seq_call hA rfl rfl rfl (enters_func rfl rfl (fun w => by kernel_rfl)) (((equT_of hb25 hb28 hb129) ▸ equal_any (Dt.keep hM.bel _ ht) (Dt.keep hM.bel _ hu) (hT.below hM.bel))) ?_
               rintro _ w131 ⟨rfl, hb130⟩
               replace hM := hM.call hb130
               refine ⟨_, rfl, ?_⟩
               intro a hA
               refine seq_do (v := .bool true) hA rfl rfl rfl (does_bin rfl rfl (bin_eqlB Tryz.underlying4)) ?_
               intro a hA
               refine seq_do hA rfl rfl rfl (does_move rfl) ?_
               intro a hA
               refine seq_do hA rfl rfl rfl (does_move rfl) ?_
               intro a hA
               rcases Bool.eq_false_or_eq_true ((cmpT t.tr v.tr == 0)) with hb132 | hb132
               · have hb132' := eq_of_beq hb132
                 refine seq_do (v := .bool true) hA rfl rfl rfl (does_bin rfl rfl (fun w => (bin_eql w).trans (by rw [hb132]))) ?_
                 intro a hA
                 refine seq_do hA rfl rfl rfl (m_loadS hM EqD_isS_30 rfl 2 rfl (cs := [.int .i64 t.d.k, .int .i64 t.d.n, .bool t.d.y.q.b1, .slice t.d.y.o1 t.d.y.q.t1.length t.d.y.c1, .slice t.d.y.o2 t.d.y.q.q1.length t.d.y.c2, .bool t.d.y.q.b2, .slice t.d.y.o3 t.d.y.q.t2.length t.d.y.c3, .slice t.d.y.o4 t.d.y.q.q2.length t.d.y.c4, .string t.d.s, .slice t.d.ro t.d.rl.length t.d.rc, .slice t.d.lo t.ts.length t.d.lc]) rfl rfl) ?_
                 intro a hA
                 refine seq_do hA rfl rfl rfl (m_loadS hM EqD_isS_30 rfl 0 rfl (cs := [.int .i64 v.d.k, .int .i64 v.d.n, .bool v.d.y.q.b1, .slice v.d.y.o1 v.d.y.q.t1.length v.d.y.c1, .slice v.d.y.o2 v.d.y.q.q1.length v.d.y.c2, .bool v.d.y.q.b2, .slice v.d.y.o3 v.d.y.q.t2.length v.d.y.c3, .slice v.d.y.o4 v.d.y.q.q2.length v.d.y.c4, .string v.d.s, .slice v.d.ro v.d.rl.length v.d.rc, .slice v.d.lo v.ts.length v.d.lc]) rfl rfl) ?_
                 intro a hA
                 refine seq_call hA rfl rfl rfl (enters_func rfl rfl (fun w => by kernel_rfl)) (((equT_of hb25 hb31 hb132) ▸ equal_any (Dt.keep hM.bel _ ht) (Dt.keep hM.bel _ hv) (hT.below hM.bel))) ?_
                 rintro _ w134 ⟨rfl, hb133⟩
                 replace hM := hM.call hb133
                 refine ⟨_, rfl, ?_⟩
                 intro a hA
                 refine seq_do (v := .bool true) hA rfl rfl rfl (does_bin rfl rfl (bin_eqlB Tryz.underlying4)) ?_
                 intro a hA
                 refine seq_do (v := .bool true) hA rfl rfl rfl (does_pick rfl rfl rfl rfl) ?_
                 intro a hA
                 refine seq_do hA rfl rfl rfl (does_assign rfl) ?_
                 intro a hA
                 refine seq_end ?_
                 refine hK128 _ _ ?_
                 refine wp_ret ?_
                 refine hret _ _ ?_
                 refine ends (v := .bool true) hA rfl (.cons (res_tmp rfl) .nil) rfl ?_
                 exact ⟨rfl, hM.bel⟩
               · have hb132' := ne_of_beq_false hb132
                 refine seq_do (v := .bool false) hA rfl rfl rfl (does_bin rfl rfl (fun w => (bin_eql w).trans (by rw [hb132]))) ?_
                 intro a hA
                 refine seq_do hA rfl rfl rfl (m_loadS hM EqD_isS_30 rfl 2 rfl (cs := [.int .i64 t.d.k, .int .i64 t.d.n, .bool t.d.y.q.b1, .slice t.d.y.o1 t.d.y.q.t1.length t.d.y.c1, .slice t.d.y.o2 t.d.y.q.q1.length t.d.y.c2, .bool t.d.y.q.b2, .slice t.d.y.o3 t.d.y.q.t2.length t.d.y.c3, .slice t.d.y.o4 t.d.y.q.q2.length t.d.y.c4, .string t.d.s, .slice t.d.ro t.d.rl.length t.d.rc, .slice t.d.lo t.ts.length t.d.lc]) rfl rfl) ?_
                 intro a hA
                 refine seq_do hA rfl rfl rfl (m_loadS hM EqD_isS_30 rfl 0 rfl (cs := [.int .i64 v.d.k, .int .i64 v.d.n, .bool v.d.y.q.b1, .slice v.d.y.o1 v.d.y.q.t1.length v.d.y.c1, .slice v.d.y.o2 v.d.y.q.q1.length v.d.y.c2, .bool v.d.y.q.b2, .slice v.d.y.o3 v.d.y.q.t2.length v.d.y.c3, .slice v.d.y.o4 v.d.y.q.q2.length v.d.y.c4, .string v.d.s, .slice v.d.ro v.d.rl.length v.d.rc, .slice v.d.lo v.ts.length v.d.lc]) rfl rfl) ?_
                 intro a hA
                 refine seq_call hA rfl rfl rfl (enters_func rfl rfl (fun w => by kernel_rfl)) (((equT_of hb25 hb31 hb132) ▸ equal_any (Dt.keep hM.bel _ ht) (Dt.keep hM.bel _ hv) (hT.below hM.bel))) ?_
                 rintro _ w136 ⟨rfl, hb135⟩
                 replace hM := hM.call hb135
                 refine ⟨_, rfl, ?_⟩
                 intro a hA
                 refine seq_do (v := .bool true) hA rfl rfl rfl (does_bin rfl rfl (bin_eqlB Tryz.underlying4)) ?_
                 intro a hA
                 refine seq_do (v := .bool true) hA rfl rfl rfl (does_pick rfl rfl rfl rfl) ?_
                 intro a hA
                 refine seq_do hA rfl rfl rfl (does_assign rfl) ?_
                 intro a hA
                 refine seq_end ?_
                 refine hK128 _ _ ?_
                 refine wp_ret ?_
                 refine hret _ _ ?_
                 refine ends (v := .bool true) hA rfl (.cons (res_tmp rfl) .nil) rfl ?_
                 exact ⟨rfl, hM.bel⟩
             · have hb129' := ne_of_beq_false hb129
               refine seq_do (v := .bool false) hA rfl rfl rfl (does_bin rfl rfl (fun w => (bin_eql w).trans (by rw [hb129]))) ?_
               intro a hA
               refine seq_do hA rfl rfl rfl (m_loadS hM EqD_isS_30 rfl 2 rfl (cs := [.int .i64 t.d.k, .int .i64 t.d.n, .bool t.d.y.q.b1, .slice t.d.y.o1 t.d.y.q.t1.length t.d.y.c1, .slice t.d.y.o2 t.d.y.q.q1.length t.d.y.c2, .bool t.d.y.q.b2, .slice t.d.y.o3 t.d.y.q.t2.length t.d.y.c3, .slice t.d.y.o4 t.d.y.q.q2.length t.d.y.c4, .string t.d.s, .slice t.d.ro t.d.rl.length t.d.rc, .slice t.d.lo t.ts.length t.d.lc]) rfl rfl) ?_
               intro a hA
               refine seq_do hA rfl rfl rfl (m_loadS hM EqD_isS_30 rfl 1 rfl (cs := [.int .i64 u.d.k, .int .i64 u.d.n, .bool u.d.y.q.b1, .slice u.d.y.o1 u.d.y.q.t1.length u.d.y.c1, .slice u.d.y.o2 u.d.y.q.q1.length u.d.y.c2, .bool u.d.y.q.b2, .slice u.d.y.o3 u.d.y.q.t2.length u.d.y.c3, .slice u.d.y.o4 u.d.y.q.q2.length u.d.y.c4, .string u.d.s, .slice u.d.ro u.d.rl.length u.d.rc, .slice u.d.lo u.ts.length u.d.lc]) rfl rfl) ?_
               intro a hA
               refine seq_call hA rfl rfl rfl (enters_func rfl rfl (fun w => by kernel_rfl)) (((equT_of hb25 hb28 hb129) ▸ equal_any (Dt.keep hM.bel _ ht) (Dt.keep hM.bel _ hu) (hT.below hM.bel))) ?_
               rintro _ w138 ⟨rfl, hb137⟩
               replace hM := hM.call hb137
               refine ⟨_, rfl, ?_⟩
               intro a hA
               refine seq_do (v := .bool true) hA rfl rfl rfl (does_bin rfl rfl (bin_eqlB Tryz.underlying4)) ?_
               intro a hA
               refine seq_do hA rfl rfl rfl (does_move rfl) ?_
               intro a hA
               refine seq_do hA rfl rfl rfl (does_move rfl) ?_
               intro a hA
               rcases Bool.eq_false_or_eq_true ((cmpT t.tr v.tr == 0)) with hb139 | hb139
               · have hb139' := eq_of_beq hb139
                 refine seq_do (v := .bool true) hA rfl rfl rfl (does_bin rfl rfl (fun w => (bin_eql w).trans (by rw [hb139]))) ?_
                 intro a hA
                 refine seq_do hA rfl rfl rfl (m_loadS hM EqD_isS_30 rfl 2 rfl (cs := [.int .i64 t.d.k, .int .i64 t.d.n, .bool t.d.y.q.b1, .slice t.d.y.o1 t.d.y.q.t1.length t.d.y.c1, .slice t.d.y.o2 t.d.y.q.q1.length t.d.y.c2, .bool t.d.y.q.b2, .slice t.d.y.o3 t.d.y.q.t2.length t.d.y.c3, .slice t.d.y.o4 t.d.y.q.q2.length t.d.y.c4, .string t.d.s, .slice t.d.ro t.d.rl.length t.d.rc, .slice t.d.lo t.ts.length t.d.lc]) rfl rfl) ?_
                 intro a hA
                 refine seq_do hA rfl rfl rfl (m_loadS hM EqD_isS_30 rfl 0 rfl (cs := [.int .i64 v.d.k, .int .i64 v.d.n, .bool v.d.y.q.b1, .slice v.d.y.o1 v.d.y.q.t1.length v.d.y.c1, .slice v.d.y.o2 v.d.y.q.q1.length v.d.y.c2, .bool v.d.y.q.b2, .slice v.d.y.o3 v.d.y.q.t2.length v.d.y.c3, .slice v.d.y.o4 v.d.y.q.q2.length v.d.y.c4, .string v.d.s, .slice v.d.ro v.d.rl.length v.d.rc, .slice v.d.lo v.ts.length v.d.lc]) rfl rfl) ?_
                 intro a hA
                 refine seq_call hA rfl rfl rfl (enters_func rfl rfl (fun w => by kernel_rfl)) (((equT_of hb25 hb31 hb139) ▸ equal_any (Dt.keep hM.bel _ ht) (Dt.keep hM.bel _ hv) (hT.below hM.bel))) ?_
                 rintro _ w141 ⟨rfl, hb140⟩
                 replace hM := hM.call hb140
                 refine ⟨_, rfl, ?_⟩
                 intro a hA
                 refine seq_do (v := .bool true) hA rfl rfl rfl (does_bin rfl rfl (bin_eqlB Tryz.underlying4)) ?_
                 intro a hA
                 refine seq_do (v := .bool true) hA rfl rfl rfl (does_pick rfl rfl rfl rfl) ?_
                 intro a hA
                 refine seq_do hA rfl rfl rfl (does_assign rfl) ?_
                 intro a hA
                 refine seq_end ?_
                 refine hK128 _ _ ?_
                 refine wp_ret ?_
                 refine hret _ _ ?_
                 refine ends (v := .bool true) hA rfl (.cons (res_tmp rfl) .nil) rfl ?_
                 exact ⟨rfl, hM.bel⟩
               · have hb139' := ne_of_beq_false hb139
                 refine seq_do (v := .bool false) hA rfl rfl rfl (does_bin rfl rfl (fun w => (bin_eql w).trans (by rw [hb139]))) ?_
                 intro a hA
                 refine seq_do hA rfl rfl rfl (m_loadS hM EqD_isS_30 rfl 2 rfl (cs := [.int .i64 t.d.k, .int .i64 t.d.n, .bool t.d.y.q.b1, .slice t.d.y.o1 t.d.y.q.t1.length t.d.y.c1, .slice t.d.y.o2 t.d.y.q.q1.length t.d.y.c2, .bool t.d.y.q.b2, .slice t.d.y.o3 t.d.y.q.t2.length t.d.y.c3, .slice t.d.y.o4 t.d.y.q.q2.length t.d.y.c4, .string t.d.s, .slice t.d.ro t.d.rl.length t.d.rc, .slice t.d.lo t.ts.length t.d.lc]) rfl rfl) ?_
                 intro a hA
                 refine seq_do hA rfl rfl rfl (m_loadS hM EqD_isS_30 rfl 0 rfl (cs := [.int .i64 v.d.k, .int .i64 v.d.n, .bool v.d.y.q.b1, .slice v.d.y.o1 v.d.y.q.t1.length v.d.y.c1, .slice v.d.y.o2 v.d.y.q.q1.length v.d.y.c2, .bool v.d.y.q.b2, .slice v.d.y.o3 v.d.y.q.t2.length v.d.y.c3, .slice v.d.y.o4 v.d.y.q.q2.length v.d.y.c4, .string v.d.s, .slice v.d.ro v.d.rl.length v.d.rc, .slice v.d.lo v.ts.length v.d.lc]) rfl rfl) ?_
                 intro a hA
                 refine seq_call hA rfl rfl rfl (enters_func rfl rfl (fun w => by kernel_rfl)) (((equT_of hb25 hb31 hb139) ▸ equal_any (Dt.keep hM.bel _ ht) (Dt.keep hM.bel _ hv) (hT.below hM.bel))) ?_
                 rintro _ w143 ⟨rfl, hb142⟩
                 replace hM := hM.call hb142
                 refine ⟨_, rfl, ?_⟩
                 intro a hA
                 refine seq_do (v := .bool true) hA rfl rfl rfl (does_bin rfl rfl (bin_eqlB Tryz.underlying4)) ?_
                 intro a hA
                 refine seq_do (v := .bool true) hA rfl rfl rfl (does_pick rfl rfl rfl rfl) ?_
                 intro a hA
                 refine seq_do hA rfl rfl rfl (does_assign rfl) ?_
                 intro a hA
                 refine seq_end ?_
                 refine hK128 _ _ ?_
                 refine wp_ret ?_
                 refine hret _ _ ?_
                 refine ends (v := .bool true) hA rfl (.cons (res_tmp rfl) .nil) rfl ?_
                 exact ⟨rfl, hM.bel⟩
       · have hb36' := of_decide_eq_false hb36
         refine seq_do (v := .bool false) hA rfl rfl rfl (does_bin rfl rfl (fun w => (bin_leq w).trans (by rw [hb36]))) ?_
         intro a hA
         refine seq_do hA rfl rfl rfl (does_move rfl) ?_
         intro a hA
         refine seq_skip hA rfl rfl rfl ?_
         intro a hA
         refine seq_skip hA rfl rfl rfl ?_
         intro a hA
         refine seq_do (v := .bool false) hA rfl rfl rfl (does_pick rfl rfl rfl rfl) ?_
         intro a hA
         refine seq_do hA rfl rfl rfl (does_move rfl) ?_
         intro a hA
         refine seq_skip hA rfl rfl rfl ?_
         intro a hA
         refine seq_skip hA rfl rfl rfl ?_
         intro a hA
         refine seq_do (v := .bool false) hA rfl rfl rfl (does_pick rfl rfl rfl rfl) ?_
         intro a hA
         refine seq_do hA rfl rfl rfl (does_move rfl) ?_
         intro a hA
         refine seq_do hA rfl rfl rfl (does_move rfl) ?_
         intro a hA
         refine seq_do (v := .bool false) hA rfl rfl rfl (does_bin rfl rfl (fun w => (bin_lss w).trans (by rw [show (decide (cmpT t.tr u.tr < 0)) = false from (decide_eq_false (by omega))]))) ?_
         intro a hA
         refine seq_do hA rfl rfl rfl (does_move rfl) ?_
         intro a hA
         refine seq_skip hA rfl rfl rfl ?_
         intro a hA
         refine seq_skip hA rfl rfl rfl ?_
         intro a hA
         refine seq_do (v := .bool false) hA rfl rfl rfl (does_pick rfl rfl rfl rfl) ?_
         intro a hA
         refine seq_do hA rfl rfl rfl (does_move rfl) ?_
         intro a hA
         refine seq_skip hA rfl rfl rfl ?_
         intro a hA
         refine seq_skip hA rfl rfl rfl ?_
         intro a hA
         refine seq_do (v := .bool false) hA rfl rfl rfl (does_pick rfl rfl rfl rfl) ?_
         intro a hA
         refine seq_do (v := .bool false) hA rfl rfl rfl (does_pick rfl rfl rfl rfl) ?_
         intro a hA
         refine seq_do hA rfl rfl rfl (does_move rfl) ?_
         intro a hA
         refine seq_do hA rfl rfl rfl (does_move rfl) ?_
         intro a hA
         refine seq_do (v := .bool false) hA rfl rfl rfl (does_bin rfl rfl (fun w => (bin_leq w).trans (by rw [show (decide (cmpT t.tr u.tr ≤ 0)) = false from hb36]))) ?_
         intro a hA
         refine seq_do hA rfl rfl rfl (does_move rfl) ?_
         intro a hA
         refine seq_skip hA rfl rfl rfl ?_
         intro a hA
         refine seq_skip hA rfl rfl rfl ?_
         intro a hA
         refine seq_do (v := .bool false) hA rfl rfl rfl (does_pick rfl rfl rfl rfl) ?_
         intro a hA
         refine seq_do hA rfl rfl rfl (does_move rfl) ?_
         intro a hA
         refine seq_skip hA rfl rfl rfl ?_
         intro a hA
         refine seq_skip hA rfl rfl rfl ?_
         intro a hA
         refine seq_do (v := .bool false) hA rfl rfl rfl (does_pick rfl rfl rfl rfl) ?_
         intro a hA
         refine seq_do (v := .bool false) hA rfl rfl rfl (does_pick rfl rfl rfl rfl) ?_
         intro a hA
         refine seq_end ?_
         refine hK35 _ _ ?_
         refine wp_cond_false (hA.ev rfl) ?_
         refine wp_skip ?_
         refine hK34 _ _ ?_
         refine wp_seq_k (fun K144 hK144 => ?_)
         refine wp_region_lit ?_
         refine seq_do hA rfl rfl rfl (does_move rfl) ?_
         intro a hA
         rcases Bool.eq_false_or_eq_true ((cmpT t.tr u.tr == 0)) with hb145 | hb145
         · have hb145' := eq_of_beq hb145
           refine seq_do (v := .bool true) hA rfl rfl rfl (does_bin rfl rfl (fun w => (bin_eql w).trans (by rw [hb145]))) ?_
           intro a hA
           refine seq_do hA rfl rfl rfl (m_loadS hM EqD_isS_30 rfl 2 rfl (cs := [.int .i64 t.d.k, .int .i64 t.d.n, .bool t.d.y.q.b1, .slice t.d.y.o1 t.d.y.q.t1.length t.d.y.c1, .slice t.d.y.o2 t.d.y.q.q1.length t.d.y.c2, .bool t.d.y.q.b2, .slice t.d.y.o3 t.d.y.q.t2.length t.d.y.c3, .slice t.d.y.o4 t.d.y.q.q2.length t.d.y.c4, .string t.d.s, .slice t.d.ro t.d.rl.length t.d.rc, .slice t.d.lo t.ts.length t.d.lc]) rfl rfl) ?_
           intro a hA
           refine seq_do hA rfl rfl rfl (m_loadS hM EqD_isS_30 rfl 1 rfl (cs := [.int .i64 u.d.k, .int .i64 u.d.n, .bool u.d.y.q.b1, .slice u.d.y.o1 u.d.y.q.t1.length u.d.y.c1, .slice u.d.y.o2 u.d.y.q.q1.length u.d.y.c2, .bool u.d.y.q.b2, .slice u.d.y.o3 u.d.y.q.t2.length u.d.y.c3, .slice u.d.y.o4 u.d.y.q.q2.length u.d.y.c4, .string u.d.s, .slice u.d.ro u.d.rl.length u.d.rc, .slice u.d.lo u.ts.length u.d.lc]) rfl rfl) ?_
           intro a hA
           refine seq_call hA rfl rfl rfl (enters_func rfl rfl (fun w => by kernel_rfl)) (((equT_of hb25 hb28 hb145) ▸ equal_any (Dt.keep hM.bel _ ht) (Dt.keep hM.bel _ hu) (hT.below hM.bel))) ?_
           rintro _ w147 ⟨rfl, hb146⟩
           replace hM := hM.call hb146
           refine ⟨_, rfl, ?_⟩
           intro a hA
           refine seq_do (v := .bool true) hA rfl rfl rfl (does_bin rfl rfl (bin_eqlB Tryz.underlying4)) ?_
           intro a hA
           refine seq_do hA rfl rfl rfl (does_move rfl) ?_
           intro a hA
           refine seq_do hA rfl rfl rfl (does_move rfl) ?_
           intro a hA
           rcases Bool.eq_false_or_eq_true ((cmpT t.tr v.tr == 0)) with hb148 | hb148
           · have hb148' := eq_of_beq hb148
             refine seq_do (v := .bool true) hA rfl rfl rfl (does_bin rfl rfl (fun w => (bin_eql w).trans (by rw [hb148]))) ?_
             intro a hA
             refine seq_do hA rfl rfl rfl (m_loadS hM EqD_isS_30 rfl 2 rfl (cs := [.int .i64 t.d.k, .int .i64 t.d.n, .bool t.d.y.q.b1, .slice t.d.y.o1 t.d.y.q.t1.length t.d.y.c1, .slice t.d.y.o2 t.d.y.q.q1.length t.d.y.c2, .bool t.d.y.q.b2, .slice t.d.y.o3 t.d.y.q.t2.length t.d.y.c3, .slice t.d.y.o4 t.d.y.q.q2.length t.d.y.c4, .string t.d.s, .slice t.d.ro t.d.rl.length t.d.rc, .slice t.d.lo t.ts.length t.d.lc]) rfl rfl) ?_
             intro a hA
             refine seq_do hA rfl rfl rfl (m_loadS hM EqD_isS_30 rfl 0 rfl (cs := [.int .i64 v.d.k, .int .i64 v.d.n, .bool v.d.y.q.b1, .slice v.d.y.o1 v.d.y.q.t1.length v.d.y.c1, .slice v.d.y.o2 v.d.y.q.q1.length v.d.y.c2, .bool v.d.y.q.b2, .slice v.d.y.o3 v.d.y.q.t2.length v.d.y.c3, .slice v.d.y.o4 v.d.y.q.q2.length v.d.y.c4, .string v.d.s, .slice v.d.ro v.d.rl.length v.d.rc, .slice v.d.lo v.ts.length v.d.lc]) rfl rfl) ?_
             intro a hA
             refine seq_call hA rfl rfl rfl (enters_func rfl rfl (fun w => by kernel_rfl)) (((equT_of hb25 hb31 hb148) ▸ equal_any (Dt.keep hM.bel _ ht) (Dt.keep hM.bel _ hv) (hT.below hM.bel))) ?_
             rintro _ w150 ⟨rfl, hb149⟩
             replace hM := hM.call hb149
             refine ⟨_, rfl, ?_⟩
             intro a hA
             refine seq_do (v := .bool true) hA rfl rfl rfl (does_bin rfl rfl (bin_eqlB Tryz.underlying4)) ?_
             intro a hA
             refine seq_do (v := .bool true) hA rfl rfl rfl (does_pick rfl rfl rfl rfl) ?_
             intro a hA
             refine seq_do hA rfl rfl rfl (does_assign rfl) ?_
             intro a hA
             refine seq_end ?_
             refine hK144 _ _ ?_
             refine wp_ret ?_
             refine hret _ _ ?_
             refine ends (v := .bool true) hA rfl (.cons (res_tmp rfl) .nil) rfl ?_
             exact ⟨rfl, hM.bel⟩
           · have hb148' := ne_of_beq_false hb148
             refine seq_do (v := .bool false) hA rfl rfl rfl (does_bin rfl rfl (fun w => (bin_eql w).trans (by rw [hb148]))) ?_
             intro a hA
             refine seq_do hA rfl rfl rfl (m_loadS hM EqD_isS_30 rfl 2 rfl (cs := [.int .i64 t.d.k, .int .i64 t.d.n, .bool t.d.y.q.b1, .slice t.d.y.o1 t.d.y.q.t1.length t.d.y.c1, .slice t.d.y.o2 t.d.y.q.q1.length t.d.y.c2, .bool t.d.y.q.b2, .slice t.d.y.o3 t.d.y.q.t2.length t.d.y.c3, .slice t.d.y.o4 t.d.y.q.q2.length t.d.y.c4, .string t.d.s, .slice t.d.ro t.d.rl.length t.d.rc, .slice t.d.lo t.ts.length t.d.lc]) rfl rfl) ?_
             intro a hA
             refine seq_do hA rfl rfl rfl (m_loadS hM EqD_isS_30 rfl 0 rfl (cs := [.int .i64 v.d.k, .int .i64 v.d.n, .bool v.d.y.q.b1, .slice v.d.y.o1 v.d.y.q.t1.length v.d.y.c1, .slice v.d.y.o2 v.d.y.q.q1.length v.d.y.c2, .bool v.d.y.q.b2, .slice v.d.y.o3 v.d.y.q.t2.length v.d.y.c3, .slice v.d.y.o4 v.d.y.q.q2.length v.d.y.c4, .string v.d.s, .slice v.d.ro v.d.rl.length v.d.rc, .slice v.d.lo v.ts.length v.d.lc]) rfl rfl) ?_
             intro a hA
             refine seq_call hA rfl rfl rfl (enters_func rfl rfl (fun w => by kernel_rfl)) (((equT_of hb25 hb31 hb148) ▸ equal_any (Dt.keep hM.bel _ ht) (Dt.keep hM.bel _ hv) (hT.below hM.bel))) ?_
             rintro _ w152 ⟨rfl, hb151⟩
             replace hM := hM.call hb151
             refine ⟨_, rfl, ?_⟩
             intro a hA
             refine seq_do (v := .bool true) hA rfl rfl rfl (does_bin rfl rfl (bin_eqlB Tryz.underlying4)) ?_
             intro a hA
             refine seq_do (v := .bool true) hA rfl rfl rfl (does_pick rfl rfl rfl rfl) ?_
             intro a hA
             refine seq_do hA rfl rfl rfl (does_assign rfl) ?_
             intro a hA
             refine seq_end ?_
             refine hK144 _ _ ?_
             refine wp_ret ?_
             refine hret _ _ ?_
             refine ends (v := .bool true) hA rfl (.cons (res_tmp rfl) .nil) rfl ?_
             exact ⟨rfl, hM.bel⟩
         · have hb145' := ne_of_beq_false hb145
           refine seq_do (v := .bool false) hA rfl rfl rfl (does_bin rfl rfl (fun w => (bin_eql w).trans (by rw [hb145]))) ?_
           intro a hA
           refine seq_do hA rfl rfl rfl (m_loadS hM EqD_isS_30 rfl 2 rfl (cs := [.int .i64 t.d.k, .int .i64 t.d.n, .bool t.d.y.q.b1, .slice t.d.y.o1 t.d.y.q.t1.length t.d.y.c1, .slice t.d.y.o2 t.d.y.q.q1.length t.d.y.c2, .bool t.d.y.q.b2, .slice t.d.y.o3 t.d.y.q.t2.length t.d.y.c3, .slice t.d.y.o4 t.d.y.q.q2.length t.d.y.c4, .string t.d.s, .slice t.d.ro t.d.rl.length t.d.rc, .slice t.d.lo t.ts.length t.d.lc]) rfl rfl) ?_
           intro a hA
           refine seq_do hA rfl rfl rfl (m_loadS hM EqD_isS_30 rfl 1 rfl (cs := [.int .i64 u.d.k, .int .i64 u.d.n, .bool u.d.y.q.b1, .slice u.d.y.o1 u.d.y.q.t1.length u.d.y.c1, .slice u.d.y.o2 u.d.y.q.q1.length u.d.y.c2, .bool u.d.y.q.b2, .slice u.d.y.o3 u.d.y.q.t2.length u.d.y.c3, .slice u.d.y.o4 u.d.y.q.q2.length u.d.y.c4, .string u.d.s, .slice u.d.ro u.d.rl.length u.d.rc, .slice u.d.lo u.ts.length u.d.lc]) rfl rfl) ?_
           intro a hA
           refine seq_call hA rfl rfl rfl (enters_func rfl rfl (fun w => by kernel_rfl)) (((equT_of hb25 hb28 hb145) ▸ equal_any (Dt.keep hM.bel _ ht) (Dt.keep hM.bel _ hu) (hT.below hM.bel))) ?_
           rintro _ w154 ⟨rfl, hb153⟩
           replace hM := hM.call hb153
           refine ⟨_, rfl, ?_⟩
           intro a hA
           refine seq_do (v := .bool true) hA rfl rfl rfl (does_bin rfl rfl (bin_eqlB Tryz.underlying4)) ?_
           intro a hA
           refine seq_do hA rfl rfl rfl (does_move rfl) ?_
           intro a hA
           refine seq_do hA rfl rfl rfl (does_move rfl) ?_
           intro a hA
           rcases Bool.eq_false_or_eq_true ((cmpT t.tr v.tr == 0)) with hb155 | hb155
           · have hb155' := eq_of_beq hb155
             refine seq_do (v := .bool true) hA rfl rfl rfl (does_bin rfl rfl (fun w => (bin_eql w).trans (by rw [hb155]))) ?_
             intro a hA
             refine seq_do hA rfl rfl rfl (m_loadS hM EqD_isS_30 rfl 2 rfl (cs := [.int .i64 t.d.k, .int .i64 t.d.n, .bool t.d.y.q.b1, .slice t.d.y.o1 t.d.y.q.t1.length t.d.y.c1, .slice t.d.y.o2 t.d.y.q.q1.length t.d.y.c2, .bool t.d.y.q.b2, .slice t.d.y.o3 t.d.y.q.t2.length t.d.y.c3, .slice t.d.y.o4 t.d.y.q.q2.length t.d.y.c4, .string t.d.s, .slice t.d.ro t.d.rl.length t.d.rc, .slice t.d.lo t.ts.length t.d.lc]) rfl rfl) ?_
             intro a hA
             refine seq_do hA rfl rfl rfl (m_loadS hM EqD_isS_30 rfl 0 rfl (cs := [.int .i64 v.d.k, .int .i64 v.d.n, .bool v.d.y.q.b1, .slice v.d.y.o1 v.d.y.q.t1.length v.d.y.c1, .slice v.d.y.o2 v.d.y.q.q1.length v.d.y.c2, .bool v.d.y.q.b2, .slice v.d.y.o3 v.d.y.q.t2.length v.d.y.c3, .slice v.d.y.o4 v.d.y.q.q2.length v.d.y.c4, .string v.d.s, .slice v.d.ro v.d.rl.length v.d.rc, .slice v.d.lo v.ts.length v.d.lc]) rfl rfl) ?_
             intro a hA
             refine seq_call hA rfl rfl rfl (enters_func rfl rfl (fun w => by kernel_rfl)) (((equT_of hb25 hb31 hb155) ▸ equal_any (Dt.keep hM.bel _ ht) (Dt.keep hM.bel _ hv) (hT.below hM.bel))) ?_
             rintro _ w157 ⟨rfl, hb156⟩
             replace hM := hM.call hb156
             refine ⟨_, rfl, ?_⟩
             intro a hA
             refine seq_do (v := .bool true) hA rfl rfl rfl (does_bin rfl rfl (bin_eqlB Tryz.underlying4)) ?_
             intro a hA
             refine seq_do (v := .bool true) hA rfl rfl rfl (does_pick rfl rfl rfl rfl) ?_
             intro a hA
             refine seq_do hA rfl rfl rfl (does_assign rfl) ?_
             intro a hA
             refine seq_end ?_
             refine hK144 _ _ ?_
             refine wp_ret ?_
             refine hret _ _ ?_
             refine ends (v := .bool true) hA rfl (.cons (res_tmp rfl) .nil) rfl ?_
             exact ⟨rfl, hM.bel⟩
           · have hb155' := ne_of_beq_false hb155
             refine seq_do (v := .bool false) hA rfl rfl rfl (does_bin rfl rfl (fun w => (bin_eql w).trans (by rw [hb155]))) ?_
             intro a hA
             refine seq_do hA rfl rfl rfl (m_loadS hM EqD_isS_30 rfl 2 rfl (cs := [.int .i64 t.d.k, .int .i64 t.d.n, .bool t.d.y.q.b1, .slice t.d.y.o1 t.d.y.q.t1.length t.d.y.c1, .slice t.d.y.o2 t.d.y.q.q1.length t.d.y.c2, .bool t.d.y.q.b2, .slice t.d.y.o3 t.d.y.q.t2.length t.d.y.c3, .slice t.d.y.o4 t.d.y.q.q2.length t.d.y.c4, .string t.d.s, .slice t.d.ro t.d.rl.length t.d.rc, .slice t.d.lo t.ts.length t.d.lc]) rfl rfl) ?_
             intro a hA
             refine seq_do hA rfl rfl rfl (m_loadS hM EqD_isS_30 rfl 0 rfl (cs := [.int .i64 v.d.k, .int .i64 v.d.n, .bool v.d.y.q.b1, .slice v.d.y.o1 v.d.y.q.t1.length v.d.y.c1, .slice v.d.y.o2 v.d.y.q.q1.length v.d.y.c2, .bool v.d.y.q.b2, .slice v.d.y.o3 v.d.y.q.t2.length v.d.y.c3, .slice v.d.y.o4 v.d.y.q.q2.length v.d.y.c4, .string v.d.s, .slice v.d.ro v.d.rl.length v.d.rc, .slice v.d.lo v.ts.length v.d.lc]) rfl rfl) ?_
             intro a hA
             refine seq_call hA rfl rfl rfl (enters_func rfl rfl (fun w => by kernel_rfl)) (((equT_of hb25 hb31 hb155) ▸ equal_any (Dt.keep hM.bel _ ht) (Dt.keep hM.bel _ hv) (hT.below hM.bel))) ?_
             rintro _ w159 ⟨rfl, hb158⟩
             replace hM := hM.call hb158
             refine ⟨_, rfl, ?_⟩
             intro a hA
             refine seq_do (v := .bool true) hA rfl rfl rfl (does_bin rfl rfl (bin_eqlB Tryz.underlying4)) ?_
             intro a hA
             refine seq_do (v := .bool true) hA rfl rfl rfl (does_pick rfl rfl rfl rfl) ?_
             intro a hA
             refine seq_do hA rfl rfl rfl (does_assign rfl) ?_
             intro a hA
             refine seq_end ?_
             refine hK144 _ _ ?_
             refine wp_ret ?_
             refine hret _ _ ?_
             refine ends (v := .bool true) hA rfl (.cons (res_tmp rfl) .nil) rfl ?_
             exact ⟨rfl, hM.bel⟩
     · refine seq_call hA rfl rfl rfl (enters_func rfl rfl (fun w => by kernel_rfl)) ((hb31 ▸ rsound_any (t := v) (Dt.keep hM.bel _ hv) (by omega))) ?_
       rintro _ w161 ⟨rfl, hb160⟩
       replace hM := hM.call hb160
       refine ⟨_, rfl, ?_⟩
       intro a hA
       refine seq_do (v := .bool true) hA rfl rfl rfl (does_un rfl un_not) ?_
       intro a hA
       refine seq_do (v := .bool true) hA rfl rfl rfl (does_pick rfl rfl rfl rfl) ?_
       intro a hA
       refine seq_end ?_
       refine hK24 _ _ ?_
       refine wp_cond_true (hA.ev rfl) ?_
       refine wp_seq_k (fun K162 hK162 => ?_)
       refine wp_region_lit ?_
       refine seq_do hA rfl rfl rfl (m_loadS hM EqD_isS_30 rfl 2 rfl (cs := [.int .i64 t.d.k, .int .i64 t.d.n, .bool t.d.y.q.b1, .slice t.d.y.o1 t.d.y.q.t1.length t.d.y.c1, .slice t.d.y.o2 t.d.y.q.q1.length t.d.y.c2, .bool t.d.y.q.b2, .slice t.d.y.o3 t.d.y.q.t2.length t.d.y.c3, .slice t.d.y.o4 t.d.y.q.q2.length t.d.y.c4, .string t.d.s, .slice t.d.ro t.d.rl.length t.d.rc, .slice t.d.lo t.ts.length t.d.lc]) rfl rfl) ?_
       intro a hA
       refine seq_call hA rfl rfl rfl (enters_func rfl rfl (fun w => by kernel_rfl)) ((hb25 ▸ rsound_any (t := t) (Dt.keep hM.bel _ ht) (by omega))) ?_
       rintro _ w164 ⟨rfl, hb163⟩
       replace hM := hM.call hb163
       refine ⟨_, rfl, ?_⟩
       intro a hA
       refine seq_do hA rfl rfl rfl (does_move rfl) ?_
       intro a hA
       refine seq_do hA rfl rfl rfl (m_loadS hM EqD_isS_30 rfl 1 rfl (cs := [.int .i64 u.d.k, .int .i64 u.d.n, .bool u.d.y.q.b1, .slice u.d.y.o1 u.d.y.q.t1.length u.d.y.c1, .slice u.d.y.o2 u.d.y.q.q1.length u.d.y.c2, .bool u.d.y.q.b2, .slice u.d.y.o3 u.d.y.q.t2.length u.d.y.c3, .slice u.d.y.o4 u.d.y.q.q2.length u.d.y.c4, .string u.d.s, .slice u.d.ro u.d.rl.length u.d.rc, .slice u.d.lo u.ts.length u.d.lc]) rfl rfl) ?_
       intro a hA
       refine seq_call hA rfl rfl rfl (enters_func rfl rfl (fun w => by kernel_rfl)) ((hb28 ▸ rsound_any (t := u) (Dt.keep hM.bel _ hu) (by omega))) ?_
       rintro _ w166 ⟨rfl, hb165⟩
       replace hM := hM.call hb165
       refine ⟨_, rfl, ?_⟩
       intro a hA
       refine seq_do (v := .bool true) hA rfl rfl rfl (does_pick rfl rfl rfl rfl) ?_
       intro a hA
       refine seq_do hA rfl rfl rfl (does_move rfl) ?_
       intro a hA
       refine seq_skip hA rfl rfl rfl ?_
       intro a hA
       refine seq_skip hA rfl rfl rfl ?_
       intro a hA
       refine seq_do (v := .bool true) hA rfl rfl rfl (does_pick rfl rfl rfl rfl) ?_
       intro a hA
       refine seq_do hA rfl rfl rfl (does_move rfl) ?_
       intro a hA
       refine seq_do hA rfl rfl rfl (m_loadS hM EqD_isS_30 rfl 1 rfl (cs := [.int .i64 u.d.k, .int .i64 u.d.n, .bool u.d.y.q.b1, .slice u.d.y.o1 u.d.y.q.t1.length u.d.y.c1, .slice u.d.y.o2 u.d.y.q.q1.length u.d.y.c2, .bool u.d.y.q.b2, .slice u.d.y.o3 u.d.y.q.t2.length u.d.y.c3, .slice u.d.y.o4 u.d.y.q.q2.length u.d.y.c4, .string u.d.s, .slice u.d.ro u.d.rl.length u.d.rc, .slice u.d.lo u.ts.length u.d.lc]) rfl rfl) ?_
       intro a hA
       refine seq_call hA rfl rfl rfl (enters_func rfl rfl (fun w => by kernel_rfl)) ((hb28 ▸ rsound_any (t := u) (Dt.keep hM.bel _ hu) (by omega))) ?_
       rintro _ w168 ⟨rfl, hb167⟩
       replace hM := hM.call hb167
       refine ⟨_, rfl, ?_⟩
       intro a hA
       refine seq_do hA rfl rfl rfl (does_move rfl) ?_
       intro a hA
       refine seq_do hA rfl rfl rfl (m_loadS hM EqD_isS_30 rfl 0 rfl (cs := [.int .i64 v.d.k, .int .i64 v.d.n, .bool v.d.y.q.b1, .slice v.d.y.o1 v.d.y.q.t1.length v.d.y.c1, .slice v.d.y.o2 v.d.y.q.q1.length v.d.y.c2, .bool v.d.y.q.b2, .slice v.d.y.o3 v.d.y.q.t2.length v.d.y.c3, .slice v.d.y.o4 v.d.y.q.q2.length v.d.y.c4, .string v.d.s, .slice v.d.ro v.d.rl.length v.d.rc, .slice v.d.lo v.ts.length v.d.lc]) rfl rfl) ?_
       intro a hA
       refine seq_call hA rfl rfl rfl (enters_func rfl rfl (fun w => by kernel_rfl)) ((hb31 ▸ rsound_any (t := v) (Dt.keep hM.bel _ hv) (by omega))) ?_
       rintro _ w170 ⟨rfl, hb169⟩
       replace hM := hM.call hb169
       refine ⟨_, rfl, ?_⟩
       intro a hA
       refine seq_do (v := .bool false) hA rfl rfl rfl (does_pick rfl rfl rfl rfl) ?_
       intro a hA
       refine seq_do hA rfl rfl rfl (does_move rfl) ?_
       intro a hA
       refine seq_do hA rfl rfl rfl (does_move rfl) ?_
       intro a hA
       refine seq_do (v := .bool true) hA rfl rfl rfl (does_bin rfl rfl (fun w => (bin_eql w).trans (by rw [show ((cmpT u.tr v.tr == 0)) = true from (beq_iff_eq.2 (cmpT_no (.inr hb31)))]))) ?_
       intro a hA
       refine seq_do (v := .bool true) hA rfl rfl rfl (does_pick rfl rfl rfl rfl) ?_
       intro a hA
       refine seq_do (v := .bool true) hA rfl rfl rfl (does_pick rfl rfl rfl rfl) ?_
       intro a hA
       refine seq_do hA rfl rfl rfl (does_assign rfl) ?_
       intro a hA
       refine seq_end ?_
       refine hK162 _ _ ?_
       refine wp_ret ?_
       refine hret _ _ ?_
       refine ends (v := .bool true) hA rfl (.cons (res_tmp rfl) .nil) rfl ?_
       exact ⟨rfl, hM.bel⟩
   · refine seq_call hA rfl rfl rfl (enters_func rfl rfl (fun w => by kernel_rfl)) ((hb28 ▸ rsound_any (t := u) (Dt.keep hM.bel _ hu) (by omega))) ?_
     rintro _ w172 ⟨rfl, hb171⟩
     replace hM := hM.call hb171
     refine ⟨_, rfl, ?_⟩
     intro a hA
     refine seq_do (v := .bool true) hA rfl rfl rfl (does_un rfl un_not) ?_
     intro a hA
     refine seq_do (v := .bool true) hA rfl rfl rfl (does_pick rfl rfl rfl rfl) ?_
     intro a hA
     refine seq_do hA rfl rfl rfl (does_move rfl) ?_
     intro a hA
     refine seq_skip hA rfl rfl rfl ?_
     intro a hA
     refine seq_skip hA rfl rfl rfl ?_
     intro a hA
     refine seq_skip hA rfl rfl rfl ?_
     intro a hA
     refine seq_do (v := .bool true) hA rfl rfl rfl (does_pick rfl rfl rfl rfl) ?_
     intro a hA
     refine seq_end ?_
     refine hK24 _ _ ?_
     refine wp_cond_true (hA.ev rfl) ?_
     refine wp_seq_k (fun K173 hK173 => ?_)
     refine wp_region_lit ?_
     refine seq_do hA rfl rfl rfl (m_loadS hM EqD_isS_30 rfl 2 rfl (cs := [.int .i64 t.d.k, .int .i64 t.d.n, .bool t.d.y.q.b1, .slice t.d.y.o1 t.d.y.q.t1.length t.d.y.c1, .slice t.d.y.o2 t.d.y.q.q1.length t.d.y.c2, .bool t.d.y.q.b2, .slice t.d.y.o3 t.d.y.q.t2.length t.d.y.c3, .slice t.d.y.o4 t.d.y.q.q2.length t.d.y.c4, .string t.d.s, .slice t.d.ro t.d.rl.length t.d.rc, .slice t.d.lo t.ts.length t.d.lc]) rfl rfl) ?_
     intro a hA
     refine seq_call hA rfl rfl rfl (enters_func rfl rfl (fun w => by kernel_rfl)) ((hb25 ▸ rsound_any (t := t) (Dt.keep hM.bel _ ht) (by omega))) ?_
     rintro _ w175 ⟨rfl, hb174⟩
     replace hM := hM.call hb174
     refine ⟨_, rfl, ?_⟩
     intro a hA
     refine seq_do hA rfl rfl rfl (does_move rfl) ?_
     intro a hA
     refine seq_do hA rfl rfl rfl (m_loadS hM EqD_isS_30 rfl 1 rfl (cs := [.int .i64 u.d.k, .int .i64 u.d.n, .bool u.d.y.q.b1, .slice u.d.y.o1 u.d.y.q.t1.length u.d.y.c1, .slice u.d.y.o2 u.d.y.q.q1.length u.d.y.c2, .bool u.d.y.q.b2, .slice u.d.y.o3 u.d.y.q.t2.length u.d.y.c3, .slice u.d.y.o4 u.d.y.q.q2.length u.d.y.c4, .string u.d.s, .slice u.d.ro u.d.rl.length u.d.rc, .slice u.d.lo u.ts.length u.d.lc]) rfl rfl) ?_
     intro a hA
     refine seq_call hA rfl rfl rfl (enters_func rfl rfl (fun w => by kernel_rfl)) ((hb28 ▸ rsound_any (t := u) (Dt.keep hM.bel _ hu) (by omega))) ?_
     rintro _ w177 ⟨rfl, hb176⟩
     replace hM := hM.call hb176
     refine ⟨_, rfl, ?_⟩
     intro a hA
     refine seq_do (v := .bool false) hA rfl rfl rfl (does_pick rfl rfl rfl rfl) ?_
     intro a hA
     refine seq_do hA rfl rfl rfl (does_move rfl) ?_
     intro a hA
     refine seq_do hA rfl rfl rfl (does_move rfl) ?_
     intro a hA
     refine seq_do (v := .bool true) hA rfl rfl rfl (does_bin rfl rfl (fun w => (bin_eql w).trans (by rw [show ((cmpT t.tr u.tr == 0)) = true from (beq_iff_eq.2 (cmpT_no (.inr hb28)))]))) ?_
     intro a hA
     refine seq_do (v := .bool true) hA rfl rfl rfl (does_pick rfl rfl rfl rfl) ?_
     intro a hA
     refine seq_do hA rfl rfl rfl (does_move rfl) ?_
     intro a hA
     refine seq_do hA rfl rfl rfl (m_loadS hM EqD_isS_30 rfl 1 rfl (cs := [.int .i64 u.d.k, .int .i64 u.d.n, .bool u.d.y.q.b1, .slice u.d.y.o1 u.d.y.q.t1.length u.d.y.c1, .slice u.d.y.o2 u.d.y.q.q1.length u.d.y.c2, .bool u.d.y.q.b2, .slice u.d.y.o3 u.d.y.q.t2.length u.d.y.c3, .slice u.d.y.o4 u.d.y.q.q2.length u.d.y.c4, .string u.d.s, .slice u.d.ro u.d.rl.length u.d.rc, .slice u.d.lo u.ts.length u.d.lc]) rfl rfl) ?_
     intro a hA
     refine seq_call hA rfl rfl rfl (enters_func rfl rfl (fun w => by kernel_rfl)) ((hb28 ▸ rsound_any (t := u) (Dt.keep hM.bel _ hu) (by omega))) ?_
     rintro _ w179 ⟨rfl, hb178⟩
     replace hM := hM.call hb178
     refine ⟨_, rfl, ?_⟩
     intro a hA
     refine seq_do hA rfl rfl rfl (does_move rfl) ?_
     intro a hA
     refine seq_skip hA rfl rfl rfl ?_
     intro a hA
     refine seq_skip hA rfl rfl rfl ?_
     intro a hA
     refine seq_do (v := .bool false) hA rfl rfl rfl (does_pick rfl rfl rfl rfl) ?_
     intro a hA
     refine seq_do hA rfl rfl rfl (does_move rfl) ?_
     intro a hA
     refine seq_do hA rfl rfl rfl (does_move rfl) ?_
     intro a hA
     refine seq_do (v := .bool true) hA rfl rfl rfl (does_bin rfl rfl (fun w => (bin_eql w).trans (by rw [show ((cmpT u.tr v.tr == 0)) = true from (beq_iff_eq.2 (cmpT_no (.inl hb28)))]))) ?_
     intro a hA
     refine seq_do (v := .bool true) hA rfl rfl rfl (does_pick rfl rfl rfl rfl) ?_
     intro a hA
     refine seq_do (v := .bool true) hA rfl rfl rfl (does_pick rfl rfl rfl rfl) ?_
     intro a hA
     refine seq_do hA rfl rfl rfl (does_assign rfl) ?_
     intro a hA
     refine seq_end ?_
     refine hK173 _ _ ?_
     refine wp_ret ?_
     refine hret _ _ ?_
     refine ends (v := .bool true) hA rfl (.cons (res_tmp rfl) .nil) rfl ?_
     exact ⟨rfl, hM.bel⟩
 · refine seq_call hA rfl rfl rfl (enters_func rfl rfl (fun w => by kernel_rfl)) ((hb25 ▸ rsound_any (t := t) (Dt.keep hM.bel _ ht) (by omega))) ?_
   rintro _ w181 ⟨rfl, hb180⟩
   replace hM := hM.call hb180
   refine ⟨_, rfl, ?_⟩
   intro a hA
   refine seq_do (v := .bool true) hA rfl rfl rfl (does_un rfl un_not) ?_
   intro a hA
   refine seq_do hA rfl rfl rfl (does_move rfl) ?_
   intro a hA
   refine seq_skip hA rfl rfl rfl ?_
   intro a hA
   refine seq_skip hA rfl rfl rfl ?_
   intro a hA
   refine seq_skip hA rfl rfl rfl ?_
   intro a hA
   refine seq_do (v := .bool true) hA rfl rfl rfl (does_pick rfl rfl rfl rfl) ?_
   intro a hA
   refine seq_do hA rfl rfl rfl (does_move rfl) ?_
   intro a hA
   refine seq_skip hA rfl rfl rfl ?_
   intro a hA
   refine seq_skip hA rfl rfl rfl ?_
   intro a hA
   refine seq_skip hA rfl rfl rfl ?_
   intro a hA
   refine seq_do (v := .bool true) hA rfl rfl rfl (does_pick rfl rfl rfl rfl) ?_
   intro a hA
   refine seq_end ?_
   refine hK24 _ _ ?_
   refine wp_cond_true (hA.ev rfl) ?_
   refine wp_seq_k (fun K182 hK182 => ?_)
   refine wp_region_lit ?_
   refine seq_do hA rfl rfl rfl (m_loadS hM EqD_isS_30 rfl 2 rfl (cs := [.int .i64 t.d.k, .int .i64 t.d.n, .bool t.d.y.q.b1, .slice t.d.y.o1 t.d.y.q.t1.length t.d.y.c1, .slice t.d.y.o2 t.d.y.q.q1.length t.d.y.c2, .bool t.d.y.q.b2, .slice t.d.y.o3 t.d.y.q.t2.length t.d.y.c3, .slice t.d.y.o4 t.d.y.q.q2.length t.d.y.c4, .string t.d.s, .slice t.d.ro t.d.rl.length t.d.rc, .slice t.d.lo t.ts.length t.d.lc]) rfl rfl) ?_
   intro a hA
   refine seq_call hA rfl rfl rfl (enters_func rfl rfl (fun w => by kernel_rfl)) ((hb25 ▸ rsound_any (t := t) (Dt.keep hM.bel _ ht) (by omega))) ?_
   rintro _ w184 ⟨rfl, hb183⟩
   replace hM := hM.call hb183
   refine ⟨_, rfl, ?_⟩
   intro a hA
   refine seq_do hA rfl rfl rfl (does_move rfl) ?_
   intro a hA
   refine seq_skip hA rfl rfl rfl ?_
   intro a hA
   refine seq_skip hA rfl rfl rfl ?_
   intro a hA
   refine seq_do (v := .bool false) hA rfl rfl rfl (does_pick rfl rfl rfl rfl) ?_
   intro a hA
   refine seq_do hA rfl rfl rfl (does_move rfl) ?_
   intro a hA
   refine seq_do hA rfl rfl rfl (does_move rfl) ?_
   intro a hA
   refine seq_do (v := .bool true) hA rfl rfl rfl (does_bin rfl rfl (fun w => (bin_eql w).trans (by rw [show ((cmpT t.tr u.tr == 0)) = true from (beq_iff_eq.2 (cmpT_no (.inl hb25)))]))) ?_
   intro a hA
   refine seq_do (v := .bool true) hA rfl rfl rfl (does_pick rfl rfl rfl rfl) ?_
   intro a hA
   refine seq_do hA rfl rfl rfl (does_move rfl) ?_
   intro a hA
   refine seq_do hA rfl rfl rfl (m_loadS hM EqD_isS_30 rfl 1 rfl (cs := [.int .i64 u.d.k, .int .i64 u.d.n, .bool u.d.y.q.b1, .slice u.d.y.o1 u.d.y.q.t1.length u.d.y.c1, .slice u.d.y.o2 u.d.y.q.q1.length u.d.y.c2, .bool u.d.y.q.b2, .slice u.d.y.o3 u.d.y.q.t2.length u.d.y.c3, .slice u.d.y.o4 u.d.y.q.q2.length u.d.y.c4, .string u.d.s, .slice u.d.ro u.d.rl.length u.d.rc, .slice u.d.lo u.ts.length u.d.lc]) rfl rfl) ?_
   intro a hA
   rcases Bool.eq_false_or_eq_true (soundT shapeT u.tr) with hb185 | hb185
   · refine seq_call hA rfl rfl rfl (enters_func rfl rfl (fun w => by kernel_rfl)) ((hb185 ▸ rsound_any (t := u) (Dt.keep hM.bel _ hu) (by omega))) ?_
     rintro _ w187 ⟨rfl, hb186⟩
     replace hM := hM.call hb186
     refine ⟨_, rfl, ?_⟩
     intro a hA
     refine seq_do hA rfl rfl rfl (does_move rfl) ?_
     intro a hA
     refine seq_do hA rfl rfl rfl (m_loadS hM EqD_isS_30 rfl 0 rfl (cs := [.int .i64 v.d.k, .int .i64 v.d.n, .bool v.d.y.q.b1, .slice v.d.y.o1 v.d.y.q.t1.length v.d.y.c1, .slice v.d.y.o2 v.d.y.q.q1.length v.d.y.c2, .bool v.d.y.q.b2, .slice v.d.y.o3 v.d.y.q.t2.length v.d.y.c3, .slice v.d.y.o4 v.d.y.q.q2.length v.d.y.c4, .string v.d.s, .slice v.d.ro v.d.rl.length v.d.rc, .slice v.d.lo v.ts.length v.d.lc]) rfl rfl) ?_
     intro a hA
     rcases Bool.eq_false_or_eq_true (soundT shapeT v.tr) with hb188 | hb188
     · refine seq_call hA rfl rfl rfl (enters_func rfl rfl (fun w => by kernel_rfl)) ((hb188 ▸ rsound_any (t := v) (Dt.keep hM.bel _ hv) (by omega))) ?_
       rintro _ w190 ⟨rfl, hb189⟩
       replace hM := hM.call hb189
       refine ⟨_, rfl, ?_⟩
       intro a hA
       refine seq_do (v := .bool true) hA rfl rfl rfl (does_pick rfl rfl rfl rfl) ?_
       intro a hA
       refine seq_do hA rfl rfl rfl (does_move rfl) ?_
       intro a hA
       refine seq_skip hA rfl rfl rfl ?_
       intro a hA
       refine seq_skip hA rfl rfl rfl ?_
       intro a hA
       refine seq_do (v := .bool true) hA rfl rfl rfl (does_pick rfl rfl rfl rfl) ?_
       intro a hA
       refine seq_do (v := .bool true) hA rfl rfl rfl (does_pick rfl rfl rfl rfl) ?_
       intro a hA
       refine seq_do hA rfl rfl rfl (does_assign rfl) ?_
       intro a hA
       refine seq_end ?_
       refine hK182 _ _ ?_
       refine wp_ret ?_
       refine hret _ _ ?_
       refine ends (v := .bool true) hA rfl (.cons (res_tmp rfl) .nil) rfl ?_
       exact ⟨rfl, hM.bel⟩
     · refine seq_call hA rfl rfl rfl (enters_func rfl rfl (fun w => by kernel_rfl)) ((hb188 ▸ rsound_any (t := v) (Dt.keep hM.bel _ hv) (by omega))) ?_
       rintro _ w192 ⟨rfl, hb191⟩
       replace hM := hM.call hb191
       refine ⟨_, rfl, ?_⟩
       intro a hA
       refine seq_do (v := .bool false) hA rfl rfl rfl (does_pick rfl rfl rfl rfl) ?_
       intro a hA
       refine seq_do hA rfl rfl rfl (does_move rfl) ?_
       intro a hA
       refine seq_do hA rfl rfl rfl (does_move rfl) ?_
       intro a hA
       refine seq_do (v := .bool true) hA rfl rfl rfl (does_bin rfl rfl (fun w => (bin_eql w).trans (by rw [show ((cmpT u.tr v.tr == 0)) = true from (beq_iff_eq.2 (cmpT_no (.inr hb188)))]))) ?_
       intro a hA
       refine seq_do (v := .bool true) hA rfl rfl rfl (does_pick rfl rfl rfl rfl) ?_
       intro a hA
       refine seq_do (v := .bool true) hA rfl rfl rfl (does_pick rfl rfl rfl rfl) ?_
       intro a hA
       refine seq_do hA rfl rfl rfl (does_assign rfl) ?_
       intro a hA
       refine seq_end ?_
       refine hK182 _ _ ?_
       refine wp_ret ?_
       refine hret _ _ ?_
       refine ends (v := .bool true) hA rfl (.cons (res_tmp rfl) .nil) rfl ?_
       exact ⟨rfl, hM.bel⟩
   · refine seq_call hA rfl rfl rfl (enters_func rfl rfl (fun w => by kernel_rfl)) ((hb185 ▸ rsound_any (t := u) (Dt.keep hM.bel _ hu) (by omega))) ?_
     rintro _ w194 ⟨rfl, hb193⟩
     replace hM := hM.call hb193
     refine ⟨_, rfl, ?_⟩
     intro a hA
     refine seq_do hA rfl rfl rfl (does_move rfl) ?_
     intro a hA
     refine seq_skip hA rfl rfl rfl ?_
     intro a hA
     refine seq_skip hA rfl rfl rfl ?_
     intro a hA
     refine seq_do (v := .bool false) hA rfl rfl rfl (does_pick rfl rfl rfl rfl) ?_
     intro a hA
     refine seq_do hA rfl rfl rfl (does_move rfl) ?_
     intro a hA
     refine seq_do hA rfl rfl rfl (does_move rfl) ?_
     intro a hA
     refine seq_do (v := .bool true) hA rfl rfl rfl (does_bin rfl rfl (fun w => (bin_eql w).trans (by rw [show ((cmpT u.tr v.tr == 0)) = true from (beq_iff_eq.2 (cmpT_no (.inl hb185)))]))) ?_
     intro a hA
     refine seq_do (v := .bool true) hA rfl rfl rfl (does_pick rfl rfl rfl rfl) ?_
     intro a hA
     refine seq_do (v := .bool true) hA rfl rfl rfl (does_pick rfl rfl rfl rfl) ?_
     intro a hA
     refine seq_do hA rfl rfl rfl (does_assign rfl) ?_
     intro a hA
     refine seq_end ?_
     refine hK182 _ _ ?_
     refine wp_ret ?_
     refine hret _ _ ?_
     refine ends (v := .bool true) hA rfl (.cons (res_tmp rfl) .nil) rfl ?_
     exact ⟨rfl, hM.bel⟩
end Go.Proofs.YtabjlejolmmeeaaGreatDoor.G
namespace Go.Proofs.YtabjlejolmmeeaaGreatDoor
set_option linter.unusedVariables false

section
variable {H : Type}
theorem bulk_pos (d : DataW H) : 0 < Rows.uptoBulk d := by
  unfold Rows.uptoBulk
  split <;> omega
theorem bulk_len : ∀ l : List (DataW H), l.length ≤ Rows.uptoBulkAll l
  | [] => by simp
  | d :: l => by
    have h1 := bulk_pos d
    have h2 := bulk_len l
    simp only [Rows.uptoBulkAll, List.length_cons]
    omega
theorem bulk_row (xs ys : List (DataW H)) : xs.length ≤ Rows.uptoBulk (.slice xs ys) := by
  have := bulk_len xs
  simp only [Rows.uptoBulk]
  omega
theorem bulk_in {d : DataW H} : ∀ {l : List (DataW H)}, d ∈ l → Rows.uptoBulk d ≤ Rows.uptoBulkAll l
  | c :: l, h => by
    simp only [Rows.uptoBulkAll]
    rcases List.mem_cons.1 h with rfl | h
    · omega
    · have := bulk_in h
      omega
theorem bulk_at {l : List (DataW H)} (hk : Rows.uptoSmall H l = true) {j : Nat} {d : DataW H} (hd : l[j]? = some d) : Rows.uptoBulk d ≤ 1048576 :=
  Nat.le_trans (bulk_in (List.mem_of_getElem? hd)) (of_decide_eq_true hk)
end
end Go.Proofs.YtabjlejolmmeeaaGreatDoor
namespace Go.Proofs.YtabjlejolmmeeaaGreatDoor.G
open Go.ChangeShapes Go.WideShapes Go.ChangeAt Go.RowKit Go.Joins Go.Deep
set_option linter.unusedVariables false
set_option linter.unusedSimpArgs false
set_option maxRecDepth 100000

section
variable {H : Type} {enc : TypeId × Value → H} {W : World}
end
theorem bytes_row {w : World} {x : Addr} {len cap : Nat} {zs : List Int} (hl : len ≤ cap) (hz : zs.length = cap)
    (hc : ∀ i, i < zs.length → w.cell? (x.add i) = some (.int .u8 (zs.getD i 0))) (hw : ∀ n ∈ zs, (Lit.int .u8 n).wf = true) :
    ∃ l : List UInt8, l.length = len ∧ Rb w (some x) l := by
  have hbd : ∀ n ∈ zs, 0 ≤ n ∧ n < 256 := by
    intro n hn
    have := bounds_u8 (hw n hn)
    omega
  refine ⟨(zs.take len).map b8, by rw [List.length_map, List.length_take]; omega, ⟨fun hne => ?_⟩⟩
  have hlen : ((zs.take len).map b8).length = len := by rw [List.length_map, List.length_take]; omega
  have h0 : 0 < len := by
    apply Classical.byContradiction
    intro h
    have : len = 0 := by omega
    subst this
    simp at hne
  obtain ⟨b, off, spot⟩ := x
  have hspot : spot = none := by
    have := hc 0 (by omega)
    simp only [World.cell?, Addr.add] at this
    split at this
    · cases spot with
      | none => rfl
      | some s => simp at this
    · cases this
  subst hspot
  have hcj : ∀ j, j < len → w.cell? ⟨b, off + j, none⟩ = some (.int .u8 (((((zs.take len).map b8).getD j 0).toNat : Nat) : Int)) := by
    intro j hj
    have h1 := hc j (by omega)
    rw [Addr.add_lit] at h1
    rw [h1]
    have hjz : j < zs.length := by omega
    have h2 := hbd zs[j] (List.getElem_mem hjz)
    have e1 : zs.getD j 0 = zs[j] := by simp [hjz]
    have e2 : ((zs.take len).map b8).getD j 0 = b8 zs[j] := by simp [List.getD_eq_getElem?_getD, hj, hjz]
    rw [e1, e2, b8_val h2.1 h2.2]
  refine ⟨b, off, rfl, ?_, fun j hj => hcj j (by omega)⟩
  have := hcj 0 h0
  apply Classical.byContradiction
  intro h
  simp [World.cell?, Array.getElem?_eq_none (Nat.le_of_not_lt h)] at this
section
variable {H : Type} {enc : TypeId × Value → H} {W : World}
end
theorem Rb.take {w : World} {so : Option Addr} {l : List UInt8} (h : Rb w so l) (n : Nat) : Rb w so (l.take n) := by
  refine ⟨fun hne => ?_⟩
  obtain ⟨b, off, h1, h2, h3⟩ := h.pos (fun k => hne (by rw [k]; simp))
  refine ⟨b, off, h1, h2, fun j hj => ?_⟩
  rw [List.length_take] at hj
  rw [h3 j (by omega), List.getD_eq_getElem?_getD, List.getD_eq_getElem?_getD, List.getElem?_take_of_lt (by omega)]
section
variable {P : Program} {w : World} {l : List (Nat × Value)} {dst : Option Tmp} {ty : TypeId} {pos : String} {after : Array Edge} {guard : Option (Nat × Bool)}
end
def Nu.cells (y : Nu) : List Value := [.bool y.q.b1, .slice y.o1 y.q.t1.length y.c1, .slice y.o2 y.q.q1.length y.c2, .bool y.q.b2, .slice y.o3 y.q.t2.length y.c3, .slice y.o4 y.q.q2.length y.c4]
theorem cellD_lt {w : World} {b o : Nat} {v : Value} (h : w.cell? ⟨b, o, none⟩ = some v) : b < w.heap.size := by
  apply Classical.byContradiction
  intro k
  simp [World.cell?, Array.getElem?_eq_none (Nat.le_of_not_lt k)] at h
section
variable {H : Type} {enc : TypeId × Value → H} {W : World}
theorem bulk_agg (l : List (DataW H)) : Rows.uptoBulk (.agg l) = Rows.uptoBulkAll l + 1 := by simp only [Rows.uptoBulk]
theorem trodU_bytes {fuel : Nat} {v : Value} {x : DataW H × List MemPlace} (h : DataW.trod enc Tryz.prog W 0 (fun _ => true) true fuel 27 [v] = some x) : ∃ so cap l, v = .slice so (l : List UInt8).length cap ∧ Rb W so l ∧ l.length ≤ cap ∧ cap ≤ 9223372036854775807 ∧ l.length ≤ Rows.uptoBulk x.1 := by
  rcases open_ints Tryz.underlying27 Tryz.underlying5 (by kernel_rfl) h with ⟨hcs, _⟩ | ⟨x, l, c, zs, hcs, _, hl, hm, hz, hx, hcell, hwz⟩
  · simp only [List.cons.injEq, and_true] at hcs
    subst hcs
    exact ⟨none, 0, [], rfl, ⟨fun k => absurd rfl k⟩, Nat.le_refl _, by decide, Nat.zero_le _⟩
  · simp only [List.cons.injEq, and_true] at hcs
    subst hcs
    obtain ⟨us, e, ha⟩ := bytes_row hl (by simpa using hz) hcell hwz
    subst e
    subst hx
    refine ⟨_, _, us, rfl, ha, hl, hm, ?_⟩
    simp only [if_true] at hz
    refine Nat.le_trans ?_ (bulk_row _ _)
    simp only [lits, List.length_map, List.length_take, List.length_drop]
    omega
theorem trodU_words {fuel : Nat} {v : Value} {x : DataW H × List MemPlace} (h : DataW.trod enc Tryz.prog W 0 (fun _ => true) true fuel 22 [v] = some x) : ∃ ao c l, v = .slice ao (l : List Nat).length c ∧ Arg W ao c l ∧ l.length ≤ Rows.uptoBulk x.1 := by
  rcases open_ints Tryz.underlying22 Tryz.underlying68 (by kernel_rfl) h with ⟨hcs, _⟩ | ⟨x, l, c, zs, hcs, _, hl, hm, hz, hx, hcell, hwz⟩
  · cases hcs
    exact ⟨none, 0, [], rfl, arg_nil W, Nat.zero_le _⟩
  · cases hcs
    obtain ⟨us, e, ha⟩ := arg_row hl hm (by simpa using hz) hcell hwz
    subst e
    subst hx
    refine ⟨_, _, us, rfl, ha, ?_⟩
    simp only [if_true] at hz
    refine Nat.le_trans ?_ (bulk_row _ _)
    simp only [lits, List.length_map, List.length_take, List.length_drop]
    omega
theorem trodU_rat {fuel : Nat} {v0 v1 v2 : Value} {x : DataW H × List MemPlace} (h : DataW.trod enc Tryz.prog W 0 (fun _ => true) true fuel 24 [v0, v1, v2] = some x) : ∃ b o1 c1 l1 o2 c2 l2, v0 = .bool b ∧ v1 = .slice o1 (l1 : List Nat).length c1 ∧ v2 = .slice o2 (l2 : List Nat).length c2 ∧ Arg W o1 c1 l1 ∧ Arg W o2 c2 l2 ∧ l1.length + l2.length ≤ Rows.uptoBulk x.1 := by
  obtain ⟨y0, y1, y2, n, hx, _, h0, h1, h2⟩ := trod_struct3 Tryz.underlying24 h
  have e0 : Tryz.prog.cellsOf 4 = 1 := by kernel_rfl
  have e1 : Tryz.prog.cellsOf 22 = 1 := by kernel_rfl
  simp only [e0, e1, List.drop_zero, List.take_succ_cons, List.take_zero, List.drop_succ_cons] at h0 h1 h2
  obtain ⟨b, rfl⟩ := trod_bool h0
  obtain ⟨o1, c1, l1, rfl, a1, k1⟩ := trodU_words h1
  obtain ⟨o2, c2, l2, rfl, a2, k2⟩ := trodU_words h2
  refine ⟨b, o1, c1, l1, o2, c2, l2, rfl, rfl, rfl, a1, a2, ?_⟩
  rw [hx, bulk_agg]
  simp only [Rows.uptoBulkAll]
  omega
theorem trodU_num {fuel : Nat} {cs : List Value} {x : DataW H × List MemPlace} (hl : cs.length = 6) (h : DataW.trod enc Tryz.prog W 0 (fun _ => true) true fuel 26 cs = some x) :
    ∃ y : Nu, cs = y.cells ∧ y.nm W ∧ LenQ y.q ∧ y.q.t1.length + y.q.q1.length + (y.q.t2.length + y.q.q2.length) ≤ Rows.uptoBulk x.1 := by
  match cs, hl with
  | [v0, v1, v2, v3, v4, v5], _ =>
    obtain ⟨y0, y1, n, hx, _, h0, h1⟩ := trod_struct2 Tryz.underlying26 h
    have e : Tryz.prog.cellsOf 24 = 3 := by kernel_rfl
    simp only [e, List.drop_zero, List.take_succ_cons, List.take_zero, List.drop_succ_cons] at h0 h1
    obtain ⟨b1, o1, c1, l1, o2, c2, l2, rfl, rfl, rfl, a1, a2, k1⟩ := trodU_rat h0
    obtain ⟨b2, o3, c3, l3, o4, c4, l4, rfl, rfl, rfl, a3, a4, k2⟩ := trodU_rat h1
    refine ⟨⟨⟨b1, l1, l2, b2, l3, l4⟩, o1, c1, o2, c2, o3, c3, o4, c4⟩, rfl, ⟨⟨a1.rd, a1.nil, a1.caps⟩, ⟨a2.rd, a2.nil, a2.caps⟩, ⟨a3.rd, a3.nil, a3.caps⟩, ⟨a4.rd, a4.nil, a4.caps⟩⟩, ⟨a1.len, a2.len, a3.len, a4.len⟩, ?_⟩
    rw [hx, bulk_agg]
    simp only [Rows.uptoBulkAll]
    omega
/-- One datum, as it lies in a row of cells; and a list of them. -/
def OpenD (H : Type) (enc : TypeId × Value → H) (W : World) (fuel : Nat) : Prop := ∀ (cs : List Value) (x : DataW H × List MemPlace), DataW.trod enc Tryz.prog W 0 (fun _ => true) true fuel 30 cs = some x → ∃ t : Dt, cs = t.cells ∧ t.rd W ∧ t.tr.bulk ≤ Rows.uptoBulk x.1
theorem trodU_data {fuel : Nat} {v : Value} {x : DataW H × List MemPlace} (ih : ∀ n, n < fuel → OpenD H enc W n) (h : DataW.trod enc Tryz.prog W 0 (fun _ => true) true fuel 28 [v] = some x) :
    ∃ lo lc ts, v = .slice lo (ts : List Dt).length lc ∧ ts.length ≤ lc ∧ lc ≤ 9223372036854775807 ∧ Rt W lo ts ∧ (∀ t ∈ ts, t.rd W) ∧ Tr.bulks (ts.map Dt.tr) ≤ Rows.uptoBulk x.1 := by
  rcases DataW.trod_slice Tryz.underlying28 h with ⟨hcs, _⟩ | ⟨a, len, cap, elems, rest, n, hf, hcs, hx, _, hl, hm, hlen, hel, _, _⟩
  · simp only [List.cons.injEq, and_true] at hcs
    subst hcs
    exact ⟨none, 0, [], rfl, Nat.le_refl _, by decide, fun k => absurd rfl k, fun _ k => by simp at k, Nat.zero_le _⟩
  · simp only [List.cons.injEq, and_true] at hcs
    subst hcs
    rw [show Tryz.prog.cellsOf 30 = 11 from by kernel_rfl] at hel
    have each : ∀ i, ∃ t : Dt, i < len → t.rd W ∧ (∀ j v, t.cells[j]? = some v → W.cell? ((a.add (i * 11)).add j) = some v) ∧ ∃ y, elems[i]? = some y ∧ t.tr.bulk ≤ Rows.uptoBulk y.1 := by
      intro i
      by_cases hi : i < len
      · have h1 := hel i hi
        rw [List.getElem?_eq_getElem (by omega)] at h1
        obtain ⟨cs, h2, h3⟩ := Option.bind_eq_some_iff.1 h1
        obtain ⟨_, hlc, hcell⟩ := World.cells?_some h2
        obtain ⟨t, rfl, hr, hb⟩ := ih n (by omega) cs _ h3
        exact ⟨t, fun _ => ⟨hr, fun j v hj => by rw [hcell j (by have := (List.getElem?_eq_some_iff.1 hj).1; rw [hlc] at this; exact this)]; exact hj, _, List.getElem?_eq_getElem (by omega), hb⟩⟩
      · exact ⟨.mk ⟨0, 0, ⟨⟨false, [], [], false, [], []⟩, none, 0, none, 0, none, 0, none, 0⟩, ⟨#[]⟩, none, 0, [], none, 0⟩ [], fun k => absurd k hi⟩
    obtain ⟨F, hF⟩ := Classical.skolem.1 each
    have hget : ∀ (j : Nat) (q : Dt), ((List.range len).map F)[j]? = some q → j < len ∧ q = F j := by
      intro j q hq
      rw [List.getElem?_map] at hq
      obtain ⟨y, h1, h2⟩ := Option.map_eq_some_iff.1 hq
      obtain ⟨h3, h4⟩ := List.getElem?_eq_some_iff.1 h1
      rw [List.length_range] at h3
      rw [List.getElem_range] at h4
      subst h4
      exact ⟨h3, h2.symm⟩
    refine ⟨some a, cap, (List.range len).map F, by simp, by simpa using hl, hm, fun hne => ?_, fun t ht => ?_, ?_⟩
    · have hn : 0 < len := by
        apply Classical.byContradiction
        intro k
        exact hne (by rw [show len = 0 from by omega]; rfl)
      obtain ⟨b, off, spot⟩ := a
      have h0 := (hF 0 hn).2.1 0 _ rfl
      have hspot : spot = none := by simpa [Addr.add] using World.cell?_spot h0
      subst hspot
      refine ⟨b, off, rfl, fun i t hi => ?_⟩
      obtain ⟨hlt, rfl⟩ := hget i t hi
      have hat : ∀ j v, (F i).cells[j]? = some v → W.cell? ⟨b, off + i * 11 + j, none⟩ = some v := fun j v hj => by
        have := (hF i hlt).2.1 j v hj
        rwa [Addr.add_lit, Addr.add_lit] at this
      exact ⟨cellD_lt (hat 0 _ rfl), hat⟩
    · obtain ⟨j, hj⟩ := List.mem_iff_getElem?.1 ht
      obtain ⟨h1, rfl⟩ := hget j t hj
      exact (hF j h1).1
    · rw [hx]
      have key : ∀ m, m ≤ len → Tr.bulks (((List.range m).map F).map Dt.tr) ≤ Rows.uptoBulkAll ((elems.map (·.1)).take m) := by
        intro m
        induction m with
        | zero => intro _; simp [Tr.bulks]
        | succ m ih2 =>
          intro hm2
          have hs : ∀ (l : List Tr) (t : Tr), Tr.bulks (l ++ [t]) = Tr.bulks l + t.bulk := by
            intro l t
            induction l with
            | nil => simp [Tr.bulks]
            | cons u l ih3 => simp only [List.cons_append, Tr.bulks, ih3]; omega
          have hu : ∀ (l : List (DataW H)) (d : DataW H), Rows.uptoBulkAll (l ++ [d]) = Rows.uptoBulkAll l + Rows.uptoBulk d := by
            intro l d
            induction l with
            | nil => simp [Rows.uptoBulkAll]
            | cons u l ih3 => simp only [List.cons_append, Rows.uptoBulkAll, ih3]; omega
          obtain ⟨_, _, y, hy, hb⟩ := hF m (by omega)
          have := ih2 (by omega)
          rw [List.range_succ, List.map_append, List.map_append, List.take_add_one, List.getElem?_map, hy]
          simp only [List.map_cons, List.map_nil, Option.map_some, Option.toList_some]
          rw [hs, hu]
          omega
      have h1 := key len (Nat.le_refl _)
      rw [List.take_of_length_le (by rw [List.length_map]; omega)] at h1
      simp only [Rows.uptoBulk]
      omega
theorem open_dt : ∀ fuel, OpenD H enc W fuel := by
  intro fuel
  induction fuel using Nat.strongRecOn with
  | ind fuel ih =>
    intro cs x h
    obtain ⟨xs, n, hfu, hx, hl, hxl, hf⟩ := DataW.trod_struct Tryz.underlying30 h
    rw [show Tryz.prog.cellsOf 30 = 11 from by kernel_rfl] at hl
    match cs, hl with
    | [v0, v1, v2, v3, v4, v5, v6, v7, v8, v9, v10], _ =>
      match xs, hxl with
      | [x0, x1, x2, x3, x4, x5], _ =>
        have g0 := hf 0 _ rfl
        have g1 := hf 1 _ rfl
        have g2 := hf 2 _ rfl
        have g3 := hf 3 _ rfl
        have g4 := hf 4 _ rfl
        have g5 := hf 5 _ rfl
        have c1 : Tryz.prog.cellsOf 3 = 1 := by kernel_rfl
        have c2 : Tryz.prog.cellsOf 26 = 6 := by kernel_rfl
        have c3 : Tryz.prog.cellsOf 9 = 1 := by kernel_rfl
        have c4 : Tryz.prog.cellsOf 27 = 1 := by kernel_rfl
        have c5 : Tryz.prog.cellsOf 28 = 1 := by kernel_rfl
        simp only [c1, c2, c3, c4, c5, List.drop_zero, List.take_succ_cons, List.take_zero, List.drop_succ_cons, List.getElem?_cons_zero, List.getElem?_cons_succ] at g0 g1 g2 g3 g4 g5
        obtain ⟨k, e0, _, w0⟩ := DataW.trod_int Tryz.underlying3 g0
        obtain ⟨m, e1, _, w1⟩ := DataW.trod_int Tryz.underlying3 g1
        obtain ⟨y, e2, hy, hq, b2⟩ := trodU_num rfl g2
        obtain ⟨s, e3, hs, hsm⟩ := DataW.trod_string Tryz.underlying9 g3
        obtain ⟨ro, rc, rl, e4, hr, hrc, hrm, b4⟩ := trodU_bytes g4
        obtain ⟨lo, lc, ts, e5, hlc, hlm, hrt, hrd, b5⟩ := trodU_data (fun n' hn' => ih n' (by omega)) g5
        have bk := bounds_i64 w0
        have bm := bounds_i64 w1
        refine ⟨.mk ⟨k, m, y, s, ro, rc, rl, lo, lc⟩ ts, ?_, ?_, ?_⟩
        · injection e0 with f0
          injection e1 with f1
          injection e3 with f3
          injection e2 with e20 g
          injection g with e21 g
          injection g with e22 g
          injection g with e23 g
          injection g with e24 g
          injection g with e25 g
          subst f0 f1 f3 e4 e5 e20 e21 e22 e23 e24 e25
          rfl
        · rw [Dt.rd_iff]
          exact ⟨⟨hy, hq, hr, hrc, hrm, bk.1, bk.2, bm.1, bm.2, hsm⟩, hlc, hlm, hrt, hrd⟩
        · rw [Dt.tr_mk, trbulk_mk, hx, bulk_agg]
          have h3 : Rows.uptoBulk x3.1 = s.size + 1 := by
            rw [hs]
            rw [show Rows.uptoBulk (DataW.lit (H := H) (.string s.data.toList)) = s.data.toList.length + 1 from by simp only [Rows.uptoBulk], Array.length_toList]
            rfl
          simp only [List.map_cons, List.map_nil, Rows.uptoBulkAll]
          have := bulk_pos x0.1
          omega
theorem open_datum {base : Nat} {v : Value} {d : DataW H} {p : List MemPlace} (hv : Value.okWide Tryz.prog W .any base 30 v) (h : DataW.Trod enc Tryz.prog W 0 (fun _ => true) true 30 v d p) :
    ∃ t : Dt, v = .agg t.cells.toArray ∧ t.rd W ∧ t.tr.bulk ≤ Rows.uptoBulk d := by
  obtain ⟨cs, rfl, hsz⟩ := okWide_struct Tryz.underlying30 hv
  obtain ⟨fuel, hf⟩ := h
  obtain ⟨t, e, hr, hb⟩ := open_dt fuel _ _ hf
  refine ⟨t, ?_, hr, hb⟩
  rw [← e]
  rfl
end
end Go.Proofs.YtabjlejolmmeeaaGreatDoor.G
