/- TrV TrW JcN JcO Ja ShelfH -/
import Derived.Test.YtoopkbedjbnhhaaGreatDoorPimport15g
import Derived.Test.YtoopkbedjbnhhaaGreatDoorPimport15c
import Derived.Test.YtoopkbedjbnhhaaGreatDoorPimport15f
import Derived.Test.YtoopkbedjbnhhaaGreatDoorPimport15e
import Derived.Maps.RangeRun
import Derived.Shelf.Small.Utf8
import Derived.Shelf.Small.Bits
import Derived.Shelf.Strconv.Itoa0
import Derived.Shelf.LaysM
import Derived.Shelf.Strconv.Clone
import Derived.Shelf.Slices.Equal
import Derived.Ground.Names2Prog
import Derived.Shelf.Slices.SearchI
import Derived.Shelf.Slices.Empties2
import Derived.Ground.SlgnProg
import Derived.Shelf.SlicesE.Clone
import Derived.Test.YtoopkbedjbnhhaaGreatDoorProg
set_option linter.unusedVariables false
set_option linter.unusedSimpArgs false
set_option maxHeartbeats 1000000
namespace Go.Proofs.YtoopkbedjbnhhaaGreatDoor.G
open Go.RowKit
set_option maxRecDepth 100000
theorem TrV_is1_27 : Is1 Tryz.prog 27 := ⟨⟨_, Tryz.underlying27, rfl⟩, by kernel_rfl⟩
theorem TrV_is1_28 : Is1 Tryz.prog 28 := ⟨⟨_, Tryz.underlying28, rfl⟩, by kernel_rfl⟩
theorem TrV_is1_3 : Is1 Tryz.prog 3 := ⟨⟨_, Tryz.underlying3, rfl⟩, by kernel_rfl⟩
theorem TrV_is1_4 : Is1 Tryz.prog 4 := ⟨⟨_, Tryz.underlying4, rfl⟩, by kernel_rfl⟩
theorem TrV_is1_9 : Is1 Tryz.prog 9 := ⟨⟨_, Tryz.underlying9, rfl⟩, by kernel_rfl⟩
theorem TrV_fld_219_1 : FieldAt Tryz.prog 219 1 1 := ⟨_, _, Tryz.underlying219, rfl, rfl, by kernel_rfl⟩
theorem TrV_fld_26_0 : FieldAt Tryz.prog 26 0 0 := ⟨_, _, Tryz.underlying26, rfl, rfl, by kernel_rfl⟩
theorem TrV_fld_26_1 : FieldAt Tryz.prog 26 1 3 := ⟨_, _, Tryz.underlying26, rfl, rfl, by kernel_rfl⟩
theorem TrV_fld_30_0 : FieldAt Tryz.prog 30 0 0 := ⟨_, _, Tryz.underlying30, rfl, rfl, by kernel_rfl⟩
theorem TrV_fld_30_1 : FieldAt Tryz.prog 30 1 1 := ⟨_, _, Tryz.underlying30, rfl, rfl, by kernel_rfl⟩
theorem TrV_fld_30_2 : FieldAt Tryz.prog 30 2 2 := ⟨_, _, Tryz.underlying30, rfl, rfl, by kernel_rfl⟩
theorem TrV_fld_30_3 : FieldAt Tryz.prog 30 3 8 := ⟨_, _, Tryz.underlying30, rfl, rfl, by kernel_rfl⟩
theorem TrV_fld_30_4 : FieldAt Tryz.prog 30 4 9 := ⟨_, _, Tryz.underlying30, rfl, rfl, by kernel_rfl⟩
theorem TrV_fld_30_5 : FieldAt Tryz.prog 30 5 10 := ⟨_, _, Tryz.underlying30, rfl, rfl, by kernel_rfl⟩
theorem TrV_isS_24 : IsS Tryz.prog 24 3 := ⟨⟨_, Tryz.underlying24⟩, by kernel_rfl⟩
theorem TrV_isS_26 : IsS Tryz.prog 26 6 := ⟨⟨_, Tryz.underlying26⟩, by kernel_rfl⟩
theorem runits1_any {w : World} {so : Option Addr} {cap : Nat} {l : List UInt8} (hb : Rb w so l) (hlen : l.length ≤ 4000000) : Calls Tryz.prog 171 #[.int .i64 1, .slice so l.length cap] w fun e w' => ∃ v, e = .returned v ∧ Mg w w' [.row 219 3 v (xf l).length (xm (xf l))] := by
 have hM : Mg w w ([]) := Mg.start w
 refine qz (l := [(0, .int .i64 1), (1, .slice so l.length cap)]) Tryz.func171 rfl Tryz.ntmps171 rfl rfl ?_
 intro Q hret hnorm hP a hA
 refine wp_seq_k (fun K1 hK1 => ?_)
 refine wp_region_lit ?_
 refine qa hA rfl rfl rfl (qb rfl) ?_
 intro a hA
 refine qf ?_
 refine hK1 _ _ ?_
 refine wp_seq_k (fun K2 hK2 => ?_)
 refine wp_seq_k (fun K3 hK3 => ?_)
 refine wp_region_lit ?_
 refine qa hA rfl rfl rfl (qe rfl) ?_
 intro a hA
 refine qa (v := .bool true) hA rfl rfl rfl (qg rfl rfl (fun w => by kernel_rfl)) ?_
 intro a hA
 refine qf ?_
 refine hK3 _ _ ?_
 refine wp_cond_true (hA.ev rfl) ?_
 refine wp_seq_k (fun K4 hK4 => ?_)
 refine wp_region_lit ?_
 refine qa hA rfl rfl rfl (qe rfl) ?_
 intro a hA
 refine qm hA rfl rfl rfl (qh rfl rfl (fun w => by kernel_rfl)) (rutf8_any (hb.below hM.bel) hlen) ?_
 rintro _ w5 ⟨v9, rfl, hM9⟩
 replace hM : Mg w w5 (.row 219 3 (v9) ((xf l).length) ((xm (xf l))) :: []) := (hM.both hM9 (qy zd) (qw (by simp) (qy zd)))
 refine ⟨_, rfl, ?_⟩
 intro a hA
 refine qa hA rfl rfl rfl (qb rfl) ?_
 intro a hA
 refine qf ?_
 refine hK4 _ _ ?_
 refine wp_ret ?_
 refine hret _ _ ?_
 refine za (v := v9) hA rfl (.cons (qk rfl) .nil) rfl ?_
 exact ⟨_, rfl, hM⟩
theorem qle {w : World} {s : ByteArray} (hs : s.size ≤ 4000000) {r : Bool} (hr : okS s = r) : Calls Tryz.prog 135 #[.string s] w fun e w' => e = .returned (.bool r) ∧ Below w.heap.size w w' := by
 have hul : (xf s.data.toList).length ≤ s.data.toList.length := qld _ _ _
 have hsl : s.data.toList.length ≤ 4000000 := by rw [ub]; exact hs
 have hM : Mg w w ([]) := Mg.start w
 refine qz (l := [(0, .string s)]) Tryz.func135 rfl Tryz.ntmps135 rfl rfl ?_
 intro Q hret hnorm hP a hA
 refine wp_seq_k (fun K1 hK1 => ?_)
 refine wp_region_lit ?_
 refine qa hA rfl rfl rfl (qb rfl) ?_
 intro a hA
 refine qf ?_
 refine hK1 _ _ ?_
 refine wp_seq_k (fun K2 hK2 => ?_)
 refine wp_region_lit ?_
 refine qa hA rfl rfl rfl (qe rfl) ?_
 intro a hA
 refine s_bytes hA hM rfl Tryz.underlying9 Tryz.underlying27 Tryz.underlying5 rfl rfl rfl rfl ?_
 intro so3 ca4 w5 hrb6 hM a hA
 refine qm hA rfl rfl rfl (qh rfl rfl (fun w => by kernel_rfl)) (runits1_any hrb6 (by rw [ub]; exact hs)) ?_
 rintro _ w10 ⟨v9, rfl, hM7⟩
 obtain ⟨so8, ca9, rfl⟩ := owns_sliceE (hM7.has 0 rfl)
 replace hM : Mg w w10 (.row 219 3 (.slice so8 ((xf s.data.toList).length) ca9) ((xf s.data.toList).length) ((xm (xf s.data.toList))) :: []) := (hM.both hM7 (qy zd) (qw (by simp) (qy zd)))
 refine ⟨_, rfl, ?_⟩
 intro a hA
 refine qa hA rfl rfl rfl (qb rfl) ?_
 intro a hA
 refine qf ?_
 refine hK2 _ _ ?_
 refine wp_seq_k (fun K11 hK11 => ?_)
 refine wp_seq_k (fun K12 hK12 => ?_)
 refine wp_region_lit ?_
 refine qa hA rfl rfl rfl (qb rfl) ?_
 intro a hA
 refine qf ?_
 refine hK12 _ _ ?_
 refine wp_block ?_
 refine jd (fun m_ a w1 => ∃ (i : Nat), m_ = 1 + ((xf s.data.toList).length - i) ∧ (i ≤ (xf s.data.toList).length ∧ ∀ j ua ur, j < i → (xf s.data.toList)[j]? = some (ua, ur) → ur ≠ -1) ∧ Sl a 19 [(0, .string s), (3, .slice so8 ((xf s.data.toList).length) ca9), (4, .int .i64 (((i : Nat) : Int))), (5, .string s), (6, .slice so3 s.data.toList.length ca4), (7, .slice so8 ((xf s.data.toList).length) ca9)] ∧ Mg w w1 (.row 219 3 (.slice so8 ((xf s.data.toList).length) ca9) ((xf s.data.toList).length) ((xm (xf s.data.toList))) :: [])) _ ⟨0, rfl, ⟨Nat.zero_le _, fun j ua ur hj => absurd hj (Nat.not_lt_zero _)⟩, hA.keep _ (by repeat' constructor), hM⟩ ?_
 clear hM hA
 rintro m_ a w13 ⟨i, rfl, hinv15, hA, hM⟩ K14 hK14
 obtain ⟨hi0, hin9⟩ := hinv15
 refine wp_seq_k (fun K16 hK16 => ?_)
 refine wp_seq_k (fun K17 hK17 => ?_)
 refine wp_region_lit ?_
 refine qa hA rfl rfl rfl (qe rfl) ?_
 intro a hA
 refine qa hA rfl rfl rfl (qe rfl) ?_
 intro a hA
 refine qa (v := .int .i64 ((((xf s.data.toList).length : Nat) : Int))) hA rfl rfl rfl (zb Tryz.underlying216 rfl) ?_
 intro a hA
 rcases Bool.eq_false_or_eq_true (decide (((i : Nat) : Int) < (((xf s.data.toList).length : Nat) : Int))) with hb18 | hb18
 · have hb18' := of_decide_eq_true hb18
   refine qa (v := .bool true) hA rfl rfl rfl (qg rfl rfl (fun w => (zk w).trans (by rw [hb18]))) ?_
   intro a hA
   refine qf ?_
   refine hK17 _ _ ?_
   refine wp_cond_true (hA.ev rfl) ?_
   refine wp_skip ?_
   refine hK16 _ _ ?_
   refine wp_seq_k (fun K19 hK19 => ?_)
   refine wp_block ?_
   refine wp_seq_k (fun K20 hK20 => ?_)
   refine wp_region_lit ?_
   refine qa hA rfl rfl rfl (qe rfl) ?_
   intro a hA
   refine qa hA rfl rfl rfl (qe rfl) ?_
   intro a hA
   obtain ⟨gu, hgu⟩ := row_addr hM 0 rfl (by omega)
   obtain ⟨ua, ur, hu⟩ := unit_get (us := xf s.data.toList) (i := i) (by omega)
   refine qa (v := .pointer (some ⟨gu, i * 3, none⟩)) hA rfl rfl rfl (does_indexX Tryz.underlying216 (by kernel_rfl) rfl rfl rfl hgu (show i < (xf s.data.toList).length by omega)) ?_
   intro a hA
   refine qa (v := .pointer (some ⟨gu, i * 3 + 1, none⟩)) hA rfl rfl rfl (qi TrV_fld_219_1 rfl rfl) ?_
   intro a hA
   by_cases hf : ur = -1
   · refine qa (v := .bool true) hA rfl rfl rfl (m_loadX hM 0 rfl hgu ((qlc _ i 1 _ hu (by decide)).trans (by rw [if_pos hf]; rfl)) TrV_is1_4 rfl) ?_
     intro a hA
     refine qf ?_
     refine hK20 _ _ ?_
     refine wp_cond_true (hA.ev rfl) ?_
     refine wp_seq_k (fun K21 hK21 => ?_)
     refine wp_region_lit ?_
     refine qa hA rfl rfl rfl (qb rfl) ?_
     intro a hA
     refine qf ?_
     refine hK21 _ _ ?_
     refine wp_ret ?_
     refine hret _ _ ?_
     refine za (v := .bool false) hA rfl (.cons (qk rfl) .nil) rfl ?_
     subst hr
     exact ⟨by rw [okS_bad hu hf], hM.bel⟩
   · refine qa (v := .bool false) hA rfl rfl rfl (m_loadX hM 0 rfl hgu ((qlc _ i 1 _ hu (by decide)).trans (by rw [if_neg hf]; rfl)) TrV_is1_4 rfl) ?_
     intro a hA
     refine qf ?_
     refine hK20 _ _ ?_
     refine wp_cond_false (hA.ev rfl) ?_
     refine wp_skip ?_
     refine hK19 _ _ ?_
     refine wp_region_lit ?_
     refine qa hA rfl rfl rfl (qe rfl) ?_
     intro a hA
     refine qa (v := .int .i64 (((i + 1 : Nat) : Int))) hA rfl rfl rfl (qg rfl rfl (fun w => (kr (ye (by omega) (by omega)) w).trans (by rw [show (((i : Nat) : Int) + 1 : Int) = ((i + 1 : Nat) : Int) from by omega]))) ?_
     intro a hA
     refine qa hA rfl rfl rfl (qb rfl) ?_
     intro a hA
     refine qf ?_
     refine hK14 _ _ _ (by omega) ⟨i + 1, rfl, ⟨by omega, fun j va vr hj hv => if h9 : j < i then hin9 j va vr h9 hv else by have h8 : j = i := (by omega); subst h8; rw [hu] at hv; injection hv with h7; injection h7 with _ h6; rw [← h6]; exact hf⟩, hA.keep _ (by repeat' constructor), hM⟩
 · have hb18' := of_decide_eq_false hb18
   refine qa (v := .bool false) hA rfl rfl rfl (qg rfl rfl (fun w => (zk w).trans (by rw [hb18]))) ?_
   intro a hA
   refine qf ?_
   refine hK17 _ _ ?_
   refine wp_cond_false (hA.ev rfl) ?_
   refine wp_exit ?_
   refine hK11 _ _ ?_
   refine wp_seq_k (fun K22 hK22 => ?_)
   refine wp_region_lit ?_
   refine qa hA rfl rfl rfl (qb rfl) ?_
   intro a hA
   refine qf ?_
   refine hK22 _ _ ?_
   refine wp_ret ?_
   refine hret _ _ ?_
   refine za (v := .bool true) hA rfl (.cons (qk rfl) .nil) rfl ?_
   subst hr
   exact ⟨by rw [okS_good (fun j ua ur hj => hin9 j ua ur (by have := (List.getElem?_eq_some_iff.1 hj).1; omega) hj)], hM.bel⟩
theorem risCh_any {w : World} {n : Int} {r : Bool} (hr : yg n = r) : Calls Tryz.prog 137 #[.int .i64 n] w fun e w' => e = .returned (.bool r) ∧ Below w.heap.size w w' := by
 have hM : Mg w w ([]) := Mg.start w
 refine qz (l := [(0, .int .i64 n)]) Tryz.func137 rfl Tryz.ntmps137 rfl rfl ?_
 intro Q hret hnorm hP a hA
 refine wp_seq_k (fun K1 hK1 => ?_)
 refine wp_region_lit ?_
 refine qa hA rfl rfl rfl (qb rfl) ?_
 intro a hA
 refine qf ?_
 refine hK1 _ _ ?_
 refine wp_seq_k (fun K2 hK2 => ?_)
 refine wp_region_lit ?_
 refine qa hA rfl rfl rfl (qe rfl) ?_
 intro a hA
 rcases Bool.eq_false_or_eq_true (decide (0 ≤ n)) with hb3 | hb3
 · have hb3' := of_decide_eq_true hb3
   refine qa (v := .bool true) hA rfl rfl rfl (qg rfl rfl (fun w => (ju w).trans (by rw [hb3]))) ?_
   intro a hA
   refine qa hA rfl rfl rfl (qe rfl) ?_
   intro a hA
   refine qa hA rfl rfl rfl (qe rfl) ?_
   intro a hA
   rcases Bool.eq_false_or_eq_true (decide (n ≤ 1114111)) with hb4 | hb4
   · have hb4' := of_decide_eq_true hb4
     refine qa (v := .bool true) hA rfl rfl rfl (qg rfl rfl (fun w => (vp w).trans (by rw [hb4]))) ?_
     intro a hA
     refine qa (v := .bool true) hA rfl rfl rfl (ql rfl rfl rfl rfl) ?_
     intro a hA
     refine qa hA rfl rfl rfl (qe rfl) ?_
     intro a hA
     refine qa hA rfl rfl rfl (qe rfl) ?_
     intro a hA
     rcases Bool.eq_false_or_eq_true (decide (n < 55296)) with hb5 | hb5
     · have hb5' := of_decide_eq_true hb5
       refine qa (v := .bool true) hA rfl rfl rfl (qg rfl rfl (fun w => (zk w).trans (by rw [hb5]))) ?_
       intro a hA
       refine qa hA rfl rfl rfl (qe rfl) ?_
       intro a hA
       refine qj hA rfl rfl rfl ?_
       intro a hA
       refine qj hA rfl rfl rfl ?_
       intro a hA
       refine qa (v := .bool true) hA rfl rfl rfl (ql rfl rfl rfl rfl) ?_
       intro a hA
       refine qa (v := .bool true) hA rfl rfl rfl (ql rfl rfl rfl rfl) ?_
       intro a hA
       refine qa hA rfl rfl rfl (qb rfl) ?_
       intro a hA
       refine qf ?_
       refine hK2 _ _ ?_
       refine wp_ret ?_
       refine hret _ _ ?_
       refine za (v := .bool true) hA rfl (.cons (qk rfl) .nil) rfl ?_
       subst hr
       exact ⟨by rw [show yg n = true from by unfold yg; apply decide_eq_true; omega], hM.bel⟩
     · have hb5' := of_decide_eq_false hb5
       refine qa (v := .bool false) hA rfl rfl rfl (qg rfl rfl (fun w => (zk w).trans (by rw [hb5]))) ?_
       intro a hA
       refine qa hA rfl rfl rfl (qe rfl) ?_
       intro a hA
       refine qa hA rfl rfl rfl (qe rfl) ?_
       intro a hA
       rcases Bool.eq_false_or_eq_true (decide (57343 < n)) with hb6 | hb6
       · have hb6' := of_decide_eq_true hb6
         refine qa (v := .bool true) hA rfl rfl rfl (qg rfl rfl (fun w => (jh w).trans (by rw [hb6]))) ?_
         intro a hA
         refine qa (v := .bool true) hA rfl rfl rfl (ql rfl rfl rfl rfl) ?_
         intro a hA
         refine qa (v := .bool true) hA rfl rfl rfl (ql rfl rfl rfl rfl) ?_
         intro a hA
         refine qa hA rfl rfl rfl (qb rfl) ?_
         intro a hA
         refine qf ?_
         refine hK2 _ _ ?_
         refine wp_ret ?_
         refine hret _ _ ?_
         refine za (v := .bool true) hA rfl (.cons (qk rfl) .nil) rfl ?_
         subst hr
         exact ⟨by rw [show yg n = true from by unfold yg; apply decide_eq_true; omega], hM.bel⟩
       · have hb6' := of_decide_eq_false hb6
         refine qa (v := .bool false) hA rfl rfl rfl (qg rfl rfl (fun w => (jh w).trans (by rw [hb6]))) ?_
         intro a hA
         refine qa (v := .bool false) hA rfl rfl rfl (ql rfl rfl rfl rfl) ?_
         intro a hA
         refine qa (v := .bool false) hA rfl rfl rfl (ql rfl rfl rfl rfl) ?_
         intro a hA
         refine qa hA rfl rfl rfl (qb rfl) ?_
         intro a hA
         refine qf ?_
         refine hK2 _ _ ?_
         refine wp_ret ?_
         refine hret _ _ ?_
         refine za (v := .bool false) hA rfl (.cons (qk rfl) .nil) rfl ?_
         subst hr
         exact ⟨by rw [show yg n = false from by unfold yg; apply decide_eq_false; omega], hM.bel⟩
   · have hb4' := of_decide_eq_false hb4
     refine qa (v := .bool false) hA rfl rfl rfl (qg rfl rfl (fun w => (vp w).trans (by rw [hb4]))) ?_
     intro a hA
     refine qa (v := .bool false) hA rfl rfl rfl (ql rfl rfl rfl rfl) ?_
     intro a hA
     refine qa hA rfl rfl rfl (qe rfl) ?_
     intro a hA
     refine qj hA rfl rfl rfl ?_
     intro a hA
     refine qj hA rfl rfl rfl ?_
     intro a hA
     refine qj hA rfl rfl rfl ?_
     intro a hA
     refine xi hA rfl rfl rfl ?_
     intro a hA
     refine xi hA rfl rfl rfl ?_
     intro a hA
     refine qj hA rfl rfl rfl ?_
     intro a hA
     refine qa (v := .bool false) hA rfl rfl rfl (ql rfl rfl rfl rfl) ?_
     intro a hA
     refine qa hA rfl rfl rfl (qb rfl) ?_
     intro a hA
     refine qf ?_
     refine hK2 _ _ ?_
     refine wp_ret ?_
     refine hret _ _ ?_
     refine za (v := .bool false) hA rfl (.cons (qk rfl) .nil) rfl ?_
     subst hr
     exact ⟨by rw [show yg n = false from by unfold yg; apply decide_eq_false; omega], hM.bel⟩
 · have hb3' := of_decide_eq_false hb3
   refine qa (v := .bool false) hA rfl rfl rfl (qg rfl rfl (fun w => (ju w).trans (by rw [hb3]))) ?_
   intro a hA
   refine qa hA rfl rfl rfl (qe rfl) ?_
   intro a hA
   refine qj hA rfl rfl rfl ?_
   intro a hA
   refine qj hA rfl rfl rfl ?_
   intro a hA
   refine qa (v := .bool false) hA rfl rfl rfl (ql rfl rfl rfl rfl) ?_
   intro a hA
   refine qa hA rfl rfl rfl (qe rfl) ?_
   intro a hA
   refine qj hA rfl rfl rfl ?_
   intro a hA
   refine qj hA rfl rfl rfl ?_
   intro a hA
   refine qj hA rfl rfl rfl ?_
   intro a hA
   refine xi hA rfl rfl rfl ?_
   intro a hA
   refine xi hA rfl rfl rfl ?_
   intro a hA
   refine qj hA rfl rfl rfl ?_
   intro a hA
   refine qa (v := .bool false) hA rfl rfl rfl (ql rfl rfl rfl rfl) ?_
   intro a hA
   refine qa hA rfl rfl rfl (qb rfl) ?_
   intro a hA
   refine qf ?_
   refine hK2 _ _ ?_
   refine wp_ret ?_
   refine hret _ _ ?_
   refine za (v := .bool false) hA rfl (.cons (qk rfl) .nil) rfl ?_
   subst hr
   exact ⟨by rw [show yg n = false from by unfold yg; apply decide_eq_false; omega], hM.bel⟩
def kf (k n : Int) (q : Q6) (s : ByteArray) (mr ml : Nat) : Bool :=
  if k < 1 ∨ 11 < k ∨ okS s = false then false
  else if k = 3 ∧ jo q = false then false
  else if k ≠ 3 ∧ (kp q.b1 q.t1.length q.q1.length = false ∨ kp q.b2 q.t2.length q.q2.length = false) then false
  else if s ≠ ⟨#[]⟩ ∧ k ≠ 5 ∧ k ≠ 6 ∧ k ≠ 11 then false
  else if 0 < mr ∧ k ≠ 7 then false
  else if k = 2 ∧ n ≠ 0 ∧ n ≠ 1 then false
  else if k = 4 ∧ yg n = false then false
  else if k ≠ 2 ∧ k ≠ 4 ∧ n ≠ 0 then false
  else if k = 8 then decide (ml = 2)
  else decide (k = 9 ∨ ml = 0)
theorem okS_nil : okS ⟨#[]⟩ = true := by unfold okS; rfl
theorem jx (k n : Int) (q : Q6) (s : ByteArray) (mr ml : Nat) : jw k n q s mr ml = kf k n q s mr ml := by
  have hv : s = ⟨#[]⟩ → okS s = true := by rintro rfl; exact okS_nil
  have hn0 : kp false 0 0 = true := rfl
  unfold jw kf
  by_cases hk : k < 1 ∨ 11 < k
  · rw [if_pos (show k < 1 ∨ 11 < k ∨ okS s = false by omega)]
    repeat (rw [if_neg (by omega)])
  · have h11 : k = 1 ∨ k = 2 ∨ k = 3 ∨ k = 4 ∨ k = 5 ∨ k = 6 ∨ k = 7 ∨ k = 8 ∨ k = 9 ∨ k = 10 ∨ k = 11 := by omega
    simp only [vq, hn0]
    generalize kp q.b1 q.t1.length q.q1.length = B1
    generalize kp q.b2 q.t2.length q.q2.length = B2
    generalize jo q = S1
    generalize yg n = S2
    by_cases hs : s = ⟨#[]⟩
    · rw [hv hs]
      have hs2 : ¬ s ≠ ⟨#[]⟩ := fun h => h hs
      rcases h11 with h | h | h | h | h | h | h | h | h | h | h <;> subst h <;> cases B1 <;> cases B2 <;> cases S1 <;> cases S2 <;> simp [hs] <;> by_cases hm : mr = 0 <;> simp [hm] <;> by_cases hn : n = 0 <;> simp [hn] <;> first | omega | (by_cases hn1 : n = 1 <;> simp [hn1]) | skip
    · cases hV : okS s <;> rcases h11 with h | h | h | h | h | h | h | h | h | h | h <;> subst h <;> cases B1 <;> cases B2 <;> cases S1 <;> cases S2 <;> simp [hs] <;> by_cases hm : mr = 0 <;> simp [hm] <;> by_cases hn : n = 0 <;> simp [hn] <;> first | omega | skip
section
variable {k n : Int} {q : Q6} {s : ByteArray} {mr ml : Nat}
def ShA (k : Int) (s : ByteArray) : Prop := 1 ≤ k ∧ k ≤ 11 ∧ okS s = true
def ShB (k : Int) (q : Q6) : Prop := (k = 3 → jo q = true) ∧ (k ≠ 3 → kp q.b1 q.t1.length q.q1.length = true ∧ kp q.b2 q.t2.length q.q2.length = true)
def ShC (k : Int) (s : ByteArray) : Prop := s = ⟨#[]⟩ ∨ k = 5 ∨ k = 6 ∨ k = 11
def ShD (k : Int) (mr : Nat) : Prop := mr = 0 ∨ k = 7
def ShE (k n : Int) : Prop := (k = 2 → n = 0 ∨ n = 1) ∧ (k = 4 → yg n = true) ∧ (k ≠ 2 → k ≠ 4 → n = 0)
theorem sh1 (h : k < 1 ∨ 11 < k ∨ okS s = false) : kf k n q s mr ml = false := by unfold kf; rw [if_pos h]
theorem shA (a : ShA k s) : ¬ (k < 1 ∨ 11 < k ∨ okS s = false) := fun e => by
  rcases e with e | e | e
  · have := a.1; omega
  · have := a.2.1; omega
  · rw [a.2.2] at e; cases e
theorem sh2 (a : ShA k s) (h : k = 3) (hS : jo q = false) : kf k n q s mr ml = false := by unfold kf; rw [if_neg (shA a), if_pos ⟨h, hS⟩]
theorem sh3 (a : ShA k s) (h : k ≠ 3) (hS : kp q.b1 q.t1.length q.q1.length = false ∨ kp q.b2 q.t2.length q.q2.length = false) : kf k n q s mr ml = false := by unfold kf; rw [if_neg (shA a), if_neg (fun e => h e.1), if_pos ⟨h, hS⟩]
theorem shB1 (b : ShB k q) : ¬ (k = 3 ∧ jo q = false) := fun e => by have := b.1 e.1; rw [e.2] at this; cases this
theorem shB2 (b : ShB k q) : ¬ (k ≠ 3 ∧ (kp q.b1 q.t1.length q.q1.length = false ∨ kp q.b2 q.t2.length q.q2.length = false)) := fun e => by
  have := b.2 e.1
  rcases e.2 with h | h
  · rw [this.1] at h; cases h
  · rw [this.2] at h; cases h
theorem sh4 (a : ShA k s) (b : ShB k q) (h : s ≠ ⟨#[]⟩ ∧ k ≠ 5 ∧ k ≠ 6 ∧ k ≠ 11) : kf k n q s mr ml = false := by unfold kf; rw [if_neg (shA a), if_neg (shB1 b), if_neg (shB2 b), if_pos h]
theorem shC (c : ShC k s) : ¬ (s ≠ ⟨#[]⟩ ∧ k ≠ 5 ∧ k ≠ 6 ∧ k ≠ 11) := fun e => by rcases c with h | h | h | h <;> first | exact e.1 h | exact e.2.1 h | exact e.2.2.1 h | exact e.2.2.2 h
theorem sh5 (a : ShA k s) (b : ShB k q) (c : ShC k s) (h : 0 < mr ∧ k ≠ 7) : kf k n q s mr ml = false := by unfold kf; rw [if_neg (shA a), if_neg (shB1 b), if_neg (shB2 b), if_neg (shC c), if_pos h]
theorem shD (d : ShD k mr) : ¬ (0 < mr ∧ k ≠ 7) := fun e => by rcases d with h | h <;> omega
theorem sh6 (a : ShA k s) (b : ShB k q) (c : ShC k s) (d : ShD k mr) (h : (k = 2 ∧ n ≠ 0 ∧ n ≠ 1) ∨ (k = 4 ∧ yg n = false) ∨ (k ≠ 2 ∧ k ≠ 4 ∧ n ≠ 0)) : kf k n q s mr ml = false := by
  unfold kf
  rw [if_neg (shA a), if_neg (shB1 b), if_neg (shB2 b), if_neg (shC c), if_neg (shD d)]
  rcases h with h | h | h
  · rw [if_pos h]
  · rw [if_neg (by omega), if_pos h]
  · rw [if_neg (by omega), if_neg (fun e => h.2.1 e.1), if_pos h]
theorem sh9 (a : ShA k s) (b : ShB k q) (c : ShC k s) (d : ShD k mr) (e : ShE k n) : kf k n q s mr ml = if k = 8 then decide (ml = 2) else decide (k = 9 ∨ ml = 0) := by
  unfold kf
  have e1 := e.1
  have e3 := e.2.2
  rw [if_neg (shA a), if_neg (shB1 b), if_neg (shB2 b), if_neg (shC c), if_neg (shD d), if_neg (fun h => by have := e1 h.1; omega), if_neg (fun h => by have := e.2.1 h.1; rw [h.2] at this; cases this), if_neg (fun h => by have := e3 h.1 h.2.1; omega)]
end
theorem qlf {w : World} {d : Nd} {ts : List Dt} (hok : NdOk w d) (hs2 : d.s.size ≤ 4000000) (hlen : ts.length ≤ 9223372036854775807) {r : Bool} (hr : jw d.k d.n d.y.q d.s d.rl.length ts.length = r) : Calls Tryz.prog 91 #[.agg (d.cells ts.length).toArray] w fun e w' => e = .returned (.bool r) ∧ Below w.heap.size w w' := by
 have hrl : d.rl.length ≤ 9223372036854775807 := Nat.le_trans hok.rcap hok.rmax
 have hM : Mg w w ([]) := Mg.start w
 refine qz (l := [(0, .agg (d.cells ts.length).toArray)]) Tryz.func91 rfl Tryz.ntmps91 rfl rfl ?_
 intro Q hret hnorm hP a hA
 refine wp_seq_k (fun K1 hK1 => ?_)
 refine wp_region_lit ?_
 refine jk (vs := [.int .i64 d.k, .int .i64 d.n, .bool d.y.q.b1, .slice d.y.o1 d.y.q.t1.length d.y.c1, .slice d.y.o2 d.y.q.q1.length d.y.c2, .bool d.y.q.b2, .slice d.y.o3 d.y.q.t2.length d.y.c3, .slice d.y.o4 d.y.q.q2.length d.y.c4, .string d.s, .slice d.ro d.rl.length d.rc, .slice d.lo ts.length d.lc]) (t := 30) hA hM rfl rfl rfl (fun g => .pointer (some ⟨g, 0, none⟩)) (zg rfl rfl) (by decide) ?_
 intro g2 w3 hM a hA
 refine qa hA rfl rfl rfl (qb rfl) ?_
 intro a hA
 refine qf ?_
 refine hK1 _ _ ?_
 refine wp_seq_k (fun K4 hK4 => ?_)
 have hJ5 : ∀ a w1, ((ShA d.k d.s) ∧ Sl a 100 [(0, .agg (d.cells ts.length).toArray), (1, .pointer (some ⟨g2, 0, none⟩))] ∧ Mg w w1 (.obj g2 (.cells (d.cells ts.length).toArray 30) :: [])) → K4 a w1 := by
   clear hA hM
   rintro a w6 ⟨hf7, hA, hM⟩
   have hSA := hf7
   refine hK4 _ _ ?_
   refine wp_seq_k (fun K8 hK8 => ?_)
   have hJ9 : ∀ a w1, ((ShB d.k d.y.q) ∧ Sl a 100 [(0, .agg (d.cells ts.length).toArray), (1, .pointer (some ⟨g2, 0, none⟩))] ∧ Mg w w1 (.obj g2 (.cells (d.cells ts.length).toArray 30) :: [])) → K8 a w1 := by
     clear hA hM
     rintro a w10 ⟨hf11, hA, hM⟩
     have hSB := hf11
     refine hK8 _ _ ?_
     refine wp_seq_k (fun K12 hK12 => ?_)
     have hJ13 : ∀ a w1, ((ShC d.k d.s) ∧ Sl a 100 [(0, .agg (d.cells ts.length).toArray), (1, .pointer (some ⟨g2, 0, none⟩))] ∧ Mg w w1 (.obj g2 (.cells (d.cells ts.length).toArray 30) :: [])) → K12 a w1 := by
       clear hA hM
       rintro a w14 ⟨hf15, hA, hM⟩
       have hSC := hf15
       refine hK12 _ _ ?_
       refine wp_seq_k (fun K16 hK16 => ?_)
       have hJ17 : ∀ a w1, ((ShD d.k d.rl.length) ∧ Sl a 100 [(0, .agg (d.cells ts.length).toArray), (1, .pointer (some ⟨g2, 0, none⟩))] ∧ Mg w w1 (.obj g2 (.cells (d.cells ts.length).toArray 30) :: [])) → K16 a w1 := by
         clear hA hM
         rintro a w18 ⟨hf19, hA, hM⟩
         have hSD := hf19
         refine hK16 _ _ ?_
         refine wp_seq_k (fun K20 hK20 => ?_)
         have hJ21 : ∀ a w1, ((ShE d.k d.n) ∧ Sl a 100 [(0, .agg (d.cells ts.length).toArray), (1, .pointer (some ⟨g2, 0, none⟩))] ∧ Mg w w1 (.obj g2 (.cells (d.cells ts.length).toArray 30) :: [])) → K20 a w1 := by
           clear hA hM
           rintro a w22 ⟨hf23, hA, hM⟩
           have hSE := hf23
           refine hK20 _ _ ?_
           refine wp_seq_k (fun K24 hK24 => ?_)
           refine wp_seq_k (fun K25 hK25 => ?_)
           refine wp_region_lit ?_
           refine qa (v := .pointer (some ⟨g2, 0, none⟩)) hA rfl rfl rfl (qi TrV_fld_30_0 rfl rfl) ?_
           intro a hA
           refine qa hA rfl rfl rfl (zl hM TrV_is1_3 rfl 0 rfl rfl) ?_
           intro a hA
           rcases Bool.eq_false_or_eq_true ((d.k == 8)) with hb26 | hb26
           · have hb26' := eq_of_beq hb26
             refine qa (v := .bool true) hA rfl rfl rfl (qg rfl rfl (fun w => (qx w).trans (by rw [hb26]))) ?_
             intro a hA
             refine qf ?_
             refine hK25 _ _ ?_
             refine wp_cond_true (hA.ev rfl) ?_
             refine wp_seq_k (fun K27 hK27 => ?_)
             refine wp_region_lit ?_
             refine qa (v := .pointer (some ⟨g2, 10, none⟩)) hA rfl rfl rfl (qi TrV_fld_30_5 rfl rfl) ?_
             intro a hA
             refine qa hA rfl rfl rfl (zl hM TrV_is1_28 rfl 0 rfl rfl) ?_
             intro a hA
             refine qa (v := .int .i64 (((ts.length : Nat) : Int))) hA rfl rfl rfl (zb Tryz.underlying28 rfl) ?_
             intro a hA
             rcases Bool.eq_false_or_eq_true ((((ts.length : Nat) : Int) == 2)) with hb28 | hb28
             · have hb28' := eq_of_beq hb28
               refine qa (v := .bool true) hA rfl rfl rfl (qg rfl rfl (fun w => (qx w).trans (by rw [hb28]))) ?_
               intro a hA
               refine qa hA rfl rfl rfl (qb rfl) ?_
               intro a hA
               refine qf ?_
               refine hK27 _ _ ?_
               refine wp_ret ?_
               refine hret _ _ ?_
               refine za (v := .bool true) hA rfl (.cons (qk rfl) .nil) rfl ?_
               exact ⟨by rw [← hr, jx, sh9 hSA hSB hSC hSD hSE, if_pos (by omega), decide_eq_true (show (ts.length = 2) by omega)], hM.bel⟩
             · have hb28' := ne_of_beq_false hb28
               refine qa (v := .bool false) hA rfl rfl rfl (qg rfl rfl (fun w => (qx w).trans (by rw [hb28]))) ?_
               intro a hA
               refine qa hA rfl rfl rfl (qb rfl) ?_
               intro a hA
               refine qf ?_
               refine hK27 _ _ ?_
               refine wp_ret ?_
               refine hret _ _ ?_
               refine za (v := .bool false) hA rfl (.cons (qk rfl) .nil) rfl ?_
               exact ⟨by rw [← hr, jx, sh9 hSA hSB hSC hSD hSE, if_pos (by omega), decide_eq_false (show ¬ (ts.length = 2) by omega)], hM.bel⟩
           · have hb26' := ne_of_beq_false hb26
             refine qa (v := .bool false) hA rfl rfl rfl (qg rfl rfl (fun w => (qx w).trans (by rw [hb26]))) ?_
             intro a hA
             refine qf ?_
             refine hK25 _ _ ?_
             refine wp_cond_false (hA.ev rfl) ?_
             refine wp_skip ?_
             refine hK24 _ _ ?_
             refine wp_seq_k (fun K29 hK29 => ?_)
             refine wp_region_lit ?_
             refine qa (v := .pointer (some ⟨g2, 0, none⟩)) hA rfl rfl rfl (qi TrV_fld_30_0 rfl rfl) ?_
             intro a hA
             refine qa hA rfl rfl rfl (zl hM TrV_is1_3 rfl 0 rfl rfl) ?_
             intro a hA
             rcases Bool.eq_false_or_eq_true ((d.k == 9)) with hb30 | hb30
             · have hb30' := eq_of_beq hb30
               refine qa (v := .bool true) hA rfl rfl rfl (qg rfl rfl (fun w => (qx w).trans (by rw [hb30]))) ?_
               intro a hA
               refine qa hA rfl rfl rfl (qe rfl) ?_
               intro a hA
               refine qj hA rfl rfl rfl ?_
               intro a hA
               refine qj hA rfl rfl rfl ?_
               intro a hA
               refine qj hA rfl rfl rfl ?_
               intro a hA
               refine qj hA rfl rfl rfl ?_
               intro a hA
               refine qa (v := .bool true) hA rfl rfl rfl (ql rfl rfl rfl rfl) ?_
               intro a hA
               refine qa hA rfl rfl rfl (qb rfl) ?_
               intro a hA
               refine qf ?_
               refine hK29 _ _ ?_
               refine wp_ret ?_
               refine hret _ _ ?_
               refine za (v := .bool true) hA rfl (.cons (qk rfl) .nil) rfl ?_
               exact ⟨by rw [← hr, jx, sh9 hSA hSB hSC hSD hSE, if_neg (by omega), decide_eq_true (show (d.k = 9 ∨ ts.length = 0) by omega)], hM.bel⟩
             · have hb30' := ne_of_beq_false hb30
               refine qa (v := .bool false) hA rfl rfl rfl (qg rfl rfl (fun w => (qx w).trans (by rw [hb30]))) ?_
               intro a hA
               refine qa hA rfl rfl rfl (qe rfl) ?_
               intro a hA
               refine qa (v := .pointer (some ⟨g2, 10, none⟩)) hA rfl rfl rfl (qi TrV_fld_30_5 rfl rfl) ?_
               intro a hA
               refine qa hA rfl rfl rfl (zl hM TrV_is1_28 rfl 0 rfl rfl) ?_
               intro a hA
               refine qa (v := .int .i64 (((ts.length : Nat) : Int))) hA rfl rfl rfl (zb Tryz.underlying28 rfl) ?_
               intro a hA
               rcases Bool.eq_false_or_eq_true ((((ts.length : Nat) : Int) == 0)) with hb31 | hb31
               · have hb31' := eq_of_beq hb31
                 refine qa (v := .bool true) hA rfl rfl rfl (qg rfl rfl (fun w => (qx w).trans (by rw [hb31]))) ?_
                 intro a hA
                 refine qa (v := .bool true) hA rfl rfl rfl (ql rfl rfl rfl rfl) ?_
                 intro a hA
                 refine qa hA rfl rfl rfl (qb rfl) ?_
                 intro a hA
                 refine qf ?_
                 refine hK29 _ _ ?_
                 refine wp_ret ?_
                 refine hret _ _ ?_
                 refine za (v := .bool true) hA rfl (.cons (qk rfl) .nil) rfl ?_
                 exact ⟨by rw [← hr, jx, sh9 hSA hSB hSC hSD hSE, if_neg (by omega), decide_eq_true (show (d.k = 9 ∨ ts.length = 0) by omega)], hM.bel⟩
               · have hb31' := ne_of_beq_false hb31
                 refine qa (v := .bool false) hA rfl rfl rfl (qg rfl rfl (fun w => (qx w).trans (by rw [hb31]))) ?_
                 intro a hA
                 refine qa (v := .bool false) hA rfl rfl rfl (ql rfl rfl rfl rfl) ?_
                 intro a hA
                 refine qa hA rfl rfl rfl (qb rfl) ?_
                 intro a hA
                 refine qf ?_
                 refine hK29 _ _ ?_
                 refine wp_ret ?_
                 refine hret _ _ ?_
                 refine za (v := .bool false) hA rfl (.cons (qk rfl) .nil) rfl ?_
                 exact ⟨by rw [← hr, jx, sh9 hSA hSB hSC hSD hSE, if_neg (by omega), decide_eq_false (show ¬ (d.k = 9 ∨ ts.length = 0) by omega)], hM.bel⟩
         refine wp_seq_k (fun K32 hK32 => ?_)
         refine wp_region_lit ?_
         refine qa (v := .pointer (some ⟨g2, 0, none⟩)) hA rfl rfl rfl (qi TrV_fld_30_0 rfl rfl) ?_
         intro a hA
         refine qa hA rfl rfl rfl (zl hM TrV_is1_3 rfl 0 rfl rfl) ?_
         intro a hA
         refine qf ?_
         refine hK32 _ _ ?_
         refine wp_block ?_
         refine wp_seq_k (fun K33 hK33 => ?_)
         refine wp_region_lit ?_
         rcases Bool.eq_false_or_eq_true ((d.k == 2)) with hb34 | hb34
         · have hb34' := eq_of_beq hb34
           refine qa (v := .bool true) hA rfl rfl rfl (qg rfl rfl (fun w => (qx w).trans (by rw [hb34]))) ?_
           intro a hA
           refine qa hA rfl rfl rfl (qb rfl) ?_
           intro a hA
           refine qf ?_
           refine hK33 _ _ ?_
           refine wp_cond_true (hA.ev rfl) ?_
           refine wp_seq_k (fun K35 hK35 => ?_)
           refine wp_region_lit ?_
           refine qa (v := .pointer (some ⟨g2, 1, none⟩)) hA rfl rfl rfl (qi TrV_fld_30_1 rfl rfl) ?_
           intro a hA
           refine qa hA rfl rfl rfl (zl hM TrV_is1_3 rfl 0 rfl rfl) ?_
           intro a hA
           rcases Bool.eq_false_or_eq_true ((d.n != 0)) with hb36 | hb36
           · have hb36' := bne_iff_ne.1 hb36
             refine qa (v := .bool true) hA rfl rfl rfl (qg rfl rfl (fun w => (jl w).trans (by rw [hb36]))) ?_
             intro a hA
             refine qa hA rfl rfl rfl (qe rfl) ?_
             intro a hA
             refine qa (v := .pointer (some ⟨g2, 1, none⟩)) hA rfl rfl rfl (qi TrV_fld_30_1 rfl rfl) ?_
             intro a hA
             refine qa hA rfl rfl rfl (zl hM TrV_is1_3 rfl 0 rfl rfl) ?_
             intro a hA
             rcases Bool.eq_false_or_eq_true ((d.n != 1)) with hb37 | hb37
             · have hb37' := bne_iff_ne.1 hb37
               refine qa (v := .bool true) hA rfl rfl rfl (qg rfl rfl (fun w => (jl w).trans (by rw [hb37]))) ?_
               intro a hA
               refine qa (v := .bool true) hA rfl rfl rfl (ql rfl rfl rfl rfl) ?_
               intro a hA
               refine qf ?_
               refine hK35 _ _ ?_
               refine wp_cond_true (hA.ev rfl) ?_
               refine wp_seq_k (fun K38 hK38 => ?_)
               refine wp_region_lit ?_
               refine qa hA rfl rfl rfl (qb rfl) ?_
               intro a hA
               refine qf ?_
               refine hK38 _ _ ?_
               refine wp_ret ?_
               refine hret _ _ ?_
               refine za (v := .bool false) hA rfl (.cons (qk rfl) .nil) rfl ?_
               exact ⟨by rw [← hr, jx, sh6 hSA hSB hSC hSD (.inl ⟨by omega, by omega, by omega⟩)], hM.bel⟩
             · have hb37' := bne_eq_false_iff_eq.1 hb37
               refine qa (v := .bool false) hA rfl rfl rfl (qg rfl rfl (fun w => (jl w).trans (by rw [hb37]))) ?_
               intro a hA
               refine qa (v := .bool false) hA rfl rfl rfl (ql rfl rfl rfl rfl) ?_
               intro a hA
               refine qf ?_
               refine hK35 _ _ ?_
               refine wp_cond_false (hA.ev rfl) ?_
               refine wp_skip ?_
               exact hJ21 _ _ ⟨⟨fun h => by omega, fun h => absurd h (by omega), fun h h2 => by omega⟩, hA.keep _ ⟨rfl, rfl, trivial⟩, hM⟩
           · have hb36' := bne_eq_false_iff_eq.1 hb36
             refine qa (v := .bool false) hA rfl rfl rfl (qg rfl rfl (fun w => (jl w).trans (by rw [hb36]))) ?_
             intro a hA
             refine qa hA rfl rfl rfl (qe rfl) ?_
             intro a hA
             refine qj hA rfl rfl rfl ?_
             intro a hA
             refine qj hA rfl rfl rfl ?_
             intro a hA
             refine qj hA rfl rfl rfl ?_
             intro a hA
             refine qa (v := .bool false) hA rfl rfl rfl (ql rfl rfl rfl rfl) ?_
             intro a hA
             refine qf ?_
             refine hK35 _ _ ?_
             refine wp_cond_false (hA.ev rfl) ?_
             refine wp_skip ?_
             exact hJ21 _ _ ⟨⟨fun h => by omega, fun h => absurd h (by omega), fun h h2 => by omega⟩, hA.keep _ ⟨rfl, rfl, trivial⟩, hM⟩
         · have hb34' := ne_of_beq_false hb34
           refine qa (v := .bool false) hA rfl rfl rfl (qg rfl rfl (fun w => (qx w).trans (by rw [hb34]))) ?_
           intro a hA
           refine qa hA rfl rfl rfl (qb rfl) ?_
           intro a hA
           refine qf ?_
           refine hK33 _ _ ?_
           refine wp_cond_false (hA.ev rfl) ?_
           refine wp_seq_k (fun K39 hK39 => ?_)
           refine wp_region_lit ?_
           rcases Bool.eq_false_or_eq_true ((d.k == 4)) with hb40 | hb40
           · have hb40' := eq_of_beq hb40
             refine qa (v := .bool true) hA rfl rfl rfl (qg rfl rfl (fun w => (qx w).trans (by rw [hb40]))) ?_
             intro a hA
             refine qa hA rfl rfl rfl (qb rfl) ?_
             intro a hA
             refine qf ?_
             refine hK39 _ _ ?_
             refine wp_cond_true (hA.ev rfl) ?_
             refine wp_seq_k (fun K41 hK41 => ?_)
             refine wp_region_lit ?_
             refine qa (v := .pointer (some ⟨g2, 1, none⟩)) hA rfl rfl rfl (qi TrV_fld_30_1 rfl rfl) ?_
             intro a hA
             refine qa hA rfl rfl rfl (zl hM TrV_is1_3 rfl 0 rfl rfl) ?_
             intro a hA
             rcases Bool.eq_false_or_eq_true (yg d.n) with hb42 | hb42
             · refine qm hA rfl rfl rfl (qh rfl rfl (fun w => by kernel_rfl)) (risCh_any hb42) ?_
               rintro _ w44 ⟨rfl, hb43⟩
               replace hM := hM.call hb43
               refine ⟨_, rfl, ?_⟩
               intro a hA
               refine qa (v := .bool false) hA rfl rfl rfl (qp rfl qt) ?_
               intro a hA
               refine qf ?_
               refine hK41 _ _ ?_
               refine wp_cond_false (hA.ev rfl) ?_
               refine wp_skip ?_
               exact hJ21 _ _ ⟨⟨fun h => by omega, fun h => hb42, fun h h2 => by omega⟩, hA.keep _ ⟨rfl, rfl, trivial⟩, hM⟩
             · refine qm hA rfl rfl rfl (qh rfl rfl (fun w => by kernel_rfl)) (risCh_any hb42) ?_
               rintro _ w46 ⟨rfl, hb45⟩
               replace hM := hM.call hb45
               refine ⟨_, rfl, ?_⟩
               intro a hA
               refine qa (v := .bool true) hA rfl rfl rfl (qp rfl qt) ?_
               intro a hA
               refine qf ?_
               refine hK41 _ _ ?_
               refine wp_cond_true (hA.ev rfl) ?_
               refine wp_seq_k (fun K47 hK47 => ?_)
               refine wp_region_lit ?_
               refine qa hA rfl rfl rfl (qb rfl) ?_
               intro a hA
               refine qf ?_
               refine hK47 _ _ ?_
               refine wp_ret ?_
               refine hret _ _ ?_
               refine za (v := .bool false) hA rfl (.cons (qk rfl) .nil) rfl ?_
               exact ⟨by rw [← hr, jx, sh6 hSA hSB hSC hSD (.inr (.inl ⟨by omega, hb42⟩))], hM.bel⟩
           · have hb40' := ne_of_beq_false hb40
             refine qa (v := .bool false) hA rfl rfl rfl (qg rfl rfl (fun w => (qx w).trans (by rw [hb40]))) ?_
             intro a hA
             refine qa hA rfl rfl rfl (qb rfl) ?_
             intro a hA
             refine qf ?_
             refine hK39 _ _ ?_
             refine wp_cond_false (hA.ev rfl) ?_
             refine wp_seq_k (fun K48 hK48 => ?_)
             refine wp_region_lit ?_
             refine qa (v := .pointer (some ⟨g2, 1, none⟩)) hA rfl rfl rfl (qi TrV_fld_30_1 rfl rfl) ?_
             intro a hA
             refine qa hA rfl rfl rfl (zl hM TrV_is1_3 rfl 0 rfl rfl) ?_
             intro a hA
             rcases Bool.eq_false_or_eq_true ((d.n != 0)) with hb49 | hb49
             · have hb49' := bne_iff_ne.1 hb49
               refine qa (v := .bool true) hA rfl rfl rfl (qg rfl rfl (fun w => (jl w).trans (by rw [hb49]))) ?_
               intro a hA
               refine qf ?_
               refine hK48 _ _ ?_
               refine wp_cond_true (hA.ev rfl) ?_
               refine wp_seq_k (fun K50 hK50 => ?_)
               refine wp_region_lit ?_
               refine qa hA rfl rfl rfl (qb rfl) ?_
               intro a hA
               refine qf ?_
               refine hK50 _ _ ?_
               refine wp_ret ?_
               refine hret _ _ ?_
               refine za (v := .bool false) hA rfl (.cons (qk rfl) .nil) rfl ?_
               exact ⟨by rw [← hr, jx, sh6 hSA hSB hSC hSD (.inr (.inr ⟨by omega, by omega, by omega⟩))], hM.bel⟩
             · have hb49' := bne_eq_false_iff_eq.1 hb49
               refine qa (v := .bool false) hA rfl rfl rfl (qg rfl rfl (fun w => (jl w).trans (by rw [hb49]))) ?_
               intro a hA
               refine qf ?_
               refine hK48 _ _ ?_
               refine wp_cond_false (hA.ev rfl) ?_
               refine wp_skip ?_
               exact hJ21 _ _ ⟨⟨fun h => by omega, fun h => absurd h (by omega), fun h h2 => by omega⟩, hA.keep _ ⟨rfl, rfl, trivial⟩, hM⟩
       refine wp_seq_k (fun K51 hK51 => ?_)
       refine wp_region_lit ?_
       refine qa (v := .pointer (some ⟨g2, 9, none⟩)) hA rfl rfl rfl (qi TrV_fld_30_4 rfl rfl) ?_
       intro a hA
       refine qa hA rfl rfl rfl (zl hM TrV_is1_27 rfl 0 rfl rfl) ?_
       intro a hA
       refine qa (v := .int .i64 (((d.rl.length : Nat) : Int))) hA rfl rfl rfl (zb Tryz.underlying27 rfl) ?_
       intro a hA
       rcases Bool.eq_false_or_eq_true (decide (0 < ((d.rl.length : Nat) : Int))) with hb52 | hb52
       · have hb52' := of_decide_eq_true hb52
         refine qa (v := .bool true) hA rfl rfl rfl (qg rfl rfl (fun w => (jh w).trans (by rw [hb52]))) ?_
         intro a hA
         refine qa hA rfl rfl rfl (qe rfl) ?_
         intro a hA
         refine qa (v := .pointer (some ⟨g2, 0, none⟩)) hA rfl rfl rfl (qi TrV_fld_30_0 rfl rfl) ?_
         intro a hA
         refine qa hA rfl rfl rfl (zl hM TrV_is1_3 rfl 0 rfl rfl) ?_
         intro a hA
         rcases Bool.eq_false_or_eq_true ((d.k != 7)) with hb53 | hb53
         · have hb53' := bne_iff_ne.1 hb53
           refine qa (v := .bool true) hA rfl rfl rfl (qg rfl rfl (fun w => (jl w).trans (by rw [hb53]))) ?_
           intro a hA
           refine qa (v := .bool true) hA rfl rfl rfl (ql rfl rfl rfl rfl) ?_
           intro a hA
           refine qf ?_
           refine hK51 _ _ ?_
           refine wp_cond_true (hA.ev rfl) ?_
           refine wp_seq_k (fun K54 hK54 => ?_)
           refine wp_region_lit ?_
           refine qa hA rfl rfl rfl (qb rfl) ?_
           intro a hA
           refine qf ?_
           refine hK54 _ _ ?_
           refine wp_ret ?_
           refine hret _ _ ?_
           refine za (v := .bool false) hA rfl (.cons (qk rfl) .nil) rfl ?_
           exact ⟨by rw [← hr, jx, sh5 hSA hSB hSC ⟨by omega, by omega⟩], hM.bel⟩
         · have hb53' := bne_eq_false_iff_eq.1 hb53
           refine qa (v := .bool false) hA rfl rfl rfl (qg rfl rfl (fun w => (jl w).trans (by rw [hb53]))) ?_
           intro a hA
           refine qa (v := .bool false) hA rfl rfl rfl (ql rfl rfl rfl rfl) ?_
           intro a hA
           refine qf ?_
           refine hK51 _ _ ?_
           refine wp_cond_false (hA.ev rfl) ?_
           refine wp_skip ?_
           exact hJ17 _ _ ⟨.inr (by omega), hA.keep _ ⟨rfl, rfl, trivial⟩, hM⟩
       · have hb52' := of_decide_eq_false hb52
         refine qa (v := .bool false) hA rfl rfl rfl (qg rfl rfl (fun w => (jh w).trans (by rw [hb52]))) ?_
         intro a hA
         refine qa hA rfl rfl rfl (qe rfl) ?_
         intro a hA
         refine qj hA rfl rfl rfl ?_
         intro a hA
         refine qj hA rfl rfl rfl ?_
         intro a hA
         refine qj hA rfl rfl rfl ?_
         intro a hA
         refine qa (v := .bool false) hA rfl rfl rfl (ql rfl rfl rfl rfl) ?_
         intro a hA
         refine qf ?_
         refine hK51 _ _ ?_
         refine wp_cond_false (hA.ev rfl) ?_
         refine wp_skip ?_
         exact hJ17 _ _ ⟨.inl (by omega), hA.keep _ ⟨rfl, rfl, trivial⟩, hM⟩
     refine wp_seq_k (fun K55 hK55 => ?_)
     refine wp_region_lit ?_
     refine qa (v := .pointer (some ⟨g2, 8, none⟩)) hA rfl rfl rfl (qi TrV_fld_30_3 rfl rfl) ?_
     intro a hA
     refine qa hA rfl rfl rfl (zl hM TrV_is1_9 rfl 0 rfl rfl) ?_
     intro a hA
     rcases Bool.eq_false_or_eq_true (decide (d.s = ⟨#[]⟩)) with hb56 | hb56
     · have hb56' := of_decide_eq_true hb56
       refine qa (v := .bool false) hA rfl rfl rfl (qg rfl rfl (fun w => (ue Tryz.underlying9 w).trans (by rw [hb56] <;> rfl))) ?_
       intro a hA
       refine qa hA rfl rfl rfl (qe rfl) ?_
       intro a hA
       refine qj hA rfl rfl rfl ?_
       intro a hA
       refine qj hA rfl rfl rfl ?_
       intro a hA
       refine qj hA rfl rfl rfl ?_
       intro a hA
       refine qa (v := .bool false) hA rfl rfl rfl (ql rfl rfl rfl rfl) ?_
       intro a hA
       refine qa hA rfl rfl rfl (qe rfl) ?_
       intro a hA
       refine qj hA rfl rfl rfl ?_
       intro a hA
       refine qj hA rfl rfl rfl ?_
       intro a hA
       refine qj hA rfl rfl rfl ?_
       intro a hA
       refine qa (v := .bool false) hA rfl rfl rfl (ql rfl rfl rfl rfl) ?_
       intro a hA
       refine qa hA rfl rfl rfl (qe rfl) ?_
       intro a hA
       refine qj hA rfl rfl rfl ?_
       intro a hA
       refine qj hA rfl rfl rfl ?_
       intro a hA
       refine qj hA rfl rfl rfl ?_
       intro a hA
       refine qa (v := .bool false) hA rfl rfl rfl (ql rfl rfl rfl rfl) ?_
       intro a hA
       refine qf ?_
       refine hK55 _ _ ?_
       refine wp_cond_false (hA.ev rfl) ?_
       refine wp_skip ?_
       exact hJ13 _ _ ⟨.inl hb56', hA.keep _ ⟨rfl, rfl, trivial⟩, hM⟩
     · have hb56' := of_decide_eq_false hb56
       refine qa (v := .bool true) hA rfl rfl rfl (qg rfl rfl (fun w => (ue Tryz.underlying9 w).trans (by rw [hb56] <;> rfl))) ?_
       intro a hA
       refine qa hA rfl rfl rfl (qe rfl) ?_
       intro a hA
       refine qa (v := .pointer (some ⟨g2, 0, none⟩)) hA rfl rfl rfl (qi TrV_fld_30_0 rfl rfl) ?_
       intro a hA
       refine qa hA rfl rfl rfl (zl hM TrV_is1_3 rfl 0 rfl rfl) ?_
       intro a hA
       rcases Bool.eq_false_or_eq_true ((d.k != 5)) with hb57 | hb57
       · have hb57' := bne_iff_ne.1 hb57
         refine qa (v := .bool true) hA rfl rfl rfl (qg rfl rfl (fun w => (jl w).trans (by rw [hb57]))) ?_
         intro a hA
         refine qa (v := .bool true) hA rfl rfl rfl (ql rfl rfl rfl rfl) ?_
         intro a hA
         refine qa hA rfl rfl rfl (qe rfl) ?_
         intro a hA
         refine qa (v := .pointer (some ⟨g2, 0, none⟩)) hA rfl rfl rfl (qi TrV_fld_30_0 rfl rfl) ?_
         intro a hA
         refine qa hA rfl rfl rfl (zl hM TrV_is1_3 rfl 0 rfl rfl) ?_
         intro a hA
         rcases Bool.eq_false_or_eq_true ((d.k != 6)) with hb58 | hb58
         · have hb58' := bne_iff_ne.1 hb58
           refine qa (v := .bool true) hA rfl rfl rfl (qg rfl rfl (fun w => (jl w).trans (by rw [hb58]))) ?_
           intro a hA
           refine qa (v := .bool true) hA rfl rfl rfl (ql rfl rfl rfl rfl) ?_
           intro a hA
           refine qa hA rfl rfl rfl (qe rfl) ?_
           intro a hA
           refine qa (v := .pointer (some ⟨g2, 0, none⟩)) hA rfl rfl rfl (qi TrV_fld_30_0 rfl rfl) ?_
           intro a hA
           refine qa hA rfl rfl rfl (zl hM TrV_is1_3 rfl 0 rfl rfl) ?_
           intro a hA
           rcases Bool.eq_false_or_eq_true ((d.k != 11)) with hb59 | hb59
           · have hb59' := bne_iff_ne.1 hb59
             refine qa (v := .bool true) hA rfl rfl rfl (qg rfl rfl (fun w => (jl w).trans (by rw [hb59]))) ?_
             intro a hA
             refine qa (v := .bool true) hA rfl rfl rfl (ql rfl rfl rfl rfl) ?_
             intro a hA
             refine qf ?_
             refine hK55 _ _ ?_
             refine wp_cond_true (hA.ev rfl) ?_
             refine wp_seq_k (fun K60 hK60 => ?_)
             refine wp_region_lit ?_
             refine qa hA rfl rfl rfl (qb rfl) ?_
             intro a hA
             refine qf ?_
             refine hK60 _ _ ?_
             refine wp_ret ?_
             refine hret _ _ ?_
             refine za (v := .bool false) hA rfl (.cons (qk rfl) .nil) rfl ?_
             exact ⟨by rw [← hr, jx, sh4 hSA hSB ⟨hb56', by omega, by omega, by omega⟩], hM.bel⟩
           · have hb59' := bne_eq_false_iff_eq.1 hb59
             refine qa (v := .bool false) hA rfl rfl rfl (qg rfl rfl (fun w => (jl w).trans (by rw [hb59]))) ?_
             intro a hA
             refine qa (v := .bool false) hA rfl rfl rfl (ql rfl rfl rfl rfl) ?_
             intro a hA
             refine qf ?_
             refine hK55 _ _ ?_
             refine wp_cond_false (hA.ev rfl) ?_
             refine wp_skip ?_
             exact hJ13 _ _ ⟨.inr (by omega), hA.keep _ ⟨rfl, rfl, trivial⟩, hM⟩
         · have hb58' := bne_eq_false_iff_eq.1 hb58
           refine qa (v := .bool false) hA rfl rfl rfl (qg rfl rfl (fun w => (jl w).trans (by rw [hb58]))) ?_
           intro a hA
           refine qa (v := .bool false) hA rfl rfl rfl (ql rfl rfl rfl rfl) ?_
           intro a hA
           refine qa hA rfl rfl rfl (qe rfl) ?_
           intro a hA
           refine qj hA rfl rfl rfl ?_
           intro a hA
           refine qj hA rfl rfl rfl ?_
           intro a hA
           refine qj hA rfl rfl rfl ?_
           intro a hA
           refine qa (v := .bool false) hA rfl rfl rfl (ql rfl rfl rfl rfl) ?_
           intro a hA
           refine qf ?_
           refine hK55 _ _ ?_
           refine wp_cond_false (hA.ev rfl) ?_
           refine wp_skip ?_
           exact hJ13 _ _ ⟨.inr (by omega), hA.keep _ ⟨rfl, rfl, trivial⟩, hM⟩
       · have hb57' := bne_eq_false_iff_eq.1 hb57
         refine qa (v := .bool false) hA rfl rfl rfl (qg rfl rfl (fun w => (jl w).trans (by rw [hb57]))) ?_
         intro a hA
         refine qa (v := .bool false) hA rfl rfl rfl (ql rfl rfl rfl rfl) ?_
         intro a hA
         refine qa hA rfl rfl rfl (qe rfl) ?_
         intro a hA
         refine qj hA rfl rfl rfl ?_
         intro a hA
         refine qj hA rfl rfl rfl ?_
         intro a hA
         refine qj hA rfl rfl rfl ?_
         intro a hA
         refine qa (v := .bool false) hA rfl rfl rfl (ql rfl rfl rfl rfl) ?_
         intro a hA
         refine qa hA rfl rfl rfl (qe rfl) ?_
         intro a hA
         refine qj hA rfl rfl rfl ?_
         intro a hA
         refine qj hA rfl rfl rfl ?_
         intro a hA
         refine qj hA rfl rfl rfl ?_
         intro a hA
         refine qa (v := .bool false) hA rfl rfl rfl (ql rfl rfl rfl rfl) ?_
         intro a hA
         refine qf ?_
         refine hK55 _ _ ?_
         refine wp_cond_false (hA.ev rfl) ?_
         refine wp_skip ?_
         exact hJ13 _ _ ⟨.inr (by omega), hA.keep _ ⟨rfl, rfl, trivial⟩, hM⟩
   refine wp_seq_k (fun K61 hK61 => ?_)
   refine wp_region_lit ?_
   refine qa (v := .pointer (some ⟨g2, 0, none⟩)) hA rfl rfl rfl (qi TrV_fld_30_0 rfl rfl) ?_
   intro a hA
   refine qa hA rfl rfl rfl (zl hM TrV_is1_3 rfl 0 rfl rfl) ?_
   intro a hA
   rcases Bool.eq_false_or_eq_true ((d.k == 3)) with hb62 | hb62
   · have hb62' := eq_of_beq hb62
     refine qa (v := .bool true) hA rfl rfl rfl (qg rfl rfl (fun w => (qx w).trans (by rw [hb62]))) ?_
     intro a hA
     refine qf ?_
     refine hK61 _ _ ?_
     refine wp_cond_true (hA.ev rfl) ?_
     refine wp_seq_k (fun K63 hK63 => ?_)
     refine wp_region_lit ?_
     refine qa (v := .pointer (some ⟨g2, 2, none⟩)) hA rfl rfl rfl (qi TrV_fld_30_2 rfl rfl) ?_
     intro a hA
     refine qa hA rfl rfl rfl (ja hM TrV_isS_26 rfl 0 rfl (cs := [.bool d.y.q.b1, .slice d.y.o1 d.y.q.t1.length d.y.c1, .slice d.y.o2 d.y.q.q1.length d.y.c2, .bool d.y.q.b2, .slice d.y.o3 d.y.q.t2.length d.y.c3, .slice d.y.o4 d.y.q.q2.length d.y.c4]) rfl rfl) ?_
     intro a hA
     rcases Bool.eq_false_or_eq_true (jo d.y.q) with hb64 | hb64
     · refine qm hA rfl rfl rfl (qh rfl rfl (fun w => by kernel_rfl)) (jy (Nu.below hok.num hM.bel) hok.len hb64) ?_
       rintro _ w66 ⟨rfl, hb65⟩
       replace hM := hM.call hb65
       refine ⟨_, rfl, ?_⟩
       intro a hA
       refine qa (v := .bool false) hA rfl rfl rfl (qp rfl qt) ?_
       intro a hA
       refine qf ?_
       refine hK63 _ _ ?_
       refine wp_cond_false (hA.ev rfl) ?_
       refine wp_skip ?_
       exact hJ9 _ _ ⟨⟨fun _ => hb64, fun h => absurd (show d.k = 3 by omega) h⟩, hA.keep _ ⟨rfl, rfl, trivial⟩, hM⟩
     · refine qm hA rfl rfl rfl (qh rfl rfl (fun w => by kernel_rfl)) (jy (Nu.below hok.num hM.bel) hok.len hb64) ?_
       rintro _ w68 ⟨rfl, hb67⟩
       replace hM := hM.call hb67
       refine ⟨_, rfl, ?_⟩
       intro a hA
       refine qa (v := .bool true) hA rfl rfl rfl (qp rfl qt) ?_
       intro a hA
       refine qf ?_
       refine hK63 _ _ ?_
       refine wp_cond_true (hA.ev rfl) ?_
       refine wp_seq_k (fun K69 hK69 => ?_)
       refine wp_region_lit ?_
       refine qa hA rfl rfl rfl (qb rfl) ?_
       intro a hA
       refine qf ?_
       refine hK69 _ _ ?_
       refine wp_ret ?_
       refine hret _ _ ?_
       refine za (v := .bool false) hA rfl (.cons (qk rfl) .nil) rfl ?_
       exact ⟨by rw [← hr, jx, sh2 hSA (by omega) hb64], hM.bel⟩
   · have hb62' := ne_of_beq_false hb62
     refine qa (v := .bool false) hA rfl rfl rfl (qg rfl rfl (fun w => (qx w).trans (by rw [hb62]))) ?_
     intro a hA
     refine qf ?_
     refine hK61 _ _ ?_
     refine wp_cond_false (hA.ev rfl) ?_
     refine wp_seq_k (fun K70 hK70 => ?_)
     refine wp_region_lit ?_
     refine qa (v := .pointer (some ⟨g2, 2, none⟩)) hA rfl rfl rfl (qi TrV_fld_30_2 rfl rfl) ?_
     intro a hA
     refine qa (v := .pointer (some ⟨g2, 2, none⟩)) hA rfl rfl rfl (qi TrV_fld_26_0 rfl rfl) ?_
     intro a hA
     refine qa hA rfl rfl rfl (ja hM TrV_isS_24 rfl 0 rfl (cs := [.bool d.y.q.b1, .slice d.y.o1 d.y.q.t1.length d.y.c1, .slice d.y.o2 d.y.q.q1.length d.y.c2]) rfl rfl) ?_
     intro a hA
     rcases Bool.eq_false_or_eq_true (kp d.y.q.b1 d.y.q.t1.length d.y.q.q1.length) with hb71 | hb71
     · refine qm hA rfl rfl rfl (qh rfl rfl (fun w => by kernel_rfl)) (qbf hok.len.l1 hok.len.l2 hb71) ?_
       rintro _ w73 ⟨rfl, hb72⟩
       replace hM := hM.call hb72
       refine ⟨_, rfl, ?_⟩
       intro a hA
       refine qa (v := .bool false) hA rfl rfl rfl (qp rfl qt) ?_
       intro a hA
       refine qa hA rfl rfl rfl (qe rfl) ?_
       intro a hA
       refine qa (v := .pointer (some ⟨g2, 2, none⟩)) hA rfl rfl rfl (qi TrV_fld_30_2 rfl rfl) ?_
       intro a hA
       refine qa (v := .pointer (some ⟨g2, 5, none⟩)) hA rfl rfl rfl (qi TrV_fld_26_1 rfl rfl) ?_
       intro a hA
       refine qa hA rfl rfl rfl (ja hM TrV_isS_24 rfl 0 rfl (cs := [.bool d.y.q.b2, .slice d.y.o3 d.y.q.t2.length d.y.c3, .slice d.y.o4 d.y.q.q2.length d.y.c4]) rfl rfl) ?_
       intro a hA
       rcases Bool.eq_false_or_eq_true (kp d.y.q.b2 d.y.q.t2.length d.y.q.q2.length) with hb74 | hb74
       · refine qm hA rfl rfl rfl (qh rfl rfl (fun w => by kernel_rfl)) (qbf hok.len.l3 hok.len.l4 hb74) ?_
         rintro _ w76 ⟨rfl, hb75⟩
         replace hM := hM.call hb75
         refine ⟨_, rfl, ?_⟩
         intro a hA
         refine qa (v := .bool false) hA rfl rfl rfl (qp rfl qt) ?_
         intro a hA
         refine qa (v := .bool false) hA rfl rfl rfl (ql rfl rfl rfl rfl) ?_
         intro a hA
         refine qf ?_
         refine hK70 _ _ ?_
         refine wp_cond_false (hA.ev rfl) ?_
         refine wp_skip ?_
         exact hJ9 _ _ ⟨⟨fun h => absurd h (by omega), fun _ => ⟨hb71, hb74⟩⟩, hA.keep _ ⟨rfl, rfl, trivial⟩, hM⟩
       · refine qm hA rfl rfl rfl (qh rfl rfl (fun w => by kernel_rfl)) (qbf hok.len.l3 hok.len.l4 hb74) ?_
         rintro _ w78 ⟨rfl, hb77⟩
         replace hM := hM.call hb77
         refine ⟨_, rfl, ?_⟩
         intro a hA
         refine qa (v := .bool true) hA rfl rfl rfl (qp rfl qt) ?_
         intro a hA
         refine qa (v := .bool true) hA rfl rfl rfl (ql rfl rfl rfl rfl) ?_
         intro a hA
         refine qf ?_
         refine hK70 _ _ ?_
         refine wp_cond_true (hA.ev rfl) ?_
         refine wp_seq_k (fun K79 hK79 => ?_)
         refine wp_region_lit ?_
         refine qa hA rfl rfl rfl (qb rfl) ?_
         intro a hA
         refine qf ?_
         refine hK79 _ _ ?_
         refine wp_ret ?_
         refine hret _ _ ?_
         refine za (v := .bool false) hA rfl (.cons (qk rfl) .nil) rfl ?_
         exact ⟨by rw [← hr, jx, sh3 hSA (by omega) (.inr hb74)], hM.bel⟩
     · refine qm hA rfl rfl rfl (qh rfl rfl (fun w => by kernel_rfl)) (qbf hok.len.l1 hok.len.l2 hb71) ?_
       rintro _ w81 ⟨rfl, hb80⟩
       replace hM := hM.call hb80
       refine ⟨_, rfl, ?_⟩
       intro a hA
       refine qa (v := .bool true) hA rfl rfl rfl (qp rfl qt) ?_
       intro a hA
       refine qa hA rfl rfl rfl (qe rfl) ?_
       intro a hA
       refine qj hA rfl rfl rfl ?_
       intro a hA
       refine qj hA rfl rfl rfl ?_
       intro a hA
       refine qj hA rfl rfl rfl ?_
       intro a hA
       refine qj hA rfl rfl rfl ?_
       intro a hA
       refine qj hA rfl rfl rfl ?_
       intro a hA
       refine qa (v := .bool true) hA rfl rfl rfl (ql rfl rfl rfl rfl) ?_
       intro a hA
       refine qf ?_
       refine hK70 _ _ ?_
       refine wp_cond_true (hA.ev rfl) ?_
       refine wp_seq_k (fun K82 hK82 => ?_)
       refine wp_region_lit ?_
       refine qa hA rfl rfl rfl (qb rfl) ?_
       intro a hA
       refine qf ?_
       refine hK82 _ _ ?_
       refine wp_ret ?_
       refine hret _ _ ?_
       refine za (v := .bool false) hA rfl (.cons (qk rfl) .nil) rfl ?_
       exact ⟨by rw [← hr, jx, sh3 hSA (by omega) (.inl hb71)], hM.bel⟩
 refine wp_seq_k (fun K83 hK83 => ?_)
 refine wp_region_lit ?_
 refine qa (v := .pointer (some ⟨g2, 0, none⟩)) hA rfl rfl rfl (qi TrV_fld_30_0 rfl rfl) ?_
 intro a hA
 refine qa hA rfl rfl rfl (zl hM TrV_is1_3 rfl 0 rfl rfl) ?_
 intro a hA
 rcases Bool.eq_false_or_eq_true (decide (d.k < 1)) with hb84 | hb84
 · have hb84' := of_decide_eq_true hb84
   refine qa (v := .bool true) hA rfl rfl rfl (qg rfl rfl (fun w => (zk w).trans (by rw [hb84]))) ?_
   intro a hA
   refine qa hA rfl rfl rfl (qe rfl) ?_
   intro a hA
   refine qj hA rfl rfl rfl ?_
   intro a hA
   refine qj hA rfl rfl rfl ?_
   intro a hA
   refine qj hA rfl rfl rfl ?_
   intro a hA
   refine qa (v := .bool true) hA rfl rfl rfl (ql rfl rfl rfl rfl) ?_
   intro a hA
   refine qa hA rfl rfl rfl (qe rfl) ?_
   intro a hA
   refine qj hA rfl rfl rfl ?_
   intro a hA
   refine qj hA rfl rfl rfl ?_
   intro a hA
   refine qj hA rfl rfl rfl ?_
   intro a hA
   refine qj hA rfl rfl rfl ?_
   intro a hA
   refine qa (v := .bool true) hA rfl rfl rfl (ql rfl rfl rfl rfl) ?_
   intro a hA
   refine qf ?_
   refine hK83 _ _ ?_
   refine wp_cond_true (hA.ev rfl) ?_
   refine wp_seq_k (fun K85 hK85 => ?_)
   refine wp_region_lit ?_
   refine qa hA rfl rfl rfl (qb rfl) ?_
   intro a hA
   refine qf ?_
   refine hK85 _ _ ?_
   refine wp_ret ?_
   refine hret _ _ ?_
   refine za (v := .bool false) hA rfl (.cons (qk rfl) .nil) rfl ?_
   exact ⟨by rw [← hr, jx, sh1 (by omega)], hM.bel⟩
 · have hb84' := of_decide_eq_false hb84
   refine qa (v := .bool false) hA rfl rfl rfl (qg rfl rfl (fun w => (zk w).trans (by rw [hb84]))) ?_
   intro a hA
   refine qa hA rfl rfl rfl (qe rfl) ?_
   intro a hA
   refine qa (v := .pointer (some ⟨g2, 0, none⟩)) hA rfl rfl rfl (qi TrV_fld_30_0 rfl rfl) ?_
   intro a hA
   refine qa hA rfl rfl rfl (zl hM TrV_is1_3 rfl 0 rfl rfl) ?_
   intro a hA
   rcases Bool.eq_false_or_eq_true (decide (11 < d.k)) with hb86 | hb86
   · have hb86' := of_decide_eq_true hb86
     refine qa (v := .bool true) hA rfl rfl rfl (qg rfl rfl (fun w => (jh w).trans (by rw [hb86]))) ?_
     intro a hA
     refine qa (v := .bool true) hA rfl rfl rfl (ql rfl rfl rfl rfl) ?_
     intro a hA
     refine qa hA rfl rfl rfl (qe rfl) ?_
     intro a hA
     refine qj hA rfl rfl rfl ?_
     intro a hA
     refine qj hA rfl rfl rfl ?_
     intro a hA
     refine qj hA rfl rfl rfl ?_
     intro a hA
     refine qj hA rfl rfl rfl ?_
     intro a hA
     refine qa (v := .bool true) hA rfl rfl rfl (ql rfl rfl rfl rfl) ?_
     intro a hA
     refine qf ?_
     refine hK83 _ _ ?_
     refine wp_cond_true (hA.ev rfl) ?_
     refine wp_seq_k (fun K87 hK87 => ?_)
     refine wp_region_lit ?_
     refine qa hA rfl rfl rfl (qb rfl) ?_
     intro a hA
     refine qf ?_
     refine hK87 _ _ ?_
     refine wp_ret ?_
     refine hret _ _ ?_
     refine za (v := .bool false) hA rfl (.cons (qk rfl) .nil) rfl ?_
     exact ⟨by rw [← hr, jx, sh1 (by omega)], hM.bel⟩
   · have hb86' := of_decide_eq_false hb86
     refine qa (v := .bool false) hA rfl rfl rfl (qg rfl rfl (fun w => (jh w).trans (by rw [hb86]))) ?_
     intro a hA
     refine qa (v := .bool false) hA rfl rfl rfl (ql rfl rfl rfl rfl) ?_
     intro a hA
     refine qa hA rfl rfl rfl (qe rfl) ?_
     intro a hA
     refine qa (v := .pointer (some ⟨g2, 8, none⟩)) hA rfl rfl rfl (qi TrV_fld_30_3 rfl rfl) ?_
     intro a hA
     refine qa hA rfl rfl rfl (zl hM TrV_is1_9 rfl 0 rfl rfl) ?_
     intro a hA
     rcases Bool.eq_false_or_eq_true (okS d.s) with hb88 | hb88
     · refine qm hA rfl rfl rfl (qh rfl rfl (fun w => by kernel_rfl)) (qle hs2 hb88) ?_
       rintro _ w90 ⟨rfl, hb89⟩
       replace hM := hM.call hb89
       refine ⟨_, rfl, ?_⟩
       intro a hA
       refine qa (v := .bool false) hA rfl rfl rfl (qp rfl qt) ?_
       intro a hA
       refine qa (v := .bool false) hA rfl rfl rfl (ql rfl rfl rfl rfl) ?_
       intro a hA
       refine qf ?_
       refine hK83 _ _ ?_
       refine wp_cond_false (hA.ev rfl) ?_
       refine wp_skip ?_
       exact hJ5 _ _ ⟨⟨by omega, by omega, hb88⟩, hA.keep _ ⟨rfl, rfl, trivial⟩, hM⟩
     · refine qm hA rfl rfl rfl (qh rfl rfl (fun w => by kernel_rfl)) (qle hs2 hb88) ?_
       rintro _ w92 ⟨rfl, hb91⟩
       replace hM := hM.call hb91
       refine ⟨_, rfl, ?_⟩
       intro a hA
       refine qa (v := .bool true) hA rfl rfl rfl (qp rfl qt) ?_
       intro a hA
       refine qa (v := .bool true) hA rfl rfl rfl (ql rfl rfl rfl rfl) ?_
       intro a hA
       refine qf ?_
       refine hK83 _ _ ?_
       refine wp_cond_true (hA.ev rfl) ?_
       refine wp_seq_k (fun K93 hK93 => ?_)
       refine wp_region_lit ?_
       refine qa hA rfl rfl rfl (qb rfl) ?_
       intro a hA
       refine qf ?_
       refine hK93 _ _ ?_
       refine wp_ret ?_
       refine hret _ _ ?_
       refine za (v := .bool false) hA rfl (.cons (qk rfl) .nil) rfl ?_
       exact ⟨by rw [← hr, jx, sh1 (.inr (.inr hb88))], hM.bel⟩
end Go.Proofs.YtoopkbedjbnhhaaGreatDoor.G
namespace Go.Proofs.YtoopkbedjbnhhaaGreatDoor.G
open Go.RowKit
set_option maxRecDepth 100000
theorem TrW_is1_28 : Is1 Tryz.prog 28 := ⟨⟨_, Tryz.underlying28, rfl⟩, by kernel_rfl⟩
theorem TrW_is1_3 : Is1 Tryz.prog 3 := ⟨⟨_, Tryz.underlying3, rfl⟩, by kernel_rfl⟩
theorem TrW_fld_30_0 : FieldAt Tryz.prog 30 0 0 := ⟨_, _, Tryz.underlying30, rfl, rfl, by kernel_rfl⟩
theorem TrW_fld_30_5 : FieldAt Tryz.prog 30 5 10 := ⟨_, _, Tryz.underlying30, rfl, rfl, by kernel_rfl⟩
theorem TrW_isS_30 : IsS Tryz.prog 30 11 := ⟨⟨_, Tryz.underlying30⟩, by kernel_rfl⟩
def Counts (t : Dt) : Prop := ∀ {w : World} {dp left : Int}, t.rd w → t.tr.bulk ≤ 4000000 → 0 ≤ left → left ≤ 20000 → 0 ≤ dp → dp ≤ 201 → Calls Tryz.prog 52 #[.agg t.cells.toArray, .int .i64 dp, .int .i64 left] w fun e w' => e = .returned (.int .i64 (uz zp dp left t.tr)) ∧ Below w.heap.size w w'
theorem count_all : ∀ t : Dt, Counts t := Dt.indT fun d ts ih => by
 intro w dp left hrd hbk hl0 hl1 hd0 hd1
 have hok := (Dt.rd_iff.1 hrd)
 have hlen : ts.length ≤ 9223372036854775807 := Nat.le_trans hok.2.1 hok.2.2.1
 have hM : Mg w w ([]) := Mg.start w
 refine qz (l := [(0, .agg (d.cells ts.length).toArray), (1, .int .i64 dp), (2, .int .i64 left)]) Tryz.func52 rfl Tryz.ntmps52 rfl rfl ?_
 intro Q hret hnorm hP a hA
 refine wp_seq_k (fun K1 hK1 => ?_)
 refine wp_region_lit ?_
 refine jk (vs := [.int .i64 d.k, .int .i64 d.n, .bool d.y.q.b1, .slice d.y.o1 d.y.q.t1.length d.y.c1, .slice d.y.o2 d.y.q.q1.length d.y.c2, .bool d.y.q.b2, .slice d.y.o3 d.y.q.t2.length d.y.c3, .slice d.y.o4 d.y.q.q2.length d.y.c4, .string d.s, .slice d.ro d.rl.length d.rc, .slice d.lo ts.length d.lc]) (t := 30) hA hM rfl rfl rfl (fun g => .pointer (some ⟨g, 0, none⟩)) (zg rfl rfl) (by decide) ?_
 intro g2 w3 hM a hA
 refine qa hA rfl rfl rfl (qb rfl) ?_
 intro a hA
 refine qf ?_
 refine hK1 _ _ ?_
 refine wp_seq_k (fun K4 hK4 => ?_)
 refine wp_seq_k (fun K5 hK5 => ?_)
 refine wp_region_lit ?_
 refine qa hA rfl rfl rfl (qe rfl) ?_
 intro a hA
 rcases Bool.eq_false_or_eq_true (decide (200 < dp)) with hb6 | hb6
 · have hb6' := of_decide_eq_true hb6
   refine qa (v := .bool true) hA rfl rfl rfl (qg rfl rfl (fun w => (jh w).trans (by rw [hb6]))) ?_
   intro a hA
   refine qa hA rfl rfl rfl (qe rfl) ?_
   intro a hA
   refine qj hA rfl rfl rfl ?_
   intro a hA
   refine qj hA rfl rfl rfl ?_
   intro a hA
   refine qa (v := .bool true) hA rfl rfl rfl (ql rfl rfl rfl rfl) ?_
   intro a hA
   refine qa hA rfl rfl rfl (qe rfl) ?_
   intro a hA
   refine qj hA rfl rfl rfl ?_
   intro a hA
   refine qj hA rfl rfl rfl ?_
   intro a hA
   refine qj hA rfl rfl rfl ?_
   intro a hA
   refine qa (v := .bool true) hA rfl rfl rfl (ql rfl rfl rfl rfl) ?_
   intro a hA
   refine qf ?_
   refine hK5 _ _ ?_
   refine wp_cond_true (hA.ev rfl) ?_
   refine wp_seq_k (fun K7 hK7 => ?_)
   refine wp_region_lit ?_
   refine qa hA rfl rfl rfl (qb rfl) ?_
   intro a hA
   refine qf ?_
   refine hK7 _ _ ?_
   refine wp_ret ?_
   refine hret _ _ ?_
   refine za (v := .int .i64 (-1)) hA rfl (.cons (qk rfl) .nil) rfl ?_
   rw [cntT_no (by omega)]
   exact ⟨rfl, hM.bel⟩
 · have hb6' := of_decide_eq_false hb6
   refine qa (v := .bool false) hA rfl rfl rfl (qg rfl rfl (fun w => (jh w).trans (by rw [hb6]))) ?_
   intro a hA
   refine qa hA rfl rfl rfl (qe rfl) ?_
   intro a hA
   refine qa hA rfl rfl rfl (qe rfl) ?_
   intro a hA
   rcases Bool.eq_false_or_eq_true (decide (left ≤ 0)) with hb8 | hb8
   · have hb8' := of_decide_eq_true hb8
     refine qa (v := .bool true) hA rfl rfl rfl (qg rfl rfl (fun w => (vp w).trans (by rw [hb8]))) ?_
     intro a hA
     refine qa (v := .bool true) hA rfl rfl rfl (ql rfl rfl rfl rfl) ?_
     intro a hA
     refine qa hA rfl rfl rfl (qe rfl) ?_
     intro a hA
     refine qj hA rfl rfl rfl ?_
     intro a hA
     refine qj hA rfl rfl rfl ?_
     intro a hA
     refine qj hA rfl rfl rfl ?_
     intro a hA
     refine qa (v := .bool true) hA rfl rfl rfl (ql rfl rfl rfl rfl) ?_
     intro a hA
     refine qf ?_
     refine hK5 _ _ ?_
     refine wp_cond_true (hA.ev rfl) ?_
     refine wp_seq_k (fun K9 hK9 => ?_)
     refine wp_region_lit ?_
     refine qa hA rfl rfl rfl (qb rfl) ?_
     intro a hA
     refine qf ?_
     refine hK9 _ _ ?_
     refine wp_ret ?_
     refine hret _ _ ?_
     refine za (v := .int .i64 (-1)) hA rfl (.cons (qk rfl) .nil) rfl ?_
     rw [cntT_no (by omega)]
     exact ⟨rfl, hM.bel⟩
   · have hb8' := of_decide_eq_false hb8
     refine qa (v := .bool false) hA rfl rfl rfl (qg rfl rfl (fun w => (vp w).trans (by rw [hb8]))) ?_
     intro a hA
     refine qa (v := .bool false) hA rfl rfl rfl (ql rfl rfl rfl rfl) ?_
     intro a hA
     refine qa hA rfl rfl rfl (qe rfl) ?_
     intro a hA
     refine qa hA rfl rfl rfl (ja hM TrW_isS_30 rfl 0 rfl (cs := [.int .i64 d.k, .int .i64 d.n, .bool d.y.q.b1, .slice d.y.o1 d.y.q.t1.length d.y.c1, .slice d.y.o2 d.y.q.q1.length d.y.c2, .bool d.y.q.b2, .slice d.y.o3 d.y.q.t2.length d.y.c3, .slice d.y.o4 d.y.q.q2.length d.y.c4, .string d.s, .slice d.ro d.rl.length d.rc, .slice d.lo ts.length d.lc]) rfl rfl) ?_
     intro a hA
     rcases Bool.eq_false_or_eq_true (jw d.k d.n d.y.q d.s d.rl.length ts.length) with hb10 | hb10
     · refine qm hA rfl rfl rfl (qh rfl rfl (fun w => by kernel_rfl)) (qlf (hok.1.below hM.bel) (Nat.le_trans bulk_text hbk) hlen hb10) ?_
       rintro _ w12 ⟨rfl, hb11⟩
       replace hM := hM.call hb11
       refine ⟨_, rfl, ?_⟩
       intro a hA
       refine qa (v := .bool false) hA rfl rfl rfl (qp rfl qt) ?_
       intro a hA
       refine qa (v := .bool false) hA rfl rfl rfl (ql rfl rfl rfl rfl) ?_
       intro a hA
       refine qf ?_
       refine hK5 _ _ ?_
       refine wp_cond_false (hA.ev rfl) ?_
       refine wp_skip ?_
       refine hK4 _ _ ?_
       refine wp_seq_k (fun K13 hK13 => ?_)
       refine wp_region_lit ?_
       refine qa hA rfl rfl rfl (qe rfl) ?_
       intro a hA
       refine qa (v := .int .i64 (left - 1)) hA rfl rfl rfl (qg rfl rfl (qgj (ye (by omega) (by omega)))) ?_
       intro a hA
       refine qa hA rfl rfl rfl (qb rfl) ?_
       intro a hA
       refine qf ?_
       refine hK13 _ _ ?_
       refine wp_seq_k (fun K14 hK14 => ?_)
       refine wp_seq_k (fun K15 hK15 => ?_)
       refine wp_region_lit ?_
       refine qa hA rfl rfl rfl (qb rfl) ?_
       intro a hA
       refine qf ?_
       refine hK15 _ _ ?_
       refine wp_block ?_
       refine jd (fun m_ a w1 => ∃ (i : Nat) (m : Int), m_ = 1 + (ts.length - i) ∧ (i ≤ ts.length ∧ qdg zp dp (decide (d.k = 8)) 0 (left - 1) ((ts.map Dt.tr).drop 0) = qdg zp dp (decide (d.k = 8)) i m ((ts.map Dt.tr).drop i) ∧ -1 ≤ m ∧ m ≤ 20000) ∧ Sl a 52 [(0, .agg (d.cells ts.length).toArray), (1, .int .i64 dp), (2, .int .i64 m), (3, .pointer (some ⟨g2, 0, none⟩)), (6, .int .i64 0), (7, .int .i64 (((i : Nat) : Int))), (9, .int .i64 dp), (10, .bool false), (11, .bool false), (12, .int .i64 left), (13, .bool false), (14, .bool false), (15, .bool false), (16, .agg (d.cells ts.length).toArray), (17, .bool true), (18, .bool false), (19, .bool false), (20, .int .i64 left), (21, .int .i64 (left - 1))] ∧ Mg w w1 (.obj g2 (.cells (d.cells ts.length).toArray 30) :: [])) _ ⟨0, left - 1, rfl, ⟨Nat.zero_le _, rfl, by omega, by omega⟩, hA.keep _ (by repeat' constructor), hM⟩ ?_
       clear hM hA
       rintro m_ a w16 ⟨i, m, rfl, hinv18, hA, hM⟩ K17 hK17
       obtain ⟨hi0, hin9, hm0, hm1_⟩ := hinv18
       refine wp_seq_k (fun K19 hK19 => ?_)
       refine wp_seq_k (fun K20 hK20 => ?_)
       refine wp_region_lit ?_
       refine qa hA rfl rfl rfl (qe rfl) ?_
       intro a hA
       refine qa (v := .pointer (some ⟨g2, 10, none⟩)) hA rfl rfl rfl (qi TrW_fld_30_5 rfl rfl) ?_
       intro a hA
       refine qa hA rfl rfl rfl (zl hM TrW_is1_28 rfl 0 rfl rfl) ?_
       intro a hA
       refine qa (v := .int .i64 (((ts.length : Nat) : Int))) hA rfl rfl rfl (zb Tryz.underlying28 rfl) ?_
       intro a hA
       rcases Bool.eq_false_or_eq_true (decide (((i : Nat) : Int) < ((ts.length : Nat) : Int))) with hb21 | hb21
       · have hb21' := of_decide_eq_true hb21
         refine qa (v := .bool true) hA rfl rfl rfl (qg rfl rfl (fun w => (zk w).trans (by rw [hb21]))) ?_
         intro a hA
         refine qa hA rfl rfl rfl (qe rfl) ?_
         intro a hA
         refine qa hA rfl rfl rfl (qe rfl) ?_
         intro a hA
         rcases Bool.eq_false_or_eq_true (decide (0 ≤ m)) with hb22 | hb22
         · have hb22' := of_decide_eq_true hb22
           refine qa (v := .bool true) hA rfl rfl rfl (qg rfl rfl (fun w => (ju w).trans (by rw [hb22]))) ?_
           intro a hA
           refine qa (v := .bool true) hA rfl rfl rfl (ql rfl rfl rfl rfl) ?_
           intro a hA
           refine qf ?_
           refine hK20 _ _ ?_
           refine wp_cond_true (hA.ev rfl) ?_
           refine wp_skip ?_
           refine hK19 _ _ ?_
           refine wp_seq_k (fun K23 hK23 => ?_)
           refine wp_block ?_
           refine wp_seq_k (fun K24 hK24 => ?_)
           refine wp_region_lit ?_
           refine qa hA rfl rfl rfl (qe rfl) ?_
           intro a hA
           refine qa (v := .int .i64 (dp + 1)) hA rfl rfl rfl (qg rfl rfl (kr (ye (by omega) (by omega)))) ?_
           intro a hA
           refine qa hA rfl rfl rfl (qb rfl) ?_
           intro a hA
           refine qf ?_
           refine hK24 _ _ ?_
           refine wp_seq_k (fun K25 hK25 => ?_)
           refine wp_seq_k (fun K26 hK26 => ?_)
           refine wp_region_lit ?_
           refine qa (v := .pointer (some ⟨g2, 0, none⟩)) hA rfl rfl rfl (qi TrW_fld_30_0 rfl rfl) ?_
           intro a hA
           refine qa hA rfl rfl rfl (zl hM TrW_is1_3 rfl 0 rfl rfl) ?_
           intro a hA
           rcases Bool.eq_false_or_eq_true ((d.k == 8)) with hb27 | hb27
           · have hb27' := eq_of_beq hb27
             refine qa (v := .bool true) hA rfl rfl rfl (qg rfl rfl (fun w => (qx w).trans (by rw [hb27]))) ?_
             intro a hA
             refine qa hA rfl rfl rfl (qe rfl) ?_
             intro a hA
             refine qa hA rfl rfl rfl (qe rfl) ?_
             intro a hA
             rcases Bool.eq_false_or_eq_true ((((i : Nat) : Int) == 1)) with hb28 | hb28
             · have hb28' := eq_of_beq hb28
               refine qa (v := .bool true) hA rfl rfl rfl (qg rfl rfl (fun w => (qx w).trans (by rw [hb28]))) ?_
               intro a hA
               refine qa (v := .bool true) hA rfl rfl rfl (ql rfl rfl rfl rfl) ?_
               intro a hA
               refine qf ?_
               refine hK26 _ _ ?_
               refine wp_cond_true (hA.ev rfl) ?_
               refine wp_region_lit ?_
               refine qa hA rfl rfl rfl (qe rfl) ?_
               intro a hA
               refine qa hA rfl rfl rfl (qb rfl) ?_
               intro a hA
               refine qf ?_
               refine hK25 _ _ ?_
               obtain ⟨t1, b1, o1, hi1, hm1, hr1, hl1, hH1⟩ := kid hrd (i := i) (by omega)
               have hD : (if decide (d.k = 8) = true ∧ i = 1 then dp else dp + 1) = dp := if_pos ⟨decide_eq_true hb27', by omega⟩
               refine wp_region_lit ?_
               refine qa (v := .pointer (some ⟨g2, 10, none⟩)) hA rfl rfl rfl (qi TrW_fld_30_5 rfl rfl) ?_
               intro a hA
               refine qa hA rfl rfl rfl (zl hM TrW_is1_28 rfl 0 rfl rfl) ?_
               intro a hA
               refine qa hA rfl rfl rfl (qe rfl) ?_
               intro a hA
               refine qa (v := .pointer (some ⟨b1, o1 + i * 11, none⟩)) hA rfl rfl rfl (zh (k := i) Tryz.underlying28 (by kernel_rfl) rfl rfl rfl hl1 (by omega)) ?_
               intro a hA
               refine qa hA rfl rfl rfl (jg hM hH1 TrW_isS_30 rfl rfl) ?_
               intro a hA
               refine qa hA rfl rfl rfl (qe rfl) ?_
               intro a hA
               refine qa hA rfl rfl rfl (qe rfl) ?_
               intro a hA
               refine qm hA rfl rfl rfl (qh rfl rfl (fun w => by kernel_rfl)) (ih t1 hm1 (Dt.keep hM.bel _ hr1) (by have := qdi (d := d) hm1; omega) (by omega) (by omega) (by omega) (by omega)) ?_
               rintro _ w30 ⟨rfl, hb29⟩
               replace hM := hM.call hb29
               refine ⟨_, rfl, ?_⟩
               intro a hA
               refine qa hA rfl rfl rfl (qb rfl) ?_
               intro a hA
               refine qf ?_
               refine hK23 _ _ ?_
               refine wp_region_lit ?_
               refine qa hA rfl rfl rfl (qe rfl) ?_
               intro a hA
               refine qa (v := .int .i64 (((i + 1 : Nat) : Int))) hA rfl rfl rfl (qg rfl rfl (fun w => (kr (ye (by omega) (by omega)) w).trans (by rw [show (((i : Nat) : Int) + 1 : Int) = ((i + 1 : Nat) : Int) from by omega]))) ?_
               intro a hA
               refine qa hA rfl rfl rfl (qb rfl) ?_
               intro a hA
               refine qf ?_
               have hc9 := cnt_le zp t1.tr (dp) m (by omega)
               refine hK17 _ _ _ (by omega) ⟨i + 1, uz zp (dp) m t1.tr, rfl, ⟨by omega, by rw [hin9, cntL_go hi1 (by omega) hD], by omega, by omega⟩, hA.keep _ (by repeat' constructor), hM⟩
             · have hb28' := ne_of_beq_false hb28
               refine qa (v := .bool false) hA rfl rfl rfl (qg rfl rfl (fun w => (qx w).trans (by rw [hb28]))) ?_
               intro a hA
               refine qa (v := .bool false) hA rfl rfl rfl (ql rfl rfl rfl rfl) ?_
               intro a hA
               refine qf ?_
               refine hK26 _ _ ?_
               refine wp_cond_false (hA.ev rfl) ?_
               refine wp_skip ?_
               refine hK25 _ _ ?_
               obtain ⟨t1, b1, o1, hi1, hm1, hr1, hl1, hH1⟩ := kid hrd (i := i) (by omega)
               have hD : (if decide (d.k = 8) = true ∧ i = 1 then dp else dp + 1) = dp + 1 := if_neg (fun e => by omega)
               refine wp_region_lit ?_
               refine qa (v := .pointer (some ⟨g2, 10, none⟩)) hA rfl rfl rfl (qi TrW_fld_30_5 rfl rfl) ?_
               intro a hA
               refine qa hA rfl rfl rfl (zl hM TrW_is1_28 rfl 0 rfl rfl) ?_
               intro a hA
               refine qa hA rfl rfl rfl (qe rfl) ?_
               intro a hA
               refine qa (v := .pointer (some ⟨b1, o1 + i * 11, none⟩)) hA rfl rfl rfl (zh (k := i) Tryz.underlying28 (by kernel_rfl) rfl rfl rfl hl1 (by omega)) ?_
               intro a hA
               refine qa hA rfl rfl rfl (jg hM hH1 TrW_isS_30 rfl rfl) ?_
               intro a hA
               refine qa hA rfl rfl rfl (qe rfl) ?_
               intro a hA
               refine qa hA rfl rfl rfl (qe rfl) ?_
               intro a hA
               refine qm hA rfl rfl rfl (qh rfl rfl (fun w => by kernel_rfl)) (ih t1 hm1 (Dt.keep hM.bel _ hr1) (by have := qdi (d := d) hm1; omega) (by omega) (by omega) (by omega) (by omega)) ?_
               rintro _ w32 ⟨rfl, hb31⟩
               replace hM := hM.call hb31
               refine ⟨_, rfl, ?_⟩
               intro a hA
               refine qa hA rfl rfl rfl (qb rfl) ?_
               intro a hA
               refine qf ?_
               refine hK23 _ _ ?_
               refine wp_region_lit ?_
               refine qa hA rfl rfl rfl (qe rfl) ?_
               intro a hA
               refine qa (v := .int .i64 (((i + 1 : Nat) : Int))) hA rfl rfl rfl (qg rfl rfl (fun w => (kr (ye (by omega) (by omega)) w).trans (by rw [show (((i : Nat) : Int) + 1 : Int) = ((i + 1 : Nat) : Int) from by omega]))) ?_
               intro a hA
               refine qa hA rfl rfl rfl (qb rfl) ?_
               intro a hA
               refine qf ?_
               have hc9 := cnt_le zp t1.tr (dp + 1) m (by omega)
               refine hK17 _ _ _ (by omega) ⟨i + 1, uz zp (dp + 1) m t1.tr, rfl, ⟨by omega, by rw [hin9, cntL_go hi1 (by omega) hD], by omega, by omega⟩, hA.keep _ (by repeat' constructor), hM⟩
           · have hb27' := ne_of_beq_false hb27
             refine qa (v := .bool false) hA rfl rfl rfl (qg rfl rfl (fun w => (qx w).trans (by rw [hb27]))) ?_
             intro a hA
             refine qa hA rfl rfl rfl (qe rfl) ?_
             intro a hA
             refine qj hA rfl rfl rfl ?_
             intro a hA
             refine qj hA rfl rfl rfl ?_
             intro a hA
             refine qa (v := .bool false) hA rfl rfl rfl (ql rfl rfl rfl rfl) ?_
             intro a hA
             refine qf ?_
             refine hK26 _ _ ?_
             refine wp_cond_false (hA.ev rfl) ?_
             refine wp_skip ?_
             refine hK25 _ _ ?_
             obtain ⟨t1, b1, o1, hi1, hm1, hr1, hl1, hH1⟩ := kid hrd (i := i) (by omega)
             have hD : (if decide (d.k = 8) = true ∧ i = 1 then dp else dp + 1) = dp + 1 := if_neg (fun e => hb27' (of_decide_eq_true e.1))
             refine wp_region_lit ?_
             refine qa (v := .pointer (some ⟨g2, 10, none⟩)) hA rfl rfl rfl (qi TrW_fld_30_5 rfl rfl) ?_
             intro a hA
             refine qa hA rfl rfl rfl (zl hM TrW_is1_28 rfl 0 rfl rfl) ?_
             intro a hA
             refine qa hA rfl rfl rfl (qe rfl) ?_
             intro a hA
             refine qa (v := .pointer (some ⟨b1, o1 + i * 11, none⟩)) hA rfl rfl rfl (zh (k := i) Tryz.underlying28 (by kernel_rfl) rfl rfl rfl hl1 (by omega)) ?_
             intro a hA
             refine qa hA rfl rfl rfl (jg hM hH1 TrW_isS_30 rfl rfl) ?_
             intro a hA
             refine qa hA rfl rfl rfl (qe rfl) ?_
             intro a hA
             refine qa hA rfl rfl rfl (qe rfl) ?_
             intro a hA
             refine qm hA rfl rfl rfl (qh rfl rfl (fun w => by kernel_rfl)) (ih t1 hm1 (Dt.keep hM.bel _ hr1) (by have := qdi (d := d) hm1; omega) (by omega) (by omega) (by omega) (by omega)) ?_
             rintro _ w34 ⟨rfl, hb33⟩
             replace hM := hM.call hb33
             refine ⟨_, rfl, ?_⟩
             intro a hA
             refine qa hA rfl rfl rfl (qb rfl) ?_
             intro a hA
             refine qf ?_
             refine hK23 _ _ ?_
             refine wp_region_lit ?_
             refine qa hA rfl rfl rfl (qe rfl) ?_
             intro a hA
             refine qa (v := .int .i64 (((i + 1 : Nat) : Int))) hA rfl rfl rfl (qg rfl rfl (fun w => (kr (ye (by omega) (by omega)) w).trans (by rw [show (((i : Nat) : Int) + 1 : Int) = ((i + 1 : Nat) : Int) from by omega]))) ?_
             intro a hA
             refine qa hA rfl rfl rfl (qb rfl) ?_
             intro a hA
             refine qf ?_
             have hc9 := cnt_le zp t1.tr (dp + 1) m (by omega)
             refine hK17 _ _ _ (by omega) ⟨i + 1, uz zp (dp + 1) m t1.tr, rfl, ⟨by omega, by rw [hin9, cntL_go hi1 (by omega) hD], by omega, by omega⟩, hA.keep _ (by repeat' constructor), hM⟩
         · have hb22' := of_decide_eq_false hb22
           refine qa (v := .bool false) hA rfl rfl rfl (qg rfl rfl (fun w => (ju w).trans (by rw [hb22]))) ?_
           intro a hA
           refine qa (v := .bool false) hA rfl rfl rfl (ql rfl rfl rfl rfl) ?_
           intro a hA
           refine qf ?_
           refine hK20 _ _ ?_
           refine wp_cond_false (hA.ev rfl) ?_
           refine wp_exit ?_
           refine hK14 _ _ ?_
           refine wp_seq_k (fun K35 hK35 => ?_)
           refine wp_region_lit ?_
           refine qa hA rfl rfl rfl (qe rfl) ?_
           intro a hA
           refine qa hA rfl rfl rfl (qb rfl) ?_
           intro a hA
           refine qf ?_
           refine hK35 _ _ ?_
           refine wp_ret ?_
           refine hret _ _ ?_
           refine za (v := .int .i64 m) hA rfl (.cons (qk rfl) .nil) rfl ?_
           rw [cntT_mk (by omega) (by omega) (by rw [kv]; exact hb10), hin9, qih (by omega)]
           exact ⟨rfl, hM.bel⟩
       · have hb21' := of_decide_eq_false hb21
         refine qa (v := .bool false) hA rfl rfl rfl (qg rfl rfl (fun w => (zk w).trans (by rw [hb21]))) ?_
         intro a hA
         refine qa hA rfl rfl rfl (qe rfl) ?_
         intro a hA
         refine qj hA rfl rfl rfl ?_
         intro a hA
         refine qj hA rfl rfl rfl ?_
         intro a hA
         refine qa (v := .bool false) hA rfl rfl rfl (ql rfl rfl rfl rfl) ?_
         intro a hA
         refine qf ?_
         refine hK20 _ _ ?_
         refine wp_cond_false (hA.ev rfl) ?_
         refine wp_exit ?_
         refine hK14 _ _ ?_
         refine wp_seq_k (fun K36 hK36 => ?_)
         refine wp_region_lit ?_
         refine qa hA rfl rfl rfl (qe rfl) ?_
         intro a hA
         refine qa hA rfl rfl rfl (qb rfl) ?_
         intro a hA
         refine qf ?_
         refine hK36 _ _ ?_
         refine wp_ret ?_
         refine hret _ _ ?_
         refine za (v := .int .i64 m) hA rfl (.cons (qk rfl) .nil) rfl ?_
         rw [cntT_mk (by omega) (by omega) (by rw [kv]; exact hb10), hin9, qfc (by omega), qdg]
         exact ⟨rfl, hM.bel⟩
     · refine qm hA rfl rfl rfl (qh rfl rfl (fun w => by kernel_rfl)) (qlf (hok.1.below hM.bel) (Nat.le_trans bulk_text hbk) hlen hb10) ?_
       rintro _ w38 ⟨rfl, hb37⟩
       replace hM := hM.call hb37
       refine ⟨_, rfl, ?_⟩
       intro a hA
       refine qa (v := .bool true) hA rfl rfl rfl (qp rfl qt) ?_
       intro a hA
       refine qa (v := .bool true) hA rfl rfl rfl (ql rfl rfl rfl rfl) ?_
       intro a hA
       refine qf ?_
       refine hK5 _ _ ?_
       refine wp_cond_true (hA.ev rfl) ?_
       refine wp_seq_k (fun K39 hK39 => ?_)
       refine wp_region_lit ?_
       refine qa hA rfl rfl rfl (qb rfl) ?_
       intro a hA
       refine qf ?_
       refine hK39 _ _ ?_
       refine wp_ret ?_
       refine hret _ _ ?_
       refine za (v := .int .i64 (-1)) hA rfl (.cons (qk rfl) .nil) rfl ?_
       rw [cntT_no (.inr (.inr (by rw [kv]; exact hb10)))]
       exact ⟨rfl, hM.bel⟩
theorem rsound_mk {w : World} {d : Nd} {ts : List Dt} (hrd : (Dt.mk d ts).rd w) (hbk : (Dt.mk d ts).tr.bulk ≤ 4000000) : Calls Tryz.prog 20 #[.agg (d.cells ts.length).toArray] w fun e w' => e = .returned (.bool (ve zp (Dt.mk d ts).tr)) ∧ Below w.heap.size w w' := by
 have hM : Mg w w ([]) := Mg.start w
 refine qz (l := [(0, .agg (d.cells ts.length).toArray)]) Tryz.func20 rfl Tryz.ntmps20 rfl rfl ?_
 intro Q hret hnorm hP a hA
 refine wp_seq_k (fun K1 hK1 => ?_)
 refine wp_region_lit ?_
 refine jk (vs := [.int .i64 d.k, .int .i64 d.n, .bool d.y.q.b1, .slice d.y.o1 d.y.q.t1.length d.y.c1, .slice d.y.o2 d.y.q.q1.length d.y.c2, .bool d.y.q.b2, .slice d.y.o3 d.y.q.t2.length d.y.c3, .slice d.y.o4 d.y.q.q2.length d.y.c4, .string d.s, .slice d.ro d.rl.length d.rc, .slice d.lo ts.length d.lc]) (t := 30) hA hM rfl rfl rfl (fun g => .pointer (some ⟨g, 0, none⟩)) (zg rfl rfl) (by decide) ?_
 intro g2 w3 hM a hA
 refine qa hA rfl rfl rfl (qb rfl) ?_
 intro a hA
 refine qf ?_
 refine hK1 _ _ ?_
 refine wp_seq_k (fun K4 hK4 => ?_)
 refine wp_region_lit ?_
 refine qa hA rfl rfl rfl (ja hM TrW_isS_30 rfl 0 rfl (cs := [.int .i64 d.k, .int .i64 d.n, .bool d.y.q.b1, .slice d.y.o1 d.y.q.t1.length d.y.c1, .slice d.y.o2 d.y.q.q1.length d.y.c2, .bool d.y.q.b2, .slice d.y.o3 d.y.q.t2.length d.y.c3, .slice d.y.o4 d.y.q.q2.length d.y.c4, .string d.s, .slice d.ro d.rl.length d.rc, .slice d.lo ts.length d.lc]) rfl rfl) ?_
 intro a hA
 refine qm hA rfl rfl rfl (qh rfl rfl (fun w => by kernel_rfl)) (count_all (Dt.mk d ts) (Dt.keep hM.bel _ hrd) hbk (by omega) (by omega) (by omega) (by omega)) ?_
 rintro _ w5 ⟨rfl, hb9⟩
 replace hM := hM.call hb9
 refine ⟨_, rfl, ?_⟩
 intro a hA
 refine qa (v := .bool (decide (0 ≤ uz zp 1 20000 (Dt.mk d ts).tr))) hA rfl rfl rfl (qg rfl rfl ju) ?_
 intro a hA
 refine qa hA rfl rfl rfl (qb rfl) ?_
 intro a hA
 refine qf ?_
 refine hK4 _ _ ?_
 refine wp_ret ?_
 refine hret _ _ ?_
 refine za (v := .bool (decide (0 ≤ uz zp 1 20000 (Dt.mk d ts).tr))) hA rfl (.cons (qk rfl) .nil) rfl ?_
 exact ⟨by rw [← count_sound], hM.bel⟩
theorem rsound_any {w : World} {t : Dt} (hrd : t.rd w) (hbk : t.tr.bulk ≤ 4000000) : Calls Tryz.prog 20 #[.agg t.cells.toArray] w fun e w' => e = .returned (.bool (ve zp t.tr)) ∧ Below w.heap.size w w' := by
  obtain ⟨d, ts⟩ := t
  exact rsound_mk hrd hbk
end Go.Proofs.YtoopkbedjbnhhaaGreatDoor.G
namespace Go.Proofs.YtoopkbedjbnhhaaGreatDoor.G
open Go.RowKit
set_option maxRecDepth 100000
theorem JcN_is1_3 : Is1 Tryz.prog 3 := ⟨⟨_, Tryz.underlying3, rfl⟩, by kernel_rfl⟩
theorem JcN_is1_9 : Is1 Tryz.prog 9 := ⟨⟨_, Tryz.underlying9, rfl⟩, by kernel_rfl⟩
theorem JcN_fld_30_0 : FieldAt Tryz.prog 30 0 0 := ⟨_, _, Tryz.underlying30, rfl, rfl, by kernel_rfl⟩
theorem JcN_fld_30_3 : FieldAt Tryz.prog 30 3 8 := ⟨_, _, Tryz.underlying30, rfl, rfl, by kernel_rfl⟩
theorem JcN_isS_30 : IsS Tryz.prog 30 11 := ⟨⟨_, Tryz.underlying30⟩, by kernel_rfl⟩
def RSub (n : Nat) : Prop := ∀ {w0 w : World} {t : Dt}, Below w0.heap.size w0 w → t.rd w0 → xl zp t.tr = true → t.tr.bulk ≤ n → ∀ {b : Bool}, (zy n t.tr).isSome = b → Calls Tryz.prog 70 #[.agg (t.d.cells t.ts.length).toArray] w fun e w' => e = .returned (.bool b) ∧ Below w.heap.size w w'
def RRef (n : Nat) : Prop := ∀ {w0 w : World} {t : Dt}, Below w0.heap.size w0 w → t.rd w0 → xl zp t.tr = true → t.tr.bulk ≤ n → ∀ {b : Bool}, (jj n t.tr).isSome = b → Calls Tryz.prog 39 #[.agg (t.d.cells t.ts.length).toArray] w fun e w' => e = .returned (.bool b) ∧ Below w.heap.size w w'
def RFit (n : Nat) : Prop := ∀ {w0 w : World} {t : Dt} {z : Int}, Below w0.heap.size w0 w → t.rd w0 → xl zp t.tr = true → t.tr.bulk ≤ n → (zy n t.tr).isSome = true → ∀ {b : Bool}, vF (zy n t.tr) z = b → Calls Tryz.prog 71 #[.int .i64 z, .agg (t.d.cells t.ts.length).toArray] w fun e w' => e = .returned (.bool b) ∧ Below w.heap.size w w'
def RFits (n : Nat) : Prop := ∀ {w0 w : World} {t : Dt} {l : List Int} {sv : Option Addr} {cv : Nat}, Below w0.heap.size w0 w → t.rd w0 → xl zp t.tr = true → t.tr.bulk ≤ n → Rc w0 sv (izC l) → l.length ≤ 2000000 → (jj n t.tr).isSome = true → ∀ {b : Bool}, vF (jj n t.tr) l = b → Calls Tryz.prog 41 #[.slice sv l.length cv, .agg (t.d.cells t.ts.length).toArray] w fun e w' => e = .returned (.bool b) ∧ Below w.heap.size w w'
theorem join_not2 {α : Type} {l : List (Option (α → Bool))} (h : l.length = 1) : (jf kg l).isSome = (jz l).isSome := by
  match l, h with
  | [o], _ => rw [ui, allS_iff]; simp
theorem and_at {α : Type} {xs : List Dt} {g : Dt → Option (α → Bool)} (h : (jf vu ((xs.drop 1).map g)).isSome = true) (a : α) : vF (jf vu ((xs.drop 1).map g)) a = (xs.drop 1).all fun x => vF (g x) a := by rw [and_val h, List.all_map]; rfl
theorem or_at {α : Type} {xs : List Dt} {g : Dt → Option (α → Bool)} (h : (jf wOr ((xs.drop 1).map g)).isSome = true) (a : α) : vF (jf wOr ((xs.drop 1).map g)) a = (xs.drop 1).any fun x => vF (g x) a := by rw [or_val h, List.any_map]; rfl
theorem rsub_any {w0 w : World} {n : Nat} {t : Dt} (h0 : Below w0.heap.size w0 w) (ht : t.rd w0) (hs : xl zp t.tr = true) (hb : t.tr.bulk ≤ n + 1) (hn : n + 1 ≤ 4000000) (ih : RSub n) : Calls Tryz.prog 70 #[.agg (t.d.cells t.ts.length).toArray] w fun e w' => e = .returned (.bool (zy (n + 1) t.tr).isSome) ∧ Below w.heap.size w w' := by
 have hM : Mg w w ([]) := Mg.start w
 refine qz (l := [(0, .agg (t.d.cells t.ts.length).toArray)]) Tryz.func70 rfl Tryz.ntmps70 rfl rfl ?_
 intro Q hret hnorm hP a hA
 refine wp_seq_k (fun K1 hK1 => ?_)
 refine wp_region_lit ?_
 refine jk (vs := (t.d.cells t.ts.length)) (t := 30) hA hM rfl rfl rfl (fun g => .pointer (some ⟨g, 0, none⟩)) (zg rfl rfl) (by decide) ?_
 intro g2 w3 hM a hA
 refine qa hA rfl rfl rfl (qb rfl) ?_
 intro a hA
 refine qf ?_
 refine hK1 _ _ ?_
 refine wp_seq_k (fun K4 hK4 => ?_)
 refine wp_seq_k (fun K5 hK5 => ?_)
 refine wp_region_lit ?_
 refine qa hA rfl rfl rfl (ja hM JcN_isS_30 rfl 0 rfl (cs := (t.d.cells t.ts.length)) rfl rfl) ?_
 intro a hA
 refine qm hA rfl rfl rfl (qh rfl rfl (fun w => by kernel_rfl)) (vz (Dt.keep (h0.trans (hM.bel.mono h0.size)) _ ht) hs) ?_
 rintro _ w7 ⟨rfl, hb6⟩
 replace hM := hM.call hb6
 refine ⟨_, rfl, ?_⟩
 intro a hA
 rcases Bool.eq_false_or_eq_true (decide (0 ≤ (nN (jc t.tr)))) with hb8 | hb8
 · have hb8' := of_decide_eq_true hb8
   refine qa (v := .bool true) hA rfl rfl rfl (qg rfl rfl (fun w => (ju w).trans (by rw [hb8]))) ?_
   intro a hA
   refine qf ?_
   refine hK5 _ _ ?_
   refine wp_cond_true (hA.ev rfl) ?_
   refine wp_seq_k (fun K9 hK9 => ?_)
   refine wp_region_lit ?_
   refine qa hA rfl rfl rfl (qb rfl) ?_
   intro a hA
   refine qf ?_
   refine hK9 _ _ ?_
   refine wp_ret ?_
   refine hret _ _ ?_
   refine za (v := .bool true) hA rfl (.cons (qk rfl) .nil) rfl ?_
   have hd9 : decide (0 ≤ nN (jc t.tr)) = true := hb8
   obtain ⟨b9, hb9, hb8⟩ := nn_some hd9
   have e9 : (zy (n + 1) t.tr).isSome = true := by
     rw [qhf hb9]; rfl
   exact ⟨by rw [e9], hM.bel⟩
 · have hb8' := of_decide_eq_false hb8
   refine qa (v := .bool false) hA rfl rfl rfl (qg rfl rfl (fun w => (ju w).trans (by rw [hb8]))) ?_
   intro a hA
   refine qf ?_
   refine hK5 _ _ ?_
   refine wp_cond_false (hA.ev rfl) ?_
   refine wp_skip ?_
   refine hK4 _ _ ?_
   refine wp_seq_k (fun K10 hK10 => ?_)
   refine wp_region_lit ?_
   refine qa hA rfl rfl rfl (ja hM JcN_isS_30 rfl 0 rfl (cs := (t.d.cells t.ts.length)) rfl rfl) ?_
   intro a hA
   rcases Bool.eq_false_or_eq_true ((zw t.tr).isSome) with hb11 | hb11
   · refine qm hA rfl rfl rfl (qh rfl rfl (fun w => by kernel_rfl)) ((hb11 ▸ ka (h0.trans (hM.bel.mono h0.size)) ht hs (by omega))) ?_
     rintro _ w15 ⟨so12, ca13, xs, rfl, hIt, hM14⟩
     have hle9 := hIt.le
     replace hM : Mg w w15 (.row 30 11 (.slice so12 xs.length ca13) xs.length (cellsOf xs) :: .obj g2 (.cells (t.d.cells t.ts.length).toArray 30) :: []) := (hM.both hM14 (qw (by simp) (qy zd)) (qw (by simp) (qy zd)))
     refine ⟨_, rfl, ?_⟩
     intro a hA
     refine qa hA rfl rfl rfl (qe rfl) ?_
     intro a hA
     refine qa (v := .slice so12 xs.length ca13) hA rfl rfl rfl (qn (vs := [.slice so12 xs.length ca13, .bool true]) rfl rfl) ?_
     intro a hA
     refine qa (v := .bool true) hA rfl rfl rfl (qn (vs := [.slice so12 xs.length ca13, .bool true]) rfl rfl) ?_
     intro a hA
     refine qa hA rfl rfl rfl (qb rfl) ?_
     intro a hA
     refine qa hA rfl rfl rfl (qb rfl) ?_
     intro a hA
     refine qf ?_
     refine hK10 _ _ ?_
     refine wp_seq_k (fun K16 hK16 => ?_)
     refine wp_seq_k (fun K17 hK17 => ?_)
     refine wp_region_lit ?_
     refine qa hA rfl rfl rfl (qe rfl) ?_
     intro a hA
     refine qa (v := .bool false) hA rfl rfl rfl (qp rfl qt) ?_
     intro a hA
     refine qa hA rfl rfl rfl (qe rfl) ?_
     intro a hA
     refine qa hA rfl rfl rfl (qe rfl) ?_
     intro a hA
     refine qa (v := .int .i64 (((xs.length : Nat) : Int))) hA rfl rfl rfl (zb Tryz.underlying28 rfl) ?_
     intro a hA
     rcases Bool.eq_false_or_eq_true ((((xs.length : Nat) : Int) == 0)) with hb18 | hb18
     · have hb18' := eq_of_beq hb18
       refine qa (v := .bool true) hA rfl rfl rfl (qg rfl rfl (fun w => (qx w).trans (by rw [hb18]))) ?_
       intro a hA
       refine qa (v := .bool true) hA rfl rfl rfl (ql rfl rfl rfl rfl) ?_
       intro a hA
       refine qa hA rfl rfl rfl (qe rfl) ?_
       intro a hA
       refine qj hA rfl rfl rfl ?_
       intro a hA
       refine qj hA rfl rfl rfl ?_
       intro a hA
       refine qj hA rfl rfl rfl ?_
       intro a hA
       refine qj hA rfl rfl rfl ?_
       intro a hA
       refine qj hA rfl rfl rfl ?_
       intro a hA
       refine qa (v := .bool true) hA rfl rfl rfl (ql rfl rfl rfl rfl) ?_
       intro a hA
       refine qf ?_
       refine hK17 _ _ ?_
       refine wp_cond_true (hA.ev rfl) ?_
       refine wp_seq_k (fun K19 hK19 => ?_)
       refine wp_region_lit ?_
       refine qa hA rfl rfl rfl (qb rfl) ?_
       intro a hA
       refine qf ?_
       refine hK19 _ _ ?_
       refine wp_ret ?_
       refine hret _ _ ?_
       refine za (v := .bool false) hA rfl (.cons (qk rfl) .nil) rfl ?_
       have hd9 : decide (0 ≤ nN (jc t.tr)) = false := hb8
       have hn9 := xv hd9
       have ha9 := hIt.as hb11
       have e9 : (zy (n + 1) t.tr).isSome = false := by
         rw [qhg hn9 ha9 (qia (by omega))]; rfl
       exact ⟨by rw [e9], hM.bel⟩
     · have hb18' := ne_of_beq_false hb18
       refine qa (v := .bool false) hA rfl rfl rfl (qg rfl rfl (fun w => (qx w).trans (by rw [hb18]))) ?_
       intro a hA
       refine qa (v := .bool false) hA rfl rfl rfl (ql rfl rfl rfl rfl) ?_
       intro a hA
       refine qa hA rfl rfl rfl (qe rfl) ?_
       intro a hA
       refine qa hA rfl rfl rfl (qe rfl) ?_
       intro a hA
       obtain ⟨th, hith⟩ : ∃ t, xs[0]? = some t := ⟨_, List.getElem?_eq_getElem (by omega)⟩
       have hlth := (List.getElem?_eq_some_iff.1 hith).1
       have mth := List.mem_of_getElem? hith
       obtain ⟨bk20, ok21, lk22, Hk23⟩ := vg (jq (hM.has 0 rfl)).1 (fun x hx => Dt.keep (h0.trans (hM.bel.mono h0.size)) _ (hIt.rd x hx)) hith
       refine qa (v := .pointer (some ⟨bk20, ok21 + 0 * 11, none⟩)) hA rfl rfl rfl (zh (k := 0) Tryz.underlying28 (by kernel_rfl) rfl rfl (by first | rfl | omega) lk22 hlth) ?_
       intro a hA
       refine qa (v := .pointer (some ⟨bk20, ok21 + 0 * 11, none⟩)) hA rfl rfl rfl (qi JcN_fld_30_0 rfl rfl) ?_
       intro a hA
       refine qa hA rfl rfl rfl (vl (j := 0) (Mg.start _) Hk23 JcN_is1_3 rfl rfl rfl) ?_
       intro a hA
       rcases Bool.eq_false_or_eq_true ((th.d.k != 6)) with hb24 | hb24
       · have hb24' := bne_iff_ne.1 hb24
         refine qa (v := .bool true) hA rfl rfl rfl (qg rfl rfl (fun w => (jl w).trans (by rw [hb24]))) ?_
         intro a hA
         refine qa (v := .bool true) hA rfl rfl rfl (ql rfl rfl rfl rfl) ?_
         intro a hA
         refine qf ?_
         refine hK17 _ _ ?_
         refine wp_cond_true (hA.ev rfl) ?_
         refine wp_seq_k (fun K25 hK25 => ?_)
         refine wp_region_lit ?_
         refine qa hA rfl rfl rfl (qb rfl) ?_
         intro a hA
         refine qf ?_
         refine hK25 _ _ ?_
         refine wp_ret ?_
         refine hret _ _ ?_
         refine za (v := .bool false) hA rfl (.cons (qk rfl) .nil) rfl ?_
         have hd9 : decide (0 ≤ nN (jc t.tr)) = false := hb8
         have hn9 := xv hd9
         have ha9 := hIt.as hb11
         have e9 : (zy (n + 1) t.tr).isSome = false := by
           rw [qhg hn9 ha9 (qhj hith (by have h9 := hb24'; omega))]; rfl
         exact ⟨by rw [e9], hM.bel⟩
       · have hb24' := bne_eq_false_iff_eq.1 hb24
         refine qa (v := .bool false) hA rfl rfl rfl (qg rfl rfl (fun w => (jl w).trans (by rw [hb24]))) ?_
         intro a hA
         refine qa (v := .bool false) hA rfl rfl rfl (ql rfl rfl rfl rfl) ?_
         intro a hA
         refine qf ?_
         refine hK17 _ _ ?_
         refine wp_cond_false (hA.ev rfl) ?_
         refine wp_skip ?_
         refine hK16 _ _ ?_
         refine wp_seq_k (fun K26 hK26 => ?_)
         refine wp_seq_k (fun K27 hK27 => ?_)
         refine wp_region_lit ?_
         refine qa hA rfl rfl rfl (qe rfl) ?_
         intro a hA
         obtain ⟨bk28, ok29, lk30, Hk31⟩ := vg (jq (hM.has 0 rfl)).1 (fun x hx => Dt.keep (h0.trans (hM.bel.mono h0.size)) _ (hIt.rd x hx)) hith
         refine qa (v := .pointer (some ⟨bk28, ok29 + 0 * 11, none⟩)) hA rfl rfl rfl (zh (k := 0) Tryz.underlying28 (by kernel_rfl) rfl rfl (by first | rfl | omega) lk30 hlth) ?_
         intro a hA
         refine qa (v := .pointer (some ⟨bk28, ok29 + 0 * 11 + 8, none⟩)) hA rfl rfl rfl (qi JcN_fld_30_3 rfl rfl) ?_
         intro a hA
         refine qa hA rfl rfl rfl (vl (j := 8) (Mg.start _) Hk31 JcN_is1_9 rfl rfl rfl) ?_
         intro a hA
         refine qf ?_
         refine hK27 _ _ ?_
         refine wp_block ?_
         refine wp_seq_k (fun K32 hK32 => ?_)
         refine wp_seq_k (fun K33 hK33 => ?_)
         refine wp_region_lit ?_
         rcases Bool.eq_false_or_eq_true (decide (th.d.s = ⟨#[62, 61]⟩)) with hb34 | hb34
         · have hb34' := of_decide_eq_true hb34
           refine qa (v := .bool true) hA rfl rfl rfl (qg rfl rfl (fun w => (zq Tryz.underlying9 w).trans (by rw [hb34] <;> rfl))) ?_
           intro a hA
           refine qa hA rfl rfl rfl (qb rfl) ?_
           intro a hA
           refine qf ?_
           refine hK33 _ _ ?_
           refine wp_cond_true (hA.ev rfl) ?_
           refine wp_skip ?_
           refine hK32 _ _ ?_
           refine wp_cond_true (hA.ev rfl) ?_
           refine wp_seq_k (fun K35 hK35 => ?_)
           refine wp_region_lit ?_
           refine qa hA rfl rfl rfl (qe rfl) ?_
           intro a hA
           refine qa (v := .int .i64 (((xs.length : Nat) : Int))) hA rfl rfl rfl (zb Tryz.underlying28 rfl) ?_
           intro a hA
           rcases Bool.eq_false_or_eq_true ((((xs.length : Nat) : Int) == 2)) with hb36 | hb36
           · have hb36' := eq_of_beq hb36
             refine qa (v := .bool true) hA rfl rfl rfl (qg rfl rfl (fun w => (qx w).trans (by rw [hb36]))) ?_
             intro a hA
             refine qa hA rfl rfl rfl (qe rfl) ?_
             intro a hA
             refine qa hA rfl rfl rfl (qe rfl) ?_
             intro a hA
             obtain ⟨ta, hita⟩ : ∃ t, xs[1]? = some t := ⟨_, List.getElem?_eq_getElem (by omega)⟩
             have hlta := (List.getElem?_eq_some_iff.1 hita).1
             have mta := List.mem_of_getElem? hita
             obtain ⟨bk37, ok38, lk39, Hk40⟩ := vg (jq (hM.has 0 rfl)).1 (fun x hx => Dt.keep (h0.trans (hM.bel.mono h0.size)) _ (hIt.rd x hx)) hita
             refine qa (v := .pointer (some ⟨bk37, ok38 + 1 * 11, none⟩)) hA rfl rfl rfl (zh (k := 1) Tryz.underlying28 (by kernel_rfl) rfl rfl (by first | rfl | omega) lk39 hlta) ?_
             intro a hA
             refine qa hA rfl rfl rfl (jg (Mg.start _) Hk40 JcN_isS_30 rfl rfl) ?_
             intro a hA
             refine qm hA rfl rfl rfl (qh rfl rfl (fun w => by kernel_rfl)) (vz (Dt.keep (h0.trans (hM.bel.mono h0.size)) _ (hIt.rd _ mta)) (hIt.sh _ mta)) ?_
             rintro _ w42 ⟨rfl, hb41⟩
             replace hM := hM.call hb41
             refine ⟨_, rfl, ?_⟩
             intro a hA
             rcases Bool.eq_false_or_eq_true (decide (0 ≤ (nN (jc ta.tr)))) with hb43 | hb43
             · have hb43' := of_decide_eq_true hb43
               refine qa (v := .bool true) hA rfl rfl rfl (qg rfl rfl (fun w => (ju w).trans (by rw [hb43]))) ?_
               intro a hA
               refine qa (v := .bool true) hA rfl rfl rfl (ql rfl rfl rfl rfl) ?_
               intro a hA
               refine qa hA rfl rfl rfl (qb rfl) ?_
               intro a hA
               refine qf ?_
               refine hK35 _ _ ?_
               refine wp_ret ?_
               refine hret _ _ ?_
               refine za (v := .bool true) hA rfl (.cons (qk rfl) .nil) rfl ?_
               have hd9 : decide (0 ≤ nN (jc t.tr)) = false := hb8
               have hn9 := xv hd9
               have ha9 := hIt.as hb11
               have hw9 := xu hith (by have h9 := hb24'; omega)
               have ewGe : zj xs = wGe := (ze hith).trans (of_decide_eq_true hb34)
               have e9 : (zy (n + 1) t.tr).isSome = true := by
                 rw [sf_ge hn9 ha9 hw9 ewGe, xd (by omega) hita, List.map_singleton, Option.isSome_map, xx, ← qfh]; exact hb43
               exact ⟨by rw [e9], hM.bel⟩
             · have hb43' := of_decide_eq_false hb43
               refine qa (v := .bool false) hA rfl rfl rfl (qg rfl rfl (fun w => (ju w).trans (by rw [hb43]))) ?_
               intro a hA
               refine qa (v := .bool false) hA rfl rfl rfl (ql rfl rfl rfl rfl) ?_
               intro a hA
               refine qa hA rfl rfl rfl (qb rfl) ?_
               intro a hA
               refine qf ?_
               refine hK35 _ _ ?_
               refine wp_ret ?_
               refine hret _ _ ?_
               refine za (v := .bool false) hA rfl (.cons (qk rfl) .nil) rfl ?_
               have hd9 : decide (0 ≤ nN (jc t.tr)) = false := hb8
               have hn9 := xv hd9
               have ha9 := hIt.as hb11
               have hw9 := xu hith (by have h9 := hb24'; omega)
               have ewGe : zj xs = wGe := (ze hith).trans (of_decide_eq_true hb34)
               have e9 : (zy (n + 1) t.tr).isSome = false := by
                 rw [sf_ge hn9 ha9 hw9 ewGe, xd (by omega) hita, List.map_singleton, Option.isSome_map, xx, ← qfh]; exact hb43
               exact ⟨by rw [e9], hM.bel⟩
           · have hb36' := ne_of_beq_false hb36
             refine qa (v := .bool false) hA rfl rfl rfl (qg rfl rfl (fun w => (qx w).trans (by rw [hb36]))) ?_
             intro a hA
             refine qa hA rfl rfl rfl (qe rfl) ?_
             intro a hA
             refine qj hA rfl rfl rfl ?_
             intro a hA
             refine qj hA rfl rfl rfl ?_
             intro a hA
             refine qj hA rfl rfl rfl ?_
             intro a hA
             refine qj hA rfl rfl rfl ?_
             intro a hA
             refine qj hA rfl rfl rfl ?_
             intro a hA
             refine qa (v := .bool false) hA rfl rfl rfl (ql rfl rfl rfl rfl) ?_
             intro a hA
             refine qa hA rfl rfl rfl (qb rfl) ?_
             intro a hA
             refine qf ?_
             refine hK35 _ _ ?_
             refine wp_ret ?_
             refine hret _ _ ?_
             refine za (v := .bool false) hA rfl (.cons (qk rfl) .nil) rfl ?_
             have hd9 : decide (0 ≤ nN (jc t.tr)) = false := hb8
             have hn9 := xv hd9
             have ha9 := hIt.as hb11
             have hw9 := xu hith (by have h9 := hb24'; omega)
             have ewGe : zj xs = wGe := (ze hith).trans (of_decide_eq_true hb34)
             have e9 : (zy (n + 1) t.tr).isSome = false := by
               rw [sf_ge hn9 ha9 hw9 ewGe, qki (by rw [List.length_map, List.length_drop]; omega)]; rfl
             exact ⟨by rw [e9], hM.bel⟩
         · have hb34' := of_decide_eq_false hb34
           refine qa (v := .bool false) hA rfl rfl rfl (qg rfl rfl (fun w => (zq Tryz.underlying9 w).trans (by rw [hb34] <;> rfl))) ?_
           intro a hA
           refine qa hA rfl rfl rfl (qb rfl) ?_
           intro a hA
           refine qf ?_
           refine hK33 _ _ ?_
           refine wp_cond_false (hA.ev rfl) ?_
           refine wp_region_lit ?_
           rcases Bool.eq_false_or_eq_true (decide (th.d.s = ⟨#[60, 61]⟩)) with hb44 | hb44
           · have hb44' := of_decide_eq_true hb44
             refine qa (v := .bool true) hA rfl rfl rfl (qg rfl rfl (fun w => (zq Tryz.underlying9 w).trans (by rw [hb44] <;> rfl))) ?_
             intro a hA
             refine qa hA rfl rfl rfl (qb rfl) ?_
             intro a hA
             refine qf ?_
             refine hK32 _ _ ?_
             refine wp_cond_true (hA.ev rfl) ?_
             refine wp_seq_k (fun K45 hK45 => ?_)
             refine wp_region_lit ?_
             refine qa hA rfl rfl rfl (qe rfl) ?_
             intro a hA
             refine qa (v := .int .i64 (((xs.length : Nat) : Int))) hA rfl rfl rfl (zb Tryz.underlying28 rfl) ?_
             intro a hA
             rcases Bool.eq_false_or_eq_true ((((xs.length : Nat) : Int) == 2)) with hb46 | hb46
             · have hb46' := eq_of_beq hb46
               refine qa (v := .bool true) hA rfl rfl rfl (qg rfl rfl (fun w => (qx w).trans (by rw [hb46]))) ?_
               intro a hA
               refine qa hA rfl rfl rfl (qe rfl) ?_
               intro a hA
               refine qa hA rfl rfl rfl (qe rfl) ?_
               intro a hA
               obtain ⟨ta, hita⟩ : ∃ t, xs[1]? = some t := ⟨_, List.getElem?_eq_getElem (by omega)⟩
               have hlta := (List.getElem?_eq_some_iff.1 hita).1
               have mta := List.mem_of_getElem? hita
               obtain ⟨bk47, ok48, lk49, Hk50⟩ := vg (jq (hM.has 0 rfl)).1 (fun x hx => Dt.keep (h0.trans (hM.bel.mono h0.size)) _ (hIt.rd x hx)) hita
               refine qa (v := .pointer (some ⟨bk47, ok48 + 1 * 11, none⟩)) hA rfl rfl rfl (zh (k := 1) Tryz.underlying28 (by kernel_rfl) rfl rfl (by first | rfl | omega) lk49 hlta) ?_
               intro a hA
               refine qa hA rfl rfl rfl (jg (Mg.start _) Hk50 JcN_isS_30 rfl rfl) ?_
               intro a hA
               refine qm hA rfl rfl rfl (qh rfl rfl (fun w => by kernel_rfl)) (vz (Dt.keep (h0.trans (hM.bel.mono h0.size)) _ (hIt.rd _ mta)) (hIt.sh _ mta)) ?_
               rintro _ w52 ⟨rfl, hb51⟩
               replace hM := hM.call hb51
               refine ⟨_, rfl, ?_⟩
               intro a hA
               rcases Bool.eq_false_or_eq_true (decide (0 ≤ (nN (jc ta.tr)))) with hb53 | hb53
               · have hb53' := of_decide_eq_true hb53
                 refine qa (v := .bool true) hA rfl rfl rfl (qg rfl rfl (fun w => (ju w).trans (by rw [hb53]))) ?_
                 intro a hA
                 refine qa (v := .bool true) hA rfl rfl rfl (ql rfl rfl rfl rfl) ?_
                 intro a hA
                 refine qa hA rfl rfl rfl (qb rfl) ?_
                 intro a hA
                 refine qf ?_
                 refine hK45 _ _ ?_
                 refine wp_ret ?_
                 refine hret _ _ ?_
                 refine za (v := .bool true) hA rfl (.cons (qk rfl) .nil) rfl ?_
                 have hd9 : decide (0 ≤ nN (jc t.tr)) = false := hb8
                 have hn9 := xv hd9
                 have ha9 := hIt.as hb11
                 have hw9 := xu hith (by have h9 := hb24'; omega)
                 have ewGe : zj xs ≠ wGe := fun h9 => of_decide_eq_false hb34 ((ze hith).symm.trans h9)
                 have ewLe : zj xs = wLe := (ze hith).trans (of_decide_eq_true hb44)
                 have e9 : (zy (n + 1) t.tr).isSome = true := by
                   rw [sf_le hn9 ha9 hw9 ewLe, xd (by omega) hita, List.map_singleton, Option.isSome_map, xx, ← qfh]; exact hb53
                 exact ⟨by rw [e9], hM.bel⟩
               · have hb53' := of_decide_eq_false hb53
                 refine qa (v := .bool false) hA rfl rfl rfl (qg rfl rfl (fun w => (ju w).trans (by rw [hb53]))) ?_
                 intro a hA
                 refine qa (v := .bool false) hA rfl rfl rfl (ql rfl rfl rfl rfl) ?_
                 intro a hA
                 refine qa hA rfl rfl rfl (qb rfl) ?_
                 intro a hA
                 refine qf ?_
                 refine hK45 _ _ ?_
                 refine wp_ret ?_
                 refine hret _ _ ?_
                 refine za (v := .bool false) hA rfl (.cons (qk rfl) .nil) rfl ?_
                 have hd9 : decide (0 ≤ nN (jc t.tr)) = false := hb8
                 have hn9 := xv hd9
                 have ha9 := hIt.as hb11
                 have hw9 := xu hith (by have h9 := hb24'; omega)
                 have ewGe : zj xs ≠ wGe := fun h9 => of_decide_eq_false hb34 ((ze hith).symm.trans h9)
                 have ewLe : zj xs = wLe := (ze hith).trans (of_decide_eq_true hb44)
                 have e9 : (zy (n + 1) t.tr).isSome = false := by
                   rw [sf_le hn9 ha9 hw9 ewLe, xd (by omega) hita, List.map_singleton, Option.isSome_map, xx, ← qfh]; exact hb53
                 exact ⟨by rw [e9], hM.bel⟩
             · have hb46' := ne_of_beq_false hb46
               refine qa (v := .bool false) hA rfl rfl rfl (qg rfl rfl (fun w => (qx w).trans (by rw [hb46]))) ?_
               intro a hA
               refine qa hA rfl rfl rfl (qe rfl) ?_
               intro a hA
               refine qj hA rfl rfl rfl ?_
               intro a hA
               refine qj hA rfl rfl rfl ?_
               intro a hA
               refine qj hA rfl rfl rfl ?_
               intro a hA
               refine qj hA rfl rfl rfl ?_
               intro a hA
               refine qj hA rfl rfl rfl ?_
               intro a hA
               refine qa (v := .bool false) hA rfl rfl rfl (ql rfl rfl rfl rfl) ?_
               intro a hA
               refine qa hA rfl rfl rfl (qb rfl) ?_
               intro a hA
               refine qf ?_
               refine hK45 _ _ ?_
               refine wp_ret ?_
               refine hret _ _ ?_
               refine za (v := .bool false) hA rfl (.cons (qk rfl) .nil) rfl ?_
               have hd9 : decide (0 ≤ nN (jc t.tr)) = false := hb8
               have hn9 := xv hd9
               have ha9 := hIt.as hb11
               have hw9 := xu hith (by have h9 := hb24'; omega)
               have ewGe : zj xs ≠ wGe := fun h9 => of_decide_eq_false hb34 ((ze hith).symm.trans h9)
               have ewLe : zj xs = wLe := (ze hith).trans (of_decide_eq_true hb44)
               have e9 : (zy (n + 1) t.tr).isSome = false := by
                 rw [sf_le hn9 ha9 hw9 ewLe, qki (by rw [List.length_map, List.length_drop]; omega)]; rfl
               exact ⟨by rw [e9], hM.bel⟩
           · have hb44' := of_decide_eq_false hb44
             refine qa (v := .bool false) hA rfl rfl rfl (qg rfl rfl (fun w => (zq Tryz.underlying9 w).trans (by rw [hb44] <;> rfl))) ?_
             intro a hA
             refine qa hA rfl rfl rfl (qb rfl) ?_
             intro a hA
             refine qf ?_
             refine hK32 _ _ ?_
             refine wp_cond_false (hA.ev rfl) ?_
             refine wp_seq_k (fun K54 hK54 => ?_)
             refine wp_region_lit ?_
             rcases Bool.eq_false_or_eq_true (decide (th.d.s = ⟨#[110, 111, 116]⟩)) with hb55 | hb55
             · have hb55' := of_decide_eq_true hb55
               refine qa (v := .bool true) hA rfl rfl rfl (qg rfl rfl (fun w => (zq Tryz.underlying9 w).trans (by rw [hb55] <;> rfl))) ?_
               intro a hA
               refine qa hA rfl rfl rfl (qb rfl) ?_
               intro a hA
               refine qf ?_
               refine hK54 _ _ ?_
               refine wp_cond_true (hA.ev rfl) ?_
               refine wp_seq_k (fun K56 hK56 => ?_)
               refine wp_region_lit ?_
               refine qa hA rfl rfl rfl (qe rfl) ?_
               intro a hA
               refine qa (v := .int .i64 (((xs.length : Nat) : Int))) hA rfl rfl rfl (zb Tryz.underlying28 rfl) ?_
               intro a hA
               rcases Bool.eq_false_or_eq_true ((((xs.length : Nat) : Int) == 2)) with hb57 | hb57
               · have hb57' := eq_of_beq hb57
                 refine qa (v := .bool true) hA rfl rfl rfl (qg rfl rfl (fun w => (qx w).trans (by rw [hb57]))) ?_
                 intro a hA
                 refine qa hA rfl rfl rfl (qe rfl) ?_
                 intro a hA
                 refine qa hA rfl rfl rfl (qe rfl) ?_
                 intro a hA
                 obtain ⟨ta, hita⟩ : ∃ t, xs[1]? = some t := ⟨_, List.getElem?_eq_getElem (by omega)⟩
                 have hlta := (List.getElem?_eq_some_iff.1 hita).1
                 have mta := List.mem_of_getElem? hita
                 obtain ⟨bk58, ok59, lk60, Hk61⟩ := vg (jq (hM.has 0 rfl)).1 (fun x hx => Dt.keep (h0.trans (hM.bel.mono h0.size)) _ (hIt.rd x hx)) hita
                 refine qa (v := .pointer (some ⟨bk58, ok59 + 1 * 11, none⟩)) hA rfl rfl rfl (zh (k := 1) Tryz.underlying28 (by kernel_rfl) rfl rfl (by first | rfl | omega) lk60 hlta) ?_
                 intro a hA
                 refine qa hA rfl rfl rfl (jg (Mg.start _) Hk61 JcN_isS_30 rfl rfl) ?_
                 intro a hA
                 rcases Bool.eq_false_or_eq_true ((zy n ta.tr).isSome) with hb62 | hb62
                 · refine qm hA rfl rfl rfl (qh rfl rfl (fun w => by kernel_rfl)) (ih (h0.trans (hM.bel.mono h0.size)) (hIt.rd _ mta) (hIt.sh _ mta) (by have := hIt.lt _ mta; omega) hb62) ?_
                   rintro _ w64 ⟨rfl, hb63⟩
                   replace hM := hM.call hb63
                   refine ⟨_, rfl, ?_⟩
                   intro a hA
                   refine qa (v := .bool true) hA rfl rfl rfl (ql rfl rfl rfl rfl) ?_
                   intro a hA
                   refine qa hA rfl rfl rfl (qb rfl) ?_
                   intro a hA
                   refine qf ?_
                   refine hK56 _ _ ?_
                   refine wp_ret ?_
                   refine hret _ _ ?_
                   refine za (v := .bool true) hA rfl (.cons (qk rfl) .nil) rfl ?_
                   have hd9 : decide (0 ≤ nN (jc t.tr)) = false := hb8
                   have hn9 := xv hd9
                   have ha9 := hIt.as hb11
                   have hw9 := xu hith (by have h9 := hb24'; omega)
                   have ewGe : zj xs ≠ wGe := fun h9 => of_decide_eq_false hb34 ((ze hith).symm.trans h9)
                   have ewLe : zj xs ≠ wLe := fun h9 => of_decide_eq_false hb44 ((ze hith).symm.trans h9)
                   have ewNot : zj xs = kg := (ze hith).trans (of_decide_eq_true hb55)
                   have e9 : (zy (n + 1) t.tr).isSome = true := by
                     rw [xe hn9 ha9 hw9 ewGe ewLe, ewNot, xd (by omega) hita, List.map_singleton, ui]; exact hb62
                   exact ⟨by rw [e9], hM.bel⟩
                 · refine qm hA rfl rfl rfl (qh rfl rfl (fun w => by kernel_rfl)) (ih (h0.trans (hM.bel.mono h0.size)) (hIt.rd _ mta) (hIt.sh _ mta) (by have := hIt.lt _ mta; omega) hb62) ?_
                   rintro _ w66 ⟨rfl, hb65⟩
                   replace hM := hM.call hb65
                   refine ⟨_, rfl, ?_⟩
                   intro a hA
                   refine qa (v := .bool false) hA rfl rfl rfl (ql rfl rfl rfl rfl) ?_
                   intro a hA
                   refine qa hA rfl rfl rfl (qb rfl) ?_
                   intro a hA
                   refine qf ?_
                   refine hK56 _ _ ?_
                   refine wp_ret ?_
                   refine hret _ _ ?_
                   refine za (v := .bool false) hA rfl (.cons (qk rfl) .nil) rfl ?_
                   have hd9 : decide (0 ≤ nN (jc t.tr)) = false := hb8
                   have hn9 := xv hd9
                   have ha9 := hIt.as hb11
                   have hw9 := xu hith (by have h9 := hb24'; omega)
                   have ewGe : zj xs ≠ wGe := fun h9 => of_decide_eq_false hb34 ((ze hith).symm.trans h9)
                   have ewLe : zj xs ≠ wLe := fun h9 => of_decide_eq_false hb44 ((ze hith).symm.trans h9)
                   have ewNot : zj xs = kg := (ze hith).trans (of_decide_eq_true hb55)
                   have e9 : (zy (n + 1) t.tr).isSome = false := by
                     rw [xe hn9 ha9 hw9 ewGe ewLe, ewNot, xd (by omega) hita, List.map_singleton, ui]; exact hb62
                   exact ⟨by rw [e9], hM.bel⟩
               · have hb57' := ne_of_beq_false hb57
                 refine qa (v := .bool false) hA rfl rfl rfl (qg rfl rfl (fun w => (qx w).trans (by rw [hb57]))) ?_
                 intro a hA
                 refine qa hA rfl rfl rfl (qe rfl) ?_
                 intro a hA
                 refine qj hA rfl rfl rfl ?_
                 intro a hA
                 refine qj hA rfl rfl rfl ?_
                 intro a hA
                 refine qj hA rfl rfl rfl ?_
                 intro a hA
                 refine qj hA rfl rfl rfl ?_
                 intro a hA
                 refine qa (v := .bool false) hA rfl rfl rfl (ql rfl rfl rfl rfl) ?_
                 intro a hA
                 refine qa hA rfl rfl rfl (qb rfl) ?_
                 intro a hA
                 refine qf ?_
                 refine hK56 _ _ ?_
                 refine wp_ret ?_
                 refine hret _ _ ?_
                 refine za (v := .bool false) hA rfl (.cons (qk rfl) .nil) rfl ?_
                 have hd9 : decide (0 ≤ nN (jc t.tr)) = false := hb8
                 have hn9 := xv hd9
                 have ha9 := hIt.as hb11
                 have hw9 := xu hith (by have h9 := hb24'; omega)
                 have ewGe : zj xs ≠ wGe := fun h9 => of_decide_eq_false hb34 ((ze hith).symm.trans h9)
                 have ewLe : zj xs ≠ wLe := fun h9 => of_decide_eq_false hb44 ((ze hith).symm.trans h9)
                 have ewNot : zj xs = kg := (ze hith).trans (of_decide_eq_true hb55)
                 have e9 : (zy (n + 1) t.tr).isSome = false := by
                   rw [xe hn9 ha9 hw9 ewGe ewLe, ewNot, qaf (by rw [List.length_map, List.length_drop]; omega)]; rfl
                 exact ⟨by rw [e9], hM.bel⟩
             · have hb55' := of_decide_eq_false hb55
               refine qa (v := .bool false) hA rfl rfl rfl (qg rfl rfl (fun w => (zq Tryz.underlying9 w).trans (by rw [hb55] <;> rfl))) ?_
               intro a hA
               refine qa hA rfl rfl rfl (qb rfl) ?_
               intro a hA
               refine qf ?_
               refine hK54 _ _ ?_
               refine wp_cond_false (hA.ev rfl) ?_
               refine wp_seq_k (fun K67 hK67 => ?_)
               refine wp_seq_k (fun K68 hK68 => ?_)
               refine wp_region_lit ?_
               rcases Bool.eq_false_or_eq_true (decide (th.d.s = ⟨#[97, 110, 100]⟩)) with hb69 | hb69
               · have hb69' := of_decide_eq_true hb69
                 refine qa (v := .bool true) hA rfl rfl rfl (qg rfl rfl (fun w => (zq Tryz.underlying9 w).trans (by rw [hb69] <;> rfl))) ?_
                 intro a hA
                 refine qa hA rfl rfl rfl (qb rfl) ?_
                 intro a hA
                 refine qf ?_
                 refine hK68 _ _ ?_
                 refine wp_cond_true (hA.ev rfl) ?_
                 refine wp_skip ?_
                 refine hK67 _ _ ?_
                 refine wp_cond_true (hA.ev rfl) ?_
                 refine wp_seq_k (fun K70 hK70 => ?_)
                 refine wp_seq_k (fun K71 hK71 => ?_)
                 refine wp_region_lit ?_
                 refine qa hA rfl rfl rfl (qb rfl) ?_
                 intro a hA
                 refine qf ?_
                 refine hK71 _ _ ?_
                 refine wp_block ?_
                 refine jd (fun m_ a w1 => ∃ (i : Nat), m_ = 1 + (xs.length - i) ∧ (1 ≤ i ∧ ∀ (j : Nat) u, 1 ≤ j → j < i → xs[j]? = some u → (zy n u.tr).isSome = true) ∧ Sl a 71 [(0, .agg (t.d.cells t.ts.length).toArray), (1, .pointer (some ⟨g2, 0, none⟩)), (3, .slice so12 xs.length ca13), (4, .bool true), (5, .int .i64 (((i : Nat) : Int))), (6, .agg (t.d.cells t.ts.length).toArray), (7, .int .i64 ((nN (jc t.tr)))), (8, .bool false), (9, .tuple #[.slice so12 xs.length ca13, .bool true]), (10, .agg (t.d.cells t.ts.length).toArray), (11, .tuple #[.slice so12 xs.length ca13, .bool true]), (12, .slice so12 xs.length ca13), (13, .bool true), (14, .bool true), (15, .bool false), (16, .bool false), (17, .slice so12 xs.length ca13), (18, .int .i64 (((xs.length : Nat) : Int))), (19, .bool false), (20, .bool false), (21, .bool false), (22, .slice so12 xs.length ca13), (23, .pointer (some ⟨bk20, ok21 + 0 * 11, none⟩)), (24, .pointer (some ⟨bk20, ok21 + 0 * 11, none⟩)), (25, .int .i64 th.d.k), (26, .bool false), (27, .bool false), (28, .slice so12 xs.length ca13), (29, .pointer (some ⟨bk28, ok29 + 0 * 11, none⟩)), (30, .pointer (some ⟨bk28, ok29 + 0 * 11 + 8, none⟩)), (31, .string th.d.s), (32, .bool false), (33, .bool false), (34, .bool false), (45, .bool false), (46, .bool false), (56, .bool true), (57, .bool true)] ∧ Mg w w1 (.row 30 11 (.slice so12 xs.length ca13) xs.length (cellsOf xs) :: .obj g2 (.cells (t.d.cells t.ts.length).toArray 30) :: [])) _ ⟨1, rfl, ⟨Nat.le_refl _, fun j u h1 h2 => absurd h1 (by omega)⟩, hA.keep _ (by repeat' constructor), hM⟩ ?_
                 clear hM hA
                 rintro m_ a w72 ⟨i, rfl, hinv74, hA, hM⟩ K73 hK73
                 obtain ⟨hi0, hin9⟩ := hinv74
                 refine wp_seq_k (fun K75 hK75 => ?_)
                 refine wp_seq_k (fun K76 hK76 => ?_)
                 refine wp_region_lit ?_
                 refine qa hA rfl rfl rfl (qe rfl) ?_
                 intro a hA
                 refine qa hA rfl rfl rfl (qe rfl) ?_
                 intro a hA
                 refine qa (v := .int .i64 (((xs.length : Nat) : Int))) hA rfl rfl rfl (zb Tryz.underlying28 rfl) ?_
                 intro a hA
                 rcases Bool.eq_false_or_eq_true (decide (((i : Nat) : Int) < ((xs.length : Nat) : Int))) with hb77 | hb77
                 · have hb77' := of_decide_eq_true hb77
                   refine qa (v := .bool true) hA rfl rfl rfl (qg rfl rfl (fun w => (zk w).trans (by rw [hb77]))) ?_
                   intro a hA
                   refine qf ?_
                   refine hK76 _ _ ?_
                   refine wp_cond_true (hA.ev rfl) ?_
                   refine wp_skip ?_
                   refine hK75 _ _ ?_
                   refine wp_seq_k (fun K78 hK78 => ?_)
                   refine wp_block ?_
                   refine wp_seq_k (fun K79 hK79 => ?_)
                   refine wp_region_lit ?_
                   refine qa hA rfl rfl rfl (qe rfl) ?_
                   intro a hA
                   refine qa hA rfl rfl rfl (qe rfl) ?_
                   intro a hA
                   obtain ⟨ti, hiti⟩ : ∃ t, xs[i]? = some t := ⟨_, List.getElem?_eq_getElem (by omega)⟩
                   have hlti := (List.getElem?_eq_some_iff.1 hiti).1
                   have mti := List.mem_of_getElem? hiti
                   obtain ⟨bk80, ok81, lk82, Hk83⟩ := vg (jq (hM.has 0 rfl)).1 (fun x hx => Dt.keep (h0.trans (hM.bel.mono h0.size)) _ (hIt.rd x hx)) hiti
                   refine qa (v := .pointer (some ⟨bk80, ok81 + i * 11, none⟩)) hA rfl rfl rfl (zh (k := i) Tryz.underlying28 (by kernel_rfl) rfl rfl (by first | rfl | omega) lk82 hlti) ?_
                   intro a hA
                   refine qa hA rfl rfl rfl (jg (Mg.start _) Hk83 JcN_isS_30 rfl rfl) ?_
                   intro a hA
                   rcases Bool.eq_false_or_eq_true ((zy n ti.tr).isSome) with hb84 | hb84
                   · refine qm hA rfl rfl rfl (qh rfl rfl (fun w => by kernel_rfl)) (ih (h0.trans (hM.bel.mono h0.size)) (hIt.rd _ mti) (hIt.sh _ mti) (by have := hIt.lt _ mti; omega) hb84) ?_
                     rintro _ w86 ⟨rfl, hb85⟩
                     replace hM := hM.call hb85
                     refine ⟨_, rfl, ?_⟩
                     intro a hA
                     refine qa (v := .bool false) hA rfl rfl rfl (qp rfl qt) ?_
                     intro a hA
                     refine qf ?_
                     refine hK79 _ _ ?_
                     refine wp_cond_false (hA.ev rfl) ?_
                     refine wp_skip ?_
                     refine hK78 _ _ ?_
                     refine wp_region_lit ?_
                     refine qa hA rfl rfl rfl (qe rfl) ?_
                     intro a hA
                     refine qa (v := .int .i64 (((i + 1 : Nat) : Int))) hA rfl rfl rfl (qg rfl rfl (ar_add ((in_i64 (by omega) (by omega)).trans (by omega)))) ?_
                     intro a hA
                     refine qa hA rfl rfl rfl (qb rfl) ?_
                     intro a hA
                     refine qf ?_
                     refine hK73 _ _ _ (by omega) ⟨i + 1, rfl, ⟨by omega, din (p := fun u : Dt => (zy n u.tr).isSome) hin9 hiti hb84⟩, hA.keep _ (by repeat' constructor), hM⟩
                   · refine qm hA rfl rfl rfl (qh rfl rfl (fun w => by kernel_rfl)) (ih (h0.trans (hM.bel.mono h0.size)) (hIt.rd _ mti) (hIt.sh _ mti) (by have := hIt.lt _ mti; omega) hb84) ?_
                     rintro _ w88 ⟨rfl, hb87⟩
                     replace hM := hM.call hb87
                     refine ⟨_, rfl, ?_⟩
                     intro a hA
                     refine qa (v := .bool true) hA rfl rfl rfl (qp rfl qt) ?_
                     intro a hA
                     refine qf ?_
                     refine hK79 _ _ ?_
                     refine wp_cond_true (hA.ev rfl) ?_
                     refine wp_seq_k (fun K89 hK89 => ?_)
                     refine wp_region_lit ?_
                     refine qa hA rfl rfl rfl (qb rfl) ?_
                     intro a hA
                     refine qf ?_
                     refine hK89 _ _ ?_
                     refine wp_ret ?_
                     refine hret _ _ ?_
                     refine za (v := .bool false) hA rfl (.cons (qk rfl) .nil) rfl ?_
                     have hd9 : decide (0 ≤ nN (jc t.tr)) = false := hb8
                     have hn9 := xv hd9
                     have ha9 := hIt.as hb11
                     have hw9 := xu hith (by have h9 := hb24'; omega)
                     have ewGe : zj xs ≠ wGe := fun h9 => of_decide_eq_false hb34 ((ze hith).symm.trans h9)
                     have ewLe : zj xs ≠ wLe := fun h9 => of_decide_eq_false hb44 ((ze hith).symm.trans h9)
                     have ewNot : zj xs ≠ kg := fun h9 => of_decide_eq_false hb55 ((ze hith).symm.trans h9)
                     have ewAnd : zj xs = vu := (ze hith).trans (of_decide_eq_true hb69)
                     have e9 : (zy (n + 1) t.tr).isSome = false := by
                       rw [xe hn9 ha9 hw9 ewGe ewLe, ewAnd, qeh, xt]; exact dnot hi0 hiti hb84
                     exact ⟨by rw [e9], hM.bel⟩
                 · have hb77' := of_decide_eq_false hb77
                   refine qa (v := .bool false) hA rfl rfl rfl (qg rfl rfl (fun w => (zk w).trans (by rw [hb77]))) ?_
                   intro a hA
                   refine qf ?_
                   refine hK76 _ _ ?_
                   refine wp_cond_false (hA.ev rfl) ?_
                   refine wp_exit ?_
                   refine hK70 _ _ ?_
                   refine wp_seq_k (fun K90 hK90 => ?_)
                   refine wp_region_lit ?_
                   refine qa hA rfl rfl rfl (qb rfl) ?_
                   intro a hA
                   refine qf ?_
                   refine hK90 _ _ ?_
                   refine wp_ret ?_
                   refine hret _ _ ?_
                   refine za (v := .bool true) hA rfl (.cons (qk rfl) .nil) rfl ?_
                   have hd9 : decide (0 ≤ nN (jc t.tr)) = false := hb8
                   have hn9 := xv hd9
                   have ha9 := hIt.as hb11
                   have hw9 := xu hith (by have h9 := hb24'; omega)
                   have ewGe : zj xs ≠ wGe := fun h9 => of_decide_eq_false hb34 ((ze hith).symm.trans h9)
                   have ewLe : zj xs ≠ wLe := fun h9 => of_decide_eq_false hb44 ((ze hith).symm.trans h9)
                   have ewNot : zj xs ≠ kg := fun h9 => of_decide_eq_false hb55 ((ze hith).symm.trans h9)
                   have ewAnd : zj xs = vu := (ze hith).trans (of_decide_eq_true hb69)
                   have e9 : (zy (n + 1) t.tr).isSome = true := by
                     rw [xe hn9 ha9 hw9 ewGe ewLe, ewAnd, qeh, xt]; exact dall hin9 (by omega)
                   exact ⟨by rw [e9], hM.bel⟩
               · have hb69' := of_decide_eq_false hb69
                 refine qa (v := .bool false) hA rfl rfl rfl (qg rfl rfl (fun w => (zq Tryz.underlying9 w).trans (by rw [hb69] <;> rfl))) ?_
                 intro a hA
                 refine qa hA rfl rfl rfl (qb rfl) ?_
                 intro a hA
                 refine qf ?_
                 refine hK68 _ _ ?_
                 refine wp_cond_false (hA.ev rfl) ?_
                 refine wp_region_lit ?_
                 rcases Bool.eq_false_or_eq_true (decide (th.d.s = ⟨#[111, 114]⟩)) with hb91 | hb91
                 · have hb91' := of_decide_eq_true hb91
                   refine qa (v := .bool true) hA rfl rfl rfl (qg rfl rfl (fun w => (zq Tryz.underlying9 w).trans (by rw [hb91] <;> rfl))) ?_
                   intro a hA
                   refine qa hA rfl rfl rfl (qb rfl) ?_
                   intro a hA
                   refine qf ?_
                   refine hK67 _ _ ?_
                   refine wp_cond_true (hA.ev rfl) ?_
                   refine wp_seq_k (fun K92 hK92 => ?_)
                   refine wp_seq_k (fun K93 hK93 => ?_)
                   refine wp_region_lit ?_
                   refine qa hA rfl rfl rfl (qb rfl) ?_
                   intro a hA
                   refine qf ?_
                   refine hK93 _ _ ?_
                   refine wp_block ?_
                   refine jd (fun m_ a w1 => ∃ (i : Nat), m_ = 1 + (xs.length - i) ∧ (1 ≤ i ∧ ∀ (j : Nat) u, 1 ≤ j → j < i → xs[j]? = some u → (zy n u.tr).isSome = true) ∧ Sl a 71 [(0, .agg (t.d.cells t.ts.length).toArray), (1, .pointer (some ⟨g2, 0, none⟩)), (3, .slice so12 xs.length ca13), (4, .bool true), (5, .int .i64 (((i : Nat) : Int))), (6, .agg (t.d.cells t.ts.length).toArray), (7, .int .i64 ((nN (jc t.tr)))), (8, .bool false), (9, .tuple #[.slice so12 xs.length ca13, .bool true]), (10, .agg (t.d.cells t.ts.length).toArray), (11, .tuple #[.slice so12 xs.length ca13, .bool true]), (12, .slice so12 xs.length ca13), (13, .bool true), (14, .bool true), (15, .bool false), (16, .bool false), (17, .slice so12 xs.length ca13), (18, .int .i64 (((xs.length : Nat) : Int))), (19, .bool false), (20, .bool false), (21, .bool false), (22, .slice so12 xs.length ca13), (23, .pointer (some ⟨bk20, ok21 + 0 * 11, none⟩)), (24, .pointer (some ⟨bk20, ok21 + 0 * 11, none⟩)), (25, .int .i64 th.d.k), (26, .bool false), (27, .bool false), (28, .slice so12 xs.length ca13), (29, .pointer (some ⟨bk28, ok29 + 0 * 11, none⟩)), (30, .pointer (some ⟨bk28, ok29 + 0 * 11 + 8, none⟩)), (31, .string th.d.s), (32, .bool false), (33, .bool false), (34, .bool false), (45, .bool false), (46, .bool false), (56, .bool true), (57, .bool false), (58, .bool true)] ∧ Mg w w1 (.row 30 11 (.slice so12 xs.length ca13) xs.length (cellsOf xs) :: .obj g2 (.cells (t.d.cells t.ts.length).toArray 30) :: [])) _ ⟨1, rfl, ⟨Nat.le_refl _, fun j u h1 h2 => absurd h1 (by omega)⟩, hA.keep _ (by repeat' constructor), hM⟩ ?_
                   clear hM hA
                   rintro m_ a w94 ⟨i, rfl, hinv96, hA, hM⟩ K95 hK95
                   obtain ⟨hi0, hin9⟩ := hinv96
                   refine wp_seq_k (fun K97 hK97 => ?_)
                   refine wp_seq_k (fun K98 hK98 => ?_)
                   refine wp_region_lit ?_
                   refine qa hA rfl rfl rfl (qe rfl) ?_
                   intro a hA
                   refine qa hA rfl rfl rfl (qe rfl) ?_
                   intro a hA
                   refine qa (v := .int .i64 (((xs.length : Nat) : Int))) hA rfl rfl rfl (zb Tryz.underlying28 rfl) ?_
                   intro a hA
                   rcases Bool.eq_false_or_eq_true (decide (((i : Nat) : Int) < ((xs.length : Nat) : Int))) with hb99 | hb99
                   · have hb99' := of_decide_eq_true hb99
                     refine qa (v := .bool true) hA rfl rfl rfl (qg rfl rfl (fun w => (zk w).trans (by rw [hb99]))) ?_
                     intro a hA
                     refine qf ?_
                     refine hK98 _ _ ?_
                     refine wp_cond_true (hA.ev rfl) ?_
                     refine wp_skip ?_
                     refine hK97 _ _ ?_
                     refine wp_seq_k (fun K100 hK100 => ?_)
                     refine wp_block ?_
                     refine wp_seq_k (fun K101 hK101 => ?_)
                     refine wp_region_lit ?_
                     refine qa hA rfl rfl rfl (qe rfl) ?_
                     intro a hA
                     refine qa hA rfl rfl rfl (qe rfl) ?_
                     intro a hA
                     obtain ⟨ti, hiti⟩ : ∃ t, xs[i]? = some t := ⟨_, List.getElem?_eq_getElem (by omega)⟩
                     have hlti := (List.getElem?_eq_some_iff.1 hiti).1
                     have mti := List.mem_of_getElem? hiti
                     obtain ⟨bk102, ok103, lk104, Hk105⟩ := vg (jq (hM.has 0 rfl)).1 (fun x hx => Dt.keep (h0.trans (hM.bel.mono h0.size)) _ (hIt.rd x hx)) hiti
                     refine qa (v := .pointer (some ⟨bk102, ok103 + i * 11, none⟩)) hA rfl rfl rfl (zh (k := i) Tryz.underlying28 (by kernel_rfl) rfl rfl (by first | rfl | omega) lk104 hlti) ?_
                     intro a hA
                     refine qa hA rfl rfl rfl (jg (Mg.start _) Hk105 JcN_isS_30 rfl rfl) ?_
                     intro a hA
                     rcases Bool.eq_false_or_eq_true ((zy n ti.tr).isSome) with hb106 | hb106
                     · refine qm hA rfl rfl rfl (qh rfl rfl (fun w => by kernel_rfl)) (ih (h0.trans (hM.bel.mono h0.size)) (hIt.rd _ mti) (hIt.sh _ mti) (by have := hIt.lt _ mti; omega) hb106) ?_
                       rintro _ w108 ⟨rfl, hb107⟩
                       replace hM := hM.call hb107
                       refine ⟨_, rfl, ?_⟩
                       intro a hA
                       refine qa (v := .bool false) hA rfl rfl rfl (qp rfl qt) ?_
                       intro a hA
                       refine qf ?_
                       refine hK101 _ _ ?_
                       refine wp_cond_false (hA.ev rfl) ?_
                       refine wp_skip ?_
                       refine hK100 _ _ ?_
                       refine wp_region_lit ?_
                       refine qa hA rfl rfl rfl (qe rfl) ?_
                       intro a hA
                       refine qa (v := .int .i64 (((i + 1 : Nat) : Int))) hA rfl rfl rfl (qg rfl rfl (ar_add ((in_i64 (by omega) (by omega)).trans (by omega)))) ?_
                       intro a hA
                       refine qa hA rfl rfl rfl (qb rfl) ?_
                       intro a hA
                       refine qf ?_
                       refine hK95 _ _ _ (by omega) ⟨i + 1, rfl, ⟨by omega, din (p := fun u : Dt => (zy n u.tr).isSome) hin9 hiti hb106⟩, hA.keep _ (by repeat' constructor), hM⟩
                     · refine qm hA rfl rfl rfl (qh rfl rfl (fun w => by kernel_rfl)) (ih (h0.trans (hM.bel.mono h0.size)) (hIt.rd _ mti) (hIt.sh _ mti) (by have := hIt.lt _ mti; omega) hb106) ?_
                       rintro _ w110 ⟨rfl, hb109⟩
                       replace hM := hM.call hb109
                       refine ⟨_, rfl, ?_⟩
                       intro a hA
                       refine qa (v := .bool true) hA rfl rfl rfl (qp rfl qt) ?_
                       intro a hA
                       refine qf ?_
                       refine hK101 _ _ ?_
                       refine wp_cond_true (hA.ev rfl) ?_
                       refine wp_seq_k (fun K111 hK111 => ?_)
                       refine wp_region_lit ?_
                       refine qa hA rfl rfl rfl (qb rfl) ?_
                       intro a hA
                       refine qf ?_
                       refine hK111 _ _ ?_
                       refine wp_ret ?_
                       refine hret _ _ ?_
                       refine za (v := .bool false) hA rfl (.cons (qk rfl) .nil) rfl ?_
                       have hd9 : decide (0 ≤ nN (jc t.tr)) = false := hb8
                       have hn9 := xv hd9
                       have ha9 := hIt.as hb11
                       have hw9 := xu hith (by have h9 := hb24'; omega)
                       have ewGe : zj xs ≠ wGe := fun h9 => of_decide_eq_false hb34 ((ze hith).symm.trans h9)
                       have ewLe : zj xs ≠ wLe := fun h9 => of_decide_eq_false hb44 ((ze hith).symm.trans h9)
                       have ewNot : zj xs ≠ kg := fun h9 => of_decide_eq_false hb55 ((ze hith).symm.trans h9)
                       have ewAnd : zj xs ≠ vu := fun h9 => of_decide_eq_false hb69 ((ze hith).symm.trans h9)
                       have ewOr : zj xs = wOr := (ze hith).trans (of_decide_eq_true hb91)
                       have e9 : (zy (n + 1) t.tr).isSome = false := by
                         rw [xe hn9 ha9 hw9 ewGe ewLe, ewOr, qhh, xt]; exact dnot hi0 hiti hb106
                       exact ⟨by rw [e9], hM.bel⟩
                   · have hb99' := of_decide_eq_false hb99
                     refine qa (v := .bool false) hA rfl rfl rfl (qg rfl rfl (fun w => (zk w).trans (by rw [hb99]))) ?_
                     intro a hA
                     refine qf ?_
                     refine hK98 _ _ ?_
                     refine wp_cond_false (hA.ev rfl) ?_
                     refine wp_exit ?_
                     refine hK92 _ _ ?_
                     refine wp_seq_k (fun K112 hK112 => ?_)
                     refine wp_region_lit ?_
                     refine qa hA rfl rfl rfl (qb rfl) ?_
                     intro a hA
                     refine qf ?_
                     refine hK112 _ _ ?_
                     refine wp_ret ?_
                     refine hret _ _ ?_
                     refine za (v := .bool true) hA rfl (.cons (qk rfl) .nil) rfl ?_
                     have hd9 : decide (0 ≤ nN (jc t.tr)) = false := hb8
                     have hn9 := xv hd9
                     have ha9 := hIt.as hb11
                     have hw9 := xu hith (by have h9 := hb24'; omega)
                     have ewGe : zj xs ≠ wGe := fun h9 => of_decide_eq_false hb34 ((ze hith).symm.trans h9)
                     have ewLe : zj xs ≠ wLe := fun h9 => of_decide_eq_false hb44 ((ze hith).symm.trans h9)
                     have ewNot : zj xs ≠ kg := fun h9 => of_decide_eq_false hb55 ((ze hith).symm.trans h9)
                     have ewAnd : zj xs ≠ vu := fun h9 => of_decide_eq_false hb69 ((ze hith).symm.trans h9)
                     have ewOr : zj xs = wOr := (ze hith).trans (of_decide_eq_true hb91)
                     have e9 : (zy (n + 1) t.tr).isSome = true := by
                       rw [xe hn9 ha9 hw9 ewGe ewLe, ewOr, qhh, xt]; exact dall hin9 (by omega)
                     exact ⟨by rw [e9], hM.bel⟩
                 · have hb91' := of_decide_eq_false hb91
                   refine qa (v := .bool false) hA rfl rfl rfl (qg rfl rfl (fun w => (zq Tryz.underlying9 w).trans (by rw [hb91] <;> rfl))) ?_
                   intro a hA
                   refine qa hA rfl rfl rfl (qb rfl) ?_
                   intro a hA
                   refine qf ?_
                   refine hK67 _ _ ?_
                   refine wp_cond_false (hA.ev rfl) ?_
                   refine wp_skip ?_
                   refine hK26 _ _ ?_
                   refine wp_seq_k (fun K113 hK113 => ?_)
                   refine wp_region_lit ?_
                   refine qa hA rfl rfl rfl (qb rfl) ?_
                   intro a hA
                   refine qf ?_
                   refine hK113 _ _ ?_
                   refine wp_ret ?_
                   refine hret _ _ ?_
                   refine za (v := .bool false) hA rfl (.cons (qk rfl) .nil) rfl ?_
                   have hd9 : decide (0 ≤ nN (jc t.tr)) = false := hb8
                   have hn9 := xv hd9
                   have ha9 := hIt.as hb11
                   have hw9 := xu hith (by have h9 := hb24'; omega)
                   have ewGe : zj xs ≠ wGe := fun h9 => of_decide_eq_false hb34 ((ze hith).symm.trans h9)
                   have ewLe : zj xs ≠ wLe := fun h9 => of_decide_eq_false hb44 ((ze hith).symm.trans h9)
                   have ewNot : zj xs ≠ kg := fun h9 => of_decide_eq_false hb55 ((ze hith).symm.trans h9)
                   have ewAnd : zj xs ≠ vu := fun h9 => of_decide_eq_false hb69 ((ze hith).symm.trans h9)
                   have ewOr : zj xs ≠ wOr := fun h9 => of_decide_eq_false hb91 ((ze hith).symm.trans h9)
                   have e9 : (zy (n + 1) t.tr).isSome = false := by
                     rw [xe hn9 ha9 hw9 ewGe ewLe, uj ewAnd ewOr ewNot]; rfl
                   exact ⟨by rw [e9], hM.bel⟩
   · refine qm hA rfl rfl rfl (qh rfl rfl (fun w => by kernel_rfl)) ((hb11 ▸ ka (h0.trans (hM.bel.mono h0.size)) ht hs (by omega))) ?_
     rintro _ w117 ⟨so114, ca115, xs, rfl, hIt, hM116⟩
     have hle9 := hIt.le
     replace hM : Mg w w117 (.row 30 11 (.slice so114 xs.length ca115) xs.length (cellsOf xs) :: .obj g2 (.cells (t.d.cells t.ts.length).toArray 30) :: []) := (hM.both hM116 (qw (by simp) (qy zd)) (qw (by simp) (qy zd)))
     refine ⟨_, rfl, ?_⟩
     intro a hA
     refine qa hA rfl rfl rfl (qe rfl) ?_
     intro a hA
     refine qa (v := .slice so114 xs.length ca115) hA rfl rfl rfl (qn (vs := [.slice so114 xs.length ca115, .bool false]) rfl rfl) ?_
     intro a hA
     refine qa (v := .bool false) hA rfl rfl rfl (qn (vs := [.slice so114 xs.length ca115, .bool false]) rfl rfl) ?_
     intro a hA
     refine qa hA rfl rfl rfl (qb rfl) ?_
     intro a hA
     refine qa hA rfl rfl rfl (qb rfl) ?_
     intro a hA
     refine qf ?_
     refine hK10 _ _ ?_
     refine wp_seq_k (fun K118 hK118 => ?_)
     refine wp_seq_k (fun K119 hK119 => ?_)
     refine wp_region_lit ?_
     refine qa hA rfl rfl rfl (qe rfl) ?_
     intro a hA
     refine qa (v := .bool true) hA rfl rfl rfl (qp rfl qt) ?_
     intro a hA
     refine qa hA rfl rfl rfl (qe rfl) ?_
     intro a hA
     refine qj hA rfl rfl rfl ?_
     intro a hA
     refine qj hA rfl rfl rfl ?_
     intro a hA
     refine qj hA rfl rfl rfl ?_
     intro a hA
     refine qa (v := .bool true) hA rfl rfl rfl (ql rfl rfl rfl rfl) ?_
     intro a hA
     refine qa hA rfl rfl rfl (qe rfl) ?_
     intro a hA
     refine qj hA rfl rfl rfl ?_
     intro a hA
     refine qj hA rfl rfl rfl ?_
     intro a hA
     refine qj hA rfl rfl rfl ?_
     intro a hA
     refine qj hA rfl rfl rfl ?_
     intro a hA
     refine qj hA rfl rfl rfl ?_
     intro a hA
     refine qa (v := .bool true) hA rfl rfl rfl (ql rfl rfl rfl rfl) ?_
     intro a hA
     refine qf ?_
     refine hK119 _ _ ?_
     refine wp_cond_true (hA.ev rfl) ?_
     refine wp_seq_k (fun K120 hK120 => ?_)
     refine wp_region_lit ?_
     refine qa hA rfl rfl rfl (qb rfl) ?_
     intro a hA
     refine qf ?_
     refine hK120 _ _ ?_
     refine wp_ret ?_
     refine hret _ _ ?_
     refine za (v := .bool false) hA rfl (.cons (qk rfl) .nil) rfl ?_
     have hd9 : decide (0 ≤ nN (jc t.tr)) = false := hb8
     have hn9 := xv hd9
     have e9 : (zy (n + 1) t.tr).isSome = false := by
       rw [qef hn9 (vm hb11)]; rfl
     exact ⟨by rw [e9], hM.bel⟩
theorem rref_any {w0 w : World} {n : Nat} {t : Dt} (h0 : Below w0.heap.size w0 w) (ht : t.rd w0) (hs : xl zp t.tr = true) (hb : t.tr.bulk ≤ n + 1) (hn : n + 1 ≤ 4000000) (ih : RRef n) (ihs : RSub n) : Calls Tryz.prog 39 #[.agg (t.d.cells t.ts.length).toArray] w fun e w' => e = .returned (.bool (jj (n + 1) t.tr).isSome) ∧ Below w.heap.size w w' := by
 have hM : Mg w w ([]) := Mg.start w
 refine qz (l := [(0, .agg (t.d.cells t.ts.length).toArray)]) Tryz.func39 rfl Tryz.ntmps39 rfl rfl ?_
 intro Q hret hnorm hP a hA
 refine wp_seq_k (fun K1 hK1 => ?_)
 refine wp_region_lit ?_
 refine jk (vs := (t.d.cells t.ts.length)) (t := 30) hA hM rfl rfl rfl (fun g => .pointer (some ⟨g, 0, none⟩)) (zg rfl rfl) (by decide) ?_
 intro g2 w3 hM a hA
 refine qa hA rfl rfl rfl (qb rfl) ?_
 intro a hA
 refine qf ?_
 refine hK1 _ _ ?_
 refine wp_seq_k (fun K4 hK4 => ?_)
 refine wp_region_lit ?_
 refine qa hA rfl rfl rfl (ja hM JcN_isS_30 rfl 0 rfl (cs := (t.d.cells t.ts.length)) rfl rfl) ?_
 intro a hA
 rcases Bool.eq_false_or_eq_true ((zw t.tr).isSome) with hb5 | hb5
 · refine qm hA rfl rfl rfl (qh rfl rfl (fun w => by kernel_rfl)) ((hb5 ▸ ka (h0.trans (hM.bel.mono h0.size)) ht hs (by omega))) ?_
   rintro _ w9 ⟨so6, ca7, xs, rfl, hIt, hM8⟩
   have hle9 := hIt.le
   replace hM : Mg w w9 (.row 30 11 (.slice so6 xs.length ca7) xs.length (cellsOf xs) :: .obj g2 (.cells (t.d.cells t.ts.length).toArray 30) :: []) := (hM.both hM8 (qw (by simp) (qy zd)) (qw (by simp) (qy zd)))
   refine ⟨_, rfl, ?_⟩
   intro a hA
   refine qa hA rfl rfl rfl (qe rfl) ?_
   intro a hA
   refine qa (v := .slice so6 xs.length ca7) hA rfl rfl rfl (qn (vs := [.slice so6 xs.length ca7, .bool true]) rfl rfl) ?_
   intro a hA
   refine qa (v := .bool true) hA rfl rfl rfl (qn (vs := [.slice so6 xs.length ca7, .bool true]) rfl rfl) ?_
   intro a hA
   refine qa hA rfl rfl rfl (qb rfl) ?_
   intro a hA
   refine qa hA rfl rfl rfl (qb rfl) ?_
   intro a hA
   refine qf ?_
   refine hK4 _ _ ?_
   refine wp_seq_k (fun K10 hK10 => ?_)
   refine wp_seq_k (fun K11 hK11 => ?_)
   refine wp_region_lit ?_
   refine qa hA rfl rfl rfl (qe rfl) ?_
   intro a hA
   refine qa (v := .bool false) hA rfl rfl rfl (qp rfl qt) ?_
   intro a hA
   refine qf ?_
   refine hK11 _ _ ?_
   refine wp_cond_false (hA.ev rfl) ?_
   refine wp_skip ?_
   refine hK10 _ _ ?_
   refine wp_seq_k (fun K12 hK12 => ?_)
   refine wp_seq_k (fun K13 hK13 => ?_)
   refine wp_region_lit ?_
   refine qa hA rfl rfl rfl (qe rfl) ?_
   intro a hA
   refine qa (v := .int .i64 (((xs.length : Nat) : Int))) hA rfl rfl rfl (zb Tryz.underlying28 rfl) ?_
   intro a hA
   rcases Bool.eq_false_or_eq_true ((((xs.length : Nat) : Int) == 0)) with hb14 | hb14
   · have hb14' := eq_of_beq hb14
     refine qa (v := .bool true) hA rfl rfl rfl (qg rfl rfl (fun w => (qx w).trans (by rw [hb14]))) ?_
     intro a hA
     refine qa hA rfl rfl rfl (qe rfl) ?_
     intro a hA
     refine qj hA rfl rfl rfl ?_
     intro a hA
     refine qj hA rfl rfl rfl ?_
     intro a hA
     refine qj hA rfl rfl rfl ?_
     intro a hA
     refine qj hA rfl rfl rfl ?_
     intro a hA
     refine qj hA rfl rfl rfl ?_
     intro a hA
     refine qa (v := .bool true) hA rfl rfl rfl (ql rfl rfl rfl rfl) ?_
     intro a hA
     refine qf ?_
     refine hK13 _ _ ?_
     refine wp_cond_true (hA.ev rfl) ?_
     refine wp_seq_k (fun K15 hK15 => ?_)
     refine wp_seq_k (fun K16 hK16 => ?_)
     refine wp_region_lit ?_
     refine qa hA rfl rfl rfl (qb rfl) ?_
     intro a hA
     refine qf ?_
     refine hK16 _ _ ?_
     refine wp_block ?_
     refine jd (fun m_ a w1 => ∃ (i : Nat), m_ = 1 + (xs.length - i) ∧ (0 ≤ i ∧ ∀ (j : Nat) u, 0 ≤ j → j < i → xs[j]? = some u → (zy n u.tr).isSome = true) ∧ Sl a 69 [(0, .agg (t.d.cells t.ts.length).toArray), (1, .pointer (some ⟨g2, 0, none⟩)), (3, .slice so6 xs.length ca7), (4, .bool true), (5, .int .i64 (((i : Nat) : Int))), (8, .tuple #[.slice so6 xs.length ca7, .bool true]), (9, .agg (t.d.cells t.ts.length).toArray), (10, .tuple #[.slice so6 xs.length ca7, .bool true]), (11, .slice so6 xs.length ca7), (12, .bool true), (13, .bool true), (14, .bool false), (15, .slice so6 xs.length ca7), (16, .int .i64 (((xs.length : Nat) : Int))), (17, .bool true), (18, .bool true), (24, .bool true)] ∧ Mg w w1 (.row 30 11 (.slice so6 xs.length ca7) xs.length (cellsOf xs) :: .obj g2 (.cells (t.d.cells t.ts.length).toArray 30) :: [])) _ ⟨0, rfl, ⟨Nat.le_refl _, fun j u h1 h2 => absurd h1 (by omega)⟩, hA.keep _ (by repeat' constructor), hM⟩ ?_
     clear hM hA
     rintro m_ a w17 ⟨i, rfl, hinv19, hA, hM⟩ K18 hK18
     obtain ⟨hi0, hin9⟩ := hinv19
     refine wp_seq_k (fun K20 hK20 => ?_)
     refine wp_seq_k (fun K21 hK21 => ?_)
     refine wp_region_lit ?_
     refine qa hA rfl rfl rfl (qe rfl) ?_
     intro a hA
     refine qa hA rfl rfl rfl (qe rfl) ?_
     intro a hA
     refine qa (v := .int .i64 (((xs.length : Nat) : Int))) hA rfl rfl rfl (zb Tryz.underlying28 rfl) ?_
     intro a hA
     rcases Bool.eq_false_or_eq_true (decide (((i : Nat) : Int) < ((xs.length : Nat) : Int))) with hb22 | hb22
     · have hb22' := of_decide_eq_true hb22
       refine qa (v := .bool true) hA rfl rfl rfl (qg rfl rfl (fun w => (zk w).trans (by rw [hb22]))) ?_
       intro a hA
       refine qf ?_
       refine hK21 _ _ ?_
       refine wp_cond_true (hA.ev rfl) ?_
       refine wp_skip ?_
       refine hK20 _ _ ?_
       refine wp_seq_k (fun K23 hK23 => ?_)
       refine wp_block ?_
       refine wp_seq_k (fun K24 hK24 => ?_)
       refine wp_region_lit ?_
       refine qa hA rfl rfl rfl (qe rfl) ?_
       intro a hA
       refine qa hA rfl rfl rfl (qe rfl) ?_
       intro a hA
       obtain ⟨ti, hiti⟩ : ∃ t, xs[i]? = some t := ⟨_, List.getElem?_eq_getElem (by omega)⟩
       have hlti := (List.getElem?_eq_some_iff.1 hiti).1
       have mti := List.mem_of_getElem? hiti
       obtain ⟨bk25, ok26, lk27, Hk28⟩ := vg (jq (hM.has 0 rfl)).1 (fun x hx => Dt.keep (h0.trans (hM.bel.mono h0.size)) _ (hIt.rd x hx)) hiti
       refine qa (v := .pointer (some ⟨bk25, ok26 + i * 11, none⟩)) hA rfl rfl rfl (zh (k := i) Tryz.underlying28 (by kernel_rfl) rfl rfl (by first | rfl | omega) lk27 hlti) ?_
       intro a hA
       refine qa hA rfl rfl rfl (jg (Mg.start _) Hk28 JcN_isS_30 rfl rfl) ?_
       intro a hA
       rcases Bool.eq_false_or_eq_true ((zy n ti.tr).isSome) with hb29 | hb29
       · refine qm hA rfl rfl rfl (qh rfl rfl (fun w => by kernel_rfl)) (ihs (h0.trans (hM.bel.mono h0.size)) (hIt.rd _ mti) (hIt.sh _ mti) (by have := hIt.lt _ mti; omega) hb29) ?_
         rintro _ w31 ⟨rfl, hb30⟩
         replace hM := hM.call hb30
         refine ⟨_, rfl, ?_⟩
         intro a hA
         refine qa (v := .bool false) hA rfl rfl rfl (qp rfl qt) ?_
         intro a hA
         refine qf ?_
         refine hK24 _ _ ?_
         refine wp_cond_false (hA.ev rfl) ?_
         refine wp_skip ?_
         refine hK23 _ _ ?_
         refine wp_region_lit ?_
         refine qa hA rfl rfl rfl (qe rfl) ?_
         intro a hA
         refine qa (v := .int .i64 (((i + 1 : Nat) : Int))) hA rfl rfl rfl (qg rfl rfl (ar_add ((in_i64 (by omega) (by omega)).trans (by omega)))) ?_
         intro a hA
         refine qa hA rfl rfl rfl (qb rfl) ?_
         intro a hA
         refine qf ?_
         refine hK18 _ _ _ (by omega) ⟨i + 1, rfl, ⟨by omega, din (p := fun u : Dt => (zy n u.tr).isSome) hin9 hiti hb29⟩, hA.keep _ (by repeat' constructor), hM⟩
       · refine qm hA rfl rfl rfl (qh rfl rfl (fun w => by kernel_rfl)) (ihs (h0.trans (hM.bel.mono h0.size)) (hIt.rd _ mti) (hIt.sh _ mti) (by have := hIt.lt _ mti; omega) hb29) ?_
         rintro _ w33 ⟨rfl, hb32⟩
         replace hM := hM.call hb32
         refine ⟨_, rfl, ?_⟩
         intro a hA
         refine qa (v := .bool true) hA rfl rfl rfl (qp rfl qt) ?_
         intro a hA
         refine qf ?_
         refine hK24 _ _ ?_
         refine wp_cond_true (hA.ev rfl) ?_
         refine wp_seq_k (fun K34 hK34 => ?_)
         refine wp_region_lit ?_
         refine qa hA rfl rfl rfl (qb rfl) ?_
         intro a hA
         refine qf ?_
         refine hK34 _ _ ?_
         refine wp_ret ?_
         refine hret _ _ ?_
         refine za (v := .bool false) hA rfl (.cons (qk rfl) .nil) rfl ?_
         have ha9 := hIt.as hb5
         have e9 : (jj (n + 1) t.tr).isSome = false := by
           rw [ya ha9 (qia (by omega)), Option.isSome_map, xt]; exact dnot (s := 0) hi0 hiti hb29
         exact ⟨by rw [e9], hM.bel⟩
     · have hb22' := of_decide_eq_false hb22
       refine qa (v := .bool false) hA rfl rfl rfl (qg rfl rfl (fun w => (zk w).trans (by rw [hb22]))) ?_
       intro a hA
       refine qf ?_
       refine hK21 _ _ ?_
       refine wp_cond_false (hA.ev rfl) ?_
       refine wp_exit ?_
       refine hK15 _ _ ?_
       refine wp_seq_k (fun K35 hK35 => ?_)
       refine wp_region_lit ?_
       refine qa hA rfl rfl rfl (qb rfl) ?_
       intro a hA
       refine qf ?_
       refine hK35 _ _ ?_
       refine wp_ret ?_
       refine hret _ _ ?_
       refine za (v := .bool true) hA rfl (.cons (qk rfl) .nil) rfl ?_
       have ha9 := hIt.as hb5
       have e9 : (jj (n + 1) t.tr).isSome = true := by
         rw [ya ha9 (qia (by omega)), Option.isSome_map, xt]; exact dall (s := 0) hin9 (by omega)
       exact ⟨by rw [e9], hM.bel⟩
   · have hb14' := ne_of_beq_false hb14
     refine qa (v := .bool false) hA rfl rfl rfl (qg rfl rfl (fun w => (qx w).trans (by rw [hb14]))) ?_
     intro a hA
     refine qa hA rfl rfl rfl (qe rfl) ?_
     intro a hA
     refine qa hA rfl rfl rfl (qe rfl) ?_
     intro a hA
     obtain ⟨th, hith⟩ : ∃ t, xs[0]? = some t := ⟨_, List.getElem?_eq_getElem (by omega)⟩
     have hlth := (List.getElem?_eq_some_iff.1 hith).1
     have mth := List.mem_of_getElem? hith
     obtain ⟨bk36, ok37, lk38, Hk39⟩ := vg (jq (hM.has 0 rfl)).1 (fun x hx => Dt.keep (h0.trans (hM.bel.mono h0.size)) _ (hIt.rd x hx)) hith
     refine qa (v := .pointer (some ⟨bk36, ok37 + 0 * 11, none⟩)) hA rfl rfl rfl (zh (k := 0) Tryz.underlying28 (by kernel_rfl) rfl rfl (by first | rfl | omega) lk38 hlth) ?_
     intro a hA
     refine qa (v := .pointer (some ⟨bk36, ok37 + 0 * 11, none⟩)) hA rfl rfl rfl (qi JcN_fld_30_0 rfl rfl) ?_
     intro a hA
     refine qa hA rfl rfl rfl (vl (j := 0) (Mg.start _) Hk39 JcN_is1_3 rfl rfl rfl) ?_
     intro a hA
     rcases Bool.eq_false_or_eq_true ((th.d.k != 6)) with hb40 | hb40
     · have hb40' := bne_iff_ne.1 hb40
       refine qa (v := .bool true) hA rfl rfl rfl (qg rfl rfl (fun w => (jl w).trans (by rw [hb40]))) ?_
       intro a hA
       refine qa (v := .bool true) hA rfl rfl rfl (ql rfl rfl rfl rfl) ?_
       intro a hA
       refine qf ?_
       refine hK13 _ _ ?_
       refine wp_cond_true (hA.ev rfl) ?_
       refine wp_seq_k (fun K41 hK41 => ?_)
       refine wp_seq_k (fun K42 hK42 => ?_)
       refine wp_region_lit ?_
       refine qa hA rfl rfl rfl (qb rfl) ?_
       intro a hA
       refine qf ?_
       refine hK42 _ _ ?_
       refine wp_block ?_
       refine jd (fun m_ a w1 => ∃ (i : Nat), m_ = 1 + (xs.length - i) ∧ (0 ≤ i ∧ ∀ (j : Nat) u, 0 ≤ j → j < i → xs[j]? = some u → (zy n u.tr).isSome = true) ∧ Sl a 69 [(0, .agg (t.d.cells t.ts.length).toArray), (1, .pointer (some ⟨g2, 0, none⟩)), (3, .slice so6 xs.length ca7), (4, .bool true), (5, .int .i64 (((i : Nat) : Int))), (8, .tuple #[.slice so6 xs.length ca7, .bool true]), (9, .agg (t.d.cells t.ts.length).toArray), (10, .tuple #[.slice so6 xs.length ca7, .bool true]), (11, .slice so6 xs.length ca7), (12, .bool true), (13, .bool true), (14, .bool false), (15, .slice so6 xs.length ca7), (16, .int .i64 (((xs.length : Nat) : Int))), (17, .bool false), (18, .bool false), (19, .slice so6 xs.length ca7), (20, .pointer (some ⟨bk36, ok37 + 0 * 11, none⟩)), (21, .pointer (some ⟨bk36, ok37 + 0 * 11, none⟩)), (22, .int .i64 th.d.k), (23, .bool true), (24, .bool true)] ∧ Mg w w1 (.row 30 11 (.slice so6 xs.length ca7) xs.length (cellsOf xs) :: .obj g2 (.cells (t.d.cells t.ts.length).toArray 30) :: [])) _ ⟨0, rfl, ⟨Nat.le_refl _, fun j u h1 h2 => absurd h1 (by omega)⟩, hA.keep _ (by repeat' constructor), hM⟩ ?_
       clear hM hA
       rintro m_ a w43 ⟨i, rfl, hinv45, hA, hM⟩ K44 hK44
       obtain ⟨hi0, hin9⟩ := hinv45
       refine wp_seq_k (fun K46 hK46 => ?_)
       refine wp_seq_k (fun K47 hK47 => ?_)
       refine wp_region_lit ?_
       refine qa hA rfl rfl rfl (qe rfl) ?_
       intro a hA
       refine qa hA rfl rfl rfl (qe rfl) ?_
       intro a hA
       refine qa (v := .int .i64 (((xs.length : Nat) : Int))) hA rfl rfl rfl (zb Tryz.underlying28 rfl) ?_
       intro a hA
       rcases Bool.eq_false_or_eq_true (decide (((i : Nat) : Int) < ((xs.length : Nat) : Int))) with hb48 | hb48
       · have hb48' := of_decide_eq_true hb48
         refine qa (v := .bool true) hA rfl rfl rfl (qg rfl rfl (fun w => (zk w).trans (by rw [hb48]))) ?_
         intro a hA
         refine qf ?_
         refine hK47 _ _ ?_
         refine wp_cond_true (hA.ev rfl) ?_
         refine wp_skip ?_
         refine hK46 _ _ ?_
         refine wp_seq_k (fun K49 hK49 => ?_)
         refine wp_block ?_
         refine wp_seq_k (fun K50 hK50 => ?_)
         refine wp_region_lit ?_
         refine qa hA rfl rfl rfl (qe rfl) ?_
         intro a hA
         refine qa hA rfl rfl rfl (qe rfl) ?_
         intro a hA
         obtain ⟨ti, hiti⟩ : ∃ t, xs[i]? = some t := ⟨_, List.getElem?_eq_getElem (by omega)⟩
         have hlti := (List.getElem?_eq_some_iff.1 hiti).1
         have mti := List.mem_of_getElem? hiti
         obtain ⟨bk51, ok52, lk53, Hk54⟩ := vg (jq (hM.has 0 rfl)).1 (fun x hx => Dt.keep (h0.trans (hM.bel.mono h0.size)) _ (hIt.rd x hx)) hiti
         refine qa (v := .pointer (some ⟨bk51, ok52 + i * 11, none⟩)) hA rfl rfl rfl (zh (k := i) Tryz.underlying28 (by kernel_rfl) rfl rfl (by first | rfl | omega) lk53 hlti) ?_
         intro a hA
         refine qa hA rfl rfl rfl (jg (Mg.start _) Hk54 JcN_isS_30 rfl rfl) ?_
         intro a hA
         rcases Bool.eq_false_or_eq_true ((zy n ti.tr).isSome) with hb55 | hb55
         · refine qm hA rfl rfl rfl (qh rfl rfl (fun w => by kernel_rfl)) (ihs (h0.trans (hM.bel.mono h0.size)) (hIt.rd _ mti) (hIt.sh _ mti) (by have := hIt.lt _ mti; omega) hb55) ?_
           rintro _ w57 ⟨rfl, hb56⟩
           replace hM := hM.call hb56
           refine ⟨_, rfl, ?_⟩
           intro a hA
           refine qa (v := .bool false) hA rfl rfl rfl (qp rfl qt) ?_
           intro a hA
           refine qf ?_
           refine hK50 _ _ ?_
           refine wp_cond_false (hA.ev rfl) ?_
           refine wp_skip ?_
           refine hK49 _ _ ?_
           refine wp_region_lit ?_
           refine qa hA rfl rfl rfl (qe rfl) ?_
           intro a hA
           refine qa (v := .int .i64 (((i + 1 : Nat) : Int))) hA rfl rfl rfl (qg rfl rfl (ar_add ((in_i64 (by omega) (by omega)).trans (by omega)))) ?_
           intro a hA
           refine qa hA rfl rfl rfl (qb rfl) ?_
           intro a hA
           refine qf ?_
           refine hK44 _ _ _ (by omega) ⟨i + 1, rfl, ⟨by omega, din (p := fun u : Dt => (zy n u.tr).isSome) hin9 hiti hb55⟩, hA.keep _ (by repeat' constructor), hM⟩
         · refine qm hA rfl rfl rfl (qh rfl rfl (fun w => by kernel_rfl)) (ihs (h0.trans (hM.bel.mono h0.size)) (hIt.rd _ mti) (hIt.sh _ mti) (by have := hIt.lt _ mti; omega) hb55) ?_
           rintro _ w59 ⟨rfl, hb58⟩
           replace hM := hM.call hb58
           refine ⟨_, rfl, ?_⟩
           intro a hA
           refine qa (v := .bool true) hA rfl rfl rfl (qp rfl qt) ?_
           intro a hA
           refine qf ?_
           refine hK50 _ _ ?_
           refine wp_cond_true (hA.ev rfl) ?_
           refine wp_seq_k (fun K60 hK60 => ?_)
           refine wp_region_lit ?_
           refine qa hA rfl rfl rfl (qb rfl) ?_
           intro a hA
           refine qf ?_
           refine hK60 _ _ ?_
           refine wp_ret ?_
           refine hret _ _ ?_
           refine za (v := .bool false) hA rfl (.cons (qk rfl) .nil) rfl ?_
           have ha9 := hIt.as hb5
           have e9 : (jj (n + 1) t.tr).isSome = false := by
             rw [ya ha9 (qhj hith (by have h9 := hb40'; omega)), Option.isSome_map, xt]; exact dnot (s := 0) hi0 hiti hb55
           exact ⟨by rw [e9], hM.bel⟩
       · have hb48' := of_decide_eq_false hb48
         refine qa (v := .bool false) hA rfl rfl rfl (qg rfl rfl (fun w => (zk w).trans (by rw [hb48]))) ?_
         intro a hA
         refine qf ?_
         refine hK47 _ _ ?_
         refine wp_cond_false (hA.ev rfl) ?_
         refine wp_exit ?_
         refine hK41 _ _ ?_
         refine wp_seq_k (fun K61 hK61 => ?_)
         refine wp_region_lit ?_
         refine qa hA rfl rfl rfl (qb rfl) ?_
         intro a hA
         refine qf ?_
         refine hK61 _ _ ?_
         refine wp_ret ?_
         refine hret _ _ ?_
         refine za (v := .bool true) hA rfl (.cons (qk rfl) .nil) rfl ?_
         have ha9 := hIt.as hb5
         have e9 : (jj (n + 1) t.tr).isSome = true := by
           rw [ya ha9 (qhj hith (by have h9 := hb40'; omega)), Option.isSome_map, xt]; exact dall (s := 0) hin9 (by omega)
         exact ⟨by rw [e9], hM.bel⟩
     · have hb40' := bne_eq_false_iff_eq.1 hb40
       refine qa (v := .bool false) hA rfl rfl rfl (qg rfl rfl (fun w => (jl w).trans (by rw [hb40]))) ?_
       intro a hA
       refine qa (v := .bool false) hA rfl rfl rfl (ql rfl rfl rfl rfl) ?_
       intro a hA
       refine qf ?_
       refine hK13 _ _ ?_
       refine wp_cond_false (hA.ev rfl) ?_
       refine wp_skip ?_
       refine hK12 _ _ ?_
       refine wp_seq_k (fun K62 hK62 => ?_)
       refine wp_region_lit ?_
       refine qa hA rfl rfl rfl (qe rfl) ?_
       intro a hA
       obtain ⟨bk63, ok64, lk65, Hk66⟩ := vg (jq (hM.has 0 rfl)).1 (fun x hx => Dt.keep (h0.trans (hM.bel.mono h0.size)) _ (hIt.rd x hx)) hith
       refine qa (v := .pointer (some ⟨bk63, ok64 + 0 * 11, none⟩)) hA rfl rfl rfl (zh (k := 0) Tryz.underlying28 (by kernel_rfl) rfl rfl (by first | rfl | omega) lk65 hlth) ?_
       intro a hA
       refine qa (v := .pointer (some ⟨bk63, ok64 + 0 * 11 + 8, none⟩)) hA rfl rfl rfl (qi JcN_fld_30_3 rfl rfl) ?_
       intro a hA
       refine qa hA rfl rfl rfl (vl (j := 8) (Mg.start _) Hk66 JcN_is1_9 rfl rfl rfl) ?_
       intro a hA
       refine qa hA rfl rfl rfl (qb rfl) ?_
       intro a hA
       refine qf ?_
       refine hK62 _ _ ?_
       refine wp_seq_k (fun K67 hK67 => ?_)
       refine wp_seq_k (fun K68 hK68 => ?_)
       refine wp_region_lit ?_
       refine qa hA rfl rfl rfl (qe rfl) ?_
       intro a hA
       rcases Bool.eq_false_or_eq_true (decide (th.d.s = ⟨#[97, 110, 100]⟩)) with hb69 | hb69
       · have hb69' := of_decide_eq_true hb69
         refine qa (v := .bool false) hA rfl rfl rfl (qg rfl rfl (fun w => (ue Tryz.underlying9 w).trans (by rw [hb69] <;> rfl))) ?_
         intro a hA
         refine qa hA rfl rfl rfl (qe rfl) ?_
         intro a hA
         refine qj hA rfl rfl rfl ?_
         intro a hA
         refine qj hA rfl rfl rfl ?_
         intro a hA
         refine qa (v := .bool false) hA rfl rfl rfl (ql rfl rfl rfl rfl) ?_
         intro a hA
         refine qa hA rfl rfl rfl (qe rfl) ?_
         intro a hA
         refine qj hA rfl rfl rfl ?_
         intro a hA
         refine qj hA rfl rfl rfl ?_
         intro a hA
         refine qj hA rfl rfl rfl ?_
         intro a hA
         refine xi hA rfl rfl rfl ?_
         intro a hA
         refine xi hA rfl rfl rfl ?_
         intro a hA
         refine xi hA rfl rfl rfl ?_
         intro a hA
         refine qj hA rfl rfl rfl ?_
         intro a hA
         refine qj hA rfl rfl rfl ?_
         intro a hA
         refine qa (v := .bool false) hA rfl rfl rfl (ql rfl rfl rfl rfl) ?_
         intro a hA
         refine qf ?_
         refine hK68 _ _ ?_
         refine wp_cond_false (hA.ev rfl) ?_
         refine wp_skip ?_
         refine hK67 _ _ ?_
         refine wp_seq_k (fun K70 hK70 => ?_)
         refine wp_seq_k (fun K71 hK71 => ?_)
         refine wp_region_lit ?_
         refine qa hA rfl rfl rfl (qb rfl) ?_
         intro a hA
         refine qf ?_
         refine hK71 _ _ ?_
         refine wp_block ?_
         refine jd (fun m_ a w1 => ∃ (i : Nat), m_ = 1 + (xs.length - i) ∧ (1 ≤ i ∧ ∀ (j : Nat) u, 1 ≤ j → j < i → xs[j]? = some u → (jj n u.tr).isSome = true) ∧ Sl a 69 [(0, .agg (t.d.cells t.ts.length).toArray), (1, .pointer (some ⟨g2, 0, none⟩)), (3, .slice so6 xs.length ca7), (4, .bool true), (6, .string th.d.s), (7, .int .i64 (((i : Nat) : Int))), (8, .tuple #[.slice so6 xs.length ca7, .bool true]), (9, .agg (t.d.cells t.ts.length).toArray), (10, .tuple #[.slice so6 xs.length ca7, .bool true]), (11, .slice so6 xs.length ca7), (12, .bool true), (13, .bool true), (14, .bool false), (15, .slice so6 xs.length ca7), (16, .int .i64 (((xs.length : Nat) : Int))), (17, .bool false), (18, .bool false), (19, .slice so6 xs.length ca7), (20, .pointer (some ⟨bk36, ok37 + 0 * 11, none⟩)), (21, .pointer (some ⟨bk36, ok37 + 0 * 11, none⟩)), (22, .int .i64 th.d.k), (23, .bool false), (24, .bool false), (37, .slice so6 xs.length ca7), (38, .pointer (some ⟨bk63, ok64 + 0 * 11, none⟩)), (39, .pointer (some ⟨bk63, ok64 + 0 * 11 + 8, none⟩)), (40, .string th.d.s), (41, .string th.d.s), (42, .bool false), (43, .bool false), (46, .bool false), (47, .bool false), (56, .bool false)] ∧ Mg w w1 (.row 30 11 (.slice so6 xs.length ca7) xs.length (cellsOf xs) :: .obj g2 (.cells (t.d.cells t.ts.length).toArray 30) :: [])) _ ⟨1, rfl, ⟨Nat.le_refl _, fun j u h1 h2 => absurd h1 (by omega)⟩, hA.keep _ (by repeat' constructor), hM⟩ ?_
         clear hM hA
         rintro m_ a w72 ⟨i, rfl, hinv74, hA, hM⟩ K73 hK73
         obtain ⟨hi0, hin9⟩ := hinv74
         refine wp_seq_k (fun K75 hK75 => ?_)
         refine wp_seq_k (fun K76 hK76 => ?_)
         refine wp_region_lit ?_
         refine qa hA rfl rfl rfl (qe rfl) ?_
         intro a hA
         refine qa hA rfl rfl rfl (qe rfl) ?_
         intro a hA
         refine qa (v := .int .i64 (((xs.length : Nat) : Int))) hA rfl rfl rfl (zb Tryz.underlying28 rfl) ?_
         intro a hA
         rcases Bool.eq_false_or_eq_true (decide (((i : Nat) : Int) < ((xs.length : Nat) : Int))) with hb77 | hb77
         · have hb77' := of_decide_eq_true hb77
           refine qa (v := .bool true) hA rfl rfl rfl (qg rfl rfl (fun w => (zk w).trans (by rw [hb77]))) ?_
           intro a hA
           refine qf ?_
           refine hK76 _ _ ?_
           refine wp_cond_true (hA.ev rfl) ?_
           refine wp_skip ?_
           refine hK75 _ _ ?_
           refine wp_seq_k (fun K78 hK78 => ?_)
           refine wp_block ?_
           refine wp_seq_k (fun K79 hK79 => ?_)
           refine wp_region_lit ?_
           refine qa hA rfl rfl rfl (qe rfl) ?_
           intro a hA
           refine qa hA rfl rfl rfl (qe rfl) ?_
           intro a hA
           obtain ⟨ti, hiti⟩ : ∃ t, xs[i]? = some t := ⟨_, List.getElem?_eq_getElem (by omega)⟩
           have hlti := (List.getElem?_eq_some_iff.1 hiti).1
           have mti := List.mem_of_getElem? hiti
           obtain ⟨bk80, ok81, lk82, Hk83⟩ := vg (jq (hM.has 0 rfl)).1 (fun x hx => Dt.keep (h0.trans (hM.bel.mono h0.size)) _ (hIt.rd x hx)) hiti
           refine qa (v := .pointer (some ⟨bk80, ok81 + i * 11, none⟩)) hA rfl rfl rfl (zh (k := i) Tryz.underlying28 (by kernel_rfl) rfl rfl (by first | rfl | omega) lk82 hlti) ?_
           intro a hA
           refine qa hA rfl rfl rfl (jg (Mg.start _) Hk83 JcN_isS_30 rfl rfl) ?_
           intro a hA
           rcases Bool.eq_false_or_eq_true ((jj n ti.tr).isSome) with hb84 | hb84
           · refine qm hA rfl rfl rfl (qh rfl rfl (fun w => by kernel_rfl)) (ih (h0.trans (hM.bel.mono h0.size)) (hIt.rd _ mti) (hIt.sh _ mti) (by have := hIt.lt _ mti; omega) hb84) ?_
             rintro _ w86 ⟨rfl, hb85⟩
             replace hM := hM.call hb85
             refine ⟨_, rfl, ?_⟩
             intro a hA
             refine qa (v := .bool false) hA rfl rfl rfl (qp rfl qt) ?_
             intro a hA
             refine qf ?_
             refine hK79 _ _ ?_
             refine wp_cond_false (hA.ev rfl) ?_
             refine wp_skip ?_
             refine hK78 _ _ ?_
             refine wp_region_lit ?_
             refine qa hA rfl rfl rfl (qe rfl) ?_
             intro a hA
             refine qa (v := .int .i64 (((i + 1 : Nat) : Int))) hA rfl rfl rfl (qg rfl rfl (ar_add ((in_i64 (by omega) (by omega)).trans (by omega)))) ?_
             intro a hA
             refine qa hA rfl rfl rfl (qb rfl) ?_
             intro a hA
             refine qf ?_
             refine hK73 _ _ _ (by omega) ⟨i + 1, rfl, ⟨by omega, din (p := fun u : Dt => (jj n u.tr).isSome) hin9 hiti hb84⟩, hA.keep _ (by repeat' constructor), hM⟩
           · refine qm hA rfl rfl rfl (qh rfl rfl (fun w => by kernel_rfl)) (ih (h0.trans (hM.bel.mono h0.size)) (hIt.rd _ mti) (hIt.sh _ mti) (by have := hIt.lt _ mti; omega) hb84) ?_
             rintro _ w88 ⟨rfl, hb87⟩
             replace hM := hM.call hb87
             refine ⟨_, rfl, ?_⟩
             intro a hA
             refine qa (v := .bool true) hA rfl rfl rfl (qp rfl qt) ?_
             intro a hA
             refine qf ?_
             refine hK79 _ _ ?_
             refine wp_cond_true (hA.ev rfl) ?_
             refine wp_seq_k (fun K89 hK89 => ?_)
             refine wp_region_lit ?_
             refine qa hA rfl rfl rfl (qb rfl) ?_
             intro a hA
             refine qf ?_
             refine hK89 _ _ ?_
             refine wp_ret ?_
             refine hret _ _ ?_
             refine za (v := .bool false) hA rfl (.cons (qk rfl) .nil) rfl ?_
             have ha9 := hIt.as hb5
             have hw9 := xu hith (by have h9 := hb40'; omega)
             have ewAnd : zj xs = vu := (ze hith).trans (of_decide_eq_true hb69)
             have e9 : (jj (n + 1) t.tr).isSome = false := by
               rw [jr ha9 hw9, ewAnd, qeh, xt]; exact dnot hi0 hiti hb84
             exact ⟨by rw [e9], hM.bel⟩
         · have hb77' := of_decide_eq_false hb77
           refine qa (v := .bool false) hA rfl rfl rfl (qg rfl rfl (fun w => (zk w).trans (by rw [hb77]))) ?_
           intro a hA
           refine qf ?_
           refine hK76 _ _ ?_
           refine wp_cond_false (hA.ev rfl) ?_
           refine wp_exit ?_
           refine hK70 _ _ ?_
           refine wp_seq_k (fun K90 hK90 => ?_)
           refine wp_region_lit ?_
           refine qa hA rfl rfl rfl (qb rfl) ?_
           intro a hA
           refine qf ?_
           refine hK90 _ _ ?_
           refine wp_ret ?_
           refine hret _ _ ?_
           refine za (v := .bool true) hA rfl (.cons (qk rfl) .nil) rfl ?_
           have ha9 := hIt.as hb5
           have hw9 := xu hith (by have h9 := hb40'; omega)
           have ewAnd : zj xs = vu := (ze hith).trans (of_decide_eq_true hb69)
           have e9 : (jj (n + 1) t.tr).isSome = true := by
             rw [jr ha9 hw9, ewAnd, qeh, xt]; exact dall hin9 (by omega)
           exact ⟨by rw [e9], hM.bel⟩
       · have hb69' := of_decide_eq_false hb69
         refine qa (v := .bool true) hA rfl rfl rfl (qg rfl rfl (fun w => (ue Tryz.underlying9 w).trans (by rw [hb69] <;> rfl))) ?_
         intro a hA
         refine qa hA rfl rfl rfl (qe rfl) ?_
         intro a hA
         refine qa hA rfl rfl rfl (qe rfl) ?_
         intro a hA
         rcases Bool.eq_false_or_eq_true (decide (th.d.s = ⟨#[111, 114]⟩)) with hb91 | hb91
         · have hb91' := of_decide_eq_true hb91
           refine qa (v := .bool false) hA rfl rfl rfl (qg rfl rfl (fun w => (ue Tryz.underlying9 w).trans (by rw [hb91] <;> rfl))) ?_
           intro a hA
           refine qa (v := .bool false) hA rfl rfl rfl (ql rfl rfl rfl rfl) ?_
           intro a hA
           refine qa hA rfl rfl rfl (qe rfl) ?_
           intro a hA
           refine qj hA rfl rfl rfl ?_
           intro a hA
           refine qj hA rfl rfl rfl ?_
           intro a hA
           refine qj hA rfl rfl rfl ?_
           intro a hA
           refine xi hA rfl rfl rfl ?_
           intro a hA
           refine xi hA rfl rfl rfl ?_
           intro a hA
           refine xi hA rfl rfl rfl ?_
           intro a hA
           refine qj hA rfl rfl rfl ?_
           intro a hA
           refine qj hA rfl rfl rfl ?_
           intro a hA
           refine qa (v := .bool false) hA rfl rfl rfl (ql rfl rfl rfl rfl) ?_
           intro a hA
           refine qf ?_
           refine hK68 _ _ ?_
           refine wp_cond_false (hA.ev rfl) ?_
           refine wp_skip ?_
           refine hK67 _ _ ?_
           refine wp_seq_k (fun K92 hK92 => ?_)
           refine wp_seq_k (fun K93 hK93 => ?_)
           refine wp_region_lit ?_
           refine qa hA rfl rfl rfl (qb rfl) ?_
           intro a hA
           refine qf ?_
           refine hK93 _ _ ?_
           refine wp_block ?_
           refine jd (fun m_ a w1 => ∃ (i : Nat), m_ = 1 + (xs.length - i) ∧ (1 ≤ i ∧ ∀ (j : Nat) u, 1 ≤ j → j < i → xs[j]? = some u → (jj n u.tr).isSome = true) ∧ Sl a 69 [(0, .agg (t.d.cells t.ts.length).toArray), (1, .pointer (some ⟨g2, 0, none⟩)), (3, .slice so6 xs.length ca7), (4, .bool true), (6, .string th.d.s), (7, .int .i64 (((i : Nat) : Int))), (8, .tuple #[.slice so6 xs.length ca7, .bool true]), (9, .agg (t.d.cells t.ts.length).toArray), (10, .tuple #[.slice so6 xs.length ca7, .bool true]), (11, .slice so6 xs.length ca7), (12, .bool true), (13, .bool true), (14, .bool false), (15, .slice so6 xs.length ca7), (16, .int .i64 (((xs.length : Nat) : Int))), (17, .bool false), (18, .bool false), (19, .slice so6 xs.length ca7), (20, .pointer (some ⟨bk36, ok37 + 0 * 11, none⟩)), (21, .pointer (some ⟨bk36, ok37 + 0 * 11, none⟩)), (22, .int .i64 th.d.k), (23, .bool false), (24, .bool false), (37, .slice so6 xs.length ca7), (38, .pointer (some ⟨bk63, ok64 + 0 * 11, none⟩)), (39, .pointer (some ⟨bk63, ok64 + 0 * 11 + 8, none⟩)), (40, .string th.d.s), (41, .string th.d.s), (42, .bool true), (43, .bool true), (44, .string th.d.s), (45, .bool false), (46, .bool false), (47, .bool false), (56, .bool false)] ∧ Mg w w1 (.row 30 11 (.slice so6 xs.length ca7) xs.length (cellsOf xs) :: .obj g2 (.cells (t.d.cells t.ts.length).toArray 30) :: [])) _ ⟨1, rfl, ⟨Nat.le_refl _, fun j u h1 h2 => absurd h1 (by omega)⟩, hA.keep _ (by repeat' constructor), hM⟩ ?_
           clear hM hA
           rintro m_ a w94 ⟨i, rfl, hinv96, hA, hM⟩ K95 hK95
           obtain ⟨hi0, hin9⟩ := hinv96
           refine wp_seq_k (fun K97 hK97 => ?_)
           refine wp_seq_k (fun K98 hK98 => ?_)
           refine wp_region_lit ?_
           refine qa hA rfl rfl rfl (qe rfl) ?_
           intro a hA
           refine qa hA rfl rfl rfl (qe rfl) ?_
           intro a hA
           refine qa (v := .int .i64 (((xs.length : Nat) : Int))) hA rfl rfl rfl (zb Tryz.underlying28 rfl) ?_
           intro a hA
           rcases Bool.eq_false_or_eq_true (decide (((i : Nat) : Int) < ((xs.length : Nat) : Int))) with hb99 | hb99
           · have hb99' := of_decide_eq_true hb99
             refine qa (v := .bool true) hA rfl rfl rfl (qg rfl rfl (fun w => (zk w).trans (by rw [hb99]))) ?_
             intro a hA
             refine qf ?_
             refine hK98 _ _ ?_
             refine wp_cond_true (hA.ev rfl) ?_
             refine wp_skip ?_
             refine hK97 _ _ ?_
             refine wp_seq_k (fun K100 hK100 => ?_)
             refine wp_block ?_
             refine wp_seq_k (fun K101 hK101 => ?_)
             refine wp_region_lit ?_
             refine qa hA rfl rfl rfl (qe rfl) ?_
             intro a hA
             refine qa hA rfl rfl rfl (qe rfl) ?_
             intro a hA
             obtain ⟨ti, hiti⟩ : ∃ t, xs[i]? = some t := ⟨_, List.getElem?_eq_getElem (by omega)⟩
             have hlti := (List.getElem?_eq_some_iff.1 hiti).1
             have mti := List.mem_of_getElem? hiti
             obtain ⟨bk102, ok103, lk104, Hk105⟩ := vg (jq (hM.has 0 rfl)).1 (fun x hx => Dt.keep (h0.trans (hM.bel.mono h0.size)) _ (hIt.rd x hx)) hiti
             refine qa (v := .pointer (some ⟨bk102, ok103 + i * 11, none⟩)) hA rfl rfl rfl (zh (k := i) Tryz.underlying28 (by kernel_rfl) rfl rfl (by first | rfl | omega) lk104 hlti) ?_
             intro a hA
             refine qa hA rfl rfl rfl (jg (Mg.start _) Hk105 JcN_isS_30 rfl rfl) ?_
             intro a hA
             rcases Bool.eq_false_or_eq_true ((jj n ti.tr).isSome) with hb106 | hb106
             · refine qm hA rfl rfl rfl (qh rfl rfl (fun w => by kernel_rfl)) (ih (h0.trans (hM.bel.mono h0.size)) (hIt.rd _ mti) (hIt.sh _ mti) (by have := hIt.lt _ mti; omega) hb106) ?_
               rintro _ w108 ⟨rfl, hb107⟩
               replace hM := hM.call hb107
               refine ⟨_, rfl, ?_⟩
               intro a hA
               refine qa (v := .bool false) hA rfl rfl rfl (qp rfl qt) ?_
               intro a hA
               refine qf ?_
               refine hK101 _ _ ?_
               refine wp_cond_false (hA.ev rfl) ?_
               refine wp_skip ?_
               refine hK100 _ _ ?_
               refine wp_region_lit ?_
               refine qa hA rfl rfl rfl (qe rfl) ?_
               intro a hA
               refine qa (v := .int .i64 (((i + 1 : Nat) : Int))) hA rfl rfl rfl (qg rfl rfl (ar_add ((in_i64 (by omega) (by omega)).trans (by omega)))) ?_
               intro a hA
               refine qa hA rfl rfl rfl (qb rfl) ?_
               intro a hA
               refine qf ?_
               refine hK95 _ _ _ (by omega) ⟨i + 1, rfl, ⟨by omega, din (p := fun u : Dt => (jj n u.tr).isSome) hin9 hiti hb106⟩, hA.keep _ (by repeat' constructor), hM⟩
             · refine qm hA rfl rfl rfl (qh rfl rfl (fun w => by kernel_rfl)) (ih (h0.trans (hM.bel.mono h0.size)) (hIt.rd _ mti) (hIt.sh _ mti) (by have := hIt.lt _ mti; omega) hb106) ?_
               rintro _ w110 ⟨rfl, hb109⟩
               replace hM := hM.call hb109
               refine ⟨_, rfl, ?_⟩
               intro a hA
               refine qa (v := .bool true) hA rfl rfl rfl (qp rfl qt) ?_
               intro a hA
               refine qf ?_
               refine hK101 _ _ ?_
               refine wp_cond_true (hA.ev rfl) ?_
               refine wp_seq_k (fun K111 hK111 => ?_)
               refine wp_region_lit ?_
               refine qa hA rfl rfl rfl (qb rfl) ?_
               intro a hA
               refine qf ?_
               refine hK111 _ _ ?_
               refine wp_ret ?_
               refine hret _ _ ?_
               refine za (v := .bool false) hA rfl (.cons (qk rfl) .nil) rfl ?_
               have ha9 := hIt.as hb5
               have hw9 := xu hith (by have h9 := hb40'; omega)
               have ewAnd : zj xs ≠ vu := fun h9 => of_decide_eq_false hb69 ((ze hith).symm.trans h9)
               have ewOr : zj xs = wOr := (ze hith).trans (of_decide_eq_true hb91)
               have e9 : (jj (n + 1) t.tr).isSome = false := by
                 rw [jr ha9 hw9, ewOr, qhh, xt]; exact dnot hi0 hiti hb106
               exact ⟨by rw [e9], hM.bel⟩
           · have hb99' := of_decide_eq_false hb99
             refine qa (v := .bool false) hA rfl rfl rfl (qg rfl rfl (fun w => (zk w).trans (by rw [hb99]))) ?_
             intro a hA
             refine qf ?_
             refine hK98 _ _ ?_
             refine wp_cond_false (hA.ev rfl) ?_
             refine wp_exit ?_
             refine hK92 _ _ ?_
             refine wp_seq_k (fun K112 hK112 => ?_)
             refine wp_region_lit ?_
             refine qa hA rfl rfl rfl (qb rfl) ?_
             intro a hA
             refine qf ?_
             refine hK112 _ _ ?_
             refine wp_ret ?_
             refine hret _ _ ?_
             refine za (v := .bool true) hA rfl (.cons (qk rfl) .nil) rfl ?_
             have ha9 := hIt.as hb5
             have hw9 := xu hith (by have h9 := hb40'; omega)
             have ewAnd : zj xs ≠ vu := fun h9 => of_decide_eq_false hb69 ((ze hith).symm.trans h9)
             have ewOr : zj xs = wOr := (ze hith).trans (of_decide_eq_true hb91)
             have e9 : (jj (n + 1) t.tr).isSome = true := by
               rw [jr ha9 hw9, ewOr, qhh, xt]; exact dall hin9 (by omega)
             exact ⟨by rw [e9], hM.bel⟩
         · have hb91' := of_decide_eq_false hb91
           refine qa (v := .bool true) hA rfl rfl rfl (qg rfl rfl (fun w => (ue Tryz.underlying9 w).trans (by rw [hb91] <;> rfl))) ?_
           intro a hA
           refine qa (v := .bool true) hA rfl rfl rfl (ql rfl rfl rfl rfl) ?_
           intro a hA
           refine qa hA rfl rfl rfl (qe rfl) ?_
           intro a hA
           refine qa hA rfl rfl rfl (qe rfl) ?_
           intro a hA
           rcases Bool.eq_false_or_eq_true (decide (th.d.s = ⟨#[110, 111, 116]⟩)) with hb113 | hb113
           · have hb113' := of_decide_eq_true hb113
             refine qa (v := .bool true) hA rfl rfl rfl (qg rfl rfl (fun w => (zq Tryz.underlying9 w).trans (by rw [hb113] <;> rfl))) ?_
             intro a hA
             refine qa hA rfl rfl rfl (qe rfl) ?_
             intro a hA
             refine qa hA rfl rfl rfl (qe rfl) ?_
             intro a hA
             refine qa (v := .int .i64 (((xs.length : Nat) : Int))) hA rfl rfl rfl (zb Tryz.underlying28 rfl) ?_
             intro a hA
             rcases Bool.eq_false_or_eq_true ((((xs.length : Nat) : Int) == 2)) with hb114 | hb114
             · have hb114' := eq_of_beq hb114
               refine qa (v := .bool true) hA rfl rfl rfl (qg rfl rfl (fun w => (qx w).trans (by rw [hb114]))) ?_
               intro a hA
               refine qa (v := .bool true) hA rfl rfl rfl (ql rfl rfl rfl rfl) ?_
               intro a hA
               refine qa (v := .bool false) hA rfl rfl rfl (qp rfl qt) ?_
               intro a hA
               refine qa (v := .bool false) hA rfl rfl rfl (ql rfl rfl rfl rfl) ?_
               intro a hA
               refine qf ?_
               refine hK68 _ _ ?_
               refine wp_cond_false (hA.ev rfl) ?_
               refine wp_skip ?_
               refine hK67 _ _ ?_
               refine wp_seq_k (fun K115 hK115 => ?_)
               refine wp_seq_k (fun K116 hK116 => ?_)
               refine wp_region_lit ?_
               refine qa hA rfl rfl rfl (qb rfl) ?_
               intro a hA
               refine qf ?_
               refine hK116 _ _ ?_
               refine wp_block ?_
               refine jd (fun m_ a w1 => ∃ (i : Nat), m_ = 1 + (xs.length - i) ∧ (1 ≤ i ∧ ∀ (j : Nat) u, 1 ≤ j → j < i → xs[j]? = some u → (jj n u.tr).isSome = true) ∧ Sl a 69 [(0, .agg (t.d.cells t.ts.length).toArray), (1, .pointer (some ⟨g2, 0, none⟩)), (3, .slice so6 xs.length ca7), (4, .bool true), (6, .string th.d.s), (7, .int .i64 (((i : Nat) : Int))), (8, .tuple #[.slice so6 xs.length ca7, .bool true]), (9, .agg (t.d.cells t.ts.length).toArray), (10, .tuple #[.slice so6 xs.length ca7, .bool true]), (11, .slice so6 xs.length ca7), (12, .bool true), (13, .bool true), (14, .bool false), (15, .slice so6 xs.length ca7), (16, .int .i64 (((xs.length : Nat) : Int))), (17, .bool false), (18, .bool false), (19, .slice so6 xs.length ca7), (20, .pointer (some ⟨bk36, ok37 + 0 * 11, none⟩)), (21, .pointer (some ⟨bk36, ok37 + 0 * 11, none⟩)), (22, .int .i64 th.d.k), (23, .bool false), (24, .bool false), (37, .slice so6 xs.length ca7), (38, .pointer (some ⟨bk63, ok64 + 0 * 11, none⟩)), (39, .pointer (some ⟨bk63, ok64 + 0 * 11 + 8, none⟩)), (40, .string th.d.s), (41, .string th.d.s), (42, .bool true), (43, .bool true), (44, .string th.d.s), (45, .bool true), (46, .bool true), (47, .bool true), (48, .string th.d.s), (49, .bool true), (50, .bool true), (51, .slice so6 xs.length ca7), (52, .int .i64 (((xs.length : Nat) : Int))), (53, .bool true), (54, .bool true), (55, .bool false), (56, .bool false)] ∧ Mg w w1 (.row 30 11 (.slice so6 xs.length ca7) xs.length (cellsOf xs) :: .obj g2 (.cells (t.d.cells t.ts.length).toArray 30) :: [])) _ ⟨1, rfl, ⟨Nat.le_refl _, fun j u h1 h2 => absurd h1 (by omega)⟩, hA.keep _ (by repeat' constructor), hM⟩ ?_
               clear hM hA
               rintro m_ a w117 ⟨i, rfl, hinv119, hA, hM⟩ K118 hK118
               obtain ⟨hi0, hin9⟩ := hinv119
               refine wp_seq_k (fun K120 hK120 => ?_)
               refine wp_seq_k (fun K121 hK121 => ?_)
               refine wp_region_lit ?_
               refine qa hA rfl rfl rfl (qe rfl) ?_
               intro a hA
               refine qa hA rfl rfl rfl (qe rfl) ?_
               intro a hA
               refine qa (v := .int .i64 (((xs.length : Nat) : Int))) hA rfl rfl rfl (zb Tryz.underlying28 rfl) ?_
               intro a hA
               rcases Bool.eq_false_or_eq_true (decide (((i : Nat) : Int) < ((xs.length : Nat) : Int))) with hb122 | hb122
               · have hb122' := of_decide_eq_true hb122
                 refine qa (v := .bool true) hA rfl rfl rfl (qg rfl rfl (fun w => (zk w).trans (by rw [hb122]))) ?_
                 intro a hA
                 refine qf ?_
                 refine hK121 _ _ ?_
                 refine wp_cond_true (hA.ev rfl) ?_
                 refine wp_skip ?_
                 refine hK120 _ _ ?_
                 refine wp_seq_k (fun K123 hK123 => ?_)
                 refine wp_block ?_
                 refine wp_seq_k (fun K124 hK124 => ?_)
                 refine wp_region_lit ?_
                 refine qa hA rfl rfl rfl (qe rfl) ?_
                 intro a hA
                 refine qa hA rfl rfl rfl (qe rfl) ?_
                 intro a hA
                 obtain ⟨ti, hiti⟩ : ∃ t, xs[i]? = some t := ⟨_, List.getElem?_eq_getElem (by omega)⟩
                 have hlti := (List.getElem?_eq_some_iff.1 hiti).1
                 have mti := List.mem_of_getElem? hiti
                 obtain ⟨bk125, ok126, lk127, Hk128⟩ := vg (jq (hM.has 0 rfl)).1 (fun x hx => Dt.keep (h0.trans (hM.bel.mono h0.size)) _ (hIt.rd x hx)) hiti
                 refine qa (v := .pointer (some ⟨bk125, ok126 + i * 11, none⟩)) hA rfl rfl rfl (zh (k := i) Tryz.underlying28 (by kernel_rfl) rfl rfl (by first | rfl | omega) lk127 hlti) ?_
                 intro a hA
                 refine qa hA rfl rfl rfl (jg (Mg.start _) Hk128 JcN_isS_30 rfl rfl) ?_
                 intro a hA
                 rcases Bool.eq_false_or_eq_true ((jj n ti.tr).isSome) with hb129 | hb129
                 · refine qm hA rfl rfl rfl (qh rfl rfl (fun w => by kernel_rfl)) (ih (h0.trans (hM.bel.mono h0.size)) (hIt.rd _ mti) (hIt.sh _ mti) (by have := hIt.lt _ mti; omega) hb129) ?_
                   rintro _ w131 ⟨rfl, hb130⟩
                   replace hM := hM.call hb130
                   refine ⟨_, rfl, ?_⟩
                   intro a hA
                   refine qa (v := .bool false) hA rfl rfl rfl (qp rfl qt) ?_
                   intro a hA
                   refine qf ?_
                   refine hK124 _ _ ?_
                   refine wp_cond_false (hA.ev rfl) ?_
                   refine wp_skip ?_
                   refine hK123 _ _ ?_
                   refine wp_region_lit ?_
                   refine qa hA rfl rfl rfl (qe rfl) ?_
                   intro a hA
                   refine qa (v := .int .i64 (((i + 1 : Nat) : Int))) hA rfl rfl rfl (qg rfl rfl (ar_add ((in_i64 (by omega) (by omega)).trans (by omega)))) ?_
                   intro a hA
                   refine qa hA rfl rfl rfl (qb rfl) ?_
                   intro a hA
                   refine qf ?_
                   refine hK118 _ _ _ (by omega) ⟨i + 1, rfl, ⟨by omega, din (p := fun u : Dt => (jj n u.tr).isSome) hin9 hiti hb129⟩, hA.keep _ (by repeat' constructor), hM⟩
                 · refine qm hA rfl rfl rfl (qh rfl rfl (fun w => by kernel_rfl)) (ih (h0.trans (hM.bel.mono h0.size)) (hIt.rd _ mti) (hIt.sh _ mti) (by have := hIt.lt _ mti; omega) hb129) ?_
                   rintro _ w133 ⟨rfl, hb132⟩
                   replace hM := hM.call hb132
                   refine ⟨_, rfl, ?_⟩
                   intro a hA
                   refine qa (v := .bool true) hA rfl rfl rfl (qp rfl qt) ?_
                   intro a hA
                   refine qf ?_
                   refine hK124 _ _ ?_
                   refine wp_cond_true (hA.ev rfl) ?_
                   refine wp_seq_k (fun K134 hK134 => ?_)
                   refine wp_region_lit ?_
                   refine qa hA rfl rfl rfl (qb rfl) ?_
                   intro a hA
                   refine qf ?_
                   refine hK134 _ _ ?_
                   refine wp_ret ?_
                   refine hret _ _ ?_
                   refine za (v := .bool false) hA rfl (.cons (qk rfl) .nil) rfl ?_
                   have ha9 := hIt.as hb5
                   have hw9 := xu hith (by have h9 := hb40'; omega)
                   have ewAnd : zj xs ≠ vu := fun h9 => of_decide_eq_false hb69 ((ze hith).symm.trans h9)
                   have ewOr : zj xs ≠ wOr := fun h9 => of_decide_eq_false hb91 ((ze hith).symm.trans h9)
                   have ewNot : zj xs = kg := (ze hith).trans (of_decide_eq_true hb113)
                   have e9 : (jj (n + 1) t.tr).isSome = false := by
                     rw [jr ha9 hw9, ewNot, join_not2 (by rw [List.length_map, List.length_drop]; omega), xt]; exact dnot hi0 hiti hb129
                   exact ⟨by rw [e9], hM.bel⟩
               · have hb122' := of_decide_eq_false hb122
                 refine qa (v := .bool false) hA rfl rfl rfl (qg rfl rfl (fun w => (zk w).trans (by rw [hb122]))) ?_
                 intro a hA
                 refine qf ?_
                 refine hK121 _ _ ?_
                 refine wp_cond_false (hA.ev rfl) ?_
                 refine wp_exit ?_
                 refine hK115 _ _ ?_
                 refine wp_seq_k (fun K135 hK135 => ?_)
                 refine wp_region_lit ?_
                 refine qa hA rfl rfl rfl (qb rfl) ?_
                 intro a hA
                 refine qf ?_
                 refine hK135 _ _ ?_
                 refine wp_ret ?_
                 refine hret _ _ ?_
                 refine za (v := .bool true) hA rfl (.cons (qk rfl) .nil) rfl ?_
                 have ha9 := hIt.as hb5
                 have hw9 := xu hith (by have h9 := hb40'; omega)
                 have ewAnd : zj xs ≠ vu := fun h9 => of_decide_eq_false hb69 ((ze hith).symm.trans h9)
                 have ewOr : zj xs ≠ wOr := fun h9 => of_decide_eq_false hb91 ((ze hith).symm.trans h9)
                 have ewNot : zj xs = kg := (ze hith).trans (of_decide_eq_true hb113)
                 have e9 : (jj (n + 1) t.tr).isSome = true := by
                   rw [jr ha9 hw9, ewNot, join_not2 (by rw [List.length_map, List.length_drop]; omega), xt]; exact dall hin9 (by omega)
                 exact ⟨by rw [e9], hM.bel⟩
             · have hb114' := ne_of_beq_false hb114
               refine qa (v := .bool false) hA rfl rfl rfl (qg rfl rfl (fun w => (qx w).trans (by rw [hb114]))) ?_
               intro a hA
               refine qa (v := .bool false) hA rfl rfl rfl (ql rfl rfl rfl rfl) ?_
               intro a hA
               refine qa (v := .bool true) hA rfl rfl rfl (qp rfl qt) ?_
               intro a hA
               refine qa (v := .bool true) hA rfl rfl rfl (ql rfl rfl rfl rfl) ?_
               intro a hA
               refine qf ?_
               refine hK68 _ _ ?_
               refine wp_cond_true (hA.ev rfl) ?_
               refine wp_seq_k (fun K136 hK136 => ?_)
               refine wp_region_lit ?_
               refine qa hA rfl rfl rfl (qb rfl) ?_
               intro a hA
               refine qf ?_
               refine hK136 _ _ ?_
               refine wp_ret ?_
               refine hret _ _ ?_
               refine za (v := .bool false) hA rfl (.cons (qk rfl) .nil) rfl ?_
               have ha9 := hIt.as hb5
               have hw9 := xu hith (by have h9 := hb40'; omega)
               have ewAnd : zj xs ≠ vu := fun h9 => of_decide_eq_false hb69 ((ze hith).symm.trans h9)
               have ewOr : zj xs ≠ wOr := fun h9 => of_decide_eq_false hb91 ((ze hith).symm.trans h9)
               have ewNot : zj xs = kg := (ze hith).trans (of_decide_eq_true hb113)
               have e9 : (jj (n + 1) t.tr).isSome = false := by
                 rw [jr ha9 hw9, ewNot, qaf (by rw [List.length_map, List.length_drop]; omega)]; rfl
               exact ⟨by rw [e9], hM.bel⟩
           · have hb113' := of_decide_eq_false hb113
             refine qa (v := .bool false) hA rfl rfl rfl (qg rfl rfl (fun w => (zq Tryz.underlying9 w).trans (by rw [hb113] <;> rfl))) ?_
             intro a hA
             refine qa hA rfl rfl rfl (qe rfl) ?_
             intro a hA
             refine qj hA rfl rfl rfl ?_
             intro a hA
             refine qj hA rfl rfl rfl ?_
             intro a hA
             refine qj hA rfl rfl rfl ?_
             intro a hA
             refine qa (v := .bool false) hA rfl rfl rfl (ql rfl rfl rfl rfl) ?_
             intro a hA
             refine qa (v := .bool true) hA rfl rfl rfl (qp rfl qt) ?_
             intro a hA
             refine qa (v := .bool true) hA rfl rfl rfl (ql rfl rfl rfl rfl) ?_
             intro a hA
             refine qf ?_
             refine hK68 _ _ ?_
             refine wp_cond_true (hA.ev rfl) ?_
             refine wp_seq_k (fun K137 hK137 => ?_)
             refine wp_region_lit ?_
             refine qa hA rfl rfl rfl (qb rfl) ?_
             intro a hA
             refine qf ?_
             refine hK137 _ _ ?_
             refine wp_ret ?_
             refine hret _ _ ?_
             refine za (v := .bool false) hA rfl (.cons (qk rfl) .nil) rfl ?_
             have ha9 := hIt.as hb5
             have hw9 := xu hith (by have h9 := hb40'; omega)
             have ewAnd : zj xs ≠ vu := fun h9 => of_decide_eq_false hb69 ((ze hith).symm.trans h9)
             have ewOr : zj xs ≠ wOr := fun h9 => of_decide_eq_false hb91 ((ze hith).symm.trans h9)
             have ewNot : zj xs ≠ kg := fun h9 => of_decide_eq_false hb113 ((ze hith).symm.trans h9)
             have e9 : (jj (n + 1) t.tr).isSome = false := by
               rw [jr ha9 hw9, uj ewAnd ewOr ewNot]; rfl
             exact ⟨by rw [e9], hM.bel⟩
 · refine qm hA rfl rfl rfl (qh rfl rfl (fun w => by kernel_rfl)) ((hb5 ▸ ka (h0.trans (hM.bel.mono h0.size)) ht hs (by omega))) ?_
   rintro _ w141 ⟨so138, ca139, xs, rfl, hIt, hM140⟩
   have hle9 := hIt.le
   replace hM : Mg w w141 (.row 30 11 (.slice so138 xs.length ca139) xs.length (cellsOf xs) :: .obj g2 (.cells (t.d.cells t.ts.length).toArray 30) :: []) := (hM.both hM140 (qw (by simp) (qy zd)) (qw (by simp) (qy zd)))
   refine ⟨_, rfl, ?_⟩
   intro a hA
   refine qa hA rfl rfl rfl (qe rfl) ?_
   intro a hA
   refine qa (v := .slice so138 xs.length ca139) hA rfl rfl rfl (qn (vs := [.slice so138 xs.length ca139, .bool false]) rfl rfl) ?_
   intro a hA
   refine qa (v := .bool false) hA rfl rfl rfl (qn (vs := [.slice so138 xs.length ca139, .bool false]) rfl rfl) ?_
   intro a hA
   refine qa hA rfl rfl rfl (qb rfl) ?_
   intro a hA
   refine qa hA rfl rfl rfl (qb rfl) ?_
   intro a hA
   refine qf ?_
   refine hK4 _ _ ?_
   refine wp_seq_k (fun K142 hK142 => ?_)
   refine wp_seq_k (fun K143 hK143 => ?_)
   refine wp_region_lit ?_
   refine qa hA rfl rfl rfl (qe rfl) ?_
   intro a hA
   refine qa (v := .bool true) hA rfl rfl rfl (qp rfl qt) ?_
   intro a hA
   refine qf ?_
   refine hK143 _ _ ?_
   refine wp_cond_true (hA.ev rfl) ?_
   refine wp_seq_k (fun K144 hK144 => ?_)
   refine wp_region_lit ?_
   refine qa hA rfl rfl rfl (qb rfl) ?_
   intro a hA
   refine qf ?_
   refine hK144 _ _ ?_
   refine wp_ret ?_
   refine hret _ _ ?_
   refine za (v := .bool false) hA rfl (.cons (qk rfl) .nil) rfl ?_
   have e9 : (jj (n + 1) t.tr).isSome = false := by
     rw [qka (vm hb5)]; rfl
   exact ⟨by rw [e9], hM.bel⟩
theorem rsub_all : ∀ n : Nat, n ≤ 4000000 → RSub n
  | 0, _ => by intro h0 ht hs hb; exact absurd (Nat.le_trans (yh _) hb) (Nat.not_succ_le_zero _)
  | n + 1, hn => by intro h0 ht hs hb b he; exact he ▸ rsub_any h0 ht hs hb hn (rsub_all n (by omega))
theorem qlg : ∀ n : Nat, n ≤ 4000000 → RRef n
  | 0, _ => by intro h0 ht hs hb; exact absurd (Nat.le_trans (yh _) hb) (Nat.not_succ_le_zero _)
  | n + 1, hn => by intro h0 ht hs hb b he; exact he ▸ rref_any h0 ht hs hb hn (qlg n (by omega)) (rsub_all n (by omega))
end Go.Proofs.YtoopkbedjbnhhaaGreatDoor.G
namespace Go.Proofs.YtoopkbedjbnhhaaGreatDoor.G
open Go.RowKit
set_option maxRecDepth 100000
theorem JcO_is1_3 : Is1 Tryz.prog 3 := ⟨⟨_, Tryz.underlying3, rfl⟩, by kernel_rfl⟩
theorem JcO_is1_9 : Is1 Tryz.prog 9 := ⟨⟨_, Tryz.underlying9, rfl⟩, by kernel_rfl⟩
theorem JcO_fld_30_3 : FieldAt Tryz.prog 30 3 8 := ⟨_, _, Tryz.underlying30, rfl, rfl, by kernel_rfl⟩
theorem JcO_isS_30 : IsS Tryz.prog 30 11 := ⟨⟨_, Tryz.underlying30⟩, by kernel_rfl⟩
theorem rfit_any {w0 w : World} {n : Nat} {t : Dt} (h0 : Below w0.heap.size w0 w) (ht : t.rd w0) (hs : xl zp t.tr = true) (hb : t.tr.bulk ≤ n + 1) (hn : n + 1 ≤ 4000000) {z : Int} (hp : (zy (n + 1) t.tr).isSome = true) (ih : RFit n) : Calls Tryz.prog 71 #[.int .i64 z, .agg (t.d.cells t.ts.length).toArray] w fun e w' => e = .returned (.bool (vF (zy (n + 1) t.tr) z)) ∧ Below w.heap.size w w' := by
 have hM : Mg w w ([]) := Mg.start w
 refine qz (l := [(0, .int .i64 z), (1, .agg (t.d.cells t.ts.length).toArray)]) Tryz.func71 rfl Tryz.ntmps71 rfl rfl ?_
 intro Q hret hnorm hP a hA
 refine wp_seq_k (fun K1 hK1 => ?_)
 refine wp_region_lit ?_
 refine jk (vs := (t.d.cells t.ts.length)) (t := 30) hA hM rfl rfl rfl (fun g => .pointer (some ⟨g, 0, none⟩)) (zg rfl rfl) (by decide) ?_
 intro g2 w3 hM a hA
 refine qa hA rfl rfl rfl (qb rfl) ?_
 intro a hA
 refine qf ?_
 refine hK1 _ _ ?_
 refine wp_seq_k (fun K4 hK4 => ?_)
 refine wp_seq_k (fun K5 hK5 => ?_)
 refine wp_region_lit ?_
 refine qa hA rfl rfl rfl (ja hM JcO_isS_30 rfl 0 rfl (cs := (t.d.cells t.ts.length)) rfl rfl) ?_
 intro a hA
 refine qm hA rfl rfl rfl (qh rfl rfl (fun w => by kernel_rfl)) (vz (Dt.keep (h0.trans (hM.bel.mono h0.size)) _ ht) hs) ?_
 rintro _ w7 ⟨rfl, hb6⟩
 replace hM := hM.call hb6
 refine ⟨_, rfl, ?_⟩
 intro a hA
 rcases Bool.eq_false_or_eq_true (decide (0 ≤ (nN (jc t.tr)))) with hb8 | hb8
 · have hb8' := of_decide_eq_true hb8
   refine qa (v := .bool true) hA rfl rfl rfl (qg rfl rfl (fun w => (ju w).trans (by rw [hb8]))) ?_
   intro a hA
   refine qf ?_
   refine hK5 _ _ ?_
   refine wp_cond_true (hA.ev rfl) ?_
   refine wp_seq_k (fun K9 hK9 => ?_)
   refine wp_region_lit ?_
   refine qa hA rfl rfl rfl (qe rfl) ?_
   intro a hA
   refine qa hA rfl rfl rfl (ja hM JcO_isS_30 rfl 0 rfl (cs := (t.d.cells t.ts.length)) rfl rfl) ?_
   intro a hA
   refine qm hA rfl rfl rfl (qh rfl rfl (fun w => by kernel_rfl)) (vz (Dt.keep (h0.trans (hM.bel.mono h0.size)) _ ht) hs) ?_
   rintro _ w11 ⟨rfl, hb10⟩
   replace hM := hM.call hb10
   refine ⟨_, rfl, ?_⟩
   intro a hA
   rcases Bool.eq_false_or_eq_true ((z == (nN (jc t.tr)))) with hb12 | hb12
   · have hb12' := eq_of_beq hb12
     refine qa (v := .bool true) hA rfl rfl rfl (qg rfl rfl (fun w => (qx w).trans (by rw [hb12]))) ?_
     intro a hA
     refine qa hA rfl rfl rfl (qb rfl) ?_
     intro a hA
     refine qf ?_
     refine hK9 _ _ ?_
     refine wp_ret ?_
     refine hret _ _ ?_
     refine za (v := .bool true) hA rfl (.cons (qk rfl) .nil) rfl ?_
     have hd9 : decide (0 ≤ nN (jc t.tr)) = true := hb8
     obtain ⟨b9, hb9, hb8⟩ := nn_some hd9
     have h6 : (z == nN (jc t.tr)) = true := hb12
     rw [hb8] at h6
     have e9 : vF (zy (n + 1) t.tr) z = true := by
       rw [qhf hb9]; exact h6
     exact ⟨by rw [e9], hM.bel⟩
   · have hb12' := ne_of_beq_false hb12
     refine qa (v := .bool false) hA rfl rfl rfl (qg rfl rfl (fun w => (qx w).trans (by rw [hb12]))) ?_
     intro a hA
     refine qa hA rfl rfl rfl (qb rfl) ?_
     intro a hA
     refine qf ?_
     refine hK9 _ _ ?_
     refine wp_ret ?_
     refine hret _ _ ?_
     refine za (v := .bool false) hA rfl (.cons (qk rfl) .nil) rfl ?_
     have hd9 : decide (0 ≤ nN (jc t.tr)) = true := hb8
     obtain ⟨b9, hb9, hb8⟩ := nn_some hd9
     have h6 : (z == nN (jc t.tr)) = false := hb12
     rw [hb8] at h6
     have e9 : vF (zy (n + 1) t.tr) z = false := by
       rw [qhf hb9]; exact h6
     exact ⟨by rw [e9], hM.bel⟩
 · have hb8' := of_decide_eq_false hb8
   refine qa (v := .bool false) hA rfl rfl rfl (qg rfl rfl (fun w => (ju w).trans (by rw [hb8]))) ?_
   intro a hA
   refine qf ?_
   refine hK5 _ _ ?_
   refine wp_cond_false (hA.ev rfl) ?_
   refine wp_skip ?_
   refine hK4 _ _ ?_
   refine wp_seq_k (fun K13 hK13 => ?_)
   refine wp_region_lit ?_
   refine qa hA rfl rfl rfl (ja hM JcO_isS_30 rfl 0 rfl (cs := (t.d.cells t.ts.length)) rfl rfl) ?_
   intro a hA
   refine qm hA rfl rfl rfl (qh rfl rfl (fun w => by kernel_rfl)) (ka (h0.trans (hM.bel.mono h0.size)) ht hs (by omega)) ?_
   rintro _ w17 ⟨so14, ca15, xs, rfl, hIt, hM16⟩
   have hle9 := hIt.le
   have hd9 : decide (0 ≤ nN (jc t.tr)) = false := hb8
   have hn9 := xv hd9
   obtain ⟨ha9, hw9⟩ := sub_must hIt hn9 hp
   have hx9 := isW_len hw9
   replace hM : Mg w w17 (.row 30 11 (.slice so14 xs.length ca15) xs.length (cellsOf xs) :: .obj g2 (.cells (t.d.cells t.ts.length).toArray 30) :: []) := (hM.both hM16 (qw (by simp) (qy zd)) (qw (by simp) (qy zd)))
   refine ⟨_, rfl, ?_⟩
   intro a hA
   refine qa hA rfl rfl rfl (qe rfl) ?_
   intro a hA
   refine qa (v := .slice so14 xs.length ca15) hA rfl rfl rfl (qn (vs := [.slice so14 xs.length ca15, .bool ((zw t.tr).isSome)]) rfl rfl) ?_
   intro a hA
   refine qa (v := .bool ((zw t.tr).isSome)) hA rfl rfl rfl (qn (vs := [.slice so14 xs.length ca15, .bool ((zw t.tr).isSome)]) rfl rfl) ?_
   intro a hA
   refine qa hA rfl rfl rfl (qb rfl) ?_
   intro a hA
   refine qa hA rfl rfl rfl (qb rfl) ?_
   intro a hA
   refine qf ?_
   refine hK13 _ _ ?_
   refine wp_seq_k (fun K18 hK18 => ?_)
   refine wp_seq_k (fun K19 hK19 => ?_)
   refine wp_region_lit ?_
   refine qa hA rfl rfl rfl (qe rfl) ?_
   intro a hA
   obtain ⟨th, hith⟩ : ∃ t, xs[0]? = some t := ⟨_, List.getElem?_eq_getElem (by omega)⟩
   have hlth := (List.getElem?_eq_some_iff.1 hith).1
   have mth := List.mem_of_getElem? hith
   obtain ⟨bk20, ok21, lk22, Hk23⟩ := vg (jq (hM.has 0 rfl)).1 (fun x hx => Dt.keep (h0.trans (hM.bel.mono h0.size)) _ (hIt.rd x hx)) hith
   refine qa (v := .pointer (some ⟨bk20, ok21 + 0 * 11, none⟩)) hA rfl rfl rfl (zh (k := 0) Tryz.underlying28 (by kernel_rfl) rfl rfl (by first | rfl | omega) lk22 hlth) ?_
   intro a hA
   refine qa (v := .pointer (some ⟨bk20, ok21 + 0 * 11 + 8, none⟩)) hA rfl rfl rfl (qi JcO_fld_30_3 rfl rfl) ?_
   intro a hA
   refine qa hA rfl rfl rfl (vl (j := 8) (Mg.start _) Hk23 JcO_is1_9 rfl rfl rfl) ?_
   intro a hA
   refine qf ?_
   refine hK19 _ _ ?_
   refine wp_block ?_
   refine wp_seq_k (fun K24 hK24 => ?_)
   refine wp_region_lit ?_
   rcases Bool.eq_false_or_eq_true (decide (th.d.s = ⟨#[62, 61]⟩)) with hb25 | hb25
   · have hb25' := of_decide_eq_true hb25
     refine qa (v := .bool true) hA rfl rfl rfl (qg rfl rfl (fun w => (zq Tryz.underlying9 w).trans (by rw [hb25] <;> rfl))) ?_
     intro a hA
     refine qa hA rfl rfl rfl (qb rfl) ?_
     intro a hA
     refine qf ?_
     refine hK24 _ _ ?_
     refine wp_cond_true (hA.ev rfl) ?_
     refine wp_seq_k (fun K26 hK26 => ?_)
     refine wp_region_lit ?_
     refine qa hA rfl rfl rfl (qe rfl) ?_
     intro a hA
     refine qa hA rfl rfl rfl (qe rfl) ?_
     intro a hA
     have ewGe : zj xs = wGe := (ze hith).trans (of_decide_eq_true hb25)
     have h8 := hp
     rw [sf_ge hn9 ha9 hw9 ewGe] at h8
     have h7 := two_bound h8
     rw [List.length_map, List.length_drop] at h7
     have hl2 : xs.length = 2 := by omega
     obtain ⟨ta, hita⟩ : ∃ t, xs[1]? = some t := ⟨_, List.getElem?_eq_getElem (by omega)⟩
     have hlta := (List.getElem?_eq_some_iff.1 hita).1
     have mta := List.mem_of_getElem? hita
     obtain ⟨bk27, ok28, lk29, Hk30⟩ := vg (jq (hM.has 0 rfl)).1 (fun x hx => Dt.keep (h0.trans (hM.bel.mono h0.size)) _ (hIt.rd x hx)) hita
     refine qa (v := .pointer (some ⟨bk27, ok28 + 1 * 11, none⟩)) hA rfl rfl rfl (zh (k := 1) Tryz.underlying28 (by kernel_rfl) rfl rfl (by first | rfl | omega) lk29 hlta) ?_
     intro a hA
     refine qa hA rfl rfl rfl (jg (Mg.start _) Hk30 JcO_isS_30 rfl rfl) ?_
     intro a hA
     refine qm hA rfl rfl rfl (qh rfl rfl (fun w => by kernel_rfl)) (vz (Dt.keep (h0.trans (hM.bel.mono h0.size)) _ (hIt.rd _ mta)) (hIt.sh _ mta)) ?_
     rintro _ w32 ⟨rfl, hb31⟩
     replace hM := hM.call hb31
     refine ⟨_, rfl, ?_⟩
     intro a hA
     rcases Bool.eq_false_or_eq_true (decide ((nN (jc ta.tr)) ≤ z)) with hb33 | hb33
     · have hb33' := of_decide_eq_true hb33
       refine qa (v := .bool true) hA rfl rfl rfl (qg rfl rfl (fun w => (ju w).trans (by rw [hb33]))) ?_
       intro a hA
       refine qa hA rfl rfl rfl (qb rfl) ?_
       intro a hA
       refine qf ?_
       refine hK26 _ _ ?_
       refine wp_ret ?_
       refine hret _ _ ?_
       refine za (v := .bool true) hA rfl (.cons (qk rfl) .nil) rfl ?_
       rw [xd hl2 hita, List.map_singleton, xx, Option.isSome_map] at h8
       obtain ⟨b9, hb9⟩ := Option.isSome_iff_exists.1 h8
       have h6 := hb33
       rw [hb9] at h6
       have e9 : vF (zy (n + 1) t.tr) z = true := by
         rw [sf_ge hn9 ha9 hw9 ewGe, xd hl2 hita, List.map_singleton, xx, hb9]; exact h6
       exact ⟨by rw [e9], hM.bel⟩
     · have hb33' := of_decide_eq_false hb33
       refine qa (v := .bool false) hA rfl rfl rfl (qg rfl rfl (fun w => (ju w).trans (by rw [hb33]))) ?_
       intro a hA
       refine qa hA rfl rfl rfl (qb rfl) ?_
       intro a hA
       refine qf ?_
       refine hK26 _ _ ?_
       refine wp_ret ?_
       refine hret _ _ ?_
       refine za (v := .bool false) hA rfl (.cons (qk rfl) .nil) rfl ?_
       rw [xd hl2 hita, List.map_singleton, xx, Option.isSome_map] at h8
       obtain ⟨b9, hb9⟩ := Option.isSome_iff_exists.1 h8
       have h6 := hb33
       rw [hb9] at h6
       have e9 : vF (zy (n + 1) t.tr) z = false := by
         rw [sf_ge hn9 ha9 hw9 ewGe, xd hl2 hita, List.map_singleton, xx, hb9]; exact h6
       exact ⟨by rw [e9], hM.bel⟩
   · have hb25' := of_decide_eq_false hb25
     refine qa (v := .bool false) hA rfl rfl rfl (qg rfl rfl (fun w => (zq Tryz.underlying9 w).trans (by rw [hb25] <;> rfl))) ?_
     intro a hA
     refine qa hA rfl rfl rfl (qb rfl) ?_
     intro a hA
     refine qf ?_
     refine hK24 _ _ ?_
     refine wp_cond_false (hA.ev rfl) ?_
     refine wp_seq_k (fun K34 hK34 => ?_)
     refine wp_region_lit ?_
     rcases Bool.eq_false_or_eq_true (decide (th.d.s = ⟨#[60, 61]⟩)) with hb35 | hb35
     · have hb35' := of_decide_eq_true hb35
       refine qa (v := .bool true) hA rfl rfl rfl (qg rfl rfl (fun w => (zq Tryz.underlying9 w).trans (by rw [hb35] <;> rfl))) ?_
       intro a hA
       refine qa hA rfl rfl rfl (qb rfl) ?_
       intro a hA
       refine qf ?_
       refine hK34 _ _ ?_
       refine wp_cond_true (hA.ev rfl) ?_
       refine wp_seq_k (fun K36 hK36 => ?_)
       refine wp_region_lit ?_
       refine qa hA rfl rfl rfl (qe rfl) ?_
       intro a hA
       refine qa hA rfl rfl rfl (qe rfl) ?_
       intro a hA
       have ewGe : zj xs ≠ wGe := fun h9 => of_decide_eq_false hb25 ((ze hith).symm.trans h9)
       have ewLe : zj xs = wLe := (ze hith).trans (of_decide_eq_true hb35)
       have h8 := hp
       rw [sf_le hn9 ha9 hw9 ewLe] at h8
       have h7 := two_bound h8
       rw [List.length_map, List.length_drop] at h7
       have hl2 : xs.length = 2 := by omega
       obtain ⟨ta, hita⟩ : ∃ t, xs[1]? = some t := ⟨_, List.getElem?_eq_getElem (by omega)⟩
       have hlta := (List.getElem?_eq_some_iff.1 hita).1
       have mta := List.mem_of_getElem? hita
       obtain ⟨bk37, ok38, lk39, Hk40⟩ := vg (jq (hM.has 0 rfl)).1 (fun x hx => Dt.keep (h0.trans (hM.bel.mono h0.size)) _ (hIt.rd x hx)) hita
       refine qa (v := .pointer (some ⟨bk37, ok38 + 1 * 11, none⟩)) hA rfl rfl rfl (zh (k := 1) Tryz.underlying28 (by kernel_rfl) rfl rfl (by first | rfl | omega) lk39 hlta) ?_
       intro a hA
       refine qa hA rfl rfl rfl (jg (Mg.start _) Hk40 JcO_isS_30 rfl rfl) ?_
       intro a hA
       refine qm hA rfl rfl rfl (qh rfl rfl (fun w => by kernel_rfl)) (vz (Dt.keep (h0.trans (hM.bel.mono h0.size)) _ (hIt.rd _ mta)) (hIt.sh _ mta)) ?_
       rintro _ w42 ⟨rfl, hb41⟩
       replace hM := hM.call hb41
       refine ⟨_, rfl, ?_⟩
       intro a hA
       rcases Bool.eq_false_or_eq_true (decide (z ≤ (nN (jc ta.tr)))) with hb43 | hb43
       · have hb43' := of_decide_eq_true hb43
         refine qa (v := .bool true) hA rfl rfl rfl (qg rfl rfl (fun w => (vp w).trans (by rw [hb43]))) ?_
         intro a hA
         refine qa hA rfl rfl rfl (qb rfl) ?_
         intro a hA
         refine qf ?_
         refine hK36 _ _ ?_
         refine wp_ret ?_
         refine hret _ _ ?_
         refine za (v := .bool true) hA rfl (.cons (qk rfl) .nil) rfl ?_
         rw [xd hl2 hita, List.map_singleton, xx, Option.isSome_map] at h8
         obtain ⟨b9, hb9⟩ := Option.isSome_iff_exists.1 h8
         have h6 := hb43
         rw [hb9] at h6
         have e9 : vF (zy (n + 1) t.tr) z = true := by
           rw [sf_le hn9 ha9 hw9 ewLe, xd hl2 hita, List.map_singleton, xx, hb9]; exact h6
         exact ⟨by rw [e9], hM.bel⟩
       · have hb43' := of_decide_eq_false hb43
         refine qa (v := .bool false) hA rfl rfl rfl (qg rfl rfl (fun w => (vp w).trans (by rw [hb43]))) ?_
         intro a hA
         refine qa hA rfl rfl rfl (qb rfl) ?_
         intro a hA
         refine qf ?_
         refine hK36 _ _ ?_
         refine wp_ret ?_
         refine hret _ _ ?_
         refine za (v := .bool false) hA rfl (.cons (qk rfl) .nil) rfl ?_
         rw [xd hl2 hita, List.map_singleton, xx, Option.isSome_map] at h8
         obtain ⟨b9, hb9⟩ := Option.isSome_iff_exists.1 h8
         have h6 := hb43
         rw [hb9] at h6
         have e9 : vF (zy (n + 1) t.tr) z = false := by
           rw [sf_le hn9 ha9 hw9 ewLe, xd hl2 hita, List.map_singleton, xx, hb9]; exact h6
         exact ⟨by rw [e9], hM.bel⟩
     · have hb35' := of_decide_eq_false hb35
       refine qa (v := .bool false) hA rfl rfl rfl (qg rfl rfl (fun w => (zq Tryz.underlying9 w).trans (by rw [hb35] <;> rfl))) ?_
       intro a hA
       refine qa hA rfl rfl rfl (qb rfl) ?_
       intro a hA
       refine qf ?_
       refine hK34 _ _ ?_
       refine wp_cond_false (hA.ev rfl) ?_
       refine wp_seq_k (fun K44 hK44 => ?_)
       refine wp_region_lit ?_
       rcases Bool.eq_false_or_eq_true (decide (th.d.s = ⟨#[110, 111, 116]⟩)) with hb45 | hb45
       · have hb45' := of_decide_eq_true hb45
         refine qa (v := .bool true) hA rfl rfl rfl (qg rfl rfl (fun w => (zq Tryz.underlying9 w).trans (by rw [hb45] <;> rfl))) ?_
         intro a hA
         refine qa hA rfl rfl rfl (qb rfl) ?_
         intro a hA
         refine qf ?_
         refine hK44 _ _ ?_
         refine wp_cond_true (hA.ev rfl) ?_
         refine wp_seq_k (fun K46 hK46 => ?_)
         refine wp_region_lit ?_
         refine qa hA rfl rfl rfl (qe rfl) ?_
         intro a hA
         refine qa hA rfl rfl rfl (qe rfl) ?_
         intro a hA
         have ewGe : zj xs ≠ wGe := fun h9 => of_decide_eq_false hb25 ((ze hith).symm.trans h9)
         have ewLe : zj xs ≠ wLe := fun h9 => of_decide_eq_false hb35 ((ze hith).symm.trans h9)
         have ewNot : zj xs = kg := (ze hith).trans (of_decide_eq_true hb45)
         have h8 := hp
         rw [xe hn9 ha9 hw9 ewGe ewLe, ewNot] at h8
         have h7 := two_not h8
         rw [List.length_map, List.length_drop] at h7
         have hl2 : xs.length = 2 := by omega
         obtain ⟨ta, hita⟩ : ∃ t, xs[1]? = some t := ⟨_, List.getElem?_eq_getElem (by omega)⟩
         have hlta := (List.getElem?_eq_some_iff.1 hita).1
         have mta := List.mem_of_getElem? hita
         obtain ⟨bk47, ok48, lk49, Hk50⟩ := vg (jq (hM.has 0 rfl)).1 (fun x hx => Dt.keep (h0.trans (hM.bel.mono h0.size)) _ (hIt.rd x hx)) hita
         refine qa (v := .pointer (some ⟨bk47, ok48 + 1 * 11, none⟩)) hA rfl rfl rfl (zh (k := 1) Tryz.underlying28 (by kernel_rfl) rfl rfl (by first | rfl | omega) lk49 hlta) ?_
         intro a hA
         refine qa hA rfl rfl rfl (jg (Mg.start _) Hk50 JcO_isS_30 rfl rfl) ?_
         intro a hA
         have hj9 := hp
         rw [xe hn9 ha9 hw9 ewGe ewLe, ewNot, xd hl2 hita, List.map_singleton, ui] at hj9
         rcases Bool.eq_false_or_eq_true (vF (zy n ta.tr) z) with hb51 | hb51
         · refine qm hA rfl rfl rfl (qh rfl rfl (fun w => by kernel_rfl)) (ih (h0.trans (hM.bel.mono h0.size)) (hIt.rd _ mta) (hIt.sh _ mta) (by have := hIt.lt _ mta; omega) hj9 hb51) ?_
           rintro _ w53 ⟨rfl, hb52⟩
           replace hM := hM.call hb52
           refine ⟨_, rfl, ?_⟩
           intro a hA
           refine qa (v := .bool false) hA rfl rfl rfl (qp rfl qt) ?_
           intro a hA
           refine qa hA rfl rfl rfl (qb rfl) ?_
           intro a hA
           refine qf ?_
           refine hK46 _ _ ?_
           refine wp_ret ?_
           refine hret _ _ ?_
           refine za (v := .bool false) hA rfl (.cons (qk rfl) .nil) rfl ?_
           have e9 : vF (zy (n + 1) t.tr) z = false := by
             rw [xe hn9 ha9 hw9 ewGe ewLe, ewNot, xd hl2 hita, List.map_singleton, qhi hj9, hb51]; rfl
           exact ⟨by rw [e9], hM.bel⟩
         · refine qm hA rfl rfl rfl (qh rfl rfl (fun w => by kernel_rfl)) (ih (h0.trans (hM.bel.mono h0.size)) (hIt.rd _ mta) (hIt.sh _ mta) (by have := hIt.lt _ mta; omega) hj9 hb51) ?_
           rintro _ w55 ⟨rfl, hb54⟩
           replace hM := hM.call hb54
           refine ⟨_, rfl, ?_⟩
           intro a hA
           refine qa (v := .bool true) hA rfl rfl rfl (qp rfl qt) ?_
           intro a hA
           refine qa hA rfl rfl rfl (qb rfl) ?_
           intro a hA
           refine qf ?_
           refine hK46 _ _ ?_
           refine wp_ret ?_
           refine hret _ _ ?_
           refine za (v := .bool true) hA rfl (.cons (qk rfl) .nil) rfl ?_
           have e9 : vF (zy (n + 1) t.tr) z = true := by
             rw [xe hn9 ha9 hw9 ewGe ewLe, ewNot, xd hl2 hita, List.map_singleton, qhi hj9, hb51]; rfl
           exact ⟨by rw [e9], hM.bel⟩
       · have hb45' := of_decide_eq_false hb45
         refine qa (v := .bool false) hA rfl rfl rfl (qg rfl rfl (fun w => (zq Tryz.underlying9 w).trans (by rw [hb45] <;> rfl))) ?_
         intro a hA
         refine qa hA rfl rfl rfl (qb rfl) ?_
         intro a hA
         refine qf ?_
         refine hK44 _ _ ?_
         refine wp_cond_false (hA.ev rfl) ?_
         refine wp_seq_k (fun K56 hK56 => ?_)
         refine wp_region_lit ?_
         rcases Bool.eq_false_or_eq_true (decide (th.d.s = ⟨#[97, 110, 100]⟩)) with hb57 | hb57
         · have hb57' := of_decide_eq_true hb57
           refine qa (v := .bool true) hA rfl rfl rfl (qg rfl rfl (fun w => (zq Tryz.underlying9 w).trans (by rw [hb57] <;> rfl))) ?_
           intro a hA
           refine qa hA rfl rfl rfl (qb rfl) ?_
           intro a hA
           refine qf ?_
           refine hK56 _ _ ?_
           refine wp_cond_true (hA.ev rfl) ?_
           refine wp_seq_k (fun K58 hK58 => ?_)
           refine wp_seq_k (fun K59 hK59 => ?_)
           refine wp_region_lit ?_
           refine qa hA rfl rfl rfl (qb rfl) ?_
           intro a hA
           refine qf ?_
           refine hK59 _ _ ?_
           refine wp_block ?_
           refine jd (fun m_ a w1 => ∃ (i : Nat), m_ = 1 + (xs.length - i) ∧ (1 ≤ i ∧ ∀ (j : Nat) u, 1 ≤ j → j < i → xs[j]? = some u → vF (zy n u.tr) z = true) ∧ Sl a 76 [(0, .int .i64 z), (1, .agg (t.d.cells t.ts.length).toArray), (3, .pointer (some ⟨g2, 0, none⟩)), (5, .slice so14 xs.length ca15), (6, .bool ((zw t.tr).isSome)), (7, .int .i64 (((i : Nat) : Int))), (9, .agg (t.d.cells t.ts.length).toArray), (10, .int .i64 ((nN (jc t.tr)))), (11, .bool false), (16, .tuple #[.slice so14 xs.length ca15, .bool ((zw t.tr).isSome)]), (17, .agg (t.d.cells t.ts.length).toArray), (18, .tuple #[.slice so14 xs.length ca15, .bool ((zw t.tr).isSome)]), (19, .slice so14 xs.length ca15), (20, .bool ((zw t.tr).isSome)), (21, .slice so14 xs.length ca15), (22, .pointer (some ⟨bk20, ok21 + 0 * 11, none⟩)), (23, .pointer (some ⟨bk20, ok21 + 0 * 11 + 8, none⟩)), (24, .string th.d.s), (25, .bool false), (26, .bool false), (33, .bool false), (34, .bool false), (41, .bool false), (42, .bool false), (49, .bool true), (50, .bool true)] ∧ Mg w w1 (.row 30 11 (.slice so14 xs.length ca15) xs.length (cellsOf xs) :: .obj g2 (.cells (t.d.cells t.ts.length).toArray 30) :: [])) _ ⟨1, rfl, ⟨Nat.le_refl _, fun j u h1 h2 => absurd h1 (by omega)⟩, hA.keep _ (by repeat' constructor), hM⟩ ?_
           clear hM hA
           rintro m_ a w60 ⟨i, rfl, hinv62, hA, hM⟩ K61 hK61
           obtain ⟨hi0, hin9⟩ := hinv62
           refine wp_seq_k (fun K63 hK63 => ?_)
           refine wp_seq_k (fun K64 hK64 => ?_)
           refine wp_region_lit ?_
           refine qa hA rfl rfl rfl (qe rfl) ?_
           intro a hA
           refine qa hA rfl rfl rfl (qe rfl) ?_
           intro a hA
           refine qa (v := .int .i64 (((xs.length : Nat) : Int))) hA rfl rfl rfl (zb Tryz.underlying28 rfl) ?_
           intro a hA
           rcases Bool.eq_false_or_eq_true (decide (((i : Nat) : Int) < ((xs.length : Nat) : Int))) with hb65 | hb65
           · have hb65' := of_decide_eq_true hb65
             refine qa (v := .bool true) hA rfl rfl rfl (qg rfl rfl (fun w => (zk w).trans (by rw [hb65]))) ?_
             intro a hA
             refine qf ?_
             refine hK64 _ _ ?_
             refine wp_cond_true (hA.ev rfl) ?_
             refine wp_skip ?_
             refine hK63 _ _ ?_
             refine wp_seq_k (fun K66 hK66 => ?_)
             refine wp_block ?_
             refine wp_seq_k (fun K67 hK67 => ?_)
             refine wp_region_lit ?_
             refine qa hA rfl rfl rfl (qe rfl) ?_
             intro a hA
             refine qa hA rfl rfl rfl (qe rfl) ?_
             intro a hA
             refine qa hA rfl rfl rfl (qe rfl) ?_
             intro a hA
             obtain ⟨ti, hiti⟩ : ∃ t, xs[i]? = some t := ⟨_, List.getElem?_eq_getElem (by omega)⟩
             have hlti := (List.getElem?_eq_some_iff.1 hiti).1
             have mti := List.mem_of_getElem? hiti
             obtain ⟨bk68, ok69, lk70, Hk71⟩ := vg (jq (hM.has 0 rfl)).1 (fun x hx => Dt.keep (h0.trans (hM.bel.mono h0.size)) _ (hIt.rd x hx)) hiti
             refine qa (v := .pointer (some ⟨bk68, ok69 + i * 11, none⟩)) hA rfl rfl rfl (zh (k := i) Tryz.underlying28 (by kernel_rfl) rfl rfl (by first | rfl | omega) lk70 hlti) ?_
             intro a hA
             refine qa hA rfl rfl rfl (jg (Mg.start _) Hk71 JcO_isS_30 rfl rfl) ?_
             intro a hA
             have ewGe : zj xs ≠ wGe := fun h9 => of_decide_eq_false hb25 ((ze hith).symm.trans h9)
             have ewLe : zj xs ≠ wLe := fun h9 => of_decide_eq_false hb35 ((ze hith).symm.trans h9)
             have ewNot : zj xs ≠ kg := fun h9 => of_decide_eq_false hb45 ((ze hith).symm.trans h9)
             have ewAnd : zj xs = vu := (ze hith).trans (of_decide_eq_true hb57)
             have hj9 : (zy n ti.tr).isSome = true := qbg (g := fun x : Dt => zy n x.tr) (s := 1) (yt (by rw [← xe hn9 ha9 hw9 ewGe ewLe]; exact hp)) hi0 hiti
             rcases Bool.eq_false_or_eq_true (vF (zy n ti.tr) z) with hb72 | hb72
             · refine qm hA rfl rfl rfl (qh rfl rfl (fun w => by kernel_rfl)) (ih (h0.trans (hM.bel.mono h0.size)) (hIt.rd _ mti) (hIt.sh _ mti) (by have := hIt.lt _ mti; omega) hj9 hb72) ?_
               rintro _ w74 ⟨rfl, hb73⟩
               replace hM := hM.call hb73
               refine ⟨_, rfl, ?_⟩
               intro a hA
               refine qa (v := .bool false) hA rfl rfl rfl (qp rfl qt) ?_
               intro a hA
               refine qf ?_
               refine hK67 _ _ ?_
               refine wp_cond_false (hA.ev rfl) ?_
               refine wp_skip ?_
               refine hK66 _ _ ?_
               refine wp_region_lit ?_
               refine qa hA rfl rfl rfl (qe rfl) ?_
               intro a hA
               refine qa (v := .int .i64 (((i + 1 : Nat) : Int))) hA rfl rfl rfl (qg rfl rfl (ar_add ((in_i64 (by omega) (by omega)).trans (by omega)))) ?_
               intro a hA
               refine qa hA rfl rfl rfl (qb rfl) ?_
               intro a hA
               refine qf ?_
               refine hK61 _ _ _ (by omega) ⟨i + 1, rfl, ⟨by omega, din (p := fun u : Dt => vF (zy n u.tr) z) hin9 hiti hb72⟩, hA.keep _ (by repeat' constructor), hM⟩
             · refine qm hA rfl rfl rfl (qh rfl rfl (fun w => by kernel_rfl)) (ih (h0.trans (hM.bel.mono h0.size)) (hIt.rd _ mti) (hIt.sh _ mti) (by have := hIt.lt _ mti; omega) hj9 hb72) ?_
               rintro _ w76 ⟨rfl, hb75⟩
               replace hM := hM.call hb75
               refine ⟨_, rfl, ?_⟩
               intro a hA
               refine qa (v := .bool true) hA rfl rfl rfl (qp rfl qt) ?_
               intro a hA
               refine qf ?_
               refine hK67 _ _ ?_
               refine wp_cond_true (hA.ev rfl) ?_
               refine wp_seq_k (fun K77 hK77 => ?_)
               refine wp_region_lit ?_
               refine qa hA rfl rfl rfl (qb rfl) ?_
               intro a hA
               refine qf ?_
               refine hK77 _ _ ?_
               refine wp_ret ?_
               refine hret _ _ ?_
               refine za (v := .bool false) hA rfl (.cons (qk rfl) .nil) rfl ?_
               have hjo := hp
               rw [xe hn9 ha9 hw9 ewGe ewLe, ewAnd] at hjo
               have e9 : vF (zy (n + 1) t.tr) z = false := by
                 rw [xe hn9 ha9 hw9 ewGe ewLe, ewAnd, and_at hjo]; exact dnot hi0 hiti hb72
               exact ⟨by rw [e9], hM.bel⟩
           · have hb65' := of_decide_eq_false hb65
             refine qa (v := .bool false) hA rfl rfl rfl (qg rfl rfl (fun w => (zk w).trans (by rw [hb65]))) ?_
             intro a hA
             refine qf ?_
             refine hK64 _ _ ?_
             refine wp_cond_false (hA.ev rfl) ?_
             refine wp_exit ?_
             refine hK58 _ _ ?_
             refine wp_seq_k (fun K78 hK78 => ?_)
             refine wp_region_lit ?_
             refine qa hA rfl rfl rfl (qb rfl) ?_
             intro a hA
             refine qf ?_
             refine hK78 _ _ ?_
             refine wp_ret ?_
             refine hret _ _ ?_
             refine za (v := .bool true) hA rfl (.cons (qk rfl) .nil) rfl ?_
             have ewGe : zj xs ≠ wGe := fun h9 => of_decide_eq_false hb25 ((ze hith).symm.trans h9)
             have ewLe : zj xs ≠ wLe := fun h9 => of_decide_eq_false hb35 ((ze hith).symm.trans h9)
             have ewNot : zj xs ≠ kg := fun h9 => of_decide_eq_false hb45 ((ze hith).symm.trans h9)
             have ewAnd : zj xs = vu := (ze hith).trans (of_decide_eq_true hb57)
             have hjo := hp
             rw [xe hn9 ha9 hw9 ewGe ewLe, ewAnd] at hjo
             have e9 : vF (zy (n + 1) t.tr) z = true := by
               rw [xe hn9 ha9 hw9 ewGe ewLe, ewAnd, and_at hjo]; exact dall hin9 (by omega)
             exact ⟨by rw [e9], hM.bel⟩
         · have hb57' := of_decide_eq_false hb57
           refine qa (v := .bool false) hA rfl rfl rfl (qg rfl rfl (fun w => (zq Tryz.underlying9 w).trans (by rw [hb57] <;> rfl))) ?_
           intro a hA
           refine qa hA rfl rfl rfl (qb rfl) ?_
           intro a hA
           refine qf ?_
           refine hK56 _ _ ?_
           refine wp_cond_false (hA.ev rfl) ?_
           refine wp_skip ?_
           refine hK18 _ _ ?_
           refine wp_seq_k (fun K79 hK79 => ?_)
           refine wp_seq_k (fun K80 hK80 => ?_)
           refine wp_region_lit ?_
           refine qa hA rfl rfl rfl (qb rfl) ?_
           intro a hA
           refine qf ?_
           refine hK80 _ _ ?_
           refine wp_block ?_
           refine jd (fun m_ a w1 => ∃ (i : Nat), m_ = 1 + (xs.length - i) ∧ (1 ≤ i ∧ ∀ (j : Nat) u, 1 ≤ j → j < i → xs[j]? = some u → vF (zy n u.tr) z = false) ∧ Sl a 76 [(0, .int .i64 z), (1, .agg (t.d.cells t.ts.length).toArray), (3, .pointer (some ⟨g2, 0, none⟩)), (5, .slice so14 xs.length ca15), (6, .bool ((zw t.tr).isSome)), (8, .int .i64 (((i : Nat) : Int))), (9, .agg (t.d.cells t.ts.length).toArray), (10, .int .i64 ((nN (jc t.tr)))), (11, .bool false), (16, .tuple #[.slice so14 xs.length ca15, .bool ((zw t.tr).isSome)]), (17, .agg (t.d.cells t.ts.length).toArray), (18, .tuple #[.slice so14 xs.length ca15, .bool ((zw t.tr).isSome)]), (19, .slice so14 xs.length ca15), (20, .bool ((zw t.tr).isSome)), (21, .slice so14 xs.length ca15), (22, .pointer (some ⟨bk20, ok21 + 0 * 11, none⟩)), (23, .pointer (some ⟨bk20, ok21 + 0 * 11 + 8, none⟩)), (24, .string th.d.s), (25, .bool false), (26, .bool false), (33, .bool false), (34, .bool false), (41, .bool false), (42, .bool false), (49, .bool false), (50, .bool false)] ∧ Mg w w1 (.row 30 11 (.slice so14 xs.length ca15) xs.length (cellsOf xs) :: .obj g2 (.cells (t.d.cells t.ts.length).toArray 30) :: [])) _ ⟨1, rfl, ⟨Nat.le_refl _, fun j u h1 h2 => absurd h1 (by omega)⟩, hA.keep _ (by repeat' constructor), hM⟩ ?_
           clear hM hA
           rintro m_ a w81 ⟨i, rfl, hinv83, hA, hM⟩ K82 hK82
           obtain ⟨hi0, hin9⟩ := hinv83
           refine wp_seq_k (fun K84 hK84 => ?_)
           refine wp_seq_k (fun K85 hK85 => ?_)
           refine wp_region_lit ?_
           refine qa hA rfl rfl rfl (qe rfl) ?_
           intro a hA
           refine qa hA rfl rfl rfl (qe rfl) ?_
           intro a hA
           refine qa (v := .int .i64 (((xs.length : Nat) : Int))) hA rfl rfl rfl (zb Tryz.underlying28 rfl) ?_
           intro a hA
           rcases Bool.eq_false_or_eq_true (decide (((i : Nat) : Int) < ((xs.length : Nat) : Int))) with hb86 | hb86
           · have hb86' := of_decide_eq_true hb86
             refine qa (v := .bool true) hA rfl rfl rfl (qg rfl rfl (fun w => (zk w).trans (by rw [hb86]))) ?_
             intro a hA
             refine qf ?_
             refine hK85 _ _ ?_
             refine wp_cond_true (hA.ev rfl) ?_
             refine wp_skip ?_
             refine hK84 _ _ ?_
             refine wp_seq_k (fun K87 hK87 => ?_)
             refine wp_block ?_
             refine wp_seq_k (fun K88 hK88 => ?_)
             refine wp_region_lit ?_
             refine qa hA rfl rfl rfl (qe rfl) ?_
             intro a hA
             refine qa hA rfl rfl rfl (qe rfl) ?_
             intro a hA
             refine qa hA rfl rfl rfl (qe rfl) ?_
             intro a hA
             obtain ⟨ti, hiti⟩ : ∃ t, xs[i]? = some t := ⟨_, List.getElem?_eq_getElem (by omega)⟩
             have hlti := (List.getElem?_eq_some_iff.1 hiti).1
             have mti := List.mem_of_getElem? hiti
             obtain ⟨bk89, ok90, lk91, Hk92⟩ := vg (jq (hM.has 0 rfl)).1 (fun x hx => Dt.keep (h0.trans (hM.bel.mono h0.size)) _ (hIt.rd x hx)) hiti
             refine qa (v := .pointer (some ⟨bk89, ok90 + i * 11, none⟩)) hA rfl rfl rfl (zh (k := i) Tryz.underlying28 (by kernel_rfl) rfl rfl (by first | rfl | omega) lk91 hlti) ?_
             intro a hA
             refine qa hA rfl rfl rfl (jg (Mg.start _) Hk92 JcO_isS_30 rfl rfl) ?_
             intro a hA
             have ewGe : zj xs ≠ wGe := fun h9 => of_decide_eq_false hb25 ((ze hith).symm.trans h9)
             have ewLe : zj xs ≠ wLe := fun h9 => of_decide_eq_false hb35 ((ze hith).symm.trans h9)
             have ewNot : zj xs ≠ kg := fun h9 => of_decide_eq_false hb45 ((ze hith).symm.trans h9)
             have ewAnd : zj xs ≠ vu := fun h9 => of_decide_eq_false hb57 ((ze hith).symm.trans h9)
             have hj9 : (zy n ti.tr).isSome = true := qbg (g := fun x : Dt => zy n x.tr) (s := 1) (yt (by rw [← xe hn9 ha9 hw9 ewGe ewLe]; exact hp)) hi0 hiti
             rcases Bool.eq_false_or_eq_true (vF (zy n ti.tr) z) with hb93 | hb93
             · refine qm hA rfl rfl rfl (qh rfl rfl (fun w => by kernel_rfl)) (ih (h0.trans (hM.bel.mono h0.size)) (hIt.rd _ mti) (hIt.sh _ mti) (by have := hIt.lt _ mti; omega) hj9 hb93) ?_
               rintro _ w95 ⟨rfl, hb94⟩
               replace hM := hM.call hb94
               refine ⟨_, rfl, ?_⟩
               intro a hA
               refine qf ?_
               refine hK88 _ _ ?_
               refine wp_cond_true (hA.ev rfl) ?_
               refine wp_seq_k (fun K96 hK96 => ?_)
               refine wp_region_lit ?_
               refine qa hA rfl rfl rfl (qb rfl) ?_
               intro a hA
               refine qf ?_
               refine hK96 _ _ ?_
               refine wp_ret ?_
               refine hret _ _ ?_
               refine za (v := .bool true) hA rfl (.cons (qk rfl) .nil) rfl ?_
               have ewOr : zj xs = wOr := Classical.byContradiction fun h7 => by
                 have h8 := hp
                 rw [xe hn9 ha9 hw9 ewGe ewLe, uj ewAnd h7 ewNot] at h8
                 cases h8
               have hjo := hp
               rw [xe hn9 ha9 hw9 ewGe ewLe, ewOr] at hjo
               have e9 : vF (zy (n + 1) t.tr) z = true := by
                 rw [xe hn9 ha9 hw9 ewGe ewLe, ewOr, or_at hjo]; exact dany hi0 hiti hb93
               exact ⟨by rw [e9], hM.bel⟩
             · refine qm hA rfl rfl rfl (qh rfl rfl (fun w => by kernel_rfl)) (ih (h0.trans (hM.bel.mono h0.size)) (hIt.rd _ mti) (hIt.sh _ mti) (by have := hIt.lt _ mti; omega) hj9 hb93) ?_
               rintro _ w98 ⟨rfl, hb97⟩
               replace hM := hM.call hb97
               refine ⟨_, rfl, ?_⟩
               intro a hA
               refine qf ?_
               refine hK88 _ _ ?_
               refine wp_cond_false (hA.ev rfl) ?_
               refine wp_skip ?_
               refine hK87 _ _ ?_
               refine wp_region_lit ?_
               refine qa hA rfl rfl rfl (qe rfl) ?_
               intro a hA
               refine qa (v := .int .i64 (((i + 1 : Nat) : Int))) hA rfl rfl rfl (qg rfl rfl (ar_add ((in_i64 (by omega) (by omega)).trans (by omega)))) ?_
               intro a hA
               refine qa hA rfl rfl rfl (qb rfl) ?_
               intro a hA
               refine qf ?_
               refine hK82 _ _ _ (by omega) ⟨i + 1, rfl, ⟨by omega, din (p := fun u : Dt => vF (zy n u.tr) z) hin9 hiti hb93⟩, hA.keep _ (by repeat' constructor), hM⟩
           · have hb86' := of_decide_eq_false hb86
             refine qa (v := .bool false) hA rfl rfl rfl (qg rfl rfl (fun w => (zk w).trans (by rw [hb86]))) ?_
             intro a hA
             refine qf ?_
             refine hK85 _ _ ?_
             refine wp_cond_false (hA.ev rfl) ?_
             refine wp_exit ?_
             refine hK79 _ _ ?_
             refine wp_seq_k (fun K99 hK99 => ?_)
             refine wp_region_lit ?_
             refine qa hA rfl rfl rfl (qb rfl) ?_
             intro a hA
             refine qf ?_
             refine hK99 _ _ ?_
             refine wp_ret ?_
             refine hret _ _ ?_
             refine za (v := .bool false) hA rfl (.cons (qk rfl) .nil) rfl ?_
             have ewGe : zj xs ≠ wGe := fun h9 => of_decide_eq_false hb25 ((ze hith).symm.trans h9)
             have ewLe : zj xs ≠ wLe := fun h9 => of_decide_eq_false hb35 ((ze hith).symm.trans h9)
             have ewNot : zj xs ≠ kg := fun h9 => of_decide_eq_false hb45 ((ze hith).symm.trans h9)
             have ewAnd : zj xs ≠ vu := fun h9 => of_decide_eq_false hb57 ((ze hith).symm.trans h9)
             have ewOr : zj xs = wOr := Classical.byContradiction fun h7 => by
               have h8 := hp
               rw [xe hn9 ha9 hw9 ewGe ewLe, uj ewAnd h7 ewNot] at h8
               cases h8
             have hjo := hp
             rw [xe hn9 ha9 hw9 ewGe ewLe, ewOr] at hjo
             have e9 : vF (zy (n + 1) t.tr) z = false := by
               rw [xe hn9 ha9 hw9 ewGe ewLe, ewOr, or_at hjo]; exact dnone hin9 (by omega)
             exact ⟨by rw [e9], hM.bel⟩
theorem rfit_all : ∀ n : Nat, n ≤ 4000000 → RFit n
  | 0, _ => by intro h0 ht hs hb; exact absurd (Nat.le_trans (yh _) hb) (Nat.not_succ_le_zero _)
  | n + 1, hn => by intro h0 ht hs hb hp b he; exact he ▸ rfit_any h0 ht hs hb hn hp (rfit_all n (by omega))
theorem rfits_any {w0 w : World} {n : Nat} {t : Dt} (h0 : Below w0.heap.size w0 w) (ht : t.rd w0) (hs : xl zp t.tr = true) (hb : t.tr.bulk ≤ n + 1) (hn : n + 1 ≤ 4000000) {l : List Int} {sv : Option Addr} {cv : Nat} (h0v : Rc w0 sv (izC l)) (hll : l.length ≤ 2000000) (hp : (jj (n + 1) t.tr).isSome = true) (ih : RFits n) (ihs : RFit n) : Calls Tryz.prog 41 #[.slice sv l.length cv, .agg (t.d.cells t.ts.length).toArray] w fun e w' => e = .returned (.bool (vF (jj (n + 1) t.tr) l)) ∧ Below w.heap.size w w' := by
 have hv : Rc w sv (izC l) := h0v.below h0
 have hM : Mg w w ([]) := Mg.start w
 refine qz (l := [(0, .slice sv l.length cv), (1, .agg (t.d.cells t.ts.length).toArray)]) Tryz.func41 rfl Tryz.ntmps41 rfl rfl ?_
 intro Q hret hnorm hP a hA
 refine wp_seq_k (fun K1 hK1 => ?_)
 refine wp_region_lit ?_
 refine jk (vs := (t.d.cells t.ts.length)) (t := 30) hA hM rfl rfl rfl (fun g => .pointer (some ⟨g, 0, none⟩)) (zg rfl rfl) (by decide) ?_
 intro g2 w3 hM a hA
 refine qa hA rfl rfl rfl (qb rfl) ?_
 intro a hA
 refine qf ?_
 refine hK1 _ _ ?_
 refine wp_seq_k (fun K4 hK4 => ?_)
 refine wp_region_lit ?_
 refine qa hA rfl rfl rfl (ja hM JcO_isS_30 rfl 0 rfl (cs := (t.d.cells t.ts.length)) rfl rfl) ?_
 intro a hA
 refine qm hA rfl rfl rfl (qh rfl rfl (fun w => by kernel_rfl)) (ka (h0.trans (hM.bel.mono h0.size)) ht hs (by omega)) ?_
 rintro _ w8 ⟨so5, ca6, xs, rfl, hIt, hM7⟩
 have hle9 := hIt.le
 have ha9 := ref_must hIt hp
 replace hM : Mg w w8 (.row 30 11 (.slice so5 xs.length ca6) xs.length (cellsOf xs) :: .obj g2 (.cells (t.d.cells t.ts.length).toArray 30) :: []) := (hM.both hM7 (qw (by simp) (qy zd)) (qw (by simp) (qy zd)))
 refine ⟨_, rfl, ?_⟩
 intro a hA
 refine qa hA rfl rfl rfl (qe rfl) ?_
 intro a hA
 refine qa (v := .slice so5 xs.length ca6) hA rfl rfl rfl (qn (vs := [.slice so5 xs.length ca6, .bool ((zw t.tr).isSome)]) rfl rfl) ?_
 intro a hA
 refine qa (v := .bool ((zw t.tr).isSome)) hA rfl rfl rfl (qn (vs := [.slice so5 xs.length ca6, .bool ((zw t.tr).isSome)]) rfl rfl) ?_
 intro a hA
 refine qa hA rfl rfl rfl (qb rfl) ?_
 intro a hA
 refine qa hA rfl rfl rfl (qb rfl) ?_
 intro a hA
 refine qf ?_
 refine hK4 _ _ ?_
 refine wp_seq_k (fun K9 hK9 => ?_)
 refine wp_seq_k (fun K10 hK10 => ?_)
 refine wp_region_lit ?_
 refine qa hA rfl rfl rfl (ja hM JcO_isS_30 rfl 1 rfl (cs := (t.d.cells t.ts.length)) rfl rfl) ?_
 intro a hA
 refine qm hA rfl rfl rfl (qh rfl rfl (fun w => by kernel_rfl)) (rword_any (h0.trans (hM.bel.mono h0.size)) ht hs (by omega)) ?_
 rintro _ w12 ⟨rfl, hb11⟩
 replace hM := hM.call hb11
 refine ⟨_, rfl, ?_⟩
 intro a hA
 refine qf ?_
 refine hK10 _ _ ?_
 refine wp_block ?_
 refine wp_seq_k (fun K13 hK13 => ?_)
 refine wp_region_lit ?_
 rcases Bool.eq_false_or_eq_true (decide (ku t.tr = ⟨#[110, 111, 116]⟩)) with hb14 | hb14
 · have hb14' := of_decide_eq_true hb14
   refine qa (v := .bool true) hA rfl rfl rfl (qg rfl rfl (fun w => (zq Tryz.underlying9 w).trans (by rw [hb14] <;> rfl))) ?_
   intro a hA
   refine qa hA rfl rfl rfl (qb rfl) ?_
   intro a hA
   refine qf ?_
   refine hK13 _ _ ?_
   refine wp_cond_true (hA.ev rfl) ?_
   refine wp_seq_k (fun K15 hK15 => ?_)
   refine wp_region_lit ?_
   refine qa hA rfl rfl rfl (qe rfl) ?_
   intro a hA
   refine qa hA rfl rfl rfl (qe rfl) ?_
   intro a hA
   obtain ⟨hw9, ewNot⟩ := qei (w := kg) ha9 (of_decide_eq_true hb14) (by decide)
   have h8 := hp
   rw [jr ha9 hw9, ewNot] at h8
   have h7 := two_not h8
   rw [List.length_map, List.length_drop] at h7
   have hl2 : xs.length = 2 := by omega
   obtain ⟨ta, hita⟩ : ∃ t, xs[1]? = some t := ⟨_, List.getElem?_eq_getElem (by omega)⟩
   have hlta := (List.getElem?_eq_some_iff.1 hita).1
   have mta := List.mem_of_getElem? hita
   obtain ⟨bk16, ok17, lk18, Hk19⟩ := vg (jq (hM.has 0 rfl)).1 (fun x hx => Dt.keep (h0.trans (hM.bel.mono h0.size)) _ (hIt.rd x hx)) hita
   refine qa (v := .pointer (some ⟨bk16, ok17 + 1 * 11, none⟩)) hA rfl rfl rfl (zh (k := 1) Tryz.underlying28 (by kernel_rfl) rfl rfl (by first | rfl | omega) lk18 hlta) ?_
   intro a hA
   refine qa hA rfl rfl rfl (jg (Mg.start _) Hk19 JcO_isS_30 rfl rfl) ?_
   intro a hA
   have hj9 := hp
   rw [jr ha9 hw9, ewNot, xd hl2 hita, List.map_singleton, ui] at hj9
   rcases Bool.eq_false_or_eq_true (vF (jj n ta.tr) l) with hb20 | hb20
   · refine qm hA rfl rfl rfl (qh rfl rfl (fun w => by kernel_rfl)) (ih (h0.trans (hM.bel.mono h0.size)) (hIt.rd _ mta) (hIt.sh _ mta) (by have := hIt.lt _ mta; omega) h0v hll hj9 hb20) ?_
     rintro _ w22 ⟨rfl, hb21⟩
     replace hM := hM.call hb21
     refine ⟨_, rfl, ?_⟩
     intro a hA
     refine qa (v := .bool false) hA rfl rfl rfl (qp rfl qt) ?_
     intro a hA
     refine qa hA rfl rfl rfl (qb rfl) ?_
     intro a hA
     refine qf ?_
     refine hK15 _ _ ?_
     refine wp_ret ?_
     refine hret _ _ ?_
     refine za (v := .bool false) hA rfl (.cons (qk rfl) .nil) rfl ?_
     have e9 : vF (jj (n + 1) t.tr) l = false := by
       rw [jr ha9 hw9, ewNot, xd hl2 hita, List.map_singleton, qhi hj9, hb20]; rfl
     exact ⟨by rw [e9], hM.bel⟩
   · refine qm hA rfl rfl rfl (qh rfl rfl (fun w => by kernel_rfl)) (ih (h0.trans (hM.bel.mono h0.size)) (hIt.rd _ mta) (hIt.sh _ mta) (by have := hIt.lt _ mta; omega) h0v hll hj9 hb20) ?_
     rintro _ w24 ⟨rfl, hb23⟩
     replace hM := hM.call hb23
     refine ⟨_, rfl, ?_⟩
     intro a hA
     refine qa (v := .bool true) hA rfl rfl rfl (qp rfl qt) ?_
     intro a hA
     refine qa hA rfl rfl rfl (qb rfl) ?_
     intro a hA
     refine qf ?_
     refine hK15 _ _ ?_
     refine wp_ret ?_
     refine hret _ _ ?_
     refine za (v := .bool true) hA rfl (.cons (qk rfl) .nil) rfl ?_
     have e9 : vF (jj (n + 1) t.tr) l = true := by
       rw [jr ha9 hw9, ewNot, xd hl2 hita, List.map_singleton, qhi hj9, hb20]; rfl
     exact ⟨by rw [e9], hM.bel⟩
 · have hb14' := of_decide_eq_false hb14
   refine qa (v := .bool false) hA rfl rfl rfl (qg rfl rfl (fun w => (zq Tryz.underlying9 w).trans (by rw [hb14] <;> rfl))) ?_
   intro a hA
   refine qa hA rfl rfl rfl (qb rfl) ?_
   intro a hA
   refine qf ?_
   refine hK13 _ _ ?_
   refine wp_cond_false (hA.ev rfl) ?_
   refine wp_seq_k (fun K25 hK25 => ?_)
   refine wp_region_lit ?_
   rcases Bool.eq_false_or_eq_true (decide (ku t.tr = ⟨#[97, 110, 100]⟩)) with hb26 | hb26
   · have hb26' := of_decide_eq_true hb26
     refine qa (v := .bool true) hA rfl rfl rfl (qg rfl rfl (fun w => (zq Tryz.underlying9 w).trans (by rw [hb26] <;> rfl))) ?_
     intro a hA
     refine qa hA rfl rfl rfl (qb rfl) ?_
     intro a hA
     refine qf ?_
     refine hK25 _ _ ?_
     refine wp_cond_true (hA.ev rfl) ?_
     refine wp_seq_k (fun K27 hK27 => ?_)
     refine wp_seq_k (fun K28 hK28 => ?_)
     refine wp_region_lit ?_
     refine qa hA rfl rfl rfl (qb rfl) ?_
     intro a hA
     refine qf ?_
     refine hK28 _ _ ?_
     refine wp_block ?_
     refine jd (fun m_ a w1 => ∃ (i : Nat), m_ = 1 + (xs.length - i) ∧ (1 ≤ i ∧ ∀ (j : Nat) u, 1 ≤ j → j < i → xs[j]? = some u → vF (jj n u.tr) l = true) ∧ Sl a 75 [(0, .slice sv l.length cv), (1, .agg (t.d.cells t.ts.length).toArray), (3, .pointer (some ⟨g2, 0, none⟩)), (5, .slice so5 xs.length ca6), (6, .bool ((zw t.tr).isSome)), (7, .int .i64 (((i : Nat) : Int))), (10, .tuple #[.slice so5 xs.length ca6, .bool ((zw t.tr).isSome)]), (11, .agg (t.d.cells t.ts.length).toArray), (12, .tuple #[.slice so5 xs.length ca6, .bool ((zw t.tr).isSome)]), (13, .slice so5 xs.length ca6), (14, .bool ((zw t.tr).isSome)), (15, .agg (t.d.cells t.ts.length).toArray), (16, .string (ku t.tr)), (17, .bool false), (18, .bool false), (25, .bool true), (26, .bool true)] ∧ Mg w w1 (.row 30 11 (.slice so5 xs.length ca6) xs.length (cellsOf xs) :: .obj g2 (.cells (t.d.cells t.ts.length).toArray 30) :: [])) _ ⟨1, rfl, ⟨Nat.le_refl _, fun j u h1 h2 => absurd h1 (by omega)⟩, hA.keep _ (by repeat' constructor), hM⟩ ?_
     clear hM hA
     rintro m_ a w29 ⟨i, rfl, hinv31, hA, hM⟩ K30 hK30
     obtain ⟨hi0, hin9⟩ := hinv31
     refine wp_seq_k (fun K32 hK32 => ?_)
     refine wp_seq_k (fun K33 hK33 => ?_)
     refine wp_region_lit ?_
     refine qa hA rfl rfl rfl (qe rfl) ?_
     intro a hA
     refine qa hA rfl rfl rfl (qe rfl) ?_
     intro a hA
     refine qa (v := .int .i64 (((xs.length : Nat) : Int))) hA rfl rfl rfl (zb Tryz.underlying28 rfl) ?_
     intro a hA
     rcases Bool.eq_false_or_eq_true (decide (((i : Nat) : Int) < ((xs.length : Nat) : Int))) with hb34 | hb34
     · have hb34' := of_decide_eq_true hb34
       refine qa (v := .bool true) hA rfl rfl rfl (qg rfl rfl (fun w => (zk w).trans (by rw [hb34]))) ?_
       intro a hA
       refine qf ?_
       refine hK33 _ _ ?_
       refine wp_cond_true (hA.ev rfl) ?_
       refine wp_skip ?_
       refine hK32 _ _ ?_
       refine wp_seq_k (fun K35 hK35 => ?_)
       refine wp_block ?_
       refine wp_seq_k (fun K36 hK36 => ?_)
       refine wp_region_lit ?_
       refine qa hA rfl rfl rfl (qe rfl) ?_
       intro a hA
       refine qa hA rfl rfl rfl (qe rfl) ?_
       intro a hA
       refine qa hA rfl rfl rfl (qe rfl) ?_
       intro a hA
       obtain ⟨ti, hiti⟩ : ∃ t, xs[i]? = some t := ⟨_, List.getElem?_eq_getElem (by omega)⟩
       have hlti := (List.getElem?_eq_some_iff.1 hiti).1
       have mti := List.mem_of_getElem? hiti
       obtain ⟨bk37, ok38, lk39, Hk40⟩ := vg (jq (hM.has 0 rfl)).1 (fun x hx => Dt.keep (h0.trans (hM.bel.mono h0.size)) _ (hIt.rd x hx)) hiti
       refine qa (v := .pointer (some ⟨bk37, ok38 + i * 11, none⟩)) hA rfl rfl rfl (zh (k := i) Tryz.underlying28 (by kernel_rfl) rfl rfl (by first | rfl | omega) lk39 hlti) ?_
       intro a hA
       refine qa hA rfl rfl rfl (jg (Mg.start _) Hk40 JcO_isS_30 rfl rfl) ?_
       intro a hA
       obtain ⟨hw9, ewAnd⟩ := qei (w := vu) ha9 (of_decide_eq_true hb26) (by decide)
       have hj9 : (jj n ti.tr).isSome = true := qbg (g := fun x : Dt => jj n x.tr) (s := 1) (yt (by rw [← jr ha9 hw9]; exact hp)) hi0 hiti
       rcases Bool.eq_false_or_eq_true (vF (jj n ti.tr) l) with hb41 | hb41
       · refine qm hA rfl rfl rfl (qh rfl rfl (fun w => by kernel_rfl)) (ih (h0.trans (hM.bel.mono h0.size)) (hIt.rd _ mti) (hIt.sh _ mti) (by have := hIt.lt _ mti; omega) h0v hll hj9 hb41) ?_
         rintro _ w43 ⟨rfl, hb42⟩
         replace hM := hM.call hb42
         refine ⟨_, rfl, ?_⟩
         intro a hA
         refine qa (v := .bool false) hA rfl rfl rfl (qp rfl qt) ?_
         intro a hA
         refine qf ?_
         refine hK36 _ _ ?_
         refine wp_cond_false (hA.ev rfl) ?_
         refine wp_skip ?_
         refine hK35 _ _ ?_
         refine wp_region_lit ?_
         refine qa hA rfl rfl rfl (qe rfl) ?_
         intro a hA
         refine qa (v := .int .i64 (((i + 1 : Nat) : Int))) hA rfl rfl rfl (qg rfl rfl (ar_add ((in_i64 (by omega) (by omega)).trans (by omega)))) ?_
         intro a hA
         refine qa hA rfl rfl rfl (qb rfl) ?_
         intro a hA
         refine qf ?_
         refine hK30 _ _ _ (by omega) ⟨i + 1, rfl, ⟨by omega, din (p := fun u : Dt => vF (jj n u.tr) l) hin9 hiti hb41⟩, hA.keep _ (by repeat' constructor), hM⟩
       · refine qm hA rfl rfl rfl (qh rfl rfl (fun w => by kernel_rfl)) (ih (h0.trans (hM.bel.mono h0.size)) (hIt.rd _ mti) (hIt.sh _ mti) (by have := hIt.lt _ mti; omega) h0v hll hj9 hb41) ?_
         rintro _ w45 ⟨rfl, hb44⟩
         replace hM := hM.call hb44
         refine ⟨_, rfl, ?_⟩
         intro a hA
         refine qa (v := .bool true) hA rfl rfl rfl (qp rfl qt) ?_
         intro a hA
         refine qf ?_
         refine hK36 _ _ ?_
         refine wp_cond_true (hA.ev rfl) ?_
         refine wp_seq_k (fun K46 hK46 => ?_)
         refine wp_region_lit ?_
         refine qa hA rfl rfl rfl (qb rfl) ?_
         intro a hA
         refine qf ?_
         refine hK46 _ _ ?_
         refine wp_ret ?_
         refine hret _ _ ?_
         refine za (v := .bool false) hA rfl (.cons (qk rfl) .nil) rfl ?_
         have hjo := hp
         rw [jr ha9 hw9, ewAnd] at hjo
         have e9 : vF (jj (n + 1) t.tr) l = false := by
           rw [jr ha9 hw9, ewAnd, and_at hjo]; exact dnot hi0 hiti hb41
         exact ⟨by rw [e9], hM.bel⟩
     · have hb34' := of_decide_eq_false hb34
       refine qa (v := .bool false) hA rfl rfl rfl (qg rfl rfl (fun w => (zk w).trans (by rw [hb34]))) ?_
       intro a hA
       refine qf ?_
       refine hK33 _ _ ?_
       refine wp_cond_false (hA.ev rfl) ?_
       refine wp_exit ?_
       refine hK27 _ _ ?_
       refine wp_seq_k (fun K47 hK47 => ?_)
       refine wp_region_lit ?_
       refine qa hA rfl rfl rfl (qb rfl) ?_
       intro a hA
       refine qf ?_
       refine hK47 _ _ ?_
       refine wp_ret ?_
       refine hret _ _ ?_
       refine za (v := .bool true) hA rfl (.cons (qk rfl) .nil) rfl ?_
       obtain ⟨hw9, ewAnd⟩ := qei (w := vu) ha9 (of_decide_eq_true hb26) (by decide)
       have hjo := hp
       rw [jr ha9 hw9, ewAnd] at hjo
       have e9 : vF (jj (n + 1) t.tr) l = true := by
         rw [jr ha9 hw9, ewAnd, and_at hjo]; exact dall hin9 (by omega)
       exact ⟨by rw [e9], hM.bel⟩
   · have hb26' := of_decide_eq_false hb26
     refine qa (v := .bool false) hA rfl rfl rfl (qg rfl rfl (fun w => (zq Tryz.underlying9 w).trans (by rw [hb26] <;> rfl))) ?_
     intro a hA
     refine qa hA rfl rfl rfl (qb rfl) ?_
     intro a hA
     refine qf ?_
     refine hK25 _ _ ?_
     refine wp_cond_false (hA.ev rfl) ?_
     refine wp_seq_k (fun K48 hK48 => ?_)
     refine wp_region_lit ?_
     rcases Bool.eq_false_or_eq_true (decide (ku t.tr = ⟨#[111, 114]⟩)) with hb49 | hb49
     · have hb49' := of_decide_eq_true hb49
       refine qa (v := .bool true) hA rfl rfl rfl (qg rfl rfl (fun w => (zq Tryz.underlying9 w).trans (by rw [hb49] <;> rfl))) ?_
       intro a hA
       refine qa hA rfl rfl rfl (qb rfl) ?_
       intro a hA
       refine qf ?_
       refine hK48 _ _ ?_
       refine wp_cond_true (hA.ev rfl) ?_
       refine wp_seq_k (fun K50 hK50 => ?_)
       refine wp_seq_k (fun K51 hK51 => ?_)
       refine wp_region_lit ?_
       refine qa hA rfl rfl rfl (qb rfl) ?_
       intro a hA
       refine qf ?_
       refine hK51 _ _ ?_
       refine wp_block ?_
       refine jd (fun m_ a w1 => ∃ (i : Nat), m_ = 1 + (xs.length - i) ∧ (1 ≤ i ∧ ∀ (j : Nat) u, 1 ≤ j → j < i → xs[j]? = some u → vF (jj n u.tr) l = false) ∧ Sl a 75 [(0, .slice sv l.length cv), (1, .agg (t.d.cells t.ts.length).toArray), (3, .pointer (some ⟨g2, 0, none⟩)), (5, .slice so5 xs.length ca6), (6, .bool ((zw t.tr).isSome)), (8, .int .i64 (((i : Nat) : Int))), (10, .tuple #[.slice so5 xs.length ca6, .bool ((zw t.tr).isSome)]), (11, .agg (t.d.cells t.ts.length).toArray), (12, .tuple #[.slice so5 xs.length ca6, .bool ((zw t.tr).isSome)]), (13, .slice so5 xs.length ca6), (14, .bool ((zw t.tr).isSome)), (15, .agg (t.d.cells t.ts.length).toArray), (16, .string (ku t.tr)), (17, .bool false), (18, .bool false), (25, .bool false), (26, .bool false), (40, .bool true), (41, .bool true)] ∧ Mg w w1 (.row 30 11 (.slice so5 xs.length ca6) xs.length (cellsOf xs) :: .obj g2 (.cells (t.d.cells t.ts.length).toArray 30) :: [])) _ ⟨1, rfl, ⟨Nat.le_refl _, fun j u h1 h2 => absurd h1 (by omega)⟩, hA.keep _ (by repeat' constructor), hM⟩ ?_
       clear hM hA
       rintro m_ a w52 ⟨i, rfl, hinv54, hA, hM⟩ K53 hK53
       obtain ⟨hi0, hin9⟩ := hinv54
       refine wp_seq_k (fun K55 hK55 => ?_)
       refine wp_seq_k (fun K56 hK56 => ?_)
       refine wp_region_lit ?_
       refine qa hA rfl rfl rfl (qe rfl) ?_
       intro a hA
       refine qa hA rfl rfl rfl (qe rfl) ?_
       intro a hA
       refine qa (v := .int .i64 (((xs.length : Nat) : Int))) hA rfl rfl rfl (zb Tryz.underlying28 rfl) ?_
       intro a hA
       rcases Bool.eq_false_or_eq_true (decide (((i : Nat) : Int) < ((xs.length : Nat) : Int))) with hb57 | hb57
       · have hb57' := of_decide_eq_true hb57
         refine qa (v := .bool true) hA rfl rfl rfl (qg rfl rfl (fun w => (zk w).trans (by rw [hb57]))) ?_
         intro a hA
         refine qf ?_
         refine hK56 _ _ ?_
         refine wp_cond_true (hA.ev rfl) ?_
         refine wp_skip ?_
         refine hK55 _ _ ?_
         refine wp_seq_k (fun K58 hK58 => ?_)
         refine wp_block ?_
         refine wp_seq_k (fun K59 hK59 => ?_)
         refine wp_region_lit ?_
         refine qa hA rfl rfl rfl (qe rfl) ?_
         intro a hA
         refine qa hA rfl rfl rfl (qe rfl) ?_
         intro a hA
         refine qa hA rfl rfl rfl (qe rfl) ?_
         intro a hA
         obtain ⟨ti, hiti⟩ : ∃ t, xs[i]? = some t := ⟨_, List.getElem?_eq_getElem (by omega)⟩
         have hlti := (List.getElem?_eq_some_iff.1 hiti).1
         have mti := List.mem_of_getElem? hiti
         obtain ⟨bk60, ok61, lk62, Hk63⟩ := vg (jq (hM.has 0 rfl)).1 (fun x hx => Dt.keep (h0.trans (hM.bel.mono h0.size)) _ (hIt.rd x hx)) hiti
         refine qa (v := .pointer (some ⟨bk60, ok61 + i * 11, none⟩)) hA rfl rfl rfl (zh (k := i) Tryz.underlying28 (by kernel_rfl) rfl rfl (by first | rfl | omega) lk62 hlti) ?_
         intro a hA
         refine qa hA rfl rfl rfl (jg (Mg.start _) Hk63 JcO_isS_30 rfl rfl) ?_
         intro a hA
         obtain ⟨hw9, ewOr⟩ := qei (w := wOr) ha9 (of_decide_eq_true hb49) (by decide)
         have hj9 : (jj n ti.tr).isSome = true := qbg (g := fun x : Dt => jj n x.tr) (s := 1) (yt (by rw [← jr ha9 hw9]; exact hp)) hi0 hiti
         rcases Bool.eq_false_or_eq_true (vF (jj n ti.tr) l) with hb64 | hb64
         · refine qm hA rfl rfl rfl (qh rfl rfl (fun w => by kernel_rfl)) (ih (h0.trans (hM.bel.mono h0.size)) (hIt.rd _ mti) (hIt.sh _ mti) (by have := hIt.lt _ mti; omega) h0v hll hj9 hb64) ?_
           rintro _ w66 ⟨rfl, hb65⟩
           replace hM := hM.call hb65
           refine ⟨_, rfl, ?_⟩
           intro a hA
           refine qf ?_
           refine hK59 _ _ ?_
           refine wp_cond_true (hA.ev rfl) ?_
           refine wp_seq_k (fun K67 hK67 => ?_)
           refine wp_region_lit ?_
           refine qa hA rfl rfl rfl (qb rfl) ?_
           intro a hA
           refine qf ?_
           refine hK67 _ _ ?_
           refine wp_ret ?_
           refine hret _ _ ?_
           refine za (v := .bool true) hA rfl (.cons (qk rfl) .nil) rfl ?_
           have hjo := hp
           rw [jr ha9 hw9, ewOr] at hjo
           have e9 : vF (jj (n + 1) t.tr) l = true := by
             rw [jr ha9 hw9, ewOr, or_at hjo]; exact dany hi0 hiti hb64
           exact ⟨by rw [e9], hM.bel⟩
         · refine qm hA rfl rfl rfl (qh rfl rfl (fun w => by kernel_rfl)) (ih (h0.trans (hM.bel.mono h0.size)) (hIt.rd _ mti) (hIt.sh _ mti) (by have := hIt.lt _ mti; omega) h0v hll hj9 hb64) ?_
           rintro _ w69 ⟨rfl, hb68⟩
           replace hM := hM.call hb68
           refine ⟨_, rfl, ?_⟩
           intro a hA
           refine qf ?_
           refine hK59 _ _ ?_
           refine wp_cond_false (hA.ev rfl) ?_
           refine wp_skip ?_
           refine hK58 _ _ ?_
           refine wp_region_lit ?_
           refine qa hA rfl rfl rfl (qe rfl) ?_
           intro a hA
           refine qa (v := .int .i64 (((i + 1 : Nat) : Int))) hA rfl rfl rfl (qg rfl rfl (ar_add ((in_i64 (by omega) (by omega)).trans (by omega)))) ?_
           intro a hA
           refine qa hA rfl rfl rfl (qb rfl) ?_
           intro a hA
           refine qf ?_
           refine hK53 _ _ _ (by omega) ⟨i + 1, rfl, ⟨by omega, din (p := fun u : Dt => vF (jj n u.tr) l) hin9 hiti hb64⟩, hA.keep _ (by repeat' constructor), hM⟩
       · have hb57' := of_decide_eq_false hb57
         refine qa (v := .bool false) hA rfl rfl rfl (qg rfl rfl (fun w => (zk w).trans (by rw [hb57]))) ?_
         intro a hA
         refine qf ?_
         refine hK56 _ _ ?_
         refine wp_cond_false (hA.ev rfl) ?_
         refine wp_exit ?_
         refine hK50 _ _ ?_
         refine wp_seq_k (fun K70 hK70 => ?_)
         refine wp_region_lit ?_
         refine qa hA rfl rfl rfl (qb rfl) ?_
         intro a hA
         refine qf ?_
         refine hK70 _ _ ?_
         refine wp_ret ?_
         refine hret _ _ ?_
         refine za (v := .bool false) hA rfl (.cons (qk rfl) .nil) rfl ?_
         obtain ⟨hw9, ewOr⟩ := qei (w := wOr) ha9 (of_decide_eq_true hb49) (by decide)
         have hjo := hp
         rw [jr ha9 hw9, ewOr] at hjo
         have e9 : vF (jj (n + 1) t.tr) l = false := by
           rw [jr ha9 hw9, ewOr, or_at hjo]; exact dnone hin9 (by omega)
         exact ⟨by rw [e9], hM.bel⟩
     · have hb49' := of_decide_eq_false hb49
       refine qa (v := .bool false) hA rfl rfl rfl (qg rfl rfl (fun w => (zq Tryz.underlying9 w).trans (by rw [hb49] <;> rfl))) ?_
       intro a hA
       refine qa hA rfl rfl rfl (qb rfl) ?_
       intro a hA
       refine qf ?_
       refine hK48 _ _ ?_
       refine wp_cond_false (hA.ev rfl) ?_
       refine wp_skip ?_
       refine hK9 _ _ ?_
       refine wp_seq_k (fun K71 hK71 => ?_)
       refine wp_seq_k (fun K72 hK72 => ?_)
       refine wp_region_lit ?_
       refine qa hA rfl rfl rfl (qe rfl) ?_
       intro a hA
       refine qa (v := .int .i64 (((l.length : Nat) : Int))) hA rfl rfl rfl (zb Tryz.underlying38 rfl) ?_
       intro a hA
       refine qa hA rfl rfl rfl (qe rfl) ?_
       intro a hA
       refine qa (v := .int .i64 (((xs.length : Nat) : Int))) hA rfl rfl rfl (zb Tryz.underlying28 rfl) ?_
       intro a hA
       rcases Bool.eq_false_or_eq_true (decide (((l.length : Nat) : Int) < ((xs.length : Nat) : Int))) with hb73 | hb73
       · have hb73' := of_decide_eq_true hb73
         refine qa (v := .bool true) hA rfl rfl rfl (qg rfl rfl (fun w => (zk w).trans (by rw [hb73]))) ?_
         intro a hA
         refine qf ?_
         refine hK72 _ _ ?_
         refine wp_cond_true (hA.ev rfl) ?_
         refine wp_seq_k (fun K74 hK74 => ?_)
         refine wp_region_lit ?_
         refine qa hA rfl rfl rfl (qb rfl) ?_
         intro a hA
         refine qf ?_
         refine hK74 _ _ ?_
         refine wp_ret ?_
         refine hret _ _ ?_
         refine za (v := .bool false) hA rfl (.cons (qk rfl) .nil) rfl ?_
         have hw9 : isW xs = false := by
           cases k9 : isW xs with
           | false => rfl
           | true =>
             have h8 := hp
             rw [jr ha9 k9, uj (fun h9 => of_decide_eq_false hb26 ((yi ha9 k9).trans h9)) (fun h9 => of_decide_eq_false hb49 ((yi ha9 k9).trans h9)) (fun h9 => of_decide_eq_false hb14 ((yi ha9 k9).trans h9))] at h8
             cases h8
         have h8 := hp
         rw [ya ha9 hw9, Option.isSome_map] at h8
         obtain ⟨ps9, hps9⟩ := Option.isSome_iff_exists.1 h8
         have e9 : vF (jj (n + 1) t.tr) l = false := by
           rw [ya ha9 hw9, hps9]; exact qdb (by rw [vy hps9, List.length_map]; omega)
         exact ⟨by rw [e9], hM.bel⟩
       · have hb73' := of_decide_eq_false hb73
         refine qa (v := .bool false) hA rfl rfl rfl (qg rfl rfl (fun w => (zk w).trans (by rw [hb73]))) ?_
         intro a hA
         refine qf ?_
         refine hK72 _ _ ?_
         refine wp_cond_false (hA.ev rfl) ?_
         refine wp_skip ?_
         refine hK71 _ _ ?_
         refine wp_seq_k (fun K75 hK75 => ?_)
         refine wp_seq_k (fun K76 hK76 => ?_)
         refine wp_region_lit ?_
         refine qa hA rfl rfl rfl (qb rfl) ?_
         intro a hA
         refine qf ?_
         refine hK76 _ _ ?_
         refine wp_block ?_
         have hw9 : isW xs = false := by
           cases k9 : isW xs with
           | false => rfl
           | true =>
             have h8 := hp
             rw [jr ha9 k9, uj (fun h9 => of_decide_eq_false hb26 ((yi ha9 k9).trans h9)) (fun h9 => of_decide_eq_false hb49 ((yi ha9 k9).trans h9)) (fun h9 => of_decide_eq_false hb14 ((yi ha9 k9).trans h9))] at h8
             cases h8
         have h8 := hp
         rw [ya ha9 hw9, Option.isSome_map] at h8
         obtain ⟨ps9, hps9⟩ := Option.isSome_iff_exists.1 h8
         refine jd (fun m_ a w1 => ∃ (i : Nat), m_ = 1 + (xs.length - i) ∧ (∀ (j : Nat) u z, j < i → xs[j]? = some u → l[j]? = some z → vF (zy n u.tr) z = true) ∧ Sl a 75 [(0, .slice sv l.length cv), (1, .agg (t.d.cells t.ts.length).toArray), (3, .pointer (some ⟨g2, 0, none⟩)), (5, .slice so5 xs.length ca6), (6, .bool ((zw t.tr).isSome)), (9, .int .i64 (((i : Nat) : Int))), (10, .tuple #[.slice so5 xs.length ca6, .bool ((zw t.tr).isSome)]), (11, .agg (t.d.cells t.ts.length).toArray), (12, .tuple #[.slice so5 xs.length ca6, .bool ((zw t.tr).isSome)]), (13, .slice so5 xs.length ca6), (14, .bool ((zw t.tr).isSome)), (15, .agg (t.d.cells t.ts.length).toArray), (16, .string (ku t.tr)), (17, .bool false), (18, .bool false), (25, .bool false), (26, .bool false), (40, .bool false), (41, .bool false), (54, .slice sv l.length cv), (55, .int .i64 (((l.length : Nat) : Int))), (56, .slice so5 xs.length ca6), (57, .int .i64 (((xs.length : Nat) : Int))), (58, .bool false)] ∧ Mg w w1 (.row 30 11 (.slice so5 xs.length ca6) xs.length (cellsOf xs) :: .obj g2 (.cells (t.d.cells t.ts.length).toArray 30) :: [])) _ ⟨0, rfl, fun j u z h => absurd h (Nat.not_lt_zero _), hA.keep _ (by repeat' constructor), hM⟩ ?_
         clear hM hA
         rintro m_ a w77 ⟨i, rfl, hinv79, hA, hM⟩ K78 hK78
         have hin9 := hinv79
         refine wp_seq_k (fun K80 hK80 => ?_)
         refine wp_seq_k (fun K81 hK81 => ?_)
         refine wp_region_lit ?_
         refine qa hA rfl rfl rfl (qe rfl) ?_
         intro a hA
         refine qa hA rfl rfl rfl (qe rfl) ?_
         intro a hA
         refine qa (v := .int .i64 (((xs.length : Nat) : Int))) hA rfl rfl rfl (zb Tryz.underlying28 rfl) ?_
         intro a hA
         rcases Bool.eq_false_or_eq_true (decide (((i : Nat) : Int) < ((xs.length : Nat) : Int))) with hb82 | hb82
         · have hb82' := of_decide_eq_true hb82
           refine qa (v := .bool true) hA rfl rfl rfl (qg rfl rfl (fun w => (zk w).trans (by rw [hb82]))) ?_
           intro a hA
           refine qf ?_
           refine hK81 _ _ ?_
           refine wp_cond_true (hA.ev rfl) ?_
           refine wp_skip ?_
           refine hK80 _ _ ?_
           refine wp_seq_k (fun K83 hK83 => ?_)
           refine wp_block ?_
           refine wp_seq_k (fun K84 hK84 => ?_)
           refine vd (S := fun w1 => Mg w w1 (.row 30 11 (.slice so5 xs.length ca6) xs.length (cellsOf xs) :: [])) (by kernel_rfl) ?_
           replace hM := hM.drew
           refine zf hA 0 rfl rfl rfl rfl hP (hM.sub (cC (cN (List.nil_sublist _)))) (fun w1 hM => qe rfl) ?_
           intro a hA
           refine zf hA 1 rfl rfl rfl rfl hP (hM.sub (cC (cN (List.nil_sublist _)))) (fun w1 hM => qe rfl) ?_
           intro a hA
           obtain ⟨bx85, ox86, ux87, hs88, hc89, hi90⟩ := hv.at1 (i := i) (by (try rw [uq]); omega)
           obtain ⟨z9, hz9, rfl⟩ := izC_at hi90
           refine zf (v := .pointer (some ⟨bx85, ox86 + i, none⟩)) hA 2 rfl rfl rfl rfl hP (hM.sub (cC (cN (List.nil_sublist _)))) (fun w1 hM => zi (k := i) Tryz.underlying38 (by kernel_rfl) rfl rfl (by first | rfl | omega) hs88 (by omega)) ?_
           intro a hA
           refine zf hA 3 rfl rfl rfl rfl hP (hM.sub (cC (cN (List.nil_sublist _)))) (fun w1 hM => js hM hc89 JcO_is1_3 rfl) ?_
           intro a hA
           refine zf hA 4 rfl rfl rfl rfl hP (hM.sub (cC (cN (List.nil_sublist _)))) (fun w1 hM => qe rfl) ?_
           intro a hA
           refine zf hA 5 rfl rfl rfl rfl hP (hM.sub (cC (cN (List.nil_sublist _)))) (fun w1 hM => qe rfl) ?_
           intro a hA
           obtain ⟨ti, hiti⟩ : ∃ t, xs[i]? = some t := ⟨_, List.getElem?_eq_getElem (by omega)⟩
           have hlti := (List.getElem?_eq_some_iff.1 hiti).1
           have mti := List.mem_of_getElem? hiti
           obtain ⟨bk91, ok92, lk93, Hk94⟩ := vg (jq (hM.has 0 rfl)).1 (fun x hx => Dt.keep (h0.trans (hM.bel.mono h0.size)) _ (hIt.rd x hx)) hiti
           refine zf (v := .pointer (some ⟨bk91, ok92 + i * 11, none⟩)) hA 6 rfl rfl rfl rfl hP (hM.sub (cC (cN (List.nil_sublist _)))) (fun w1 hM => zh (k := i) Tryz.underlying28 (by kernel_rfl) rfl rfl (by first | rfl | omega) lk93 hlti) ?_
           intro a hA
           refine zf hA 7 rfl rfl rfl rfl hP (hM.sub (cC (cN (List.nil_sublist _)))) (fun w1 hM => jg (Mg.start _) (here_at (jq (hM.has 0 rfl)).1 (fun x hx => Dt.keep (h0.trans (hM.bel.mono h0.size)) _ (hIt.rd x hx)) hiti lk93) JcO_isS_30 rfl rfl) ?_
           intro a hA
           rcases Bool.eq_false_or_eq_true (vF (zy n ti.tr) z9) with hb95 | hb95
           · refine xn (by kernel_rfl) (vb hA 8 rfl rfl rfl rfl (qh rfl rfl (fun w => by kernel_rfl)) (ihs (h0.trans (hM.bel.mono h0.size)) (hIt.rd _ mti) (hIt.sh _ mti) (by have := hIt.lt _ mti; omega) (qbg (g := fun x : Dt => zy n x.tr) (s := 0) h8 (Nat.zero_le _) hiti) hb95) ?_)
             rintro _ w97 ⟨rfl, hb96⟩
             replace hM := hM.call hb96
             refine ⟨_, rfl, (hM.sub (cC (cN (List.nil_sublist _)))), ?_⟩
             intro a hA
             refine zf (v := .bool false) hA 9 rfl rfl rfl rfl hP (hM.sub (cC (cN (List.nil_sublist _)))) (fun w1 hM => qp rfl qt) ?_
             intro a hA
             refine xp (by kernel_rfl) ?_
             refine hK84 _ _ ?_
             refine wp_cond_false (hA.ev rfl) ?_
             refine wp_skip ?_
             refine hK83 _ _ ?_
             refine wp_region_lit ?_
             refine qa hA rfl rfl rfl (qe rfl) ?_
             intro a hA
             refine qa (v := .int .i64 (((i + 1 : Nat) : Int))) hA rfl rfl rfl (qg rfl rfl (ar_add ((in_i64 (by omega) (by omega)).trans (by omega)))) ?_
             intro a hA
             refine qa hA rfl rfl rfl (qb rfl) ?_
             intro a hA
             refine qf ?_
             refine hK78 _ _ _ (by omega) ⟨i + 1, rfl, fun j u z hj hu hz => if h9 : j < i then hin9 j u z h9 hu hz else by have h8 : j = i := (by omega); subst h8; rw [hiti] at hu; rw [hz9] at hz; rw [← Option.some.inj hu, ← Option.some.inj hz]; exact hb95, hA.keep _ (by repeat' constructor), hM⟩
           · refine xn (by kernel_rfl) (vb hA 8 rfl rfl rfl rfl (qh rfl rfl (fun w => by kernel_rfl)) (ihs (h0.trans (hM.bel.mono h0.size)) (hIt.rd _ mti) (hIt.sh _ mti) (by have := hIt.lt _ mti; omega) (qbg (g := fun x : Dt => zy n x.tr) (s := 0) h8 (Nat.zero_le _) hiti) hb95) ?_)
             rintro _ w99 ⟨rfl, hb98⟩
             replace hM := hM.call hb98
             refine ⟨_, rfl, (hM.sub (cC (cN (List.nil_sublist _)))), ?_⟩
             intro a hA
             refine zf (v := .bool true) hA 9 rfl rfl rfl rfl hP (hM.sub (cC (cN (List.nil_sublist _)))) (fun w1 hM => qp rfl qt) ?_
             intro a hA
             refine xp (by kernel_rfl) ?_
             refine hK84 _ _ ?_
             refine wp_cond_true (hA.ev rfl) ?_
             refine wp_seq_k (fun K100 hK100 => ?_)
             refine wp_region_lit ?_
             refine qa hA rfl rfl rfl (qb rfl) ?_
             intro a hA
             refine qf ?_
             refine hK100 _ _ ?_
             refine wp_ret ?_
             refine hret _ _ ?_
             refine za (v := .bool false) hA rfl (.cons (qk rfl) .nil) rfl ?_
             have e9 : vF (jj (n + 1) t.tr) l = false := by
               rw [ya ha9 hw9, hps9]; exact row_no hps9 hiti hz9 hb95
             exact ⟨by rw [e9], hM.bel⟩
         · have hb82' := of_decide_eq_false hb82
           refine qa (v := .bool false) hA rfl rfl rfl (qg rfl rfl (fun w => (zk w).trans (by rw [hb82]))) ?_
           intro a hA
           refine qf ?_
           refine hK81 _ _ ?_
           refine wp_cond_false (hA.ev rfl) ?_
           refine wp_exit ?_
           refine hK75 _ _ ?_
           refine wp_seq_k (fun K101 hK101 => ?_)
           refine wp_region_lit ?_
           refine qa hA rfl rfl rfl (qb rfl) ?_
           intro a hA
           refine qf ?_
           refine hK101 _ _ ?_
           refine wp_ret ?_
           refine hret _ _ ?_
           refine za (v := .bool true) hA rfl (.cons (qk rfl) .nil) rfl ?_
           have e9 : vF (jj (n + 1) t.tr) l = true := by
             rw [ya ha9 hw9, hps9]; exact row_val hps9 (by omega) (fun j u z hu hz => hin9 j u z (by have := (List.getElem?_eq_some_iff.1 hu).1; omega) hu hz)
           exact ⟨by rw [e9], hM.bel⟩
theorem rfits_all : ∀ n : Nat, n ≤ 4000000 → RFits n
  | 0, _ => by intro h0 ht hs hb; exact absurd (Nat.le_trans (yh _) hb) (Nat.not_succ_le_zero _)
  | n + 1, hn => by intro h0 ht hs hb hv hll hp b he; exact he ▸ rfits_any h0 ht hs hb hn hv hll hp (rfits_all n (by omega)) (rfit_all n (by omega))
end Go.Proofs.YtoopkbedjbnhhaaGreatDoor.G
namespace Go.Proofs.YtoopkbedjbnhhaaGreatDoor.G
open Go.RowKit Go.MapKept
open Go.ChangeMaps (setBlock)

structure Em where
  k : ByteArray
  v : Value
  b : Nat
def Em.e (x : Em) : MapEntry := ⟨.string x.k, x.v, x.b⟩
def qej (es : List Em) (ck : Nat) : Obj := .map (es.map Em.e).toArray ck
theorem qlh (es : List Em) (ck : Nat) : qbi (qej es ck) := fun c fz e => by cases e
def atS (x : ByteArray) : List Em → Option Em
  | [] => none
  | e :: es => if e.k = x then some e else atS x es
def placeS (x : ByteArray) : List Em → Nat
  | [] => 0
  | e :: es => if e.k = x then 0 else placeS x es + 1
theorem findS (x : ByteArray) : ∀ (es : List Em) (i : Nat), Instr.findNow .string (.string x) (es.map Em.e) i = some ((atS x es).map fun e => (i + placeS x es, e.v))
  | [], _ => rfl
  | e :: es, i => by
    simp only [List.map_cons, Instr.findNow, Em.e, Instr.sameNow, atS, placeS]
    by_cases h : e.k = x
    · rw [if_pos h, if_pos h, h, show (x == x) = true from (bytes_beq _ _).2 rfl]; simp
    · rw [if_neg h, if_neg h]
      have : (x == e.k) = false := by
        rw [Bool.eq_false_iff]
        intro k
        exact h ((bytes_beq _ _).1 k).symm
      rw [this]
      have ih := findS x es (i + 1)
      simp only [Em.e] at ih ⊢
      rw [ih]
      cases atS x es <;> simp <;> omega
section
variable {P : Program} {w0 w : World} {L : List Ck} {l : List (Nat × Value)} {dst : Option Tmp} {ty : TypeId} {pos : String} {after : Array Edge} {guard : Option (Nat × Bool)} {v : Value} {t kt et : TypeId}
theorem runS_find (hk : P.underlying kt = some .string) (x : ByteArray) (es : List Em) : (Instr.findKey kt (.string x) (es.map Em.e)).run P w = .ok ((atS x es).map fun e => (placeS x es, e.v)) w := by
  have := MapKept.run_findKey (w := w) hk (findS x es 0)
  simpa using this
theorem Mg.setObjS (h : Mg w0 w L) (k : Nat) {g : Nat} {o o' : Obj} (hk : L[k]? = some (.obj g o)) (hq : qbi o') : Mg w0 (setBlock w g o') (L.set k (.obj g o')) := by
  have ho := h.obj k hk
  refine h.turn k hk (by simp) ⟨rfl, rfl, rfl, by simp [setBlock], fun j hj hne => (heap_set ho).2 j (fun e => hne (by rw [e]; rfl))⟩ ⟨(h.has k hk).1, (heap_set ho).1⟩ (fun c _ ha => ?_)
  cases c with
  | obj g' o' => exact ha
  | row e' sz' v' n' xs' => exact ha
  | bld b' bs' => exact ⟨ha.1, hq⟩
theorem does_lenM {x : Operand} {g ck : Nat} {es : List Em} (hh : w.heap[g]? = some (qej es ck)) (ht : P.underlying t = some (.map kt et)) (hx : ev l x = some (.map (some g))) : Does P l ⟨dst, .call ⟨.builtin .len, #[x], #[t]⟩, ty, pos, after, guard⟩ w (.int .i64 ((es.length : Nat) : Int)) w := fun ρ h => by
  have h1 := MapKept.run_getObj_map (P := P) hh
  simp [execOp, resolve, invoke, builtin, h x _ hx, Builtin.len_, run_underlying ht, h1, goInt]
theorem sets_newS (hM : Mg w0 w L) (ht : P.underlying t = some (.map kt et)) (hkt : P.underlying kt = some .string) {x y u : Operand} {g ck : Nat} {z : ByteArray} {es : List Em} (hx : ev l x = some (.map (some g))) (hy : ev l y = some (.string z)) (hu : ev l u = some v) (k : Nat) (hk : L[k]? = some (.obj g (qej es ck))) (he : atS z es = none) :
    Sets P l ⟨dst, .mapUpdate t x y u, ty, pos, after, guard⟩ w (setBlock w g (qej (es ++ [⟨z, v, ck⟩]) (ck + 1))) := fun ρ h => by
  have ho := hM.obj k hk
  have h1 := MapKept.run_getObj_map (P := P) ho
  have h2 : ∀ b : Bool, (Instr.checkKey b 10000 kt (.string z)).run P w = .ok () w := fun b => MapKept.run_checkKey hkt (by simp [IsKey]) b 9999
  have h3 := runS_find (P := P) (w := w) hkt z es
  rw [he] at h3
  have h4 := fun o' => MapKept.run_setObj_map (P := P) o' ho
  have e1 : (es.map Em.e).toArray.push ⟨.string z, v, ck⟩ = ((es ++ [(⟨z, v, ck⟩ : Em)]).map Em.e).toArray := by simp [Em.e]
  simp only [execOp, h x _ hx, h y _ hy, h u _ hu, Instr.mapUpdate, Sem.run_bind, run_underlying ht, Result.andThen_ok, h1, h2, h3, Option.map_none, Sem.run_pure, h4, e1]
  rfl
section
variable {ops : List Oper} {Q : Exit → Act → World → Prop} {a : Act} {n : Nat} {o : Oper} {rest : List Oper} {d : Nat}
theorem does_makeMapS : Does P l ⟨dst, .makeMap t none, ty, pos, after, guard⟩ w (.map (some w.heap.size)) (w.alloc (qej [] 0)) := fun ρ h => by
  simp [execOp, Instr.makeMap, qej]
theorem s_makeMapS (hA : Sl a n l) (hM : Mg w0 w L) (ho : o = ⟨dst, .makeMap t none, ty, pos, after, guard⟩) (hg : jt l ops o = true) (hdst : o.dst = some d) (hd : Nat.blt d n = true)
    (hk : ∀ g w', Mg w0 w' (.obj g (qej [] 0) :: L) → ∀ a', Sl a' n ((d, .map (some g)) :: l) → wpList P ops.toArray Q rest a' w') : wpList P ops.toArray Q (o :: rest) a w := by
  subst ho
  exact qa hA hg hdst hd does_makeMapS (hk _ _ (hM.addObj _ (qlh _ _)))
theorem s_setObjS (hA : Sl a n l) (hM : Mg w0 w L) (hg : jt l ops o = true) (hdst : o.dst = none) {g : Nat} {o1 o2 : Obj} (he : Sets P l o w (setBlock w g o2)) (k : Nat) (hk0 : L[k]? = some (.obj g o1)) (hq : qbi o2) {L' : List Ck} (hL : L.set k (.obj g o2) = L')
    (hk : ∀ w', Mg w0 w' L' → wpList P ops.toArray Q rest a w') : wpList P ops.toArray Q (o :: rest) a w :=
  seq_set hA hg hdst he (hk _ (hL ▸ hM.setObjS k hk0 hq))
end
end
end Go.Proofs.YtoopkbedjbnhhaaGreatDoor.G
namespace Go.Proofs
open Go.Shelf
def Tryz.laysM316_ren : Go.Shelf.Ren := ⟨fun | 316 => 146 | n => n, fun | 9 => 9 | 3 => 3 | 4 => 4 | 37 => 27 | 0 => 0 | 127 => 227 | 5 => 5 | n => n, fun | n => n⟩
theorem Tryz.laysM316 : Go.Proofs.LaysM.n316 Tryz.prog Tryz.laysM316_ren := {
  mixed := by kernel_rfl
  f316 := Tryz.func146.trans (congrArg some (by kernel_rfl))
  t0 := Tryz.underlying0
  a0 := Tryz.isAgg0
  z0 := Tryz.sizeOf0
  v0 := Tryz.zeroValue0
  t3 := Tryz.underlying3
  a3 := Tryz.isAgg3
  z3 := Tryz.sizeOf3
  v3 := Tryz.zeroValue3
  t4 := Tryz.underlying4
  a4 := Tryz.isAgg4
  z4 := Tryz.sizeOf4
  v4 := Tryz.zeroValue4
  t9 := Tryz.underlying9
  a9 := Tryz.isAgg9
  z9 := Tryz.sizeOf9
  v9 := Tryz.zeroValue9
  t37 := Tryz.underlying27
  a37 := Tryz.isAgg27
  z37 := Tryz.sizeOf27
  v37 := Tryz.zeroValue27
  t127 := Tryz.underlying227
  a127 := Tryz.isAgg227
  z127 := Tryz.sizeOf227
  v127 := Tryz.zeroValue227
  t5 := Tryz.underlying5
  a5 := Tryz.isAgg5
  z5 := Tryz.sizeOf5
  v5 := Tryz.zeroValue5
  i0 := by kernel_rfl
  i3 := by kernel_rfl
  i4 := by kernel_rfl
  i5 := by kernel_rfl
  i9 := by kernel_rfl
  i37 := by kernel_rfl
  i127 := by kernel_rfl }
open Go.RowKit in
theorem Tryz.stringslite_Clone (s : ByteArray) (w : World) (hlim : s.size ≤ 281474976710656) :
    Calls Tryz.prog 146 #[.string s] w fun e w' => e = .returned (.string s) ∧ Below w.heap.size w w' := Any.stringslite_Clone Tryz.laysM316 s w hlim
end Go.Proofs
