/- Walks of conditions that are joined and looked through. What a bound on the bulk of what is read gives. Transcoders that come in as arguments. Rows of bytes that come in as arguments; the first part of a row, and of a text. Data that come in as arguments. Record types, and scripts over a store, that come in as arguments. Conditions that come in as arguments. -/
import Derived.Test.YtdpakekdbkpdfaaGreatDoorPcondfi9g
import Derived.Test.YtdpakekdbkpdfaaGreatDoorRows
import Derived.Test.YtdpakekdbkpdfaaGreatDoorPcondfi9d
import Derived.Test.YtdpakekdbkpdfaaGreatDoorProg
import Derived.WalkKit
import Derived.ProofKit
import Derived.OpenShut
import Derived.ChangeOld
import Derived.Lib.SmallJoins
import Derived.Deep.Strs
import Derived.Test.YtdpakekdbkpdfaaGreatDoorPcondfi9c
import Derived.Test.YtdpakekdbkpdfaaGreatDoorPcondfi9f
import Derived.Deep.Slices
import Derived.Deep.SlicePairs
import Derived.DataElems
namespace Go.Proofs.YtdpakekdbkpdfaaGreatDoor.G
open Go.RowKit
set_option linter.unusedVariables false
set_option linter.unusedSimpArgs false
set_option maxRecDepth 100000
theorem KcJ_is1_3 : Is1 Tryz.prog 3 := ⟨⟨_, Tryz.underlying3, rfl⟩, by kernel_rfl⟩
theorem KcJ_is1_39 : Is1 Tryz.prog 39 := ⟨⟨_, Tryz.underlying39, rfl⟩, by kernel_rfl⟩
theorem KcJ_fld_41_0 : FieldAt Tryz.prog 41 0 0 := ⟨_, _, Tryz.underlying41, rfl, rfl, by kernel_rfl⟩
theorem KcJ_fld_41_1 : FieldAt Tryz.prog 41 1 1 := ⟨_, _, Tryz.underlying41, rfl, rfl, by kernel_rfl⟩
theorem KcJ_isS_41 : IsS Tryz.prog 41 2 := ⟨⟨_, Tryz.underlying41⟩, by kernel_rfl⟩
theorem KcJ_isS_53 : IsS Tryz.prog 53 11 := ⟨⟨_, Tryz.underlying53⟩, by kernel_rfl⟩
theorem qbg {w : World} {sa sb : Option Addr} {ca cb : Nat} {us vs : List Dt} (hRa : Rt w sa us) (hDa : ∀ t ∈ us, t.rd w) (hRb : Rt w sb vs) (hDb : ∀ t ∈ vs, t.rd w) (he : us.map Dt.tr = vs.map Dt.tr) (hl : us.length ≤ 1000000000) : Calls Tryz.prog 26 #[.slice sa us.length ca, .slice sb vs.length cb] w fun e w' => e = .returned (.bool true) ∧ Below w.heap.size w w' := by
 have hel : us.length = vs.length := by have := congrArg List.length he; simpa using this
 have M : Mg w w ([]) := Mg.start w
 refine qr (l := [(0, .slice sa us.length ca), (1, .slice sb vs.length cb)]) Tryz.func26 rfl Tryz.ntmps26 rfl rfl ?_
 intro Q hret hnorm hP a H
 refine wsk fun K1 hK1 => wrl (sda H λa H↦?_)
 refine qa (hK1 _ _ (wsk fun K2 hK2 => wsk fun K3 hK3 => wrl (sdm H λa H↦?_)))
 refine sdo H (ze Tryz.underlying39 rfl) λa H↦?_
 refine sdm H λa H↦?_
 refine sdo H (ze Tryz.underlying39 rfl) λa H↦?_
 refine sdo (v := .bool false) H (qg rfl rfl (fun w => (zm w).trans (by rw [show ((((us.length : Nat) : Int) != ((vs.length : Nat) : Int))) = false from (bne_eq_false_iff_eq.2 (by omega))]))) λa H↦?_
 refine qa (hK3 _ _ (wp_cond_false (H.ev rfl) ?_))
 refine wp_skip (hK2 _ _ (wsk fun K4 hK4 => wsk fun K5 hK5 => wrl (sda H λa H↦?_)))
 refine qa (hK5 _ _ (wp_block (ja (fun m_ a w1 => ∃ (i : Nat), m_ = 1 + (us.length - i) ∧ (i ≤ us.length) ∧ Sl a 27 [(0, .slice sa us.length ca), (1, .slice sb vs.length cb), (5, .int .i64 (((i : Nat) : Int))), (6, .slice sa us.length ca), (7, .int .i64 (((us.length : Nat) : Int))), (8, .slice sb vs.length cb), (9, .int .i64 (((vs.length : Nat) : Int))), (10, .bool false)] ∧ Mg w w1 ([])) _ ⟨0, rfl, Nat.zero_le _, H.keep _ (by repeat' constructor), M⟩ ?_)))
 clear M H
 rintro m_ a w6 ⟨i, rfl, hinv8, H, M⟩ K7 hK7
 have hi0 := hinv8
 refine wsk fun K9 hK9 => wsk fun K10 hK10 => wrl ?_
 iterate 2 refine sdm H λa H↦?_
 refine sdo H (ze Tryz.underlying39 rfl) λa H↦?_
 rcases tf (decide (((i : Nat) : Int) < ((us.length : Nat) : Int))) with hb11 | hb11
 ·
  have hb11' := of_decide_eq_true hb11
  refine sdc H zl hb11 λa H↦?_
  refine qa (hK10 _ _ (wp_cond_true (H.ev rfl) ?_))
  refine wp_skip (hK9 _ _ (wsk fun K12 hK12 => wp_block (wsk fun K13 hK13 => ?_)))
  obtain ⟨t1, bt1, ot1, it1, mt1, rt1_, lt1, Ht1⟩ := kidL hRa hDa (i := i) (by omega)
  obtain ⟨u1, bu1, ou1, iu1, mu1, ru1_, lu1, Hu1⟩ := kidL hRb hDb (i := i) (by omega)
  refine xh (S := fun w1 => Mg w w1 ([])) (by kernel_rfl) ?_
  replace M := M.drew
  refine qm H 0 rfl rfl rfl rfl hP (M.sub (List.nil_sublist _)) (fun w1 M => zj rfl) λa H↦?_
  refine qm H 1 rfl rfl rfl rfl hP (M.sub (List.nil_sublist _)) (fun w1 M => zj rfl) λa H↦?_
  refine qm (v := .pointer (some ⟨bt1, ot1 + i * 11, none⟩)) H 2 rfl rfl rfl rfl hP (M.sub (List.nil_sublist _)) (fun w1 M => zp (k := i) Tryz.underlying39 (by kernel_rfl) rfl rfl rfl lt1 (by omega)) λa H↦?_
  refine qm H 3 rfl rfl rfl rfl hP (M.sub (List.nil_sublist _)) (fun w1 M => jp M Ht1 KcJ_isS_53 rfl rfl) λa H↦?_
  refine qm H 4 rfl rfl rfl rfl hP (M.sub (List.nil_sublist _)) (fun w1 M => zj rfl) λa H↦?_
  refine qm H 5 rfl rfl rfl rfl hP (M.sub (List.nil_sublist _)) (fun w1 M => zj rfl) λa H↦?_
  refine qm (v := .pointer (some ⟨bu1, ou1 + i * 11, none⟩)) H 6 rfl rfl rfl rfl hP (M.sub (List.nil_sublist _)) (fun w1 M => zp (k := i) Tryz.underlying39 (by kernel_rfl) rfl rfl rfl lu1 (by omega)) λa H↦?_
  refine qm H 7 rfl rfl rfl rfl hP (M.sub (List.nil_sublist _)) (fun w1 M => jp M Hu1 KcJ_isS_53 rfl rfl) λa H↦?_
  refine zy (by kernel_rfl) (jj H 8 rfl rfl rfl rfl (zf rfl rfl (fun w => by kernel_rfl)) ((((sameT_eq t1.tr u1.tr).2 (tr_at he it1 iu1)) ▸ qfe (t1.tr.bulk + 1) (t := t1) (u := u1) (Nat.lt_succ_self _) (Dt.keep M.bel _ rt1_) (Dt.keep M.bel _ ru1_))) ?_)
  rintro _ w15 ⟨rfl, hb14⟩
  replace M := M.call hb14
  refine ⟨_, rfl, (M.sub (List.nil_sublist _)), ?_⟩
  intro a H
  refine qm (v := .bool false) H 9 rfl rfl rfl rfl hP (M.sub (List.nil_sublist _)) (fun w1 M => zb rfl zn) λa H↦?_
  refine jo (by kernel_rfl) ?_
  refine hK13 _ _ (wp_cond_false (H.ev rfl) ?_)
  refine wp_skip (hK12 _ _ (wrl (sdm H λa H↦?_)))
  refine sdo (v := .int .i64 (((i + 1 : Nat) : Int))) H (qg rfl rfl (fun w => (jk (xj (by omega) (by omega)) w).trans (by rw [show (((i : Nat) : Int) + 1 : Int) = ((i + 1 : Nat) : Int) from by omega]))) λa H↦?_
  refine sda H λa H↦?_
  refine qa ?_
  refine hK7 _ _ _ (by omega) ⟨i + 1, rfl, by omega, H.keep _ (by repeat' constructor), M⟩
 ·
  have hb11' := of_decide_eq_false hb11
  refine sdc H zl hb11 λa H↦?_
  refine qa (hK10 _ _ (wp_cond_false (H.ev rfl) ?_))
  refine wp_exit (hK4 _ _ (wsk fun K16 hK16 => wrl (sda H λa H↦?_)))
  refine qa (hK16 _ _ (wp_ret (hret _ _ (en1 H rfl (qe rfl) ?_))))
  exact ⟨rfl, M.bel⟩
theorem join2_any {w : World} {lo sa sb : Option Addr} {ca cb : Nat} {xs ys : List Sp} (hR : Rc w lo (zh Cn.c [Cn.mk sa ca xs, Cn.mk sb cb ys])) (hX : PR w sa xs) (hY : PR w sb ys) (hBx : PB xs) (hBy : PB ys) (hlx : xs.length ≤ 900000000) (hly : ys.length ≤ 900000000) (hT : Tabs8 w) : Calls Tryz.prog 15 #[.slice lo 2 2] w fun e w' => ∃ (so' : Option Addr) (ca' : Nat) (cs : List Sp) (ev : Int), e = .returned (.tuple #[.slice so' cs.length ca', .int .i64 ev]) ∧ (ev = ckC ((xs ++ ys).map Sp.k) ∧ cs.map Sp.k = (if ckC ((xs ++ ys).map Sp.k) = 0 then ((xs ++ ys).map Sp.k) else []) ∧ PR w' so' cs ∧ In (w.heap.size ≤ ·) so' cs ∧ ∀ p ∈ cs, p.at_ (w.heap.size ≤ ·)) ∧ Below w.heap.size w w' := by
 have e9 : zx [Cn.mk sa ca xs, Cn.mk sb cb ys] = xs ++ ys := by unfold zx; simp
 have := join_any (ls := [Cn.mk sa ca xs, Cn.mk sb cb ys]) (lc := 2) ⟨hR, fun c hc => by
  simp only [List.mem_cons, List.not_mem_nil, or_false] at hc
  rcases hc with rfl | rfl
  ·
   exact hX
  ·
   exact hY⟩ (by rw [e9]; exact fun p hp => (List.mem_append.1 hp).elim (hBx p) (hBy p)) (by show 2 ≤ _; decide) (fun c hc => by
  simp only [List.mem_cons, List.not_mem_nil, or_false] at hc
  rcases hc with rfl | rfl
  ·
   exact hlx
  ·
   exact hly) hT
 rw [e9] at this
 exact this
set_option maxHeartbeats 2000000 in
theorem qgd {w : World} {sa sb : Option Addr} {ca cb : Nat} {xs ys : List Sp} (hX : PR w sa xs) (hBx : PB xs) (hlx : xs.length ≤ 900000000) (hY : PR w sb ys) (hBy : PB ys) (hly : ys.length ≤ 900000000) (hT : Tabs8 w) {t : Int} : Calls Tryz.prog 6 #[.slice sa xs.length ca, .slice sb ys.length cb, .int .i64 t] w fun e w' => e = .returned (.bool true) ∧ Below w.heap.size w w' := by
 have M : Mg w w ([]) := Mg.start w
 refine qr (l := [(0, .slice sa xs.length ca), (1, .slice sb ys.length cb), (2, .int .i64 t)]) Tryz.func6 rfl Tryz.ntmps6 rfl rfl ?_
 intro Q hret hnorm hP a H
 refine wsk fun K1 hK1 => wrl (sda H λa H↦?_)
 refine qa (hK1 _ _ (wsk fun K2 hK2 => wrl ?_))
 iterate 2 refine sdm H λa H↦?_
 refine yh (e := 34) (sz := 1) (m := 2) (vs := zh Cn.c [Cn.mk sa ca xs, Cn.mk sb cb ys]) H M rfl rfl rfl (zv rfl (by kernel_rfl)) rfl rfl (.inl (by decide)) ?_
 intro g3 w4 M a H
 refine sct H (ef rfl rfl) (join2_any (xq (M.has 0 rfl)) (hX.below M.bel) (hY.below M.bel) hBx hBy hlx hly (hT.below M.bel)) ?_
 rintro _ w6 ⟨so5, ca5, cs, ev5, rfl, ⟨hev, hck, hPc, hIc, hAc⟩, hb5⟩
 have hLcs := pr_made hPc hIc hAc
 replace M : Mg w w6 (.row 34 1 (.slice (some ⟨g3, 0, none⟩) 2 2) 2 (zh Cn.c [Cn.mk sa ca xs, Cn.mk sb cb ys]) :: (made w4 w6 ++ [])) := M.freezeAt 1 (qf (by simp) (qp qy)) hb5
 refine ⟨_, rfl, ?_⟩
 intro a H
 refine sdm H λa H↦?_
 iterate 2 refine sdo H (ql (vs := [.slice so5 cs.length ca5, .int .i64 ev5]) rfl rfl) λa H↦?_
 iterate 2 refine sda H λa H↦?_
 refine qa (hK2 _ _ (wsk fun K7 hK7 => wsk fun K8 hK8 => wrl (sct H (ef rfl rfl) (qhi (hT.below M.bel)) ?_)))
 rintro _ w10 ⟨rfl, hb9⟩
 replace M := M.call hb9
 refine ⟨_, rfl, ?_⟩
 intro a H
 refine sdo (v := .bool false) H (zb rfl zn) λa H↦?_
 iterate 2 refine sdm H λa H↦?_
 rcases tf ((ev5 != 0)) with hb11 | hb11
 ·
  have hb11' := bne_iff_ne.1 hb11
  refine sdc H zm hb11 λa H↦?_
  refine sdk (v := .bool true) H λa H↦?_
  refine qa (hK8 _ _ (wp_cond_true (H.ev rfl) ?_))
  refine wsk fun K12 hK12 => wrl (sct H (ef rfl rfl) (qhi (hT.below M.bel)) ?_)
  rintro _ w14 ⟨rfl, hb13⟩
  replace M := M.call hb13
  refine ⟨_, rfl, ?_⟩
  intro a H
  iterate 2 refine sdm H λa H↦?_
  refine sdo H (ze Tryz.underlying34 rfl) λa H↦?_
  refine sdo (v := .bool true) H (qg rfl rfl (fun w => (qx w).trans (by rw [show ((((cs.length : Nat) : Int) == 0)) = true from (beq_iff_eq.2 (by have h9 := congrArg List.length hck; rw [if_neg (by rw [← hev]; exact hb11'), List.length_map] at h9; rw [h9]; rfl))]))) λa H↦?_
  refine sdk (v := .bool true) H λa H↦?_
  refine sda H λa H↦?_
  refine qa (hK12 _ _ (wp_ret (hret _ _ (en1 H rfl (qe rfl) ?_))))
  exact ⟨rfl, M.bel⟩
 ·
  have hb11' := bne_eq_false_iff_eq.1 hb11
  refine sdc H zm hb11 λa H↦?_
  refine sdk (v := .bool false) H λa H↦?_
  refine qa (hK8 _ _ (wp_cond_false (H.ev rfl) ?_))
  refine wp_skip (hK7 _ _ (wsk fun K15 hK15 => ?_))
  have hc0 : ckC ((xs ++ ys).map Sp.k) = 0 := by rw [← hev]; exact hb11'
  have hcz : cs.map Sp.k = ((xs ++ ys).map Sp.k) := by rw [hck, if_pos hc0]
  have hfa := fd_app (t := t) (A := (xs.map Sp.k)) (B := (ys.map Sp.k)) (by rw [← List.map_append]; exact hc0)
  rw [← List.map_append, ← hcz] at hfa
  refine wrl ?_
  iterate 2 refine sdm H λa H↦?_
  refine sct H (ef rfl rfl) (qeh (ps := xs) (hX.below M.bel) hBx (by omega) (hT.below M.bel)) ?_
  rintro _ w17 ⟨x1, rfl, ⟨hkx1, hrx1, hax1⟩, hb16⟩
  have hLx1 := qjf hrx1 hax1
  replace M : Mg w w17 (.row 34 1 (.slice (some ⟨g3, 0, none⟩) 2 2) 2 (zh Cn.c [Cn.mk sa ca xs, Cn.mk sb cb ys]) :: (made w10 w17 ++ (made w4 w6 ++ []))) := M.freezeAt 1 (qf (by simp) (zt zw (qp qy))) hb16
  refine ⟨_, rfl, ?_⟩
  intro a H
  refine sdm H λa H↦?_
  iterate 2 refine sdo H (ql (vs := [.agg x1.c.toArray, .int .i64 ((fdS (xs.map Sp.k) t).2)]) rfl rfl) λa H↦?_
  refine zg (vs := zk.c) (t := 41) H M rfl rfl rfl pg (qk (z := .agg zk.c.toArray) (by kernel_rfl) rfl) (by decide) ?_
  intro g18 w19 M a H
  refine qw (us := x1.c) (L' := (.obj g18 (.cells x1.c.toArray 41) :: .row 34 1 (.slice (some ⟨g3, 0, none⟩) 2 2) 2 (zh Cn.c [Cn.mk sa ca xs, Cn.mk sb cb ys]) :: (made w10 w17 ++ (made w4 w6 ++ [])))) H M rfl rfl (qj rfl rfl rfl (by kernel_rfl) M 0 rfl rfl rfl) 0 rfl rfl rfl ?_
  intro w20 M
  refine sda H λa H↦?_
  refine qa (hK15 _ _ (wsk fun K21 hK21 => wrl ?_))
  iterate 2 refine sdm H λa H↦?_
  refine sct H (ef rfl rfl) (qeh (ps := ys) (hY.below M.bel) hBy (by omega) (hT.below M.bel)) ?_
  rintro _ w23 ⟨y1, rfl, ⟨hky1, hry1, hay1⟩, hb22⟩
  have hLy1 := qjf hry1 hay1
  replace M : Mg w w23 (.obj g18 (.cells x1.c.toArray 41) :: .row 34 1 (.slice (some ⟨g3, 0, none⟩) 2 2) 2 (zh Cn.c [Cn.mk sa ca xs, Cn.mk sb cb ys]) :: (made w20 w23 ++ (made w10 w17 ++ (made w4 w6 ++ [])))) := M.freezeAt 2 (qf (by simp) (qf (by simp) (zt zw (zt zw (qp qy))))) hb22
  refine ⟨_, rfl, ?_⟩
  intro a H
  refine sdm H λa H↦?_
  iterate 2 refine sdo H (ql (vs := [.agg y1.c.toArray, .int .i64 ((fdS (ys.map Sp.k) t).2)]) rfl rfl) λa H↦?_
  refine zg (vs := zk.c) (t := 41) H M rfl rfl rfl pg (qk (z := .agg zk.c.toArray) (by kernel_rfl) rfl) (by decide) ?_
  intro g24 w25 M a H
  refine qw (us := y1.c) (L' := (.obj g24 (.cells y1.c.toArray 41) :: .obj g18 (.cells x1.c.toArray 41) :: .row 34 1 (.slice (some ⟨g3, 0, none⟩) 2 2) 2 (zh Cn.c [Cn.mk sa ca xs, Cn.mk sb cb ys]) :: (made w20 w23 ++ (made w10 w17 ++ (made w4 w6 ++ []))))) H M rfl rfl (qj rfl rfl rfl (by kernel_rfl) M 0 rfl rfl rfl) 0 rfl rfl rfl ?_
  intro w26 M
  refine sda H λa H↦?_
  refine qa (hK21 _ _ (wsk fun K27 hK27 => wrl ?_))
  iterate 2 refine sdm H λa H↦?_
  have hcl : cs.length ≤ 16 := by have h9 := (yk hc0).1; rw [← hcz, List.length_map] at h9; exact h9
  have hBc : PB cs := fun p hp => by
   have h9 : p.k ∈ ((xs ++ ys).map Sp.k) := hcz ▸ List.mem_map_of_mem hp
   obtain ⟨q, hq, e⟩ := List.mem_map.1 h9
   have h8 : Tr.bulks q.k.2 ≤ 100000000 := (List.mem_append.1 hq).elim (hBx q) (hBy q)
   rw [e] at h8
   exact h8
  refine sct H (ef rfl rfl) (qeh (ps := cs) (hLcs _ _ ((M.dropn 3).sub (((List.sublist_append_left _ _).trans (List.sublist_append_right _ _)).trans (List.sublist_append_right _ _)))) hBc (by omega) (hT.below M.bel)) ?_
  rintro _ w29 ⟨z1, rfl, ⟨hkz1, hrz1, haz1⟩, hb28⟩
  have hLz1 := qjf hrz1 haz1
  replace M : Mg w w29 (.obj g24 (.cells y1.c.toArray 41) :: .obj g18 (.cells x1.c.toArray 41) :: .row 34 1 (.slice (some ⟨g3, 0, none⟩) 2 2) 2 (zh Cn.c [Cn.mk sa ca xs, Cn.mk sb cb ys]) :: (made w26 w29 ++ (made w20 w23 ++ (made w10 w17 ++ (made w4 w6 ++ []))))) := M.freezeAt 3 (qf (by simp) (qf (by simp) (qf (by simp) (zt zw (zt zw (zt zw (qp qy))))))) hb28
  refine ⟨_, rfl, ?_⟩
  intro a H
  refine sdm H λa H↦?_
  iterate 2 refine sdo H (ql (vs := [.agg z1.c.toArray, .int .i64 ((fdS (cs.map Sp.k) t).2)]) rfl rfl) λa H↦?_
  refine zg (vs := zk.c) (t := 41) H M rfl rfl rfl pg (qk (z := .agg zk.c.toArray) (by kernel_rfl) rfl) (by decide) ?_
  intro g30 w31 M a H
  refine qw (us := z1.c) (L' := (.obj g30 (.cells z1.c.toArray 41) :: .obj g24 (.cells y1.c.toArray 41) :: .obj g18 (.cells x1.c.toArray 41) :: .row 34 1 (.slice (some ⟨g3, 0, none⟩) 2 2) 2 (zh Cn.c [Cn.mk sa ca xs, Cn.mk sb cb ys]) :: (made w26 w29 ++ (made w20 w23 ++ (made w10 w17 ++ (made w4 w6 ++ [])))))) H M rfl rfl (qj rfl rfl rfl (by kernel_rfl) M 0 rfl rfl rfl) 0 rfl rfl rfl ?_
  intro w32 M
  refine sda H λa H↦?_
  refine qa (hK27 _ _ (wsk fun K33 hK33 => wsk fun K34 hK34 => wrl (sdm H λa H↦?_)))
  rcases tf (((fdS (xs.map Sp.k) t).2 != 0)) with hb35 | hb35
  ·
   have hb35' := bne_iff_ne.1 hb35
   refine sdc H zm hb35 λa H↦?_
   refine qa (hK34 _ _ (wp_cond_true (H.ev rfl) ?_))
   refine wrl (sdo H (za M KcJ_isS_41 rfl 1 rfl (cs := y1.c) rfl rfl) λa H↦?_)
   refine sdm H λa H↦?_
   refine qw (us := y1.c) (L' := (.obj g30 (.cells z1.c.toArray 41) :: .obj g24 (.cells y1.c.toArray 41) :: .obj g18 (.cells y1.c.toArray 41) :: .row 34 1 (.slice (some ⟨g3, 0, none⟩) 2 2) 2 (zh Cn.c [Cn.mk sa ca xs, Cn.mk sb cb ys]) :: (made w26 w29 ++ (made w20 w23 ++ (made w10 w17 ++ (made w4 w6 ++ [])))))) H M rfl rfl (qj rfl rfl rfl (by kernel_rfl) M 2 rfl rfl rfl) 2 rfl rfl rfl ?_
   intro w36 M
   refine sda H λa H↦?_
   refine qa (hK33 _ _ (wsk fun K37 hK37 => wrl ?_))
   iterate 2 refine sdm H λa H↦?_
   refine sdo (v := .bool true) H (qg rfl rfl (fun w => (qx w).trans (by rw [show (((fdS (ys.map Sp.k) t).2 == (fdS (cs.map Sp.k) t).2)) = true from (beq_iff_eq.2 (congrArg Prod.snd (hfa.trans (if_neg hb35'))).symm)]))) λa H↦?_
   refine sdm H λa H↦?_
   refine sdo (v := .pointer (some ⟨g18, 0, none⟩)) H (qb KcJ_fld_41_0 rfl rfl) λa H↦?_
   refine sdo H (qi M KcJ_is1_3 rfl 2 rfl rfl) λa H↦?_
   refine sdo (v := .pointer (some ⟨g30, 0, none⟩)) H (qb KcJ_fld_41_0 rfl rfl) λa H↦?_
   refine sdo H (qi M KcJ_is1_3 rfl 0 rfl rfl) λa H↦?_
   refine sdo (v := .bool true) H (qg rfl rfl (fun w => (qx w).trans (by rw [show ((y1.ty == z1.ty)) = true from (beq_iff_eq.2 (congrArg Prod.fst ((hky1.trans (congrArg Prod.fst (hfa.trans (if_neg hb35'))).symm).trans hkz1.symm)))]))) λa H↦?_
   refine sdk (v := .bool true) H λa H↦?_
   refine sdm H λa H↦?_
   refine sdo (v := .pointer (some ⟨g18, 1, none⟩)) H (qb KcJ_fld_41_1 rfl rfl) λa H↦?_
   refine sdo H (qi M KcJ_is1_39 rfl 2 rfl rfl) λa H↦?_
   refine sdo (v := .pointer (some ⟨g30, 1, none⟩)) H (qb KcJ_fld_41_1 rfl rfl) λa H↦?_
   refine sdo H (qi M KcJ_is1_39 rfl 0 rfl rfl) λa H↦?_
   refine gcl H M (ef rfl rfl) (qbg (hLy1 _ _ ((M.dropn 4).sub ((List.sublist_append_left _ _).trans (List.sublist_append_right _ _)))).v (hLy1 _ _ ((M.dropn 4).sub ((List.sublist_append_left _ _).trans (List.sublist_append_right _ _)))).d (hLz1 _ _ ((M.dropn 4).sub (List.sublist_append_left _ _))).v (hLz1 _ _ ((M.dropn 4).sub (List.sublist_append_left _ _))).d (congrArg Prod.snd ((hky1.trans (congrArg Prod.fst (hfa.trans (if_neg hb35'))).symm).trans hkz1.symm)) (by have h9 := sp_vs hky1; have h8 := @fd_len (ys.map Sp.k) t; omega)) fun w39 hb38 M a H => ?_
   refine sdk (v := .bool true) H λa H↦?_
   refine sda H λa H↦?_
   refine qa (hK37 _ _ (wsk fun K40 hK40 => wsk fun K41 hK41 => wrl (sdm H λa H↦?_)))
   rcases tf (((fdS (cs.map Sp.k) t).2 != 0)) with hb42 | hb42
   ·
    have hb42' := bne_iff_ne.1 hb42
    refine sdc H zm hb42 λa H↦?_
    refine qa (hK41 _ _ (wp_cond_true (H.ev rfl) ?_))
    refine wsk fun K43 hK43 => wrl (sdm H λa H↦?_)
    refine sda H λa H↦?_
    refine qa (hK43 _ _ (wp_ret (hret _ _ (en1 H rfl (qe rfl) ?_))))
    exact ⟨rfl, M.bel⟩
   ·
    have hb42' := bne_eq_false_iff_eq.1 hb42
    refine sdc H zm hb42 λa H↦?_
    refine qa (hK41 _ _ (wp_cond_false (H.ev rfl) ?_))
    refine wp_skip (hK40 _ _ (wsk fun K44 hK44 => wrl (sdo (v := .pointer (some ⟨g30, 0, none⟩)) H (qb KcJ_fld_41_0 rfl rfl) λa H↦?_)))
    refine sdo H (qi M KcJ_is1_3 rfl 0 rfl rfl) λa H↦?_
    refine sdm H λa H↦?_
    obtain ⟨hz1, hz2, hz3⟩ := fd_zero hb42'
    rw [← hkz1] at hz2 hz3
    refine gcl H M (ef rfl rfl) (under_b hz2 hz1 hz3) fun w46 hb45 M a H => ?_
    refine sdm H λa H↦?_
    iterate 2 refine sdo H (ql (vs := [.bool true, .int .i64 0]) rfl rfl) λa H↦?_
    iterate 2 refine sda H λa H↦?_
    refine qa (hK44 _ _ (wsk fun K47 hK47 => wrl ?_))
    iterate 3 refine sdm H λa H↦?_
    refine sdo (v := .bool true) H (qg rfl rfl (fun w => by kernel_rfl)) λa H↦?_
    refine sdk (v := .bool true) H λa H↦?_
    iterate 2 refine sdm H λa H↦?_
    refine sdk (v := .bool true) H λa H↦?_
    refine sda H λa H↦?_
    refine qa (hK47 _ _ (wp_ret (hret _ _ (en1 H rfl (qe rfl) ?_))))
    exact ⟨rfl, M.bel⟩
  ·
   have hb35' := bne_eq_false_iff_eq.1 hb35
   refine sdc H zm hb35 λa H↦?_
   refine qa (hK34 _ _ (wp_cond_false (H.ev rfl) ?_))
   refine wp_skip (hK33 _ _ (wsk fun K48 hK48 => wrl ?_))
   iterate 2 refine sdm H λa H↦?_
   refine sdo (v := .bool true) H (qg rfl rfl (fun w => (qx w).trans (by rw [show (((fdS (xs.map Sp.k) t).2 == (fdS (cs.map Sp.k) t).2)) = true from (beq_iff_eq.2 (congrArg Prod.snd (hfa.trans (if_pos hb35'))).symm)]))) λa H↦?_
   refine sdm H λa H↦?_
   refine sdo (v := .pointer (some ⟨g18, 0, none⟩)) H (qb KcJ_fld_41_0 rfl rfl) λa H↦?_
   refine sdo H (qi M KcJ_is1_3 rfl 2 rfl rfl) λa H↦?_
   refine sdo (v := .pointer (some ⟨g30, 0, none⟩)) H (qb KcJ_fld_41_0 rfl rfl) λa H↦?_
   refine sdo H (qi M KcJ_is1_3 rfl 0 rfl rfl) λa H↦?_
   refine sdo (v := .bool true) H (qg rfl rfl (fun w => (qx w).trans (by rw [show ((x1.ty == z1.ty)) = true from (beq_iff_eq.2 (congrArg Prod.fst ((hkx1.trans (congrArg Prod.fst (hfa.trans (if_pos hb35'))).symm).trans hkz1.symm)))]))) λa H↦?_
   refine sdk (v := .bool true) H λa H↦?_
   refine sdm H λa H↦?_
   refine sdo (v := .pointer (some ⟨g18, 1, none⟩)) H (qb KcJ_fld_41_1 rfl rfl) λa H↦?_
   refine sdo H (qi M KcJ_is1_39 rfl 2 rfl rfl) λa H↦?_
   refine sdo (v := .pointer (some ⟨g30, 1, none⟩)) H (qb KcJ_fld_41_1 rfl rfl) λa H↦?_
   refine sdo H (qi M KcJ_is1_39 rfl 0 rfl rfl) λa H↦?_
   refine gcl H M (ef rfl rfl) (qbg (hLx1 _ _ ((M.dropn 4).sub (((List.sublist_append_left _ _).trans (List.sublist_append_right _ _)).trans (List.sublist_append_right _ _)))).v (hLx1 _ _ ((M.dropn 4).sub (((List.sublist_append_left _ _).trans (List.sublist_append_right _ _)).trans (List.sublist_append_right _ _)))).d (hLz1 _ _ ((M.dropn 4).sub (List.sublist_append_left _ _))).v (hLz1 _ _ ((M.dropn 4).sub (List.sublist_append_left _ _))).d (congrArg Prod.snd ((hkx1.trans (congrArg Prod.fst (hfa.trans (if_pos hb35'))).symm).trans hkz1.symm)) (by have h9 := sp_vs hkx1; have h8 := @fd_len (xs.map Sp.k) t; omega)) fun w50 hb49 M a H => ?_
   refine sdk (v := .bool true) H λa H↦?_
   refine sda H λa H↦?_
   refine qa (hK48 _ _ (wsk fun K51 hK51 => wsk fun K52 hK52 => wrl (sdm H λa H↦?_)))
   rcases tf (((fdS (cs.map Sp.k) t).2 != 0)) with hb53 | hb53
   ·
    have hb53' := bne_iff_ne.1 hb53
    refine sdc H zm hb53 λa H↦?_
    refine qa (hK52 _ _ (wp_cond_true (H.ev rfl) ?_))
    refine wsk fun K54 hK54 => wrl (sdm H λa H↦?_)
    refine sda H λa H↦?_
    refine qa (hK54 _ _ (wp_ret (hret _ _ (en1 H rfl (qe rfl) ?_))))
    exact ⟨rfl, M.bel⟩
   ·
    have hb53' := bne_eq_false_iff_eq.1 hb53
    refine sdc H zm hb53 λa H↦?_
    refine qa (hK52 _ _ (wp_cond_false (H.ev rfl) ?_))
    refine wp_skip (hK51 _ _ (wsk fun K55 hK55 => wrl (sdo (v := .pointer (some ⟨g30, 0, none⟩)) H (qb KcJ_fld_41_0 rfl rfl) λa H↦?_)))
    refine sdo H (qi M KcJ_is1_3 rfl 0 rfl rfl) λa H↦?_
    refine sdm H λa H↦?_
    obtain ⟨hz1, hz2, hz3⟩ := fd_zero hb53'
    rw [← hkz1] at hz2 hz3
    refine gcl H M (ef rfl rfl) (under_b hz2 hz1 hz3) fun w57 hb56 M a H => ?_
    refine sdm H λa H↦?_
    iterate 2 refine sdo H (ql (vs := [.bool true, .int .i64 0]) rfl rfl) λa H↦?_
    iterate 2 refine sda H λa H↦?_
    refine qa (hK55 _ _ (wsk fun K58 hK58 => wrl ?_))
    iterate 3 refine sdm H λa H↦?_
    refine sdo (v := .bool true) H (qg rfl rfl (fun w => by kernel_rfl)) λa H↦?_
    refine sdk (v := .bool true) H λa H↦?_
    iterate 2 refine sdm H λa H↦?_
    refine sdk (v := .bool true) H λa H↦?_
    refine sda H λa H↦?_
    refine qa (hK58 _ _ (wp_ret (hret _ _ (en1 H rfl (qe rfl) ?_))))
    exact ⟨rfl, M.bel⟩
end Go.Proofs.YtdpakekdbkpdfaaGreatDoor.G
namespace Go.Proofs.YtdpakekdbkpdfaaGreatDoor
set_option linter.unusedVariables false

section
variable {H : Type}
theorem bulk_pos (d : DataW H) : 0 < Rows.uptoBulk d := by
  unfold Rows.uptoBulk
  split <;> omega
theorem bulk_len : ∀ l : List (DataW H), l.length ≤ Rows.uptoBulkAll l
  | [] => by simp
  | d :: l => by
    have h1 := bulk_pos d
    have h2 := bulk_len l
    simp only [Rows.uptoBulkAll, List.length_cons]
    omega
theorem qff (xs ys : List (DataW H)) : xs.length ≤ Rows.uptoBulk (.slice xs ys) := by
  have := bulk_len xs
  simp only [Rows.uptoBulk]
  omega
theorem ub {d : DataW H} : ∀ {l : List (DataW H)}, d ∈ l → Rows.uptoBulk d ≤ Rows.uptoBulkAll l
  | c :: l, h => by
    simp only [Rows.uptoBulkAll]
    rcases List.mem_cons.1 h with rfl | h
    · omega
    · have := ub h
      omega
theorem bulk_at {l : List (DataW H)} (hk : Rows.uptoSmall H l = true) {j : Nat} {d : DataW H} (hd : l[j]? = some d) : Rows.uptoBulk d ≤ 1048576 :=
  Nat.le_trans (ub (List.mem_of_getElem? hd)) (of_decide_eq_true hk)
end
end Go.Proofs.YtdpakekdbkpdfaaGreatDoor
namespace Go.Proofs.YtdpakekdbkpdfaaGreatDoor.G
open Go.ChangeShapes Go.WideShapes Go.ChangeAt Go.RowKit Go.Joins Go.Deep
set_option linter.unusedVariables false
set_option linter.unusedSimpArgs false
set_option maxRecDepth 100000

section
variable {H : Type} {enc : TypeId × Value → H} {W : World}
end
theorem bytes_row {w : World} {x : Addr} {len cap : Nat} {zs : List Int} (hl : len ≤ cap) (hz : zs.length = cap)
    (hc : ∀ i, i < zs.length → w.cell? (x.add i) = some (.int .u8 (zs.getD i 0))) (hw : ∀ n ∈ zs, (Lit.int .u8 n).wf = true) :
    ∃ l : List UInt8, l.length = len ∧ Rb w (some x) l := by
  have hbd : ∀ n ∈ zs, 0 ≤ n ∧ n < 256 := by
    intro n hn
    have := bounds_u8 (hw n hn)
    omega
  refine ⟨(zs.take len).map b8, by rw [List.length_map, List.length_take]; omega, ⟨fun hne => ?_⟩⟩
  have hlen : ((zs.take len).map b8).length = len := by rw [List.length_map, List.length_take]; omega
  have h0 : 0 < len := by
    apply Classical.byContradiction
    intro h
    have : len = 0 := by omega
    subst this
    simp at hne
  obtain ⟨b, off, spot⟩ := x
  have hspot : spot = none := by
    have := hc 0 (by omega)
    simp only [World.cell?, Addr.add] at this
    split at this
    · cases spot with
      | none => rfl
      | some s => simp at this
    · cases this
  subst hspot
  have hcj : ∀ j, j < len → w.cell? ⟨b, off + j, none⟩ = some (.int .u8 (((((zs.take len).map b8).getD j 0).toNat : Nat) : Int)) := by
    intro j hj
    have h1 := hc j (by omega)
    rw [Addr.add_lit] at h1
    rw [h1]
    have hjz : j < zs.length := by omega
    have h2 := hbd zs[j] (List.getElem_mem hjz)
    have e1 : zs.getD j 0 = zs[j] := by simp [hjz]
    have e2 : ((zs.take len).map b8).getD j 0 = b8 zs[j] := by simp [List.getD_eq_getElem?_getD, hj, hjz]
    rw [e1, e2, b8_val h2.1 h2.2]
  refine ⟨b, off, rfl, ?_, fun j hj => hcj j (by omega)⟩
  have := hcj 0 h0
  apply Classical.byContradiction
  intro h
  simp [World.cell?, Array.getElem?_eq_none (Nat.le_of_not_lt h)] at this
section
variable {H : Type} {enc : TypeId × Value → H} {W : World}
end
theorem Rb.take {w : World} {so : Option Addr} {l : List UInt8} (h : Rb w so l) (n : Nat) : Rb w so (l.take n) := by
  refine ⟨fun hne => ?_⟩
  obtain ⟨b, off, h1, h2, h3⟩ := h.pos (fun k => hne (by rw [k]; simp))
  refine ⟨b, off, h1, h2, fun j hj => ?_⟩
  rw [List.length_take] at hj
  rw [h3 j (by omega), List.getD_eq_getElem?_getD, List.getD_eq_getElem?_getD, List.getElem?_take_of_lt (by omega)]
section
variable {P : Program} {w : World} {l : List (Nat × Value)} {dst : Option Tmp} {ty : TypeId} {pos : String} {after : Array Edge} {guard : Option (Nat × Bool)}
end
def Nu.cells (y : Nu) : List Value := [.bool y.q.b1, .slice y.o1 y.q.t1.length y.c1, .slice y.o2 y.q.q1.length y.c2, .bool y.q.b2, .slice y.o3 y.q.t2.length y.c3, .slice y.o4 y.q.q2.length y.c4]
theorem cellD_lt {w : World} {b o : Nat} {v : Value} (h : w.cell? ⟨b, o, none⟩ = some v) : b < w.heap.size := by
  apply Classical.byContradiction
  intro k
  simp [World.cell?, Array.getElem?_eq_none (Nat.le_of_not_lt k)] at h
section
variable {H : Type} {enc : TypeId × Value → H} {W : World}
theorem uk (l : List (DataW H)) : Rows.uptoBulk (.agg l) = Rows.uptoBulkAll l + 1 := by simp only [Rows.uptoBulk]
theorem trodU_bytes {fuel : Nat} {v : Value} {x : DataW H × List MemPlace} (h : DataW.trod enc Tryz.prog W 0 (fun _ => true) true fuel 51 [v] = some x) : ∃ so cap l, v = .slice so (l : List UInt8).length cap ∧ Rb W so l ∧ l.length ≤ cap ∧ cap ≤ 9223372036854775807 ∧ l.length ≤ Rows.uptoBulk x.1 := by
  rcases open_ints Tryz.underlying51 Tryz.underlying5 (by kernel_rfl) h with ⟨hcs, _⟩ | ⟨x, l, c, zs, hcs, _, hl, hm, hz, hx, hcell, hwz⟩
  · simp only [List.cons.injEq, and_true] at hcs
    subst hcs
    exact ⟨none, 0, [], rfl, ⟨fun k => absurd rfl k⟩, Nat.le_refl _, by decide, Nat.zero_le _⟩
  · simp only [List.cons.injEq, and_true] at hcs
    subst hcs
    obtain ⟨us, e, ha⟩ := bytes_row hl (by simpa using hz) hcell hwz
    subst e
    subst hx
    refine ⟨_, _, us, rfl, ha, hl, hm, ?_⟩
    simp only [if_true] at hz
    refine Nat.le_trans ?_ (qff _ _)
    simp only [lits, List.length_map, List.length_take, List.length_drop]
    omega
theorem qbh {fuel : Nat} {v : Value} {x : DataW H × List MemPlace} (h : DataW.trod enc Tryz.prog W 0 (fun _ => true) true fuel 46 [v] = some x) : ∃ ao c l, v = .slice ao (l : List Nat).length c ∧ Arg W ao c l ∧ l.length ≤ Rows.uptoBulk x.1 := by
  rcases open_ints Tryz.underlying46 Tryz.underlying117 (by kernel_rfl) h with ⟨hcs, _⟩ | ⟨x, l, c, zs, hcs, _, hl, hm, hz, hx, hcell, hwz⟩
  · cases hcs
    exact ⟨none, 0, [], rfl, arg_nil W, Nat.zero_le _⟩
  · cases hcs
    obtain ⟨us, e, ha⟩ := arg_row hl hm (by simpa using hz) hcell hwz
    subst e
    subst hx
    refine ⟨_, _, us, rfl, ha, ?_⟩
    simp only [if_true] at hz
    refine Nat.le_trans ?_ (qff _ _)
    simp only [lits, List.length_map, List.length_take, List.length_drop]
    omega
theorem qhj {fuel : Nat} {v0 v1 v2 : Value} {x : DataW H × List MemPlace} (h : DataW.trod enc Tryz.prog W 0 (fun _ => true) true fuel 48 [v0, v1, v2] = some x) : ∃ b o1 c1 l1 o2 c2 l2, v0 = .bool b ∧ v1 = .slice o1 (l1 : List Nat).length c1 ∧ v2 = .slice o2 (l2 : List Nat).length c2 ∧ Arg W o1 c1 l1 ∧ Arg W o2 c2 l2 ∧ l1.length + l2.length ≤ Rows.uptoBulk x.1 := by
  obtain ⟨y0, y1, y2, n, hx, _, h0, h1, h2⟩ := trod_struct3 Tryz.underlying48 h
  have e0 : Tryz.prog.cellsOf 4 = 1 := by kernel_rfl
  have e1 : Tryz.prog.cellsOf 46 = 1 := by kernel_rfl
  simp only [e0, e1, List.drop_zero, List.take_succ_cons, List.take_zero, List.drop_succ_cons] at h0 h1 h2
  obtain ⟨b, rfl⟩ := trod_bool h0
  obtain ⟨o1, c1, l1, rfl, a1, k1⟩ := qbh h1
  obtain ⟨o2, c2, l2, rfl, a2, k2⟩ := qbh h2
  refine ⟨b, o1, c1, l1, o2, c2, l2, rfl, rfl, rfl, a1, a2, ?_⟩
  rw [hx, uk]
  simp only [Rows.uptoBulkAll]
  omega
theorem trodU_num {fuel : Nat} {cs : List Value} {x : DataW H × List MemPlace} (hl : cs.length = 6) (h : DataW.trod enc Tryz.prog W 0 (fun _ => true) true fuel 50 cs = some x) :
    ∃ y : Nu, cs = y.cells ∧ y.nm W ∧ LenQ y.q ∧ y.q.t1.length + y.q.q1.length + (y.q.t2.length + y.q.q2.length) ≤ Rows.uptoBulk x.1 := by
  match cs, hl with
  | [v0, v1, v2, v3, v4, v5], _ =>
    obtain ⟨y0, y1, n, hx, _, h0, h1⟩ := trod_struct2 Tryz.underlying50 h
    have e : Tryz.prog.cellsOf 48 = 3 := by kernel_rfl
    simp only [e, List.drop_zero, List.take_succ_cons, List.take_zero, List.drop_succ_cons] at h0 h1
    obtain ⟨b1, o1, c1, l1, o2, c2, l2, rfl, rfl, rfl, a1, a2, k1⟩ := qhj h0
    obtain ⟨b2, o3, c3, l3, o4, c4, l4, rfl, rfl, rfl, a3, a4, k2⟩ := qhj h1
    refine ⟨⟨⟨b1, l1, l2, b2, l3, l4⟩, o1, c1, o2, c2, o3, c3, o4, c4⟩, rfl, ⟨⟨a1.rd, a1.nil, a1.caps⟩, ⟨a2.rd, a2.nil, a2.caps⟩, ⟨a3.rd, a3.nil, a3.caps⟩, ⟨a4.rd, a4.nil, a4.caps⟩⟩, ⟨a1.len, a2.len, a3.len, a4.len⟩, ?_⟩
    rw [hx, uk]
    simp only [Rows.uptoBulkAll]
    omega
/-- One datum, as it lies in a row of cells; and a list of them. -/
def OpenD (H : Type) (enc : TypeId × Value → H) (W : World) (fuel : Nat) : Prop := ∀ (cs : List Value) (x : DataW H × List MemPlace), DataW.trod enc Tryz.prog W 0 (fun _ => true) true fuel 53 cs = some x → ∃ t : Dt, cs = t.cells ∧ t.rd W ∧ t.tr.bulk ≤ Rows.uptoBulk x.1
theorem qfg {fuel : Nat} {v : Value} {x : DataW H × List MemPlace} (ih : ∀ n, n < fuel → OpenD H enc W n) (h : DataW.trod enc Tryz.prog W 0 (fun _ => true) true fuel 39 [v] = some x) :
    ∃ lo lc ts, v = .slice lo (ts : List Dt).length lc ∧ ts.length ≤ lc ∧ lc ≤ 9223372036854775807 ∧ Rt W lo ts ∧ (∀ t ∈ ts, t.rd W) ∧ Tr.bulks (ts.map Dt.tr) ≤ Rows.uptoBulk x.1 := by
  rcases DataW.trod_slice Tryz.underlying39 h with ⟨hcs, _⟩ | ⟨a, len, cap, elems, rest, n, hf, hcs, hx, _, hl, hm, hlen, hel, _, _⟩
  · simp only [List.cons.injEq, and_true] at hcs
    subst hcs
    exact ⟨none, 0, [], rfl, Nat.le_refl _, by decide, fun k => absurd rfl k, fun _ k => by simp at k, Nat.zero_le _⟩
  · simp only [List.cons.injEq, and_true] at hcs
    subst hcs
    rw [show Tryz.prog.cellsOf 53 = 11 from by kernel_rfl] at hel
    have each : ∀ i, ∃ t : Dt, i < len → t.rd W ∧ (∀ j v, t.cells[j]? = some v → W.cell? ((a.add (i * 11)).add j) = some v) ∧ ∃ y, elems[i]? = some y ∧ t.tr.bulk ≤ Rows.uptoBulk y.1 := by
      intro i
      by_cases hi : i < len
      · have h1 := hel i hi
        rw [List.getElem?_eq_getElem (by omega)] at h1
        obtain ⟨cs, h2, h3⟩ := Option.bind_eq_some_iff.1 h1
        obtain ⟨_, hlc, hcell⟩ := World.cells?_some h2
        obtain ⟨t, rfl, hr, hb⟩ := ih n (by omega) cs _ h3
        exact ⟨t, fun _ => ⟨hr, fun j v hj => by rw [hcell j (by have := (List.getElem?_eq_some_iff.1 hj).1; rw [hlc] at this; exact this)]; exact hj, _, List.getElem?_eq_getElem (by omega), hb⟩⟩
      · exact ⟨.mk ⟨0, 0, ⟨⟨false, [], [], false, [], []⟩, none, 0, none, 0, none, 0, none, 0⟩, ⟨#[]⟩, none, 0, [], none, 0⟩ [], fun k => absurd k hi⟩
    obtain ⟨F, hF⟩ := Classical.skolem.1 each
    have hget : ∀ (j : Nat) (q : Dt), ((List.range len).map F)[j]? = some q → j < len ∧ q = F j := by
      intro j q hq
      rw [List.getElem?_map] at hq
      obtain ⟨y, h1, h2⟩ := Option.map_eq_some_iff.1 hq
      obtain ⟨h3, h4⟩ := List.getElem?_eq_some_iff.1 h1
      rw [List.length_range] at h3
      rw [List.getElem_range] at h4
      subst h4
      exact ⟨h3, h2.symm⟩
    refine ⟨some a, cap, (List.range len).map F, by simp, by simpa using hl, hm, fun hne => ?_, fun t ht => ?_, ?_⟩
    · have hn : 0 < len := by
        apply Classical.byContradiction
        intro k
        exact hne (by rw [show len = 0 from by omega]; rfl)
      obtain ⟨b, off, spot⟩ := a
      have h0 := (hF 0 hn).2.1 0 _ rfl
      have hspot : spot = none := by simpa [Addr.add] using World.cell?_spot h0
      subst hspot
      refine ⟨b, off, rfl, fun i t hi => ?_⟩
      obtain ⟨hlt, rfl⟩ := hget i t hi
      have hat : ∀ j v, (F i).cells[j]? = some v → W.cell? ⟨b, off + i * 11 + j, none⟩ = some v := fun j v hj => by
        have := (hF i hlt).2.1 j v hj
        rwa [Addr.add_lit, Addr.add_lit] at this
      exact ⟨cellD_lt (hat 0 _ rfl), hat⟩
    · obtain ⟨j, hj⟩ := List.mem_iff_getElem?.1 ht
      obtain ⟨h1, rfl⟩ := hget j t hj
      exact (hF j h1).1
    · rw [hx]
      have key : ∀ m, m ≤ len → Tr.bulks (((List.range m).map F).map Dt.tr) ≤ Rows.uptoBulkAll ((elems.map (·.1)).take m) := by
        intro m
        induction m with
        | zero => intro _; simp [Tr.bulks]
        | succ m ih2 =>
          intro hm2
          have hs : ∀ (l : List Tr) (t : Tr), Tr.bulks (l ++ [t]) = Tr.bulks l + t.bulk := by
            intro l t
            induction l with
            | nil => simp [Tr.bulks]
            | cons u l ih3 => simp only [List.cons_append, Tr.bulks, ih3]; omega
          have hu : ∀ (l : List (DataW H)) (d : DataW H), Rows.uptoBulkAll (l ++ [d]) = Rows.uptoBulkAll l + Rows.uptoBulk d := by
            intro l d
            induction l with
            | nil => simp [Rows.uptoBulkAll]
            | cons u l ih3 => simp only [List.cons_append, Rows.uptoBulkAll, ih3]; omega
          obtain ⟨_, _, y, hy, hb⟩ := hF m (by omega)
          have := ih2 (by omega)
          rw [List.range_succ, List.map_append, List.map_append, List.take_add_one, List.getElem?_map, hy]
          simp only [List.map_cons, List.map_nil, Option.map_some, Option.toList_some]
          rw [hs, hu]
          omega
      have h1 := key len (Nat.le_refl _)
      rw [List.take_of_length_le (by rw [List.length_map]; omega)] at h1
      simp only [Rows.uptoBulk]
      omega
theorem open_dt : ∀ fuel, OpenD H enc W fuel := by
  intro fuel
  induction fuel using Nat.strongRecOn with
  | ind fuel ih =>
    intro cs x h
    obtain ⟨xs, n, hfu, hx, hl, hxl, hf⟩ := DataW.trod_struct Tryz.underlying53 h
    rw [show Tryz.prog.cellsOf 53 = 11 from by kernel_rfl] at hl
    match cs, hl with
    | [v0, v1, v2, v3, v4, v5, v6, v7, v8, v9, v10], _ =>
      match xs, hxl with
      | [x0, x1, x2, x3, x4, x5], _ =>
        have g0 := hf 0 _ rfl
        have g1 := hf 1 _ rfl
        have g2 := hf 2 _ rfl
        have g3 := hf 3 _ rfl
        have g4 := hf 4 _ rfl
        have g5 := hf 5 _ rfl
        have c1 : Tryz.prog.cellsOf 3 = 1 := by kernel_rfl
        have c2 : Tryz.prog.cellsOf 50 = 6 := by kernel_rfl
        have c3 : Tryz.prog.cellsOf 9 = 1 := by kernel_rfl
        have c4 : Tryz.prog.cellsOf 51 = 1 := by kernel_rfl
        have c5 : Tryz.prog.cellsOf 39 = 1 := by kernel_rfl
        simp only [c1, c2, c3, c4, c5, List.drop_zero, List.take_succ_cons, List.take_zero, List.drop_succ_cons, List.getElem?_cons_zero, List.getElem?_cons_succ] at g0 g1 g2 g3 g4 g5
        obtain ⟨k, e0, _, w0⟩ := DataW.trod_int Tryz.underlying3 g0
        obtain ⟨m, e1, _, w1⟩ := DataW.trod_int Tryz.underlying3 g1
        obtain ⟨y, e2, hy, hq, b2⟩ := trodU_num rfl g2
        obtain ⟨s, e3, hs, hsm⟩ := DataW.trod_string Tryz.underlying9 g3
        obtain ⟨ro, rc, rl, e4, hr, hrc, hrm, b4⟩ := trodU_bytes g4
        obtain ⟨lo, lc, ts, e5, hlc, hlm, hrt, hrd, b5⟩ := qfg (fun n' hn' => ih n' (by omega)) g5
        have bk := bounds_i64 w0
        have bm := bounds_i64 w1
        refine ⟨.mk ⟨k, m, y, s, ro, rc, rl, lo, lc⟩ ts, ?_, ?_, ?_⟩
        · injection e0 with f0
          injection e1 with f1
          injection e3 with f3
          injection e2 with e20 g
          injection g with e21 g
          injection g with e22 g
          injection g with e23 g
          injection g with e24 g
          injection g with e25 g
          subst f0 f1 f3 e4 e5 e20 e21 e22 e23 e24 e25
          rfl
        · rw [Dt.rd_iff]
          exact ⟨⟨hy, hq, hr, hrc, hrm, bk.1, bk.2, bm.1, bm.2, hsm⟩, hlc, hlm, hrt, hrd⟩
        · rw [Dt.tr_mk, vd, hx, uk]
          have h3 : Rows.uptoBulk x3.1 = s.size + 1 := by
            rw [hs]
            rw [show Rows.uptoBulk (DataW.lit (H := H) (.string s.data.toList)) = s.data.toList.length + 1 from by simp only [Rows.uptoBulk], Array.length_toList]
            rfl
          simp only [List.map_cons, List.map_nil, Rows.uptoBulkAll]
          have := bulk_pos x0.1
          omega
end
theorem row_ofX {w : World} {x : Addr} {vs : List Value} (hc : ∀ (i : Nat) v, vs[i]? = some v → w.cell? (x.add i) = some v) : Rc w (some x) vs := by
  intro hne
  obtain ⟨v, h0⟩ : ∃ v, vs[0]? = some v := by
    cases vs with
    | nil => exact absurd rfl hne
    | cons v t => exact ⟨v, rfl⟩
  obtain ⟨b, off, spot⟩ := x
  have hspot : spot = none := by
    have h2 := hc 0 v h0
    simp only [World.cell?, Addr.add] at h2
    split at h2
    · cases spot with
      | none => rfl
      | some s => simp at h2
    · cases h2
  subst hspot
  refine ⟨b, off, rfl, fun p u hp => ?_⟩
  have h2 := hc p u hp
  rw [Addr.add_lit] at h2
  exact h2
section
variable {H : Type} {enc : TypeId × Value → H} {W : World}
end
section
variable {H : Type} {enc : TypeId × Value → H} {W : World}
theorem qkd {xs : List (DataW H)} {n : Nat} (h : n ≤ xs.length) : ((List.range n).map fun i => (xs[i]?.map Rows.uptoBulk).getD 0).sum ≤ Rows.uptoBulkAll xs := by
  have key : ∀ m, m ≤ xs.length → ((List.range m).map fun i => (xs[i]?.map Rows.uptoBulk).getD 0).sum = Rows.uptoBulkAll (xs.take m) := by
    intro m
    induction m with
    | zero => intro _; simp [Rows.uptoBulkAll]
    | succ m ih =>
      intro hm
      have hu : ∀ (l : List (DataW H)) (d : DataW H), Rows.uptoBulkAll (l ++ [d]) = Rows.uptoBulkAll l + Rows.uptoBulk d := by
        intro l d
        induction l with
        | nil => simp [Rows.uptoBulkAll]
        | cons u l ih3 => simp only [List.cons_append, Rows.uptoBulkAll, ih3]; omega
      rw [List.range_succ, List.map_append, List.sum_append, ih (by omega), List.take_add_one, List.getElem?_eq_getElem (show m < xs.length by omega)]
      simp only [List.map_cons, List.map_nil, Option.map_some, Option.toList_some, List.sum_cons, List.sum_nil, Option.getD_some, Nat.add_zero]
      rw [hu, List.getElem?_eq_getElem (show m < xs.length by omega)]
      simp
  have hmono : ∀ (l : List (DataW H)) (m : Nat), Rows.uptoBulkAll (l.take m) ≤ Rows.uptoBulkAll l := by
    intro l
    induction l with
    | nil => intro m; simp
    | cons a l ih =>
      intro m
      cases m with
      | zero => simp [Rows.uptoBulkAll]
      | succ m => simp only [List.take_succ_cons, Rows.uptoBulkAll]; have := ih m; omega
  rw [key n h]
  exact hmono xs n
/-- A slice of structs, each opened by its own law. -/
theorem open_row {α : Type} {f : α → List Value} {m : Nat} (hf : ∀ x, (f x).length = m) (hm0 : 0 < m) {tS tE : TypeId} (hu : Tryz.prog.underlying tS = some (.slice tE)) (hc : Tryz.prog.cellsOf tE = m) {P : α → Nat → Prop} (dflt : α)
    (each0 : ∀ n cs x, DataW.trod enc Tryz.prog W 0 (fun _ => true) true n tE cs = some x → ∃ a : α, cs = f a ∧ P a (Rows.uptoBulk x.1)) {fuel : Nat} {v : Value} {y : DataW H × List MemPlace} (h : DataW.trod enc Tryz.prog W 0 (fun _ => true) true fuel tS [v] = some y) :
    ∃ so cap, ∃ l : List (α × Nat), v = .slice so l.length cap ∧ Rc W so (zh f (l.map Prod.fst)) ∧ (∀ q ∈ l, P q.1 q.2) ∧ (l.map Prod.snd).sum ≤ Rows.uptoBulk y.1 ∧ l.length ≤ Rows.uptoBulk y.1 := by
  rcases DataW.trod_slice hu h with ⟨hcs, _⟩ | ⟨x, len, cap, elems, rest, n, _, hcs, hx, _, hl, hm, hlen, hel, _, _⟩
  · simp at hcs
    subst hcs
    exact ⟨none, 0, [], rfl, fun k => absurd rfl k, (fun q k => by cases k), Nat.zero_le _, Nat.zero_le _⟩
  · simp at hcs
    subst hcs
    subst hx
    have each : ∀ i, ∃ a : α, i < len → (∀ (j : Nat) v, (f a)[j]? = some v → W.cell? (x.add (i * m + j)) = some v) ∧ P a (((elems.map (·.1))[i]?.map Rows.uptoBulk).getD 0) := by
      intro i
      by_cases hi : i < len
      · have hE := hel i hi
        rw [hc] at hE
        rw [List.getElem?_eq_getElem (by omega), Option.bind_eq_some_iff] at hE
        obtain ⟨c1, hc1, hy1⟩ := hE
        obtain ⟨o, e, hr⟩ := each0 _ _ _ hy1
        obtain ⟨_, h2, h3⟩ := World.cells?_some hc1
        refine ⟨o, fun _ => ⟨fun j v hj => ?_, ?_⟩⟩
        · have hlt := (List.getElem?_eq_some_iff.1 hj).1
          rw [← e, h2] at hlt
          have h4 := h3 j hlt
          rw [e, hj] at h4
          rw [← Addr.add_add]
          exact h4
        · rw [List.getElem?_map, List.getElem?_eq_getElem (show i < elems.length by omega)]
          exact hr
      · exact ⟨dflt, fun k => absurd k hi⟩
    obtain ⟨F, hF⟩ := Classical.skolem.1 each
    have e1 : ((List.range len).map fun i => (F i, (((elems.map (·.1))[i]?.map Rows.uptoBulk).getD 0))).map Prod.fst = (List.range len).map F := by rw [List.map_map]; rfl
    have hcat : ∀ (i : Nat) v, (zh f ((List.range len).map F))[i]? = some v → W.cell? (x.add i) = some v := by
      intro i v hi
      have hlt := (List.getElem?_eq_some_iff.1 hi).1
      rw [kp hf, List.length_map, List.length_range] at hlt
      have hj : i / m < len := (Nat.div_lt_iff_lt_mul hm0).2 hlt
      have h1 : ((List.range len).map F)[i / m]? = some (F (i / m)) := by simp [hj]
      have h2 := qce hf h1
      have hd : i / m * m + i % m = i := by rw [Nat.mul_comm]; exact Nat.div_add_mod i m
      have h3 : (f (F (i / m)))[i % m]? = some v := by
        rw [← h2, List.getElem?_take, if_pos (Nat.mod_lt _ hm0), List.getElem?_drop, hd]
        exact hi
      have h4 := (hF (i / m) hj).1 (i % m) v h3
      rwa [hd] at h4
    refine ⟨some x, cap, (List.range len).map fun i => (F i, (((elems.map (·.1))[i]?.map Rows.uptoBulk).getD 0)), by simp, ?_, fun q hq => ?_, ?_, ?_⟩
    · rw [e1]
      exact row_ofX hcat
    · obtain ⟨i, hi, rfl⟩ := List.mem_map.1 hq
      exact (hF i (List.mem_range.1 hi)).2
    · rw [List.map_map]
      have := qkd (xs := elems.map (·.1)) (n := len) (by rw [List.length_map]; omega)
      simp only [Rows.uptoBulk]
      refine Nat.le_trans this ?_
      omega
    · refine Nat.le_trans ?_ (qff _ _)
      simp only [List.length_map, List.length_range]
      omega
theorem trodU_part {fuel : Nat} {cs : List Value} {x : DataW H × List MemPlace} (h : DataW.trod enc Tryz.prog W 0 (fun _ => true) true fuel 41 cs = some x) : ∃ p : Sp, cs = p.c ∧ SpR W p ∧ Tr.bulks (p.vs.map Dt.tr) ≤ Rows.uptoBulk x.1 := by
  obtain ⟨xs, n, hfu, hx, hl, hxl, hf⟩ := DataW.trod_struct Tryz.underlying41 h
  rw [show Tryz.prog.cellsOf 41 = 2 from by kernel_rfl] at hl
  match cs, hl with
  | [v0, v1], _ =>
    match xs, hxl with
    | [x0, x1], _ =>
      have g0 := hf 0 _ rfl
      have g1 := hf 1 _ rfl
      have c1 : Tryz.prog.cellsOf 3 = 1 := by kernel_rfl
      have c3 : Tryz.prog.cellsOf 39 = 1 := by kernel_rfl
      simp only [c1, c3, List.drop_zero, List.take_succ_cons, List.take_zero, List.drop_succ_cons, List.getElem?_cons_zero, List.getElem?_cons_succ] at g0 g1
      obtain ⟨z0, e0, _, _⟩ := DataW.trod_int Tryz.underlying3 g0
      obtain ⟨lo, lc, ts, e5, hlc, hlm, hrt, hrd, b5⟩ := qfg (fun n' _ => open_dt n') g1
      have hbx : Rows.uptoBulk x.1 = Rows.uptoBulk x0.1 + (Rows.uptoBulk x1.1 + 0) + 1 := by
        rw [hx, uk]
        simp only [List.map_cons, List.map_nil, Rows.uptoBulkAll]
      refine ⟨⟨z0, lo, lc, ts⟩, ?_, ⟨hrt, hrd⟩, by show Tr.bulks (ts.map Dt.tr) ≤ _; omega⟩
      injection e0 with f0
      subst f0 e5
      rfl
theorem sum_mem {α : Type} {l : List (α × Nat)} {q : α × Nat} (h : q ∈ l) : q.2 ≤ (l.map Prod.snd).sum := by
  induction l with
  | nil => cases h
  | cons a l ih =>
    rw [List.map_cons, List.sum_cons]
    rcases List.mem_cons.1 h with rfl | h
    · omega
    · have := ih h
      omega
theorem trodU_parts {fuel : Nat} {v : Value} {y : DataW H × List MemPlace} (h : DataW.trod enc Tryz.prog W 0 (fun _ => true) true fuel 34 [v] = some y) :
    ∃ so cap, ∃ ps : List Sp, v = .slice so ps.length cap ∧ PR W so ps ∧ (∀ p ∈ ps, Tr.bulks (p.vs.map Dt.tr) ≤ Rows.uptoBulk y.1) ∧ ps.length ≤ Rows.uptoBulk y.1 := by
  obtain ⟨so, cap, l, e, h1, h2, h3, h4⟩ := open_row (f := Sp.c) qdh (by decide) Tryz.underlying34 (by kernel_rfl) (P := fun p b => SpR W p ∧ Tr.bulks (p.vs.map Dt.tr) ≤ b) zk (fun n cs x hx => trodU_part hx) h
  refine ⟨so, cap, l.map Prod.fst, by rw [List.length_map]; exact e, ⟨h1, fun p hp => ?_⟩, fun p hp => ?_, by rw [List.length_map]; exact h4⟩
  · obtain ⟨q, hq, rfl⟩ := List.mem_map.1 hp
    exact (h2 q hq).1
  · obtain ⟨q, hq, rfl⟩ := List.mem_map.1 hp
    exact Nat.le_trans (h2 q hq).2 (Nat.le_trans (sum_mem hq) h3)
theorem qfh {base : Nat} {v : Value} {d : DataW H} {p : List MemPlace} (hv : Value.okWide Tryz.prog W .any base 34 v) (h : DataW.Trod enc Tryz.prog W 0 (fun _ => true) true 34 v d p) :
    ∃ so cap, ∃ ps : List Sp, v = .slice so ps.length cap ∧ PR W so ps ∧ (∀ p ∈ ps, Tr.bulks (p.vs.map Dt.tr) ≤ Rows.uptoBulk d) ∧ ps.length ≤ Rows.uptoBulk d := by
  obtain ⟨a, n, c, rfl⟩ := okWide_slice Tryz.underlying34 hv
  obtain ⟨fuel, hf⟩ := h
  exact trodU_parts (v := .slice a n c) hf
end
end Go.Proofs.YtdpakekdbkpdfaaGreatDoor.G
