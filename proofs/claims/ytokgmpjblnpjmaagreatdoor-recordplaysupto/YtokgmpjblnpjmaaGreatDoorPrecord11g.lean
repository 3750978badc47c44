/- Walks of what the document says of types. Walks of what the document says of changes. Scripts over a store. Both stores, call by call. -/
import Derived.Test.YtokgmpjblnpjmaaGreatDoorPrecord11f
namespace Go.Proofs.YtokgmpjblnpjmaaGreatDoor.G
open Go.RowKit
set_option linter.unusedVariables false
set_option linter.unusedSimpArgs false
set_option maxRecDepth 100000
theorem RcH_is1_26 : Is1 Tryz.prog 26 := ⟨⟨_, Tryz.underlying26, rfl⟩, by kernel_rfl⟩
theorem RcH_is1_27 : Is1 Tryz.prog 27 := ⟨⟨_, Tryz.underlying27, rfl⟩, by kernel_rfl⟩
theorem RcH_is1_3 : Is1 Tryz.prog 3 := ⟨⟨_, Tryz.underlying3, rfl⟩, by kernel_rfl⟩
theorem RcH_is1_30 : Is1 Tryz.prog 30 := ⟨⟨_, Tryz.underlying30, rfl⟩, by kernel_rfl⟩
theorem RcH_is1_31 : Is1 Tryz.prog 31 := ⟨⟨_, Tryz.underlying31, rfl⟩, by kernel_rfl⟩
theorem RcH_is1_34 : Is1 Tryz.prog 34 := ⟨⟨_, Tryz.underlying34, rfl⟩, by kernel_rfl⟩
theorem RcH_is1_4 : Is1 Tryz.prog 4 := ⟨⟨_, Tryz.underlying4, rfl⟩, by kernel_rfl⟩
theorem RcH_is1_9 : Is1 Tryz.prog 9 := ⟨⟨_, Tryz.underlying9, rfl⟩, by kernel_rfl⟩
theorem RcH_fld_29_0 : FieldAt Tryz.prog 29 0 0 := ⟨_, _, Tryz.underlying29, rfl, rfl, by kernel_rfl⟩
theorem RcH_fld_29_1 : FieldAt Tryz.prog 29 1 1 := ⟨_, _, Tryz.underlying29, rfl, rfl, by kernel_rfl⟩
theorem RcH_fld_33_0 : FieldAt Tryz.prog 33 0 0 := ⟨_, _, Tryz.underlying33, rfl, rfl, by kernel_rfl⟩
theorem RcH_fld_33_1 : FieldAt Tryz.prog 33 1 1 := ⟨_, _, Tryz.underlying33, rfl, rfl, by kernel_rfl⟩
theorem RcH_fld_33_2 : FieldAt Tryz.prog 33 2 2 := ⟨_, _, Tryz.underlying33, rfl, rfl, by kernel_rfl⟩
theorem RcH_fld_33_3 : FieldAt Tryz.prog 33 3 3 := ⟨_, _, Tryz.underlying33, rfl, rfl, by kernel_rfl⟩
theorem RcH_fld_33_4 : FieldAt Tryz.prog 33 4 4 := ⟨_, _, Tryz.underlying33, rfl, rfl, by kernel_rfl⟩
theorem RcH_fld_33_5 : FieldAt Tryz.prog 33 5 5 := ⟨_, _, Tryz.underlying33, rfl, rfl, by kernel_rfl⟩
theorem RcH_fld_33_6 : FieldAt Tryz.prog 33 6 6 := ⟨_, _, Tryz.underlying33, rfl, rfl, by kernel_rfl⟩
theorem RcH_fld_88_0 : FieldAt Tryz.prog 88 0 0 := ⟨_, _, Tryz.underlying88, rfl, rfl, by kernel_rfl⟩
theorem RcH_fld_88_1 : FieldAt Tryz.prog 88 1 1 := ⟨_, _, Tryz.underlying88, rfl, rfl, by kernel_rfl⟩
theorem RcH_isS_29 : IsS Tryz.prog 29 2 := ⟨⟨_, Tryz.underlying29⟩, by kernel_rfl⟩
theorem RcH_isS_42 : IsS Tryz.prog 42 11 := ⟨⟨_, Tryz.underlying42⟩, by kernel_rfl⟩
theorem qch {w : World} {tz ro : Option Addr} {tc rc : Nat} {ts : List Ty} {rs : List Rk} (hT : TR w tz ts) (hR : RR w ro rs) (hW : WS (ts.map Ty.k) (rs.map Rk.k)) {t : Int} (h0 : -1 ≤ t) (h1 : t < ((ts.length : Nat) : Int)) : Calls Tryz.prog 45 #[.agg #[.slice tz ts.length tc, .slice ro rs.length rc], .int .i64 t] w fun e w' => ∃ so' ca', e = .returned (.slice so' (chT (prs (ts.map Ty.k)) t).length ca') ∧ Mg w w' [.row 3 1 (.slice so' (chT (prs (ts.map Ty.k)) t).length ca') (chT (prs (ts.map Ty.k)) t).length (inC (chT (prs (ts.map Ty.k)) t))] := by
 have hkl := hW.kl
 have hrl := hW.rl
 rw [List.length_map] at hkl hrl
 have hcl := yk (prs (ts.map Ty.k)) t
 have M : Mg w w ([]) := Mg.start w
 refine qx (l := [(0, .agg #[.slice tz ts.length tc, .slice ro rs.length rc]), (1, .int .i64 t)]) Tryz.func45 rfl Tryz.ntmps45 rfl rfl ?_
 intro Q hret hnorm hP a A
 refine wsk fun K1 hK1 => wrl (jb (vs := [.slice tz ts.length tc, .slice ro rs.length rc]) (t := 29) A M rfl rfl rfl pg (zh rfl rfl) (by decide) ?_)
 intro g2 w3 M a A
 refine sda A λa A↦?_
 refine qa (hK1 _ _ (wsk fun K4 hK4 => wrl (jw (e := 3) (sz := 1) (m := 0) (vs := inC []) A M rfl rfl rfl (qs rfl (by kernel_rfl)) rfl rfl (.inl (by decide)) ?_)))
 intro g5 w6 M a A
 refine sda A λa A↦?_
 refine qa (hK4 _ _ (wsk fun K7 hK7 => wp_block (zt (fun m_ a w1 => ∃ (t1 : Int) (xs : List Int) (so_ : Option Addr) (ca_ : Nat), m_ = 1 + (t1 + 1).toNat ∧ (-1 ≤ t1 ∧ t1 < ((ts.length : Nat) : Int) ∧ xs ++ chT (prs (ts.map Ty.k)) t1 = (chT (prs (ts.map Ty.k)) t)) ∧ Sl a 20 [(0, .agg #[.slice tz ts.length tc, .slice ro rs.length rc]), (1, .int .i64 t1), (2, .pointer (some ⟨g2, 0, none⟩)), (4, .slice none 0 0), (5, .slice so_ xs.length ca_), (6, .slice (some ⟨g5, 0, none⟩) 0 0)] ∧ Mg w w1 (.row 3 1 (.slice so_ xs.length ca_) xs.length (inC xs) :: .obj g2 (.cells #[.slice tz ts.length tc, .slice ro rs.length rc] 29) :: [])) _ ⟨t, [], some ⟨g5, 0, none⟩, 0, rfl, ⟨h0, h1, rfl⟩, A.keep _ (by repeat' constructor), M⟩ ?_)))
 clear M A
 rintro m_ a w8 ⟨t1, xs, so_, ca_, rfl, hinv10, A, M⟩ K9 hK9
 obtain ⟨ht0, ht1, hxs⟩ := hinv10
 have hxl : xs.length ≤ (chT (prs (ts.map Ty.k)) t).length := by rw [← hxs, List.length_append]; omega
 refine wsk fun K11 hK11 => wsk fun K12 hK12 => wrl (sdm A λa A↦?_)
 rcases tf (decide (0 ≤ t1)) with hb13 | hb13
 ·
  have hb13' := of_decide_eq_true hb13
  refine sdc A zk hb13 λa A↦?_
  refine qa (hK12 _ _ (wp_cond_true (A.ev rfl) ?_))
  refine wp_skip (hK11 _ _ (wp_block (wsk fun K14 hK14 => wrl ?_)))
  iterate 2 refine sdm A λa A↦?_
  refine jw (e := 3) (sz := 1) (m := 1) (vs := inC [t1]) A M rfl rfl rfl (qs rfl (by kernel_rfl)) rfl rfl (.inl (by decide)) ?_
  intro g15 w16 M a A
  refine jh (e := 3) (sz := 1) (k := 1) (q := xs.length) (m := 1) (xs := inC xs) (news := inC [t1]) (L' := fun v17 => (.row 3 1 (.slice (some ⟨g15, 0, none⟩) 1 1) 1 (inC [t1]) :: .row 3 1 (v17) (xs.length + 1) (inC xs ++ inC [t1]) :: .obj g2 (.cells #[.slice tz ts.length tc, .slice ro rs.length rc] 29) :: [])) A rfl rfl rfl (jp (z := .int .i64 0) (sz := 1) (by_ := 8) Tryz.underlying68 (by kernel_rfl) rfl rfl rfl M 1 rfl rfl rfl rfl (rc_own (M.has 0 rfl)) (zbh [t1]) (by first | omega | (simp only [List.length_nil]; omega))) (fun _ => rfl) ?_
  intro v17 w18 M a A
  replace M : Mg w w18 (.row 3 1 (.slice (some ⟨g15, 0, none⟩) 1 1) 1 (inC [t1]) :: .row 3 1 (v17) ((xs ++ [t1]).length) (inC (xs ++ [t1])) :: .obj g2 (.cells #[.slice tz ts.length tc, .slice ro rs.length rc] 29) :: []) := by
   rw [qka, List.length_append]; exact M
  obtain ⟨so19, ca20, rfl⟩ := zv (M.has 1 rfl)
  refine sda A λa A↦?_
  refine qa (hK14 _ _ ?_)
  obtain ⟨ty21, bt22, ot23, it24, mt25, rt26, lt27, Ht28⟩ := hT.at_ (i := t1.toNat) (by omega)
  have hpl := hW.par_lt (zl it24)
  rw [show ty21.k.par = ty21.par from rfl] at hpl
  refine wrl (sdo (v := .pointer (some ⟨g2, 0, none⟩)) A (qb RcH_fld_29_0 rfl rfl) λa A↦?_)
  refine sdo A (qh M RcH_is1_26 rfl 2 rfl rfl) λa A↦?_
  refine sdm A λa A↦?_
  refine sdo (v := .pointer (some ⟨bt22, ot23 + t1.toNat * 7, none⟩)) A (zb (k := t1.toNat) Tryz.underlying26 (by kernel_rfl) rfl rfl (by first | rfl | omega) lt27 (by omega)) λa A↦?_
  refine sdo (v := .pointer (some ⟨bt22, ot23 + t1.toNat * 7 + 1, none⟩)) A (qb RcH_fld_33_1 rfl rfl) λa A↦?_
  refine sdo A (jm (j := 1) M Ht28 RcH_is1_3 rfl rfl rfl) λa A↦?_
  refine sda A λa A↦?_
  refine qa ?_
  replace M : Mg w w18 (.obj g2 (.cells #[.slice tz ts.length tc, .slice ro rs.length rc] 29) :: .row 3 1 (.slice (some ⟨g15, 0, none⟩) 1 1) 1 (inC [t1]) :: .row 3 1 (.slice so19 ((xs ++ [t1]).length) ca20) ((xs ++ [t1]).length) (inC (xs ++ [t1])) :: []) := M.bring 2 rfl rfl
  replace M : Mg w w18 (.row 3 1 (.slice so19 ((xs ++ [t1]).length) ca20) ((xs ++ [t1]).length) (inC (xs ++ [t1])) :: .obj g2 (.cells #[.slice tz ts.length tc, .slice ro rs.length rc] 29) :: .row 3 1 (.slice (some ⟨g15, 0, none⟩) 1 1) 1 (inC [t1]) :: []) := M.bring 2 rfl rfl
  replace M : Mg w w18 (.row 3 1 (.slice so19 ((xs ++ [t1]).length) ca20) ((xs ++ [t1]).length) (inC (xs ++ [t1])) :: .obj g2 (.cells #[.slice tz ts.length tc, .slice ro rs.length rc] 29) :: []) := by
   have h9 := M.sub (cc (cc (cn (.refl _))))
   exact h9
  refine hK9 _ _ _ (by omega) ⟨ty21.par, xs ++ [t1], so19, ca20, rfl, ⟨hpl.1, by omega, by rw [List.append_assoc, ← hxs, qjh hW.wf (show 0 ≤ t1 by omega), qqg (zl it24)]; rfl⟩, A.keep _ (by repeat' constructor), M⟩
 ·
  have hb13' := of_decide_eq_false hb13
  refine sdc A zk hb13 λa A↦?_
  refine qa (hK12 _ _ (wp_cond_false (A.ev rfl) ?_))
  refine wp_exit (hK7 _ _ (wsk fun K29 hK29 => wrl (sdm A λa A↦?_)))
  refine sda A λa A↦?_
  refine qa (hK29 _ _ (wp_ret (hret _ _ (en1 A rfl (qf rfl) ?_))))
  replace M : Mg w w8 (.row 3 1 (.slice so_ xs.length ca_) xs.length (inC xs) :: []) := by
   have h9 := M.sub (cc (cn (.refl _)))
   exact h9
  have e9 : xs = (chT (prs (ts.map Ty.k)) t) := by rw [← hxs, qqe (show t1 < 0 by omega), List.append_nil]
  subst e9
  exact ⟨_, _, rfl, M⟩
theorem uq {w : World} {tz ro : Option Addr} {tc rc : Nat} {ts : List Ty} {rs : List Rk} (hT : TR w tz ts) (hR : RR w ro rs) (hW : WS (ts.map Ty.k) (rs.map Rk.k)) {t : Int} (h0 : -1 ≤ t) (h1 : t < ((ts.length : Nat) : Int)) : Calls Tryz.prog 31 #[.agg #[.slice tz ts.length tc, .slice ro rs.length rc], .int .i64 t] w fun e w' => e = .returned (.int .i64 ((cnt (ts.map Ty.k) t : Nat) : Int)) ∧ Below w.heap.size w w' := by
 have hkl := hW.kl
 have hrl := hW.rl
 rw [List.length_map] at hkl hrl
 have hcl := yk (prs (ts.map Ty.k)) t
 have M : Mg w w ([]) := Mg.start w
 refine qx (l := [(0, .agg #[.slice tz ts.length tc, .slice ro rs.length rc]), (1, .int .i64 t)]) Tryz.func31 rfl Tryz.ntmps31 rfl rfl ?_
 intro Q hret hnorm hP a A
 refine wsk fun K1 hK1 => wrl (jb (vs := [.slice tz ts.length tc, .slice ro rs.length rc]) (t := 29) A M rfl rfl rfl pg (zh rfl rfl) (by decide) ?_)
 intro g2 w3 M a A
 refine sda A λa A↦?_
 refine qa (hK1 _ _ (wsk fun K4 hK4 => wrl (sda A λa A↦?_)))
 refine qa (hK4 _ _ (wsk fun K5 hK5 => wrl (sdo A (qy M RcH_isS_29 rfl 0 rfl (cs := [.slice tz ts.length tc, .slice ro rs.length rc]) rfl rfl) λa A↦?_)))
 refine sdm A λa A↦?_
 refine sct A (ef rfl rfl) (qch (hT.below M.bel) (hR.below M.bel) hW (by omega) (by omega)) ?_
 rintro _ w9 ⟨so6, ca7, rfl, hM8⟩
 replace M : Mg w w9 (.row 3 1 (.slice so6 ((chT (prs (ts.map Ty.k)) t).length) ca7) ((chT (prs (ts.map Ty.k)) t).length) (inC (chT (prs (ts.map Ty.k)) t)) :: .obj g2 (.cells #[.slice tz ts.length tc, .slice ro rs.length rc] 29) :: []) := (M.both hM8 (qg (by simp) (ql qn)) (qg (by simp) (ql qn)))
 refine ⟨_, rfl, ?_⟩
 intro a A
 refine sda A λa A↦?_
 refine qa (hK5 _ _ (wsk fun K10 hK10 => wsk fun K11 hK11 => wrl (sda A λa A↦?_)))
 refine qa (hK11 _ _ (wp_block (zt (fun m_ a w1 => ∃ (i : Nat) (n : Nat), m_ = 1 + ((chT (prs (ts.map Ty.k)) t).length - i) ∧ (i ≤ (chT (prs (ts.map Ty.k)) t).length ∧ n = qji (ts.map Ty.k) ((chT (prs (ts.map Ty.k)) t).take i)) ∧ Sl a 30 [(0, .agg #[.slice tz ts.length tc, .slice ro rs.length rc]), (1, .int .i64 t), (2, .pointer (some ⟨g2, 0, none⟩)), (4, .int .i64 0), (5, .int .i64 (((n : Nat) : Int))), (6, .slice so6 ((chT (prs (ts.map Ty.k)) t).length) ca7), (7, .int .i64 (((i : Nat) : Int))), (8, .agg #[.slice tz ts.length tc, .slice ro rs.length rc]), (9, .int .i64 t), (10, .slice so6 ((chT (prs (ts.map Ty.k)) t).length) ca7)] ∧ Mg w w1 (.row 3 1 (.slice so6 ((chT (prs (ts.map Ty.k)) t).length) ca7) ((chT (prs (ts.map Ty.k)) t).length) (inC (chT (prs (ts.map Ty.k)) t)) :: .obj g2 (.cells #[.slice tz ts.length tc, .slice ro rs.length rc] 29) :: [])) _ ⟨0, 0, rfl, ⟨Nat.zero_le _, rfl⟩, A.keep _ (by repeat' constructor), M⟩ ?_)))
 clear M A
 rintro m_ a w12 ⟨i, n, rfl, hinv14, A, M⟩ K13 hK13
 obtain ⟨hi0, hn⟩ := hinv14
 have hsum := qrc hW (l := (chT (prs (ts.map Ty.k)) t)) (fun x hx => uh hW.wf hx) (by rw [List.length_map]; exact h1) i
 refine wsk fun K15 hK15 => wsk fun K16 hK16 => wrl ?_
 iterate 2 refine sdm A λa A↦?_
 refine sdo A (qp Tryz.underlying68 rfl) λa A↦?_
 rcases tf (decide (((i : Nat) : Int) < (((chT (prs (ts.map Ty.k)) t).length : Nat) : Int))) with hb17 | hb17
 ·
  have hb17' := of_decide_eq_true hb17
  refine sdc A za hb17 λa A↦?_
  refine qa (hK16 _ _ (wp_cond_true (A.ev rfl) ?_))
  refine wp_skip (hK15 _ _ (wsk fun K18 hK18 => wp_block (zn (S := fun w1 => Mg w w1 (.row 3 1 (.slice so6 ((chT (prs (ts.map Ty.k)) t).length) ca7) ((chT (prs (ts.map Ty.k)) t).length) (inC (chT (prs (ts.map Ty.k)) t)) :: .obj g2 (.cells #[.slice tz ts.length tc, .slice ro rs.length rc] 29) :: [])) (by kernel_rfl) ?_)))
  replace M := M.drew
  refine qe A 0 rfl rfl rfl rfl hP (M.sub (cc (cc (List.nil_sublist _)))) (fun w1 M => qr rfl) λa A↦?_
  refine qe (v := .pointer (some ⟨g2, 0, none⟩)) A 1 rfl rfl rfl rfl hP (M.sub (cc (cc (List.nil_sublist _)))) (fun w1 M => qb RcH_fld_29_0 rfl rfl) λa A↦?_
  refine qe A 2 rfl rfl rfl rfl hP (M.sub (cc (cc (List.nil_sublist _)))) (fun w1 M => qh M RcH_is1_26 rfl 1 rfl rfl) λa A↦?_
  refine qe A 3 rfl rfl rfl rfl hP (M.sub (cc (cc (List.nil_sublist _)))) (fun w1 M => qr rfl) λa A↦?_
  refine qe A 4 rfl rfl rfl rfl hP (M.sub (cc (cc (List.nil_sublist _)))) (fun w1 M => qr rfl) λa A↦?_
  obtain ⟨bi19, oi20, zi21, hs22, hc23, hi24, hm25⟩ := qkb (rc_own (M.has 0 rfl)) (i := i) (by omega)
  refine qe (v := .pointer (some ⟨bi19, oi20 + i, none⟩)) A 5 rfl rfl rfl rfl hP (M.sub (cc (cc (List.nil_sublist _)))) (fun w1 M => zp (k := i) Tryz.underlying68 (by kernel_rfl) rfl rfl (by first | rfl | omega) hs22 (by omega)) λa A↦?_
  refine qe A 6 rfl rfl rfl rfl hP (M.sub (cc (cc (List.nil_sublist _)))) (fun w1 M => qvd M 0 rfl hi24 hs22 RcH_is1_3 rfl rfl) λa A↦?_
  have hzz := uh hW.wf hm25
  obtain ⟨ty26, bt27, ot28, it29, mt30, rt31, lt32, Ht33⟩ := hT.at_ (i := zi21.toNat) (by omega)
  have hnf := hW.nf16 (zl it29)
  rw [show ty26.k.fs.length = ty26.fs.length from rfl] at hnf
  refine qe (v := .pointer (some ⟨bt27, ot28 + zi21.toNat * 7, none⟩)) A 7 rfl rfl rfl rfl hP (M.sub (cc (cc (List.nil_sublist _)))) (fun w1 M => zb (k := zi21.toNat) Tryz.underlying26 (by kernel_rfl) rfl rfl (by first | rfl | omega) lt32 (by omega)) λa A↦?_
  refine qe (v := .pointer (some ⟨bt27, ot28 + zi21.toNat * 7 + 2, none⟩)) A 8 rfl rfl rfl rfl hP (M.sub (cc (cc (List.nil_sublist _)))) (fun w1 M => qb RcH_fld_33_2 rfl rfl) λa A↦?_
  refine qe A 9 rfl rfl rfl rfl hP (M.sub (cc (cc (List.nil_sublist _)))) (fun w1 M => jm (j := 2) M Ht33 RcH_is1_30 rfl rfl rfl) λa A↦?_
  refine qe (v := .int .i64 (((ty26.fs.length : Nat) : Int))) A 10 rfl rfl rfl rfl hP (M.sub (cc (cc (List.nil_sublist _)))) (fun w1 M => qp Tryz.underlying30 rfl) λa A↦?_
  refine qe (v := .int .i64 (((n + ty26.fs.length : Nat) : Int))) A 11 rfl rfl rfl rfl hP (M.sub (cc (cc (List.nil_sublist _)))) (fun w1 M => qi rfl rfl (fun w => (jc (jg (by omega) (by omega)) w).trans (by rw [show (((n : Nat) : Int) + ((ty26.fs.length : Nat) : Int) : Int) = ((n + ty26.fs.length : Nat) : Int) from by omega]))) λa A↦?_
  refine qe A 12 rfl rfl rfl rfl hP (M.sub (cc (cc (List.nil_sublist _)))) (fun w1 M => qm rfl) λa A↦?_
  refine zd (by kernel_rfl) ?_
  refine hK18 _ _ (wrl (sdm A λa A↦?_))
  refine sdo (v := .int .i64 (((i + 1 : Nat) : Int))) A (qi rfl rfl (fun w => (jc (jg (by omega) (by omega)) w).trans (by rw [show (((i : Nat) : Int) + 1 : Int) = ((i + 1 : Nat) : Int) from by omega]))) λa A↦?_
  refine sda A λa A↦?_
  refine qa ?_
  replace M : Mg w w12.drew (.obj g2 (.cells #[.slice tz ts.length tc, .slice ro rs.length rc] 29) :: .row 3 1 (.slice so6 ((chT (prs (ts.map Ty.k)) t).length) ca7) ((chT (prs (ts.map Ty.k)) t).length) (inC (chT (prs (ts.map Ty.k)) t)) :: []) := M.bring 1 rfl rfl
  replace M : Mg w w12.drew (.row 3 1 (.slice so6 ((chT (prs (ts.map Ty.k)) t).length) ca7) ((chT (prs (ts.map Ty.k)) t).length) (inC (chT (prs (ts.map Ty.k)) t)) :: .obj g2 (.cells #[.slice tz ts.length tc, .slice ro rs.length rc] 29) :: []) := M.bring 1 rfl rfl
  replace M : Mg w w12.drew (.row 3 1 (.slice so6 ((chT (prs (ts.map Ty.k)) t).length) ca7) ((chT (prs (ts.map Ty.k)) t).length) (inC (chT (prs (ts.map Ty.k)) t)) :: .obj g2 (.cells #[.slice tz ts.length tc, .slice ro rs.length rc] 29) :: []) := by
   have h9 := M.sub (cc (cc (.refl _)))
   exact h9
  refine hK13 _ _ _ (by omega) ⟨i + 1, n + ty26.fs.length, rfl, ⟨by omega, by rw [qfg hi24, qfh (zl it29), hn]; rfl⟩, A.keep _ (by repeat' constructor), M⟩
 ·
  have hb17' := of_decide_eq_false hb17
  refine sdc A za hb17 λa A↦?_
  refine qa (hK16 _ _ (wp_cond_false (A.ev rfl) ?_))
  refine wp_exit (hK10 _ _ (wsk fun K34 hK34 => wrl (sdm A λa A↦?_)))
  refine sda A λa A↦?_
  refine qa (hK34 _ _ (wp_ret (hret _ _ (en1 A rfl (qf rfl) ?_))))
  have e9 : n = cnt (ts.map Ty.k) t := by rw [hn, List.take_of_length_le (by omega)]; rfl
  exact ⟨by rw [e9], M.bel⟩
theorem qab {w : World} {tz ro : Option Addr} {tc rc : Nat} {ts : List Ty} {rs : List Rk} (hT : TR w tz ts) (hR : RR w ro rs) (hW : WS (ts.map Ty.k) (rs.map Rk.k)) {t : Int} : Calls Tryz.prog 12 #[.agg #[.slice tz ts.length tc, .slice ro rs.length rc], .int .i64 t] w fun e w' => e = .returned (.tuple #[.int .i64 (flS (ts.map Ty.k) t).1, .int .i64 (flS (ts.map Ty.k) t).2]) ∧ Below w.heap.size w w' := by
 have hkl := hW.kl
 have hrl := hW.rl
 rw [List.length_map] at hkl hrl
 have M : Mg w w ([]) := Mg.start w
 refine qx (l := [(0, .agg #[.slice tz ts.length tc, .slice ro rs.length rc]), (1, .int .i64 t)]) Tryz.func12 rfl Tryz.ntmps12 rfl rfl ?_
 intro Q hret hnorm hP a A
 refine wsk fun K1 hK1 => wrl (jb (vs := [.slice tz ts.length tc, .slice ro rs.length rc]) (t := 29) A M rfl rfl rfl pg (zh rfl rfl) (by decide) ?_)
 intro g2 w3 M a A
 iterate 2 refine sda A λa A↦?_
 refine qa (hK1 _ _ (wsk fun K4 hK4 => wsk fun K5 hK5 => wrl (sdm A λa A↦?_)))
 rcases tf (decide (t < 0)) with hb6 | hb6
 ·
  have hb6' := of_decide_eq_true hb6
  refine sdc A za hb6 λa A↦?_
  refine sdm A λa A↦?_
  iterate 5 refine qk A rfl rfl rfl λa A↦?_
  refine sdk (v := .bool true) A λa A↦?_
  refine qa (hK5 _ _ (wp_cond_true (A.ev rfl) ?_))
  refine wsk fun K7 hK7 => wrl ?_
  iterate 2 refine sda A λa A↦?_
  refine qa (hK7 _ _ (wp_ret (hret _ _ (en2 A rfl (qf rfl) (qf rfl) ?_))))
  exact ⟨by rw [qrj (show okT ts.length t = false by unfold okT; simp; omega)], M.bel⟩
 ·
  have hb6' := of_decide_eq_false hb6
  refine sdc A za hb6 λa A↦?_
  iterate 2 refine sdm A λa A↦?_
  refine sdo (v := .pointer (some ⟨g2, 0, none⟩)) A (qb RcH_fld_29_0 rfl rfl) λa A↦?_
  refine sdo A (qh M RcH_is1_26 rfl 0 rfl rfl) λa A↦?_
  refine sdo A (qp Tryz.underlying26 rfl) λa A↦?_
  rcases tf (decide (((ts.length : Nat) : Int) ≤ t)) with hb8 | hb8
  ·
   have hb8' := of_decide_eq_true hb8
   refine sdc A zk hb8 λa A↦?_
   refine sdk (v := .bool true) A λa A↦?_
   refine qa (hK5 _ _ (wp_cond_true (A.ev rfl) ?_))
   refine wsk fun K9 hK9 => wrl ?_
   iterate 2 refine sda A λa A↦?_
   refine qa (hK9 _ _ (wp_ret (hret _ _ (en2 A rfl (qf rfl) (qf rfl) ?_))))
   exact ⟨by rw [qrj (show okT ts.length t = false by unfold okT; simp; omega)], M.bel⟩
  ·
   have hb8' := of_decide_eq_false hb8
   refine sdc A zk hb8 λa A↦?_
   refine sdk (v := .bool false) A λa A↦?_
   refine qa (hK5 _ _ (wp_cond_false (A.ev rfl) ?_))
   refine wp_skip (hK4 _ _ (wsk fun K10 hK10 => wrl (sdo A (qy M RcH_isS_29 rfl 0 rfl (cs := [.slice tz ts.length tc, .slice ro rs.length rc]) rfl rfl) λa A↦?_)))
   refine sdm A λa A↦?_
   refine gcl A M (ef rfl rfl) (uq (hT.below M.bel) (hR.below M.bel) hW (by omega) (by omega)) fun w12 hb11 M a A => ?_
   iterate 2 refine sda A λa A↦?_
   refine qa (hK10 _ _ (wp_ret (hret _ _ (en2 A rfl (qf rfl) (qf rfl) ?_))))
   exact ⟨by rw [qza (show okT ts.length t = true by unfold okT; simp; omega)], M.bel⟩
set_option maxHeartbeats 2000000 in
theorem qwe {w : World} {ya yb : Ty} (hA1 : TyR w ya) (hB1 : TyR w yb) (ha1 : ya.fs.length ≤ 2000000) (hb1 : yb.fs.length ≤ 2000000) (ha2 : ya.ms.length ≤ 2000000) (hb2 : yb.ms.length ≤ 2000000) : Calls Tryz.prog 24 #[.agg #[.string ya.nm, .int .i64 ya.par, .slice ya.fo ya.fs.length ya.fc, .slice ya.mo ya.ms.length ya.mc, .bool ya.sl, .bool ya.op, .string ya.ui], .agg #[.string yb.nm, .int .i64 yb.par, .slice yb.fo yb.fs.length yb.fc, .slice yb.mo yb.ms.length yb.mc, .bool yb.sl, .bool yb.op, .string yb.ui]] w fun e w' => e = .returned (.bool (xm ya.k yb.k)) ∧ Below w.heap.size w w' := by
 have M : Mg w w ([]) := Mg.start w
 refine qx (l := [(0, .agg #[.string ya.nm, .int .i64 ya.par, .slice ya.fo ya.fs.length ya.fc, .slice ya.mo ya.ms.length ya.mc, .bool ya.sl, .bool ya.op, .string ya.ui]), (1, .agg #[.string yb.nm, .int .i64 yb.par, .slice yb.fo yb.fs.length yb.fc, .slice yb.mo yb.ms.length yb.mc, .bool yb.sl, .bool yb.op, .string yb.ui])]) Tryz.func24 rfl Tryz.ntmps24 rfl rfl ?_
 intro Q hret hnorm hP a A
 refine wsk fun K1 hK1 => wrl (jb (vs := [.string ya.nm, .int .i64 ya.par, .slice ya.fo ya.fs.length ya.fc, .slice ya.mo ya.ms.length ya.mc, .bool ya.sl, .bool ya.op, .string ya.ui]) (t := 33) A M rfl rfl rfl pg (zh rfl rfl) (by decide) ?_)
 intro g2 w3 M a A
 refine jb (vs := [.string yb.nm, .int .i64 yb.par, .slice yb.fo yb.fs.length yb.fc, .slice yb.mo yb.ms.length yb.mc, .bool yb.sl, .bool yb.op, .string yb.ui]) (t := 33) A M rfl rfl rfl pg (zh rfl rfl) (by decide) ?_
 intro g4 w5 M a A
 refine sda A λa A↦?_
 refine qa (hK1 _ _ (wsk fun K6 hK6 => wsk fun K7 hK7 => wrl (sdo (v := .pointer (some ⟨g2, 0, none⟩)) A (qb RcH_fld_33_0 rfl rfl) λa A↦?_)))
 refine sdo A (qh M RcH_is1_9 rfl 1 rfl rfl) λa A↦?_
 refine sdo (v := .pointer (some ⟨g4, 0, none⟩)) A (qb RcH_fld_33_0 rfl rfl) λa A↦?_
 refine sdo A (qh M RcH_is1_9 rfl 0 rfl rfl) λa A↦?_
 rcases tf (decide (ya.nm = yb.nm)) with hb8 | hb8
 ·
  have hb8' := of_decide_eq_true hb8
  refine sdo (v := .bool false) A (qi rfl rfl (fun w => (xd Tryz.underlying9 w).trans (by rw [hb8] <;> rfl))) λa A↦?_
  refine sdm A λa A↦?_
  refine sdo (v := .pointer (some ⟨g2, 1, none⟩)) A (qb RcH_fld_33_1 rfl rfl) λa A↦?_
  refine sdo A (qh M RcH_is1_3 rfl 1 rfl rfl) λa A↦?_
  refine sdo (v := .pointer (some ⟨g4, 1, none⟩)) A (qb RcH_fld_33_1 rfl rfl) λa A↦?_
  refine sdo A (qh M RcH_is1_3 rfl 0 rfl rfl) λa A↦?_
  rcases tf ((ya.par != yb.par)) with hb9 | hb9
  ·
   have hb9' := bne_iff_ne.1 hb9
   refine sdc A zi hb9 λa A↦?_
   refine sdk (v := .bool true) A λa A↦?_
   refine sdm A λa A↦?_
   iterate 5 refine qk A rfl rfl rfl λa A↦?_
   refine sdk (v := .bool true) A λa A↦?_
   refine sdm A λa A↦?_
   iterate 5 refine qk A rfl rfl rfl λa A↦?_
   refine sdk (v := .bool true) A λa A↦?_
   refine sdm A λa A↦?_
   iterate 5 refine qk A rfl rfl rfl λa A↦?_
   refine sdk (v := .bool true) A λa A↦?_
   refine sdm A λa A↦?_
   iterate 6 refine qk A rfl rfl rfl λa A↦?_
   refine sdk (v := .bool true) A λa A↦?_
   refine sdm A λa A↦?_
   iterate 7 refine qk A rfl rfl rfl λa A↦?_
   refine sdk (v := .bool true) A λa A↦?_
   refine qa (hK7 _ _ (wp_cond_true (A.ev rfl) ?_))
   refine wsk fun K10 hK10 => wrl (sda A λa A↦?_)
   refine qa (hK10 _ _ (wp_ret (hret _ _ (en1 A rfl (qf rfl) ?_))))
   exact ⟨by rw [Bool.eq_false_iff.2 (fun q9 => (fun e => (show ya.par ≠ yb.par by simpa using hb9) e.2.1) (xy.1 q9))], M.bel⟩
  ·
   have hb9' := bne_eq_false_iff_eq.1 hb9
   refine sdc A zi hb9 λa A↦?_
   refine sdk (v := .bool false) A λa A↦?_
   refine sdm A λa A↦?_
   refine sdo (v := .pointer (some ⟨g2, 4, none⟩)) A (qb RcH_fld_33_4 rfl rfl) λa A↦?_
   refine sdo A (qh M RcH_is1_4 rfl 1 rfl rfl) λa A↦?_
   refine sdo (v := .pointer (some ⟨g4, 4, none⟩)) A (qb RcH_fld_33_4 rfl rfl) λa A↦?_
   refine sdo A (qh M RcH_is1_4 rfl 0 rfl rfl) λa A↦?_
   rcases tf (!(ya.sl == yb.sl)) with hb11 | hb11
   ·
    refine sdo (v := .bool true) A (qi rfl rfl (fun w => ((ve Tryz.underlying4) w).trans (by rw [hb11]))) λa A↦?_
    refine sdk (v := .bool true) A λa A↦?_
    refine sdm A λa A↦?_
    iterate 5 refine qk A rfl rfl rfl λa A↦?_
    refine sdk (v := .bool true) A λa A↦?_
    refine sdm A λa A↦?_
    iterate 5 refine qk A rfl rfl rfl λa A↦?_
    refine sdk (v := .bool true) A λa A↦?_
    refine sdm A λa A↦?_
    iterate 6 refine qk A rfl rfl rfl λa A↦?_
    refine sdk (v := .bool true) A λa A↦?_
    refine sdm A λa A↦?_
    iterate 7 refine qk A rfl rfl rfl λa A↦?_
    refine sdk (v := .bool true) A λa A↦?_
    refine qa (hK7 _ _ (wp_cond_true (A.ev rfl) ?_))
    refine wsk fun K12 hK12 => wrl (sda A λa A↦?_)
    refine qa (hK12 _ _ (wp_ret (hret _ _ (en1 A rfl (qf rfl) ?_))))
    exact ⟨by rw [Bool.eq_false_iff.2 (fun q9 => (fun e => (show ya.sl ≠ yb.sl by simpa using hb11) e.2.2.2.2.1) (xy.1 q9))], M.bel⟩
   ·
    refine sdo (v := .bool false) A (qi rfl rfl (fun w => ((ve Tryz.underlying4) w).trans (by rw [hb11]))) λa A↦?_
    refine sdk (v := .bool false) A λa A↦?_
    refine sdm A λa A↦?_
    refine sdo (v := .pointer (some ⟨g2, 5, none⟩)) A (qb RcH_fld_33_5 rfl rfl) λa A↦?_
    refine sdo A (qh M RcH_is1_4 rfl 1 rfl rfl) λa A↦?_
    refine sdo (v := .pointer (some ⟨g4, 5, none⟩)) A (qb RcH_fld_33_5 rfl rfl) λa A↦?_
    refine sdo A (qh M RcH_is1_4 rfl 0 rfl rfl) λa A↦?_
    rcases tf (!(ya.op == yb.op)) with hb13 | hb13
    ·
     refine sdo (v := .bool true) A (qi rfl rfl (fun w => ((ve Tryz.underlying4) w).trans (by rw [hb13]))) λa A↦?_
     refine sdk (v := .bool true) A λa A↦?_
     refine sdm A λa A↦?_
     iterate 5 refine qk A rfl rfl rfl λa A↦?_
     refine sdk (v := .bool true) A λa A↦?_
     refine sdm A λa A↦?_
     iterate 6 refine qk A rfl rfl rfl λa A↦?_
     refine sdk (v := .bool true) A λa A↦?_
     refine sdm A λa A↦?_
     iterate 7 refine qk A rfl rfl rfl λa A↦?_
     refine sdk (v := .bool true) A λa A↦?_
     refine qa (hK7 _ _ (wp_cond_true (A.ev rfl) ?_))
     refine wsk fun K14 hK14 => wrl (sda A λa A↦?_)
     refine qa (hK14 _ _ (wp_ret (hret _ _ (en1 A rfl (qf rfl) ?_))))
     exact ⟨by rw [Bool.eq_false_iff.2 (fun q9 => (fun e => (show ya.op ≠ yb.op by simpa using hb13) e.2.2.2.2.2.1) (xy.1 q9))], M.bel⟩
    ·
     refine sdo (v := .bool false) A (qi rfl rfl (fun w => ((ve Tryz.underlying4) w).trans (by rw [hb13]))) λa A↦?_
     refine sdk (v := .bool false) A λa A↦?_
     refine sdm A λa A↦?_
     refine sdo (v := .pointer (some ⟨g2, 6, none⟩)) A (qb RcH_fld_33_6 rfl rfl) λa A↦?_
     refine sdo A (qh M RcH_is1_9 rfl 1 rfl rfl) λa A↦?_
     refine sdo (v := .pointer (some ⟨g4, 6, none⟩)) A (qb RcH_fld_33_6 rfl rfl) λa A↦?_
     refine sdo A (qh M RcH_is1_9 rfl 0 rfl rfl) λa A↦?_
     rcases tf (decide (ya.ui = yb.ui)) with hb15 | hb15
     ·
      have hb15' := of_decide_eq_true hb15
      refine sdo (v := .bool false) A (qi rfl rfl (fun w => (xd Tryz.underlying9 w).trans (by rw [hb15] <;> rfl))) λa A↦?_
      refine sdk (v := .bool false) A λa A↦?_
      refine sdm A λa A↦?_
      refine sdo (v := .pointer (some ⟨g2, 2, none⟩)) A (qb RcH_fld_33_2 rfl rfl) λa A↦?_
      refine sdo A (qh M RcH_is1_30 rfl 1 rfl rfl) λa A↦?_
      refine sdo (v := .pointer (some ⟨g4, 2, none⟩)) A (qb RcH_fld_33_2 rfl rfl) λa A↦?_
      refine sdo A (qh M RcH_is1_30 rfl 0 rfl rfl) λa A↦?_
      rcases tf (decide (ya.fs = yb.fs)) with hb16 | hb16
      ·
       have hb16' := of_decide_eq_true hb16
       refine gcl A M (ef rfl rfl) ((E.sameT_as (hA1.f.below M.bel) (by omega) (hB1.f.below M.bel) (by omega) hb16)) fun w18 hb17 M a A => ?_
       refine sdo (v := .bool false) A (zj rfl zq) λa A↦?_
       refine sdk (v := .bool false) A λa A↦?_
       refine sdm A λa A↦?_
       refine sdo (v := .pointer (some ⟨g2, 3, none⟩)) A (qb RcH_fld_33_3 rfl rfl) λa A↦?_
       refine sdo A (qh M RcH_is1_31 rfl 1 rfl rfl) λa A↦?_
       refine sdo A (qp Tryz.underlying31 rfl) λa A↦?_
       refine sdo (v := .pointer (some ⟨g4, 3, none⟩)) A (qb RcH_fld_33_3 rfl rfl) λa A↦?_
       refine sdo A (qh M RcH_is1_31 rfl 0 rfl rfl) λa A↦?_
       refine sdo A (qp Tryz.underlying31 rfl) λa A↦?_
       rcases tf ((((ya.ms.length : Nat) : Int) != ((yb.ms.length : Nat) : Int))) with hb19 | hb19
       ·
        have hb19' := bne_iff_ne.1 hb19
        refine sdc A zi hb19 λa A↦?_
        refine sdk (v := .bool true) A λa A↦?_
        refine qa (hK7 _ _ (wp_cond_true (A.ev rfl) ?_))
        refine wsk fun K20 hK20 => wrl (sda A λa A↦?_)
        refine qa (hK20 _ _ (wp_ret (hret _ _ (en1 A rfl (qf rfl) ?_))))
        exact ⟨by rw [Bool.eq_false_iff.2 (fun q9 => (fun e => (by have := congrArg List.length e; omega)) (xy.1 q9).2.2.2.1)], M.bel⟩
       ·
        have hb19' := bne_eq_false_iff_eq.1 hb19
        refine sdc A zi hb19 λa A↦?_
        refine sdk (v := .bool false) A λa A↦?_
        refine qa (hK7 _ _ (wp_cond_false (A.ev rfl) ?_))
        refine wp_skip (hK6 _ _ (wsk fun K21 hK21 => wsk fun K22 hK22 => wrl (sda A λa A↦?_)))
        refine qa (hK22 _ _ (wp_block ?_))
        have hnm9 := hb8
        have hfs9 := hb16
        have hui9 := hb15
        have hsl9 : ya.sl = yb.sl := by simpa using hb11
        have hop9 : ya.op = yb.op := by simpa using hb13
        have hpar9 : ya.par = yb.par := by simpa using hb9
        refine zt (fun m_ a w1 => ∃ (i : Nat), m_ = 1 + (ya.ms.length - i) ∧ (i ≤ ya.ms.length ∧ ∀ j : Nat, j < i → ya.ms[j]? = yb.ms[j]?) ∧ Sl a 74 [(0, .agg #[.string ya.nm, .int .i64 ya.par, .slice ya.fo ya.fs.length ya.fc, .slice ya.mo ya.ms.length ya.mc, .bool ya.sl, .bool ya.op, .string ya.ui]), (1, .agg #[.string yb.nm, .int .i64 yb.par, .slice yb.fo yb.fs.length yb.fc, .slice yb.mo yb.ms.length yb.mc, .bool yb.sl, .bool yb.op, .string yb.ui]), (2, .pointer (some ⟨g2, 0, none⟩)), (3, .pointer (some ⟨g4, 0, none⟩)), (5, .int .i64 (((i : Nat) : Int))), (6, .pointer (some ⟨g2, 0, none⟩)), (7, .string ya.nm), (8, .pointer (some ⟨g4, 0, none⟩)), (9, .string yb.nm), (10, .bool false), (11, .bool false), (12, .pointer (some ⟨g2, 1, none⟩)), (13, .int .i64 ya.par), (14, .pointer (some ⟨g4, 1, none⟩)), (15, .int .i64 yb.par), (16, .bool false), (17, .bool false), (18, .bool false), (19, .pointer (some ⟨g2, 4, none⟩)), (20, .bool ya.sl), (21, .pointer (some ⟨g4, 4, none⟩)), (22, .bool yb.sl), (23, .bool false), (24, .bool false), (25, .bool false), (26, .pointer (some ⟨g2, 5, none⟩)), (27, .bool ya.op), (28, .pointer (some ⟨g4, 5, none⟩)), (29, .bool yb.op), (30, .bool false), (31, .bool false), (32, .bool false), (33, .pointer (some ⟨g2, 6, none⟩)), (34, .string ya.ui), (35, .pointer (some ⟨g4, 6, none⟩)), (36, .string yb.ui), (37, .bool false), (38, .bool false), (39, .bool false), (40, .pointer (some ⟨g2, 2, none⟩)), (41, .slice ya.fo ya.fs.length ya.fc), (42, .pointer (some ⟨g4, 2, none⟩)), (43, .slice yb.fo yb.fs.length yb.fc), (44, .bool true), (45, .bool false), (46, .bool false), (47, .bool false), (48, .pointer (some ⟨g2, 3, none⟩)), (49, .slice ya.mo ya.ms.length ya.mc), (50, .int .i64 (((ya.ms.length : Nat) : Int))), (51, .pointer (some ⟨g4, 3, none⟩)), (52, .slice yb.mo yb.ms.length yb.mc), (53, .int .i64 (((yb.ms.length : Nat) : Int))), (54, .bool false), (55, .bool false)] ∧ Mg w w1 (.obj g4 (.cells #[.string yb.nm, .int .i64 yb.par, .slice yb.fo yb.fs.length yb.fc, .slice yb.mo yb.ms.length yb.mc, .bool yb.sl, .bool yb.op, .string yb.ui] 33) :: .obj g2 (.cells #[.string ya.nm, .int .i64 ya.par, .slice ya.fo ya.fs.length ya.fc, .slice ya.mo ya.ms.length ya.mc, .bool ya.sl, .bool ya.op, .string ya.ui] 33) :: [])) _ ⟨0, rfl, ⟨Nat.zero_le _, fun j h => absurd h (Nat.not_lt_zero _)⟩, A.keep _ (by repeat' constructor), M⟩ ?_
        clear M A
        rintro m_ a w23 ⟨i, rfl, hinv25, A, M⟩ K24 hK24
        obtain ⟨hi0, hin9⟩ := hinv25
        refine wsk fun K26 hK26 => wsk fun K27 hK27 => wrl (sdm A λa A↦?_)
        refine sdo (v := .pointer (some ⟨g2, 3, none⟩)) A (qb RcH_fld_33_3 rfl rfl) λa A↦?_
        refine sdo A (qh M RcH_is1_31 rfl 1 rfl rfl) λa A↦?_
        refine sdo A (qp Tryz.underlying31 rfl) λa A↦?_
        rcases tf (decide (((i : Nat) : Int) < ((ya.ms.length : Nat) : Int))) with hb28 | hb28
        ·
         have hb28' := of_decide_eq_true hb28
         refine sdc A za hb28 λa A↦?_
         refine qa (hK27 _ _ (wp_cond_true (A.ev rfl) ?_))
         refine wp_skip (hK26 _ _ (wsk fun K29 hK29 => wp_block (wsk fun K30 hK30 => zn (S := fun w1 => Mg w w1 (.obj g4 (.cells #[.string yb.nm, .int .i64 yb.par, .slice yb.fo yb.fs.length yb.fc, .slice yb.mo yb.ms.length yb.mc, .bool yb.sl, .bool yb.op, .string yb.ui] 33) :: .obj g2 (.cells #[.string ya.nm, .int .i64 ya.par, .slice ya.fo ya.fs.length ya.fc, .slice ya.mo ya.ms.length ya.mc, .bool ya.sl, .bool ya.op, .string ya.ui] 33) :: [])) (by kernel_rfl) ?_)))
         replace M := M.drew
         refine qe (v := .pointer (some ⟨g2, 3, none⟩)) A 0 rfl rfl rfl rfl hP (M.sub (cc (cc (List.nil_sublist _)))) (fun w1 M => qb RcH_fld_33_3 rfl rfl) λa A↦?_
         refine qe A 1 rfl rfl rfl rfl hP (M.sub (cc (cc (List.nil_sublist _)))) (fun w1 M => qh M RcH_is1_31 rfl 1 rfl rfl) λa A↦?_
         refine qe A 2 rfl rfl rfl rfl hP (M.sub (cc (cc (List.nil_sublist _)))) (fun w1 M => qr rfl) λa A↦?_
         obtain ⟨bx31, ox32, sx33, hs34, hc35, hi36⟩ := hA1.m.at_ (i := i) (by omega)
         refine qe (v := .pointer (some ⟨bx31, ox32 + i, none⟩)) A 3 rfl rfl rfl rfl hP (M.sub (cc (cc (List.nil_sublist _)))) (fun w1 M => zp (k := i) Tryz.underlying31 (by kernel_rfl) rfl rfl (by first | rfl | omega) hs34 (by omega)) λa A↦?_
         refine qe A 4 rfl rfl rfl rfl hP (M.sub (cc (cc (List.nil_sublist _)))) (fun w1 M => E.m_loadX M hc35 RcH_is1_4 rfl) λa A↦?_
         refine qe (v := .pointer (some ⟨g4, 3, none⟩)) A 5 rfl rfl rfl rfl hP (M.sub (cc (cc (List.nil_sublist _)))) (fun w1 M => qb RcH_fld_33_3 rfl rfl) λa A↦?_
         refine qe A 6 rfl rfl rfl rfl hP (M.sub (cc (cc (List.nil_sublist _)))) (fun w1 M => qh M RcH_is1_31 rfl 0 rfl rfl) λa A↦?_
         refine qe A 7 rfl rfl rfl rfl hP (M.sub (cc (cc (List.nil_sublist _)))) (fun w1 M => qr rfl) λa A↦?_
         obtain ⟨bx37, ox38, sx39, hs40, hc41, hi42⟩ := hB1.m.at_ (i := i) (by omega)
         refine qe (v := .pointer (some ⟨bx37, ox38 + i, none⟩)) A 8 rfl rfl rfl rfl hP (M.sub (cc (cc (List.nil_sublist _)))) (fun w1 M => zp (k := i) Tryz.underlying31 (by kernel_rfl) rfl rfl (by first | rfl | omega) hs40 (by omega)) λa A↦?_
         refine qe A 9 rfl rfl rfl rfl hP (M.sub (cc (cc (List.nil_sublist _)))) (fun w1 M => E.m_loadX M hc41 RcH_is1_4 rfl) λa A↦?_
         rcases tf (!(sx33 == sx39)) with hb43 | hb43
         ·
          refine qe (v := .bool true) A 10 rfl rfl rfl rfl hP (M.sub (cc (cc (List.nil_sublist _)))) (fun w1 M => qi rfl rfl (fun w => ((ve Tryz.underlying4) w).trans (by rw [hb43]))) λa A↦?_
          refine zd (by kernel_rfl) ?_
          refine hK30 _ _ (wp_cond_true (A.ev rfl) ?_)
          refine wsk fun K44 hK44 => wrl (sda A λa A↦?_)
          refine qa (hK44 _ _ (wp_ret (hret _ _ (en1 A rfl (qf rfl) ?_))))
          exact ⟨by rw [Bool.eq_false_iff.2 (fun q9 => (fun e => (by rw [e, hi42] at hi36; have e8 := Option.some.inj hi36; rw [e8] at hb43; simp at hb43)) (xy.1 q9).2.2.2.1)], M.bel⟩
         ·
          refine qe (v := .bool false) A 10 rfl rfl rfl rfl hP (M.sub (cc (cc (List.nil_sublist _)))) (fun w1 M => qi rfl rfl (fun w => ((ve Tryz.underlying4) w).trans (by rw [hb43]))) λa A↦?_
          refine zd (by kernel_rfl) ?_
          refine hK30 _ _ (wp_cond_false (A.ev rfl) ?_)
          refine wp_skip (hK29 _ _ (wrl (sdm A λa A↦?_)))
          refine sdo (v := .int .i64 (((i + 1 : Nat) : Int))) A (qi rfl rfl (fun w => (jc (jg (by omega) (by omega)) w).trans (by rw [show (((i : Nat) : Int) + 1 : Int) = ((i + 1 : Nat) : Int) from by omega]))) λa A↦?_
          refine sda A λa A↦?_
          refine qa ?_
          refine hK24 _ _ _ (by omega) ⟨i + 1, rfl, ⟨by omega, fun j hj => if h9 : j < i then hin9 j h9 else by have h8 : j = i := (by omega); subst h8; rw [hi36, hi42, show sx33 = sx39 from by simpa using hb43]⟩, A.keep _ (by repeat' constructor), M⟩
        ·
         have hb28' := of_decide_eq_false hb28
         refine sdc A za hb28 λa A↦?_
         refine qa (hK27 _ _ (wp_cond_false (A.ev rfl) ?_))
         refine wp_exit (hK21 _ _ (wsk fun K45 hK45 => wrl (sda A λa A↦?_)))
         refine qa (hK45 _ _ (wp_ret (hret _ _ (en1 A rfl (qf rfl) ?_))))
         exact ⟨by rw [xy.2 ⟨of_decide_eq_true hnm9, hpar9, of_decide_eq_true hfs9, List.ext_getElem? fun j => if h9 : j < i then hin9 j h9 else (by rw [List.getElem?_eq_none (by omega), List.getElem?_eq_none (by omega)]), hsl9, hop9, of_decide_eq_true hui9⟩], M.bel⟩
      ·
       have hb16' := of_decide_eq_false hb16
       refine gcl A M (ef rfl rfl) ((E.sameT_as (hA1.f.below M.bel) (by omega) (hB1.f.below M.bel) (by omega) hb16)) fun w47 hb46 M a A => ?_
       refine sdo (v := .bool true) A (zj rfl zq) λa A↦?_
       refine sdk (v := .bool true) A λa A↦?_
       refine sdm A λa A↦?_
       iterate 7 refine qk A rfl rfl rfl λa A↦?_
       refine sdk (v := .bool true) A λa A↦?_
       refine qa (hK7 _ _ (wp_cond_true (A.ev rfl) ?_))
       refine wsk fun K48 hK48 => wrl (sda A λa A↦?_)
       refine qa (hK48 _ _ (wp_ret (hret _ _ (en1 A rfl (qf rfl) ?_))))
       exact ⟨by rw [Bool.eq_false_iff.2 (fun q9 => (fun e => of_decide_eq_false hb16 e.2.2.1) (xy.1 q9))], M.bel⟩
     ·
      have hb15' := of_decide_eq_false hb15
      refine sdo (v := .bool true) A (qi rfl rfl (fun w => (xd Tryz.underlying9 w).trans (by rw [hb15] <;> rfl))) λa A↦?_
      refine sdk (v := .bool true) A λa A↦?_
      refine sdm A λa A↦?_
      iterate 6 refine qk A rfl rfl rfl λa A↦?_
      refine sdk (v := .bool true) A λa A↦?_
      refine sdm A λa A↦?_
      iterate 7 refine qk A rfl rfl rfl λa A↦?_
      refine sdk (v := .bool true) A λa A↦?_
      refine qa (hK7 _ _ (wp_cond_true (A.ev rfl) ?_))
      refine wsk fun K49 hK49 => wrl (sda A λa A↦?_)
      refine qa (hK49 _ _ (wp_ret (hret _ _ (en1 A rfl (qf rfl) ?_))))
      exact ⟨by rw [Bool.eq_false_iff.2 (fun q9 => (fun e => of_decide_eq_false hb15 e.2.2.2.2.2.2) (xy.1 q9))], M.bel⟩
 ·
  have hb8' := of_decide_eq_false hb8
  refine sdo (v := .bool true) A (qi rfl rfl (fun w => (xd Tryz.underlying9 w).trans (by rw [hb8] <;> rfl))) λa A↦?_
  refine sdm A λa A↦?_
  iterate 5 refine qk A rfl rfl rfl λa A↦?_
  refine sdk (v := .bool true) A λa A↦?_
  refine sdm A λa A↦?_
  iterate 5 refine qk A rfl rfl rfl λa A↦?_
  refine sdk (v := .bool true) A λa A↦?_
  refine sdm A λa A↦?_
  iterate 5 refine qk A rfl rfl rfl λa A↦?_
  refine sdk (v := .bool true) A λa A↦?_
  refine sdm A λa A↦?_
  iterate 5 refine qk A rfl rfl rfl λa A↦?_
  refine sdk (v := .bool true) A λa A↦?_
  refine sdm A λa A↦?_
  iterate 6 refine qk A rfl rfl rfl λa A↦?_
  refine sdk (v := .bool true) A λa A↦?_
  refine sdm A λa A↦?_
  iterate 7 refine qk A rfl rfl rfl λa A↦?_
  refine sdk (v := .bool true) A λa A↦?_
  refine qa (hK7 _ _ (wp_cond_true (A.ev rfl) ?_))
  refine wsk fun K50 hK50 => wrl (sda A λa A↦?_)
  refine qa (hK50 _ _ (wp_ret (hret _ _ (en1 A rfl (qf rfl) ?_))))
  exact ⟨by rw [Bool.eq_false_iff.2 (fun q9 => (fun e => of_decide_eq_false hb8 e.1) (xy.1 q9))], M.bel⟩
theorem qci {w : World} {ya yb : Ty} (hA1 : TyR w ya) (hB1 : TyR w yb) (ha1 : ya.fs.length ≤ 2000000) (hb1 : yb.fs.length ≤ 2000000) (ha2 : ya.ms.length ≤ 2000000) (hb2 : yb.ms.length ≤ 2000000) {v : Bool} (h : xm ya.k yb.k = v) : Calls Tryz.prog 24 #[.agg #[.string ya.nm, .int .i64 ya.par, .slice ya.fo ya.fs.length ya.fc, .slice ya.mo ya.ms.length ya.mc, .bool ya.sl, .bool ya.op, .string ya.ui], .agg #[.string yb.nm, .int .i64 yb.par, .slice yb.fo yb.fs.length yb.fc, .slice yb.mo yb.ms.length yb.mc, .bool yb.sl, .bool yb.op, .string yb.ui]] w fun e w' => e = .returned (.bool v) ∧ Below w.heap.size w w' := h ▸ qwe hA1 hB1 ha1 hb1 ha2 hb2
theorem zla {l : List Int} {t : Int} {i : Nat} (h : ∀ (j : Nat) u, j < i → l[j]? = some u → (u == t) = false) (hi : l.length ≤ i) : (l.any fun z => t == z) = false := by
 rw [List.any_eq_false]
 intro x hx
 obtain ⟨j, hj, rfl⟩ := List.getElem_of_mem hx
 have := h j _ (by omega) (List.getElem?_eq_getElem hj)
 intro e
 rw [eq_of_beq e] at this
 simp at this
theorem zdb {w : World} {tz ro : Option Addr} {tc rc : Nat} {ts : List Ty} {rs : List Rk} (hT : TR w tz ts) (hR : RR w ro rs) (hW : WS (ts.map Ty.k) (rs.map Rk.k)) {r t : Int} : Calls Tryz.prog 19 #[.agg #[.slice tz ts.length tc, .slice ro rs.length rc], .int .i64 r, .int .i64 t] w fun e w' => e = .returned (.tuple #[.bool (isS (ts.map Ty.k) (rs.map Rk.k) r t).1, .int .i64 (isS (ts.map Ty.k) (rs.map Rk.k) r t).2]) ∧ Below w.heap.size w w' := by
 have hkl := hW.kl
 have hrl := hW.rl
 rw [List.length_map] at hkl hrl
 have M : Mg w w ([]) := Mg.start w
 refine qx (l := [(0, .agg #[.slice tz ts.length tc, .slice ro rs.length rc]), (1, .int .i64 r), (2, .int .i64 t)]) Tryz.func19 rfl Tryz.ntmps19 rfl rfl ?_
 intro Q hret hnorm hP a A
 refine wsk fun K1 hK1 => wrl (jb (vs := [.slice tz ts.length tc, .slice ro rs.length rc]) (t := 29) A M rfl rfl rfl pg (zh rfl rfl) (by decide) ?_)
 intro g2 w3 M a A
 iterate 2 refine sda A λa A↦?_
 refine qa (hK1 _ _ (wsk fun K4 hK4 => wsk fun K5 hK5 => wrl (sdm A λa A↦?_)))
 rcases tf (decide (r < 0)) with hb6 | hb6
 ·
  have hb6' := of_decide_eq_true hb6
  refine sdc A za hb6 λa A↦?_
  refine sdm A λa A↦?_
  iterate 5 refine qk A rfl rfl rfl λa A↦?_
  refine sdk (v := .bool true) A λa A↦?_
  refine sdm A λa A↦?_
  iterate 2 refine qk A rfl rfl rfl λa A↦?_
  refine sdk (v := .bool true) A λa A↦?_
  refine sdm A λa A↦?_
  iterate 5 refine qk A rfl rfl rfl λa A↦?_
  refine sdk (v := .bool true) A λa A↦?_
  refine qa (hK5 _ _ (wp_cond_true (A.ev rfl) ?_))
  refine wsk fun K7 hK7 => wrl ?_
  iterate 2 refine sda A λa A↦?_
  refine qa (hK7 _ _ (wp_ret (hret _ _ (en2 A rfl (qf rfl) (qf rfl) ?_))))
  exact ⟨by rw [show isS (ts.map Ty.k) (rs.map Rk.k) r t = (false, 7) from by first | exact quh (show okT rs.length r = false by unfold okT; simp; omega) | exact qui (show okT ts.length t = false by unfold okT; simp; omega)], M.bel⟩
 ·
  have hb6' := of_decide_eq_false hb6
  refine sdc A za hb6 λa A↦?_
  iterate 2 refine sdm A λa A↦?_
  refine sdo (v := .pointer (some ⟨g2, 1, none⟩)) A (qb RcH_fld_29_1 rfl rfl) λa A↦?_
  refine sdo A (qh M RcH_is1_27 rfl 0 rfl rfl) λa A↦?_
  refine sdo A (qp Tryz.underlying27 rfl) λa A↦?_
  rcases tf (decide (((rs.length : Nat) : Int) ≤ r)) with hb8 | hb8
  ·
   have hb8' := of_decide_eq_true hb8
   refine sdc A zk hb8 λa A↦?_
   refine sdk (v := .bool true) A λa A↦?_
   refine sdm A λa A↦?_
   iterate 2 refine qk A rfl rfl rfl λa A↦?_
   refine sdk (v := .bool true) A λa A↦?_
   refine sdm A λa A↦?_
   iterate 5 refine qk A rfl rfl rfl λa A↦?_
   refine sdk (v := .bool true) A λa A↦?_
   refine qa (hK5 _ _ (wp_cond_true (A.ev rfl) ?_))
   refine wsk fun K9 hK9 => wrl ?_
   iterate 2 refine sda A λa A↦?_
   refine qa (hK9 _ _ (wp_ret (hret _ _ (en2 A rfl (qf rfl) (qf rfl) ?_))))
   exact ⟨by rw [show isS (ts.map Ty.k) (rs.map Rk.k) r t = (false, 7) from by first | exact quh (show okT rs.length r = false by unfold okT; simp; omega) | exact qui (show okT ts.length t = false by unfold okT; simp; omega)], M.bel⟩
  ·
   have hb8' := of_decide_eq_false hb8
   refine sdc A zk hb8 λa A↦?_
   refine sdk (v := .bool false) A λa A↦?_
   iterate 2 refine sdm A λa A↦?_
   rcases tf (decide (t < 0)) with hb10 | hb10
   ·
    have hb10' := of_decide_eq_true hb10
    refine sdc A za hb10 λa A↦?_
    refine sdk (v := .bool true) A λa A↦?_
    refine sdm A λa A↦?_
    iterate 5 refine qk A rfl rfl rfl λa A↦?_
    refine sdk (v := .bool true) A λa A↦?_
    refine qa (hK5 _ _ (wp_cond_true (A.ev rfl) ?_))
    refine wsk fun K11 hK11 => wrl ?_
    iterate 2 refine sda A λa A↦?_
    refine qa (hK11 _ _ (wp_ret (hret _ _ (en2 A rfl (qf rfl) (qf rfl) ?_))))
    exact ⟨by rw [show isS (ts.map Ty.k) (rs.map Rk.k) r t = (false, 7) from by first | exact quh (show okT rs.length r = false by unfold okT; simp; omega) | exact qui (show okT ts.length t = false by unfold okT; simp; omega)], M.bel⟩
   ·
    have hb10' := of_decide_eq_false hb10
    refine sdc A za hb10 λa A↦?_
    refine sdk (v := .bool false) A λa A↦?_
    iterate 2 refine sdm A λa A↦?_
    refine sdo (v := .pointer (some ⟨g2, 0, none⟩)) A (qb RcH_fld_29_0 rfl rfl) λa A↦?_
    refine sdo A (qh M RcH_is1_26 rfl 0 rfl rfl) λa A↦?_
    refine sdo A (qp Tryz.underlying26 rfl) λa A↦?_
    rcases tf (decide (((ts.length : Nat) : Int) ≤ t)) with hb12 | hb12
    ·
     have hb12' := of_decide_eq_true hb12
     refine sdc A zk hb12 λa A↦?_
     refine sdk (v := .bool true) A λa A↦?_
     refine qa (hK5 _ _ (wp_cond_true (A.ev rfl) ?_))
     refine wsk fun K13 hK13 => wrl ?_
     iterate 2 refine sda A λa A↦?_
     refine qa (hK13 _ _ (wp_ret (hret _ _ (en2 A rfl (qf rfl) (qf rfl) ?_))))
     exact ⟨by rw [show isS (ts.map Ty.k) (rs.map Rk.k) r t = (false, 7) from by first | exact quh (show okT rs.length r = false by unfold okT; simp; omega) | exact qui (show okT ts.length t = false by unfold okT; simp; omega)], M.bel⟩
    ·
     have hb12' := of_decide_eq_false hb12
     refine sdc A zk hb12 λa A↦?_
     refine sdk (v := .bool false) A λa A↦?_
     refine qa (hK5 _ _ (wp_cond_false (A.ev rfl) ?_))
     refine wp_skip (hK4 _ _ (wsk fun K14 hK14 => ?_))
     obtain ⟨rk9, br9, or9, ir9, mr9, rr9, lr9, Hr9⟩ := hR.at_ (i := r.toNat) (by omega)
     have hrk15 := hW.rk _ (List.mem_of_getElem? (xf ir9))
     rw [List.length_map, show rk9.k.1 = rk9.kd from rfl, show rk9.k.2.length = rk9.vs.length from List.length_map _] at hrk15
     have hcl := yk (prs (ts.map Ty.k)) ((rk9.kd : Nat) : Int)
     refine zn (S := fun w1 => Mg w w1 (.obj g2 (.cells #[.slice tz ts.length tc, .slice ro rs.length rc] 29) :: [])) (by kernel_rfl) ?_
     replace M := M.drew
     refine qe A 0 rfl rfl rfl rfl hP (M.sub (cc (List.nil_sublist _))) (fun w1 M => qy M RcH_isS_29 rfl 0 rfl (cs := [.slice tz ts.length tc, .slice ro rs.length rc]) rfl rfl) λa A↦?_
     refine qe (v := .pointer (some ⟨g2, 1, none⟩)) A 1 rfl rfl rfl rfl hP (M.sub (cc (List.nil_sublist _))) (fun w1 M => qb RcH_fld_29_1 rfl rfl) λa A↦?_
     refine qe A 2 rfl rfl rfl rfl hP (M.sub (cc (List.nil_sublist _))) (fun w1 M => qh M RcH_is1_27 rfl 0 rfl rfl) λa A↦?_
     refine qe A 3 rfl rfl rfl rfl hP (M.sub (cc (List.nil_sublist _))) (fun w1 M => qr rfl) λa A↦?_
     refine qe (v := .pointer (some ⟨br9, or9 + r.toNat * 2, none⟩)) A 4 rfl rfl rfl rfl hP (M.sub (cc (List.nil_sublist _))) (fun w1 M => zb (k := r.toNat) Tryz.underlying27 (by kernel_rfl) rfl rfl (by first | rfl | omega) lr9 (by omega)) λa A↦?_
     refine qe (v := .pointer (some ⟨br9, or9 + r.toNat * 2, none⟩)) A 5 rfl rfl rfl rfl hP (M.sub (cc (List.nil_sublist _))) (fun w1 M => qb RcH_fld_88_0 rfl rfl) λa A↦?_
     refine qe A 6 rfl rfl rfl rfl hP (M.sub (cc (List.nil_sublist _))) (fun w1 M => jm (j := 0) M Hr9 RcH_is1_3 rfl rfl rfl) λa A↦?_
     refine qw (by kernel_rfl) (jf A 7 rfl rfl rfl rfl (zg rfl rfl (fun w => by kernel_rfl)) (qch (hT.below M.bel) (hR.below M.bel) hW (by omega) (by omega)) ?_)
     rintro _ w19 ⟨so16, ca17, rfl, hM18⟩
     replace M : Mg w w19 (.row 3 1 (.slice so16 ((chT (prs (ts.map Ty.k)) (((rk9.kd : Nat) : Int))).length) ca17) ((chT (prs (ts.map Ty.k)) (((rk9.kd : Nat) : Int))).length) (inC (chT (prs (ts.map Ty.k)) (((rk9.kd : Nat) : Int)))) :: .obj g2 (.cells #[.slice tz ts.length tc, .slice ro rs.length rc] 29) :: []) := (M.both hM18 (qg (by simp) (ql qn)) (qg (by simp) (ql qn)))
     refine ⟨_, rfl, (M.sub (cn (cc (List.nil_sublist _)))), ?_⟩
     intro a A
     refine qe A 8 rfl rfl rfl rfl hP (M.sub (cn (cc (List.nil_sublist _)))) (fun w1 M => qm rfl) λa A↦?_
     refine zd (by kernel_rfl) ?_
     refine hK14 _ _ (wsk fun K20 hK20 => wsk fun K21 hK21 => wrl (sda A λa A↦?_))
     refine qa (hK21 _ _ (wp_block (zt (fun m_ a w1 => ∃ (i : Nat), m_ = 1 + ((chT (prs (ts.map Ty.k)) ((rk9.kd : Nat) : Int)).length - i) ∧ (i ≤ (chT (prs (ts.map Ty.k)) ((rk9.kd : Nat) : Int)).length ∧ ∀ (j : Nat) u, j < i → (chT (prs (ts.map Ty.k)) ((rk9.kd : Nat) : Int))[j]? = some u → (u == t) = false) ∧ Sl a 50 [(0, .agg #[.slice tz ts.length tc, .slice ro rs.length rc]), (1, .int .i64 r), (2, .int .i64 t), (3, .pointer (some ⟨g2, 0, none⟩)), (8, .slice so16 ((chT (prs (ts.map Ty.k)) (((rk9.kd : Nat) : Int))).length) ca17), (9, .int .i64 (((i : Nat) : Int))), (10, .int .i64 r), (11, .bool false), (12, .bool false), (13, .int .i64 r), (14, .pointer (some ⟨g2, 1, none⟩)), (15, .slice ro rs.length rc), (16, .int .i64 (((rs.length : Nat) : Int))), (17, .bool false), (18, .bool false), (19, .bool false), (20, .int .i64 t), (21, .bool false), (22, .bool false), (23, .bool false), (24, .int .i64 t), (25, .pointer (some ⟨g2, 0, none⟩)), (26, .slice tz ts.length tc), (27, .int .i64 (((ts.length : Nat) : Int))), (28, .bool false), (29, .bool false), (30, .agg #[.slice tz ts.length tc, .slice ro rs.length rc]), (31, .pointer (some ⟨g2, 1, none⟩)), (32, .slice ro rs.length rc), (33, .int .i64 r), (34, .pointer (some ⟨br9, or9 + r.toNat * 2, none⟩)), (35, .pointer (some ⟨br9, or9 + r.toNat * 2, none⟩)), (36, .int .i64 (((rk9.kd : Nat) : Int))), (37, .slice so16 ((chT (prs (ts.map Ty.k)) (((rk9.kd : Nat) : Int))).length) ca17)] ∧ Mg w w1 (.row 3 1 (.slice so16 ((chT (prs (ts.map Ty.k)) (((rk9.kd : Nat) : Int))).length) ca17) ((chT (prs (ts.map Ty.k)) (((rk9.kd : Nat) : Int))).length) (inC (chT (prs (ts.map Ty.k)) (((rk9.kd : Nat) : Int)))) :: .obj g2 (.cells #[.slice tz ts.length tc, .slice ro rs.length rc] 29) :: [])) _ ⟨0, rfl, ⟨Nat.zero_le _, fun j u h => absurd h (Nat.not_lt_zero _)⟩, A.keep _ (by repeat' constructor), M⟩ ?_)))
     clear M A
     rintro m_ a w22 ⟨i, rfl, hinv24, A, M⟩ K23 hK23
     obtain ⟨hi0, hin9⟩ := hinv24
     refine wsk fun K25 hK25 => wsk fun K26 hK26 => wrl ?_
     iterate 2 refine sdm A λa A↦?_
     refine sdo A (qp Tryz.underlying68 rfl) λa A↦?_
     rcases tf (decide (((i : Nat) : Int) < (((chT (prs (ts.map Ty.k)) (((rk9.kd : Nat) : Int))).length : Nat) : Int))) with hb27 | hb27
     ·
      have hb27' := of_decide_eq_true hb27
      refine sdc A za hb27 λa A↦?_
      refine qa (hK26 _ _ (wp_cond_true (A.ev rfl) ?_))
      refine wp_skip (hK25 _ _ (wsk fun K28 hK28 => wp_block (wsk fun K29 hK29 => wrl ?_)))
      iterate 2 refine sdm A λa A↦?_
      obtain ⟨bi30, oi31, zi32, hs33, hc34, hi35, hm36⟩ := qkb (rc_own (M.has 0 rfl)) (i := i) (by omega)
      refine sdo (v := .pointer (some ⟨bi30, oi31 + i, none⟩)) A (zp (k := i) Tryz.underlying68 (by kernel_rfl) rfl rfl (by first | rfl | omega) hs33 (by omega)) λa A↦?_
      refine sdo A (qdi hc34 RcH_is1_3 rfl) λa A↦?_
      refine sdm A λa A↦?_
      rcases tf ((zi32 == t)) with hb37 | hb37
      ·
       have hb37' := eq_of_beq hb37
       refine sdc A qt hb37 λa A↦?_
       refine qa (hK29 _ _ (wp_cond_true (A.ev rfl) ?_))
       refine wsk fun K38 hK38 => wrl ?_
       iterate 2 refine sda A λa A↦?_
       refine qa (hK38 _ _ (wp_ret (hret _ _ (en2 A rfl (qf rfl) (qf rfl) ?_))))
       exact ⟨by rw [qyj (show okT rs.length r = true by unfold okT; simp; omega) (show okT ts.length t = true by unfold okT; simp; omega) ir9, show ((chT (prs (ts.map Ty.k)) ((rk9.kd : Nat) : Int)).any fun z => t == z) = true from List.any_eq_true.2 ⟨zi32, hm36, by rw [eq_of_beq hb37]; exact beq_self_eq_true _⟩], M.bel⟩
      ·
       have hb37' := ne_of_beq_false hb37
       refine sdc A qt hb37 λa A↦?_
       refine qa (hK29 _ _ (wp_cond_false (A.ev rfl) ?_))
       refine wp_skip (hK28 _ _ (wrl (sdm A λa A↦?_)))
       refine sdo (v := .int .i64 (((i + 1 : Nat) : Int))) A (qi rfl rfl (fun w => (jc (jg (by omega) (by omega)) w).trans (by rw [show (((i : Nat) : Int) + 1 : Int) = ((i + 1 : Nat) : Int) from by omega]))) λa A↦?_
       refine sda A λa A↦?_
       refine qa ?_
       replace M : Mg w w22 (.obj g2 (.cells #[.slice tz ts.length tc, .slice ro rs.length rc] 29) :: .row 3 1 (.slice so16 ((chT (prs (ts.map Ty.k)) (((rk9.kd : Nat) : Int))).length) ca17) ((chT (prs (ts.map Ty.k)) (((rk9.kd : Nat) : Int))).length) (inC (chT (prs (ts.map Ty.k)) (((rk9.kd : Nat) : Int)))) :: []) := M.bring 1 rfl rfl
       replace M : Mg w w22 (.row 3 1 (.slice so16 ((chT (prs (ts.map Ty.k)) (((rk9.kd : Nat) : Int))).length) ca17) ((chT (prs (ts.map Ty.k)) (((rk9.kd : Nat) : Int))).length) (inC (chT (prs (ts.map Ty.k)) (((rk9.kd : Nat) : Int)))) :: .obj g2 (.cells #[.slice tz ts.length tc, .slice ro rs.length rc] 29) :: []) := M.bring 1 rfl rfl
       replace M : Mg w w22 (.row 3 1 (.slice so16 ((chT (prs (ts.map Ty.k)) (((rk9.kd : Nat) : Int))).length) ca17) ((chT (prs (ts.map Ty.k)) (((rk9.kd : Nat) : Int))).length) (inC (chT (prs (ts.map Ty.k)) (((rk9.kd : Nat) : Int)))) :: .obj g2 (.cells #[.slice tz ts.length tc, .slice ro rs.length rc] 29) :: []) := by
        have h9 := M.sub (cc (cc (.refl _)))
        exact h9
       refine hK23 _ _ _ (by omega) ⟨i + 1, rfl, ⟨by omega, fun j u hj hu => if h9 : j < i then hin9 j u h9 hu else by have h8 : j = i := (by omega); subst h8; rw [hi35] at hu; rw [← Option.some.inj hu]; exact hb37⟩, A.keep _ (by repeat' constructor), M⟩
     ·
      have hb27' := of_decide_eq_false hb27
      refine sdc A za hb27 λa A↦?_
      refine qa (hK26 _ _ (wp_cond_false (A.ev rfl) ?_))
      refine wp_exit (hK20 _ _ (wsk fun K39 hK39 => wrl ?_))
      iterate 2 refine sda A λa A↦?_
      refine qa (hK39 _ _ (wp_ret (hret _ _ (en2 A rfl (qf rfl) (qf rfl) ?_))))
      exact ⟨by rw [qyj (show okT rs.length r = true by unfold okT; simp; omega) (show okT ts.length t = true by unfold okT; simp; omega) ir9, show ((chT (prs (ts.map Ty.k)) ((rk9.kd : Nat) : Int)).any fun z => t == z) = false from zla hin9 (by omega)], M.bel⟩
theorem qmd {w : World} {tz ro : Option Addr} {tc rc : Nat} {ts : List Ty} {rs : List Rk} (hT : TR w tz ts) (hR : RR w ro rs) (hW : WS (ts.map Ty.k) (rs.map Rk.k)) {r t i : Int} : Calls Tryz.prog 39 #[.agg #[.slice tz ts.length tc, .slice ro rs.length rc], .int .i64 r, .int .i64 t, .int .i64 i] w fun e w' => e = .returned (.tuple #[.int .i64 (plS (ts.map Ty.k) (rs.map Rk.k) r t i).1, .int .i64 (plS (ts.map Ty.k) (rs.map Rk.k) r t i).2]) ∧ Below w.heap.size w w' := by
 have hkl := hW.kl
 have hrl := hW.rl
 rw [List.length_map] at hkl hrl
 have M : Mg w w ([]) := Mg.start w
 refine qx (l := [(0, .agg #[.slice tz ts.length tc, .slice ro rs.length rc]), (1, .int .i64 r), (2, .int .i64 t), (3, .int .i64 i)]) Tryz.func39 rfl Tryz.ntmps39 rfl rfl ?_
 intro Q hret hnorm hP a A
 refine wsk fun K1 hK1 => wrl (jb (vs := [.slice tz ts.length tc, .slice ro rs.length rc]) (t := 29) A M rfl rfl rfl pg (zh rfl rfl) (by decide) ?_)
 intro g2 w3 M a A
 iterate 2 refine sda A λa A↦?_
 refine qa (hK1 _ _ (wsk fun K4 hK4 => wrl (sdo A (qy M RcH_isS_29 rfl 0 rfl (cs := [.slice tz ts.length tc, .slice ro rs.length rc]) rfl rfl) λa A↦?_)))
 iterate 2 refine sdm A λa A↦?_
 refine gcl A M (ef rfl rfl) (zdb (hT.below M.bel) (hR.below M.bel) hW) fun w6 hb5 M a A => ?_
 refine sdm A λa A↦?_
 iterate 2 refine sdo A (ze (vs := [.bool ((isS (ts.map Ty.k) (rs.map Rk.k) r t).1), .int .i64 ((isS (ts.map Ty.k) (rs.map Rk.k) r t).2)]) rfl rfl) λa A↦?_
 iterate 2 refine sda A λa A↦?_
 refine qa (hK4 _ _ (wsk fun K7 hK7 => wsk fun K8 hK8 => wrl (sdm A λa A↦?_)))
 rcases tf (((isS (ts.map Ty.k) (rs.map Rk.k) r t).2 != 0)) with hb9 | hb9
 ·
  have hb9' := bne_iff_ne.1 hb9
  refine sdc A zi hb9 λa A↦?_
  refine qa (hK8 _ _ (wp_cond_true (A.ev rfl) ?_))
  refine wsk fun K10 hK10 => wrl (sdm A λa A↦?_)
  iterate 2 refine sda A λa A↦?_
  refine qa (hK10 _ _ (wp_ret (hret _ _ (en2 A rfl (qf rfl) (qf rfl) ?_))))
  exact ⟨by rw [qrg (i := i) (show (isS (ts.map Ty.k) (rs.map Rk.k) r t).2 ≠ 0 by omega)], M.bel⟩
 ·
  have hb9' := bne_eq_false_iff_eq.1 hb9
  refine sdc A zi hb9 λa A↦?_
  refine qa (hK8 _ _ (wp_cond_false (A.ev rfl) ?_))
  refine wp_skip (hK7 _ _ (wsk fun K11 hK11 => wsk fun K12 hK12 => wrl (sdm A λa A↦?_)))
  refine sdo (v := .bool (!((isS (ts.map Ty.k) (rs.map Rk.k) r t).1))) A (zj rfl zq) λa A↦?_
  refine qa (hK12 _ _ ?_)
  refine wp_cond_split (t := !((isS (ts.map Ty.k) (rs.map Rk.k) r t).1)) (A.ev rfl) (fun hc13 => ?_) (fun hc13 => ?_)
  ·
   refine wsk fun K14 hK14 => wrl ?_
   iterate 2 refine sda A λa A↦?_
   refine qa (hK14 _ _ (wp_ret (hret _ _ (en2 A rfl (qf rfl) (qf rfl) ?_))))
   exact ⟨by rw [qla (i := i) (show (isS (ts.map Ty.k) (rs.map Rk.k) r t).2 = 0 by omega) (by simpa using hc13)], M.bel⟩
  ·
   refine wp_skip (hK11 _ _ (wsk fun K15 hK15 => wsk fun K16 hK16 => ?_))
   have hz9 := qkj (show (isS (ts.map Ty.k) (rs.map Rk.k) r t).2 = 0 by omega)
   rw [List.length_map, List.length_map] at hz9
   have hr9 := ka hz9.1
   have ht9 := ka hz9.2
   obtain ⟨ty17, bt18, ot19, it20, mt21, rt22, lt23, Ht24⟩ := hT.at_ (i := t.toNat) (by omega)
   have hnf := hW.nf16 (zl it20)
   have hpl := hW.par_lt (zl it20)
   rw [show ty17.k.fs.length = ty17.fs.length from rfl, show ty17.k.par = ty17.par from rfl] at hnf
   rw [show ty17.k.par = ty17.par from rfl] at hpl
   refine wrl (sdm A λa A↦?_)
   rcases tf (decide (i < 0)) with hb25 | hb25
   ·
    have hb25' := of_decide_eq_true hb25
    refine sdc A za hb25 λa A↦?_
    refine sdm A λa A↦?_
    iterate 9 refine qk A rfl rfl rfl λa A↦?_
    refine sdk (v := .bool true) A λa A↦?_
    refine qa (hK16 _ _ (wp_cond_true (A.ev rfl) ?_))
    refine wsk fun K26 hK26 => wrl ?_
    iterate 2 refine sda A λa A↦?_
    refine qa (hK26 _ _ (wp_ret (hret _ _ (en2 A rfl (qf rfl) (qf rfl) ?_))))
    exact ⟨by rw [qed (show (isS (ts.map Ty.k) (rs.map Rk.k) r t).2 = 0 by omega) (by simpa using hc13) (zl it20) (show i < 0 ∨ ((ty17.fs.length : Nat) : Int) ≤ i by omega)], M.bel⟩
   ·
    have hb25' := of_decide_eq_false hb25
    refine sdc A za hb25 λa A↦?_
    iterate 2 refine sdm A λa A↦?_
    refine sdo (v := .pointer (some ⟨g2, 0, none⟩)) A (qb RcH_fld_29_0 rfl rfl) λa A↦?_
    refine sdo A (qh M RcH_is1_26 rfl 0 rfl rfl) λa A↦?_
    refine sdm A λa A↦?_
    refine sdo (v := .pointer (some ⟨bt18, ot19 + t.toNat * 7, none⟩)) A (zb (k := t.toNat) Tryz.underlying26 (by kernel_rfl) rfl rfl (by first | rfl | omega) lt23 (by omega)) λa A↦?_
    refine sdo (v := .pointer (some ⟨bt18, ot19 + t.toNat * 7 + 2, none⟩)) A (qb RcH_fld_33_2 rfl rfl) λa A↦?_
    refine sdo A (jm (j := 2) M Ht24 RcH_is1_30 rfl rfl rfl) λa A↦?_
    refine sdo A (qp Tryz.underlying30 rfl) λa A↦?_
    rcases tf (decide (((ty17.fs.length : Nat) : Int) ≤ i)) with hb27 | hb27
    ·
     have hb27' := of_decide_eq_true hb27
     refine sdc A zk hb27 λa A↦?_
     refine sdk (v := .bool true) A λa A↦?_
     refine qa (hK16 _ _ (wp_cond_true (A.ev rfl) ?_))
     refine wsk fun K28 hK28 => wrl ?_
     iterate 2 refine sda A λa A↦?_
     refine qa (hK28 _ _ (wp_ret (hret _ _ (en2 A rfl (qf rfl) (qf rfl) ?_))))
     exact ⟨by rw [qed (show (isS (ts.map Ty.k) (rs.map Rk.k) r t).2 = 0 by omega) (by simpa using hc13) (zl it20) (show i < 0 ∨ ((ty17.fs.length : Nat) : Int) ≤ i by omega)], M.bel⟩
    ·
     have hb27' := of_decide_eq_false hb27
     refine sdc A zk hb27 λa A↦?_
     refine sdk (v := .bool false) A λa A↦?_
     refine qa (hK16 _ _ (wp_cond_false (A.ev rfl) ?_))
     refine wp_skip (hK15 _ _ (wsk fun K29 hK29 => wrl (sda A λa A↦?_)))
     refine qa (hK29 _ _ (wsk fun K30 hK30 => wsk fun K31 hK31 => wrl (sdo (v := .pointer (some ⟨g2, 0, none⟩)) A (qb RcH_fld_29_0 rfl rfl) λa A↦?_)))
     refine sdo A (qh M RcH_is1_26 rfl 0 rfl rfl) λa A↦?_
     refine sdm A λa A↦?_
     refine sdo (v := .pointer (some ⟨bt18, ot19 + t.toNat * 7, none⟩)) A (zb (k := t.toNat) Tryz.underlying26 (by kernel_rfl) rfl rfl (by first | rfl | omega) lt23 (by omega)) λa A↦?_
     refine sdo (v := .pointer (some ⟨bt18, ot19 + t.toNat * 7 + 1, none⟩)) A (qb RcH_fld_33_1 rfl rfl) λa A↦?_
     refine sdo A (jm (j := 1) M Ht24 RcH_is1_3 rfl rfl rfl) λa A↦?_
     rcases tf (decide (0 ≤ ty17.par)) with hb32 | hb32
     ·
      have hb32' := of_decide_eq_true hb32
      refine sdc A zk hb32 λa A↦?_
      refine qa (hK31 _ _ (wp_cond_true (A.ev rfl) ?_))
      refine zn (S := fun w1 => Mg w w1 (.obj g2 (.cells #[.slice tz ts.length tc, .slice ro rs.length rc] 29) :: [])) (by kernel_rfl) ?_
      replace M := M.drew
      refine qe A 0 rfl rfl rfl rfl hP (M.sub (cc (List.nil_sublist _))) (fun w1 M => qy M RcH_isS_29 rfl 0 rfl (cs := [.slice tz ts.length tc, .slice ro rs.length rc]) rfl rfl) λa A↦?_
      refine qe (v := .pointer (some ⟨g2, 0, none⟩)) A 1 rfl rfl rfl rfl hP (M.sub (cc (List.nil_sublist _))) (fun w1 M => qb RcH_fld_29_0 rfl rfl) λa A↦?_
      refine qe A 2 rfl rfl rfl rfl hP (M.sub (cc (List.nil_sublist _))) (fun w1 M => qh M RcH_is1_26 rfl 0 rfl rfl) λa A↦?_
      refine qe A 3 rfl rfl rfl rfl hP (M.sub (cc (List.nil_sublist _))) (fun w1 M => qr rfl) λa A↦?_
      refine qe (v := .pointer (some ⟨bt18, ot19 + t.toNat * 7, none⟩)) A 4 rfl rfl rfl rfl hP (M.sub (cc (List.nil_sublist _))) (fun w1 M => zb (k := t.toNat) Tryz.underlying26 (by kernel_rfl) rfl rfl (by first | rfl | omega) lt23 (by omega)) λa A↦?_
      refine qe (v := .pointer (some ⟨bt18, ot19 + t.toNat * 7 + 1, none⟩)) A 5 rfl rfl rfl rfl hP (M.sub (cc (List.nil_sublist _))) (fun w1 M => qb RcH_fld_33_1 rfl rfl) λa A↦?_
      refine qe A 6 rfl rfl rfl rfl hP (M.sub (cc (List.nil_sublist _))) (fun w1 M => jm (j := 1) M Ht24 RcH_is1_3 rfl rfl rfl) λa A↦?_
      refine qw (by kernel_rfl) (jf A 7 rfl rfl rfl rfl (zg rfl rfl (fun w => by kernel_rfl)) (uq (hT.below M.bel) (hR.below M.bel) hW (by omega) (by omega)) ?_)
      rintro _ w34 ⟨rfl, hb33⟩
      replace M := M.call hb33
      refine ⟨_, rfl, (M.sub (cc (List.nil_sublist _))), ?_⟩
      intro a A
      refine qe A 8 rfl rfl rfl rfl hP (M.sub (cc (List.nil_sublist _))) (fun w1 M => qm rfl) λa A↦?_
      refine zd (by kernel_rfl) ?_
      refine hK30 _ _ (wsk fun K35 hK35 => wrl ?_)
      iterate 2 refine sdm A λa A↦?_
      refine sdo (v := .int .i64 (((cnt (ts.map Ty.k) ty17.par : Nat) : Int) + i)) A (qi rfl rfl (jc (jg (by omega) (by omega)))) λa A↦?_
      iterate 2 refine sda A λa A↦?_
      refine qa (hK35 _ _ (wp_ret (hret _ _ (en2 A rfl (qf rfl) (qf rfl) ?_))))
      exact ⟨by rw [qrh (show (isS (ts.map Ty.k) (rs.map Rk.k) r t).2 = 0 by omega) (by simpa using hc13) (zl it20) (show 0 ≤ i by omega) (show i < ((ty17.fs.length : Nat) : Int) by omega)]; rfl, M.bel⟩
     ·
      have hb32' := of_decide_eq_false hb32
      refine sdc A zk hb32 λa A↦?_
      refine qa (hK31 _ _ (wp_cond_false (A.ev rfl) ?_))
      refine wp_skip (hK30 _ _ (wsk fun K36 hK36 => wrl ?_))
      iterate 2 refine sdm A λa A↦?_
      refine sdo (v := .int .i64 (0 + i)) A (qi rfl rfl (jc (jg (by omega) (by omega)))) λa A↦?_
      iterate 2 refine sda A λa A↦?_
      refine qa (hK36 _ _ (wp_ret (hret _ _ (en2 A rfl (qf rfl) (qf rfl) ?_))))
      exact ⟨by rw [qrh (show (isS (ts.map Ty.k) (rs.map Rk.k) r t).2 = 0 by omega) (by simpa using hc13) (zl it20) (show 0 ≤ i by omega) (show i < ((ty17.fs.length : Nat) : Int) by omega), show cnt (ts.map Ty.k) ty17.k.par = 0 from ym (show ty17.par < 0 by omega)]; simp, M.bel⟩
theorem zlb {ks : List TK} {t : Int} {i : Nat} (h : ∀ (j : Nat) u, j < i → (chT (prs ks) t)[j]? = some u → zea ks u = false) (hi : (chT (prs ks) t).length ≤ i) : opq ks t = false := by
 unfold opq
 rw [List.any_eq_false]
 intro x hx
 obtain ⟨j, hj, rfl⟩ := List.getElem_of_mem hx
 rw [h j _ (by omega) (List.getElem?_eq_getElem hj)]
 decide
theorem qwf {w : World} {tz ro : Option Addr} {tc rc : Nat} {ts : List Ty} {rs : List Rk} (hT : TR w tz ts) (hR : RR w ro rs) (hW : WS (ts.map Ty.k) (rs.map Rk.k)) {r : Int} : Calls Tryz.prog 21 #[.agg #[.slice tz ts.length tc, .slice ro rs.length rc], .int .i64 r] w fun e w' => e = .returned (.tuple #[.int .i64 (yf (ts.map Ty.k) (rs.map Rk.k) r).1, .int .i64 (yf (ts.map Ty.k) (rs.map Rk.k) r).2]) ∧ Below w.heap.size w w' := by
 have hkl := hW.kl
 have hrl := hW.rl
 rw [List.length_map] at hkl hrl
 have M : Mg w w ([]) := Mg.start w
 refine qx (l := [(0, .agg #[.slice tz ts.length tc, .slice ro rs.length rc]), (1, .int .i64 r)]) Tryz.func21 rfl Tryz.ntmps21 rfl rfl ?_
 intro Q hret hnorm hP a A
 refine wsk fun K1 hK1 => wrl (jb (vs := [.slice tz ts.length tc, .slice ro rs.length rc]) (t := 29) A M rfl rfl rfl pg (zh rfl rfl) (by decide) ?_)
 intro g2 w3 M a A
 iterate 2 refine sda A λa A↦?_
 refine qa (hK1 _ _ (wsk fun K4 hK4 => wsk fun K5 hK5 => wrl (sdm A λa A↦?_)))
 rcases tf (decide (r < 0)) with hb6 | hb6
 ·
  have hb6' := of_decide_eq_true hb6
  refine sdc A za hb6 λa A↦?_
  refine sdm A λa A↦?_
  iterate 5 refine qk A rfl rfl rfl λa A↦?_
  refine sdk (v := .bool true) A λa A↦?_
  refine qa (hK5 _ _ (wp_cond_true (A.ev rfl) ?_))
  refine wsk fun K7 hK7 => wrl ?_
  iterate 2 refine sda A λa A↦?_
  refine qa (hK7 _ _ (wp_ret (hret _ _ (en2 A rfl (qf rfl) (qf rfl) ?_))))
  exact ⟨by rw [qri (show okT rs.length r = false by unfold okT; simp; omega)], M.bel⟩
 ·
  have hb6' := of_decide_eq_false hb6
  refine sdc A za hb6 λa A↦?_
  iterate 2 refine sdm A λa A↦?_
  refine sdo (v := .pointer (some ⟨g2, 1, none⟩)) A (qb RcH_fld_29_1 rfl rfl) λa A↦?_
  refine sdo A (qh M RcH_is1_27 rfl 0 rfl rfl) λa A↦?_
  refine sdo A (qp Tryz.underlying27 rfl) λa A↦?_
  rcases tf (decide (((rs.length : Nat) : Int) ≤ r)) with hb8 | hb8
  ·
   have hb8' := of_decide_eq_true hb8
   refine sdc A zk hb8 λa A↦?_
   refine sdk (v := .bool true) A λa A↦?_
   refine qa (hK5 _ _ (wp_cond_true (A.ev rfl) ?_))
   refine wsk fun K9 hK9 => wrl ?_
   iterate 2 refine sda A λa A↦?_
   refine qa (hK9 _ _ (wp_ret (hret _ _ (en2 A rfl (qf rfl) (qf rfl) ?_))))
   exact ⟨by rw [qri (show okT rs.length r = false by unfold okT; simp; omega)], M.bel⟩
  ·
   have hb8' := of_decide_eq_false hb8
   refine sdc A zk hb8 λa A↦?_
   refine sdk (v := .bool false) A λa A↦?_
   refine qa (hK5 _ _ (wp_cond_false (A.ev rfl) ?_))
   refine wp_skip (hK4 _ _ (wsk fun K10 hK10 => ?_))
   obtain ⟨rk9, br9, or9, ir9, mr9, rr9, lr9, Hr9⟩ := hR.at_ (i := r.toNat) (by omega)
   have hrk11 := hW.rk _ (List.mem_of_getElem? (xf ir9))
   rw [List.length_map, show rk9.k.1 = rk9.kd from rfl, show rk9.k.2.length = rk9.vs.length from List.length_map _] at hrk11
   have hcl := yk (prs (ts.map Ty.k)) ((rk9.kd : Nat) : Int)
   refine zn (S := fun w1 => Mg w w1 (.obj g2 (.cells #[.slice tz ts.length tc, .slice ro rs.length rc] 29) :: [])) (by kernel_rfl) ?_
   replace M := M.drew
   refine qe A 0 rfl rfl rfl rfl hP (M.sub (cc (List.nil_sublist _))) (fun w1 M => qy M RcH_isS_29 rfl 0 rfl (cs := [.slice tz ts.length tc, .slice ro rs.length rc]) rfl rfl) λa A↦?_
   refine qe (v := .pointer (some ⟨g2, 1, none⟩)) A 1 rfl rfl rfl rfl hP (M.sub (cc (List.nil_sublist _))) (fun w1 M => qb RcH_fld_29_1 rfl rfl) λa A↦?_
   refine qe A 2 rfl rfl rfl rfl hP (M.sub (cc (List.nil_sublist _))) (fun w1 M => qh M RcH_is1_27 rfl 0 rfl rfl) λa A↦?_
   refine qe A 3 rfl rfl rfl rfl hP (M.sub (cc (List.nil_sublist _))) (fun w1 M => qr rfl) λa A↦?_
   refine qe (v := .pointer (some ⟨br9, or9 + r.toNat * 2, none⟩)) A 4 rfl rfl rfl rfl hP (M.sub (cc (List.nil_sublist _))) (fun w1 M => zb (k := r.toNat) Tryz.underlying27 (by kernel_rfl) rfl rfl (by first | rfl | omega) lr9 (by omega)) λa A↦?_
   refine qe (v := .pointer (some ⟨br9, or9 + r.toNat * 2, none⟩)) A 5 rfl rfl rfl rfl hP (M.sub (cc (List.nil_sublist _))) (fun w1 M => qb RcH_fld_88_0 rfl rfl) λa A↦?_
   refine qe A 6 rfl rfl rfl rfl hP (M.sub (cc (List.nil_sublist _))) (fun w1 M => jm (j := 0) M Hr9 RcH_is1_3 rfl rfl rfl) λa A↦?_
   refine qw (by kernel_rfl) (jf A 7 rfl rfl rfl rfl (zg rfl rfl (fun w => by kernel_rfl)) (qch (hT.below M.bel) (hR.below M.bel) hW (by omega) (by omega)) ?_)
   rintro _ w15 ⟨so12, ca13, rfl, hM14⟩
   replace M : Mg w w15 (.row 3 1 (.slice so12 ((chT (prs (ts.map Ty.k)) (((rk9.kd : Nat) : Int))).length) ca13) ((chT (prs (ts.map Ty.k)) (((rk9.kd : Nat) : Int))).length) (inC (chT (prs (ts.map Ty.k)) (((rk9.kd : Nat) : Int)))) :: .obj g2 (.cells #[.slice tz ts.length tc, .slice ro rs.length rc] 29) :: []) := (M.both hM14 (qg (by simp) (ql qn)) (qg (by simp) (ql qn)))
   refine ⟨_, rfl, (M.sub (cn (cc (List.nil_sublist _)))), ?_⟩
   intro a A
   refine qe A 8 rfl rfl rfl rfl hP (M.sub (cn (cc (List.nil_sublist _)))) (fun w1 M => qm rfl) λa A↦?_
   refine zd (by kernel_rfl) ?_
   refine hK10 _ _ (wsk fun K16 hK16 => wsk fun K17 hK17 => wrl (sda A λa A↦?_))
   refine qa (hK17 _ _ (wp_block (zt (fun m_ a w1 => ∃ (i : Nat), m_ = 1 + ((chT (prs (ts.map Ty.k)) ((rk9.kd : Nat) : Int)).length - i) ∧ (i ≤ (chT (prs (ts.map Ty.k)) ((rk9.kd : Nat) : Int)).length ∧ ∀ (j : Nat) u, j < i → (chT (prs (ts.map Ty.k)) ((rk9.kd : Nat) : Int))[j]? = some u → zea (ts.map Ty.k) u = false) ∧ Sl a 46 [(0, .agg #[.slice tz ts.length tc, .slice ro rs.length rc]), (1, .int .i64 r), (2, .pointer (some ⟨g2, 0, none⟩)), (6, .slice so12 ((chT (prs (ts.map Ty.k)) (((rk9.kd : Nat) : Int))).length) ca13), (7, .int .i64 (((i : Nat) : Int))), (8, .int .i64 r), (9, .bool false), (10, .bool false), (11, .int .i64 r), (12, .pointer (some ⟨g2, 1, none⟩)), (13, .slice ro rs.length rc), (14, .int .i64 (((rs.length : Nat) : Int))), (15, .bool false), (16, .bool false), (17, .agg #[.slice tz ts.length tc, .slice ro rs.length rc]), (18, .pointer (some ⟨g2, 1, none⟩)), (19, .slice ro rs.length rc), (20, .int .i64 r), (21, .pointer (some ⟨br9, or9 + r.toNat * 2, none⟩)), (22, .pointer (some ⟨br9, or9 + r.toNat * 2, none⟩)), (23, .int .i64 (((rk9.kd : Nat) : Int))), (24, .slice so12 ((chT (prs (ts.map Ty.k)) (((rk9.kd : Nat) : Int))).length) ca13)] ∧ Mg w w1 (.row 3 1 (.slice so12 ((chT (prs (ts.map Ty.k)) (((rk9.kd : Nat) : Int))).length) ca13) ((chT (prs (ts.map Ty.k)) (((rk9.kd : Nat) : Int))).length) (inC (chT (prs (ts.map Ty.k)) (((rk9.kd : Nat) : Int)))) :: .obj g2 (.cells #[.slice tz ts.length tc, .slice ro rs.length rc] 29) :: [])) _ ⟨0, rfl, ⟨Nat.zero_le _, fun j u h => absurd h (Nat.not_lt_zero _)⟩, A.keep _ (by repeat' constructor), M⟩ ?_)))
   clear M A
   rintro m_ a w18 ⟨i, rfl, hinv20, A, M⟩ K19 hK19
   obtain ⟨hi0, hin9⟩ := hinv20
   refine wsk fun K21 hK21 => wsk fun K22 hK22 => wrl ?_
   iterate 2 refine sdm A λa A↦?_
   refine sdo A (qp Tryz.underlying68 rfl) λa A↦?_
   rcases tf (decide (((i : Nat) : Int) < (((chT (prs (ts.map Ty.k)) (((rk9.kd : Nat) : Int))).length : Nat) : Int))) with hb23 | hb23
   ·
    have hb23' := of_decide_eq_true hb23
    refine sdc A za hb23 λa A↦?_
    refine qa (hK22 _ _ (wp_cond_true (A.ev rfl) ?_))
    refine wp_skip (hK21 _ _ (wsk fun K24 hK24 => wp_block (wsk fun K25 hK25 => zn (S := fun w1 => Mg w w1 (.row 3 1 (.slice so12 ((chT (prs (ts.map Ty.k)) (((rk9.kd : Nat) : Int))).length) ca13) ((chT (prs (ts.map Ty.k)) (((rk9.kd : Nat) : Int))).length) (inC (chT (prs (ts.map Ty.k)) (((rk9.kd : Nat) : Int)))) :: .obj g2 (.cells #[.slice tz ts.length tc, .slice ro rs.length rc] 29) :: [])) (by kernel_rfl) ?_)))
    replace M := M.drew
    refine qe (v := .pointer (some ⟨g2, 0, none⟩)) A 0 rfl rfl rfl rfl hP (M.sub (cc (cc (List.nil_sublist _)))) (fun w1 M => qb RcH_fld_29_0 rfl rfl) λa A↦?_
    refine qe A 1 rfl rfl rfl rfl hP (M.sub (cc (cc (List.nil_sublist _)))) (fun w1 M => qh M RcH_is1_26 rfl 1 rfl rfl) λa A↦?_
    refine qe A 2 rfl rfl rfl rfl hP (M.sub (cc (cc (List.nil_sublist _)))) (fun w1 M => qr rfl) λa A↦?_
    refine qe A 3 rfl rfl rfl rfl hP (M.sub (cc (cc (List.nil_sublist _)))) (fun w1 M => qr rfl) λa A↦?_
    obtain ⟨bi26, oi27, zi28, hs29, hc30, hi31, hm32⟩ := qkb (rc_own (M.has 0 rfl)) (i := i) (by omega)
    refine qe (v := .pointer (some ⟨bi26, oi27 + i, none⟩)) A 4 rfl rfl rfl rfl hP (M.sub (cc (cc (List.nil_sublist _)))) (fun w1 M => zp (k := i) Tryz.underlying68 (by kernel_rfl) rfl rfl (by first | rfl | omega) hs29 (by omega)) λa A↦?_
    refine qe A 5 rfl rfl rfl rfl hP (M.sub (cc (cc (List.nil_sublist _)))) (fun w1 M => qvd M 0 rfl hi31 hs29 RcH_is1_3 rfl rfl) λa A↦?_
    have hzz := uh hW.wf hm32
    obtain ⟨ty33, bt34, ot35, it36, mt37, rt38, lt39, Ht40⟩ := hT.at_ (i := zi28.toNat) (by omega)
    have hnf := hW.nf16 (zl it36)
    rw [show ty33.k.fs.length = ty33.fs.length from rfl] at hnf
    refine qe (v := .pointer (some ⟨bt34, ot35 + zi28.toNat * 7, none⟩)) A 6 rfl rfl rfl rfl hP (M.sub (cc (cc (List.nil_sublist _)))) (fun w1 M => zb (k := zi28.toNat) Tryz.underlying26 (by kernel_rfl) rfl rfl (by first | rfl | omega) lt39 (by omega)) λa A↦?_
    refine qe (v := .pointer (some ⟨bt34, ot35 + zi28.toNat * 7 + 5, none⟩)) A 7 rfl rfl rfl rfl hP (M.sub (cc (cc (List.nil_sublist _)))) (fun w1 M => qb RcH_fld_33_5 rfl rfl) λa A↦?_
    refine qe A 8 rfl rfl rfl rfl hP (M.sub (cc (cc (List.nil_sublist _)))) (fun w1 M => jm (j := 5) M Ht40 RcH_is1_4 rfl rfl rfl) λa A↦?_
    refine zd (by kernel_rfl) ?_
    refine hK25 _ _ ?_
    refine wp_cond_split (t := ty33.op) (A.ev rfl) (fun hc41 => ?_) (fun hc41 => ?_)
    ·
     refine wsk fun K42 hK42 => wrl ?_
     iterate 2 refine sda A λa A↦?_
     refine qa (hK42 _ _ (wp_ret (hret _ _ (en2 A rfl (qf rfl) (qf rfl) ?_))))
     exact ⟨by rw [qva (show okT rs.length r = true by unfold okT; simp; omega) ir9 (show opq (ts.map Ty.k) ((rk9.kd : Nat) : Int) = true from List.any_eq_true.2 ⟨zi28, hm32, by rw [qqf (zl it36)]; exact hc41⟩)], M.bel⟩
    ·
     refine wp_skip (hK24 _ _ (wrl (sdm A λa A↦?_)))
     refine sdo (v := .int .i64 (((i + 1 : Nat) : Int))) A (qi rfl rfl (fun w => (jc (jg (by omega) (by omega)) w).trans (by rw [show (((i : Nat) : Int) + 1 : Int) = ((i + 1 : Nat) : Int) from by omega]))) λa A↦?_
     refine sda A λa A↦?_
     refine qa ?_
     replace M : Mg w w18.drew (.obj g2 (.cells #[.slice tz ts.length tc, .slice ro rs.length rc] 29) :: .row 3 1 (.slice so12 ((chT (prs (ts.map Ty.k)) (((rk9.kd : Nat) : Int))).length) ca13) ((chT (prs (ts.map Ty.k)) (((rk9.kd : Nat) : Int))).length) (inC (chT (prs (ts.map Ty.k)) (((rk9.kd : Nat) : Int)))) :: []) := M.bring 1 rfl rfl
     replace M : Mg w w18.drew (.row 3 1 (.slice so12 ((chT (prs (ts.map Ty.k)) (((rk9.kd : Nat) : Int))).length) ca13) ((chT (prs (ts.map Ty.k)) (((rk9.kd : Nat) : Int))).length) (inC (chT (prs (ts.map Ty.k)) (((rk9.kd : Nat) : Int)))) :: .obj g2 (.cells #[.slice tz ts.length tc, .slice ro rs.length rc] 29) :: []) := M.bring 1 rfl rfl
     replace M : Mg w w18.drew (.row 3 1 (.slice so12 ((chT (prs (ts.map Ty.k)) (((rk9.kd : Nat) : Int))).length) ca13) ((chT (prs (ts.map Ty.k)) (((rk9.kd : Nat) : Int))).length) (inC (chT (prs (ts.map Ty.k)) (((rk9.kd : Nat) : Int)))) :: .obj g2 (.cells #[.slice tz ts.length tc, .slice ro rs.length rc] 29) :: []) := by
      have h9 := M.sub (cc (cc (.refl _)))
      exact h9
     refine hK19 _ _ _ (by omega) ⟨i + 1, rfl, ⟨by omega, fun j u hj hu => if h9 : j < i then hin9 j u h9 hu else by have h8 : j = i := (by omega); subst h8; rw [hi31] at hu; rw [← Option.some.inj hu, qqf (zl it36)]; exact hc41⟩, A.keep _ (by repeat' constructor), M⟩
   ·
    have hb23' := of_decide_eq_false hb23
    refine sdc A za hb23 λa A↦?_
    refine qa (hK22 _ _ (wp_cond_false (A.ev rfl) ?_))
    refine wp_exit (hK16 _ _ (wsk fun K43 hK43 => wrl (sdo (v := .pointer (some ⟨g2, 1, none⟩)) A (qb RcH_fld_29_1 rfl rfl) λa A↦?_)))
    refine sdo A (qh M RcH_is1_27 rfl 1 rfl rfl) λa A↦?_
    refine sdm A λa A↦?_
    refine sdo (v := .pointer (some ⟨br9, or9 + r.toNat * 2, none⟩)) A (zb (k := r.toNat) Tryz.underlying27 (by kernel_rfl) rfl rfl (by first | rfl | omega) lr9 (by omega)) λa A↦?_
    refine sdo (v := .pointer (some ⟨br9, or9 + r.toNat * 2, none⟩)) A (qb RcH_fld_88_0 rfl rfl) λa A↦?_
    refine sdo A (jm (j := 0) M Hr9 RcH_is1_3 rfl rfl rfl) λa A↦?_
    iterate 2 refine sda A λa A↦?_
    refine qa (hK43 _ _ (wp_ret (hret _ _ (en2 A rfl (qf rfl) (qf rfl) ?_))))
    exact ⟨by rw [zcc (show okT rs.length r = true by unfold okT; simp; omega) ir9 (show opq (ts.map Ty.k) ((rk9.kd : Nat) : Int) = false from zlb hin9 (by omega))], M.bel⟩
theorem zlc {w : World} {tz ro : Option Addr} {tc rc : Nat} {ts : List Ty} {rs : List Rk} (hT : TR w tz ts) (hR : RR w ro rs) (hW : WS (ts.map Ty.k) (rs.map Rk.k)) {r t i : Int} : Calls Tryz.prog 14 #[.agg #[.slice tz ts.length tc, .slice ro rs.length rc], .int .i64 r, .int .i64 t, .int .i64 i] w fun e w' => ∃ d2 : Dt, e = .returned (.tuple #[.agg (d2.d.cells d2.ts.length).toArray, .int .i64 (plS (ts.map Ty.k) (rs.map Rk.k) r t i).2]) ∧ ((d2 = js ∨ ∃ x ∈ rs, d2 ∈ x.vs) ∧ d2.tr = gtT (ts.map Ty.k) (rs.map Rk.k) r t i) ∧ Below w.heap.size w w' := by
 have hkl := hW.kl
 have hrl := hW.rl
 rw [List.length_map] at hkl hrl
 have M : Mg w w ([]) := Mg.start w
 refine qx (l := [(0, .agg #[.slice tz ts.length tc, .slice ro rs.length rc]), (1, .int .i64 r), (2, .int .i64 t), (3, .int .i64 i)]) Tryz.func14 rfl Tryz.ntmps14 rfl rfl ?_
 intro Q hret hnorm hP a A
 refine wsk fun K1 hK1 => wrl (jb (vs := [.slice tz ts.length tc, .slice ro rs.length rc]) (t := 29) A M rfl rfl rfl pg (zh rfl rfl) (by decide) ?_)
 intro g2 w3 M a A
 refine jb (vs := (js.d.cells js.ts.length)) (t := 42) A M rfl rfl rfl pg (zw (z := .agg (js.d.cells js.ts.length).toArray) (by kernel_rfl) rfl) (by decide) ?_
 intro g4 w5 M a A
 refine sda A λa A↦?_
 refine qa (hK1 _ _ (wsk fun K6 hK6 => wrl (sdo A (qy M RcH_isS_29 rfl 1 rfl (cs := [.slice tz ts.length tc, .slice ro rs.length rc]) rfl rfl) λa A↦?_)))
 iterate 3 refine sdm A λa A↦?_
 refine gcl A M (ef rfl rfl) (qmd (hT.below M.bel) (hR.below M.bel) hW) fun w8 hb7 M a A => ?_
 refine sdm A λa A↦?_
 iterate 2 refine sdo A (ze (vs := [.int .i64 ((plS (ts.map Ty.k) (rs.map Rk.k) r t i).1), .int .i64 ((plS (ts.map Ty.k) (rs.map Rk.k) r t i).2)]) rfl rfl) λa A↦?_
 iterate 2 refine sda A λa A↦?_
 refine qa (hK6 _ _ (wsk fun K9 hK9 => wsk fun K10 hK10 => wrl (sdm A λa A↦?_)))
 rcases tf (((plS (ts.map Ty.k) (rs.map Rk.k) r t i).2 != 0)) with hb11 | hb11
 ·
  have hb11' := bne_iff_ne.1 hb11
  refine sdc A zi hb11 λa A↦?_
  refine qa (hK10 _ _ (wp_cond_true (A.ev rfl) ?_))
  refine wsk fun K12 hK12 => wrl (sdo (v := .agg (js.d.cells js.ts.length).toArray) A (jd rfl (fun w => by kernel_rfl)) λa A↦?_)
  refine sdm A λa A↦?_
  refine zr (us := (js.d.cells js.ts.length)) (L' := (.obj g4 (.cells (js.d.cells js.ts.length).toArray 42) :: .obj g2 (.cells #[.slice tz ts.length tc, .slice ro rs.length rc] 29) :: [])) A M rfl rfl (qz rfl rfl rfl (by kernel_rfl) M 0 rfl rfl rfl) 0 rfl rfl rfl ?_
  intro w13 M
  refine sda A λa A↦?_
  refine qa (hK12 _ _ (wp_ret (hret _ _ (en2 A rfl (zm M RcH_isS_42 rfl 0 rfl (cs := [.int .i64 0, .int .i64 0, .bool false, .slice none 0 0, .slice none 0 0, .bool false, .slice none 0 0, .slice none 0 0, .string (⟨#[]⟩), .slice none 0 0, .slice none 0 0]) rfl rfl) (qf rfl) ?_))))
  exact ⟨js, rfl, ⟨.inl rfl, (zjf (show (plS (ts.map Ty.k) (rs.map Rk.k) r t i).2 ≠ 0 by omega)).symm⟩, M.bel⟩
 ·
  have hb11' := bne_eq_false_iff_eq.1 hb11
  refine sdc A zi hb11 λa A↦?_
  refine qa (hK10 _ _ (wp_cond_false (A.ev rfl) ?_))
  refine wp_skip (hK9 _ _ (wsk fun K14 hK14 => ?_))
  obtain ⟨x9, k9, hx9, hk9, p1, p2, p3, p4, p5, p6, p7, p8, p9, p10⟩ := qoe hW (show (plS (ts.map Ty.k) (rs.map Rk.k) r t i).2 = 0 by omega)
  rw [List.length_map] at p2 p4
  obtain ⟨rk15, br16, or17, ir18, mr19, rr20, lr21, Hr22⟩ := hR.at_ (i := r.toNat) (by omega)
  obtain rfl : x9 = rk15.k := Option.some.inj (hx9.symm.trans (xf ir18))
  rw [show rk15.k.2.length = rk15.vs.length from List.length_map _] at p9 p10
  refine wrl (sdo (v := .pointer (some ⟨g2, 1, none⟩)) A (qb RcH_fld_29_1 rfl rfl) λa A↦?_)
  refine sdo A (qh M RcH_is1_27 rfl 1 rfl rfl) λa A↦?_
  refine sdm A λa A↦?_
  refine sdo (v := .pointer (some ⟨br16, or17 + r.toNat * 2, none⟩)) A (zb (k := r.toNat) Tryz.underlying27 (by kernel_rfl) rfl rfl (by first | rfl | omega) lr21 (by omega)) λa A↦?_
  refine sdo (v := .pointer (some ⟨br16, or17 + r.toNat * 2 + 1, none⟩)) A (qb RcH_fld_88_1 rfl rfl) λa A↦?_
  refine sdo A (jm (j := 1) M Hr22 RcH_is1_34 rfl rfl rfl) λa A↦?_
  refine sdm A λa A↦?_
  obtain ⟨tk23, btk23, otk23, itk23, mtk23, rtk23_, ltk23, Htk23⟩ := zna rr20.v rr20.d (i := ((plS (ts.map Ty.k) (rs.map Rk.k) r t i).1).toNat) (by omega)
  refine sdo (v := .pointer (some ⟨btk23, otk23 + ((plS (ts.map Ty.k) (rs.map Rk.k) r t i).1).toNat * 11, none⟩)) A (zb (k := ((plS (ts.map Ty.k) (rs.map Rk.k) r t i).1).toNat) Tryz.underlying34 (by kernel_rfl) rfl rfl (by first | rfl | omega) ltk23 (by omega)) λa A↦?_
  refine sdo A (xa M Htk23 RcH_isS_42 rfl rfl) λa A↦?_
  refine zr (us := (tk23.d.cells tk23.ts.length)) (L' := (.obj g4 (.cells (tk23.d.cells tk23.ts.length).toArray 42) :: .obj g2 (.cells #[.slice tz ts.length tc, .slice ro rs.length rc] 29) :: [])) A M rfl rfl (qz rfl rfl rfl (by kernel_rfl) M 0 rfl rfl rfl) 0 rfl rfl rfl ?_
  intro w24 M
  refine sda A λa A↦?_
  refine qa (hK14 _ _ (wp_ret (hret _ _ (en2 A rfl (zm M RcH_isS_42 rfl 0 rfl (cs := [.int .i64 tk23.d.k, .int .i64 tk23.d.n, .bool tk23.d.y.q.b1, .slice tk23.d.y.o1 tk23.d.y.q.t1.length tk23.d.y.c1, .slice tk23.d.y.o2 tk23.d.y.q.q1.length tk23.d.y.c2, .bool tk23.d.y.q.b2, .slice tk23.d.y.o3 tk23.d.y.q.t2.length tk23.d.y.c3, .slice tk23.d.y.o4 tk23.d.y.q.q2.length tk23.d.y.c4, .string tk23.d.s, .slice tk23.d.ro tk23.d.rl.length tk23.d.rc, .slice tk23.d.lo tk23.ts.length tk23.d.lc]) rfl rfl) (qf rfl) ?_))))
  exact ⟨tk23, by first | (rw [show (plS (ts.map Ty.k) (rs.map Rk.k) r t i).2 = 0 by omega]; done) | (rw [show (plS (ts.map Ty.k) (rs.map Rk.k) r t i).2 = 0 by omega]; rfl), ⟨.inr ⟨_, mr19, mtk23⟩, (zje (show (plS (ts.map Ty.k) (rs.map Rk.k) r t i).2 = 0 by omega) hx9 (show (List.map Dt.tr _)[_]? = some tk23.tr by rw [List.getElem?_map, itk23]; rfl)).symm⟩, M.bel⟩
theorem RcI_is1_26 : Is1 Tryz.prog 26 := ⟨⟨_, Tryz.underlying26, rfl⟩, by kernel_rfl⟩
theorem RcI_is1_27 : Is1 Tryz.prog 27 := ⟨⟨_, Tryz.underlying27, rfl⟩, by kernel_rfl⟩
theorem RcI_is1_3 : Is1 Tryz.prog 3 := ⟨⟨_, Tryz.underlying3, rfl⟩, by kernel_rfl⟩
theorem RcI_is1_30 : Is1 Tryz.prog 30 := ⟨⟨_, Tryz.underlying30, rfl⟩, by kernel_rfl⟩
theorem RcI_is1_31 : Is1 Tryz.prog 31 := ⟨⟨_, Tryz.underlying31, rfl⟩, by kernel_rfl⟩
theorem RcI_is1_34 : Is1 Tryz.prog 34 := ⟨⟨_, Tryz.underlying34, rfl⟩, by kernel_rfl⟩
theorem RcI_is1_4 : Is1 Tryz.prog 4 := ⟨⟨_, Tryz.underlying4, rfl⟩, by kernel_rfl⟩
theorem RcI_is1_9 : Is1 Tryz.prog 9 := ⟨⟨_, Tryz.underlying9, rfl⟩, by kernel_rfl⟩
theorem RcI_fld_29_0 : FieldAt Tryz.prog 29 0 0 := ⟨_, _, Tryz.underlying29, rfl, rfl, by kernel_rfl⟩
theorem RcI_fld_29_1 : FieldAt Tryz.prog 29 1 1 := ⟨_, _, Tryz.underlying29, rfl, rfl, by kernel_rfl⟩
theorem RcI_fld_33_1 : FieldAt Tryz.prog 33 1 1 := ⟨_, _, Tryz.underlying33, rfl, rfl, by kernel_rfl⟩
theorem RcI_fld_33_2 : FieldAt Tryz.prog 33 2 2 := ⟨_, _, Tryz.underlying33, rfl, rfl, by kernel_rfl⟩
theorem RcI_fld_33_3 : FieldAt Tryz.prog 33 3 3 := ⟨_, _, Tryz.underlying33, rfl, rfl, by kernel_rfl⟩
theorem RcI_fld_33_4 : FieldAt Tryz.prog 33 4 4 := ⟨_, _, Tryz.underlying33, rfl, rfl, by kernel_rfl⟩
theorem RcI_fld_33_6 : FieldAt Tryz.prog 33 6 6 := ⟨_, _, Tryz.underlying33, rfl, rfl, by kernel_rfl⟩
theorem RcI_fld_88_1 : FieldAt Tryz.prog 88 1 1 := ⟨_, _, Tryz.underlying88, rfl, rfl, by kernel_rfl⟩
theorem RcI_isS_29 : IsS Tryz.prog 29 2 := ⟨⟨_, Tryz.underlying29⟩, by kernel_rfl⟩
theorem RcI_isS_33 : IsS Tryz.prog 33 7 := ⟨⟨_, Tryz.underlying33⟩, by kernel_rfl⟩
theorem RcI_isS_42 : IsS Tryz.prog 42 11 := ⟨⟨_, Tryz.underlying42⟩, by kernel_rfl⟩
set_option maxHeartbeats 2000000 in
theorem zgf {w : World} {tz ro : Option Addr} {tc rc : Nat} {ts : List Ty} {rs : List Rk} (hT : TR w tz ts) (hR : RR w ro rs) (hW : WS (ts.map Ty.k) (rs.map Rk.k)) {u : Ty} (hU : TyR w u) (hul : u.fs.length ≤ 2000000) (hum : u.ms.length ≤ 2000000) : Calls Tryz.prog 9 #[.agg #[.slice tz ts.length tc, .slice ro rs.length rc], .agg #[.string u.nm, .int .i64 u.par, .slice u.fo u.fs.length u.fc, .slice u.mo u.ms.length u.mc, .bool u.sl, .bool u.op, .string u.ui]] w fun e w' => (((tyS (ts.map Ty.k) u.k).2.2 = false ∧ e = .returned (.tuple #[.int .i64 (tyS (ts.map Ty.k) u.k).1, .int .i64 (tyS (ts.map Ty.k) u.k).2.1, .agg #[.slice tz ts.length tc, .slice ro rs.length rc]]) ∧ Below w.heap.size w w') ∨ ((tyS (ts.map Ty.k) u.k).2.2 = true ∧ ∃ (tz' : Option Addr) (tc' : Nat), e = .returned (.tuple #[.int .i64 ((ts.length : Nat) : Int), .int .i64 0, .agg #[.slice tz' (ts ++ [u]).length tc', .slice ro rs.length rc]]) ∧ Mg w w' [.row 33 7 (.slice tz' (ts ++ [u]).length tc') (ts ++ [u]).length (qj Ty.c (ts ++ [u]))])) := by
 have hkl := hW.kl
 have hrl := hW.rl
 rw [List.length_map] at hkl hrl
 have M : Mg w w ([]) := Mg.start w
 refine qx (l := [(0, .agg #[.slice tz ts.length tc, .slice ro rs.length rc]), (1, .agg #[.string u.nm, .int .i64 u.par, .slice u.fo u.fs.length u.fc, .slice u.mo u.ms.length u.mc, .bool u.sl, .bool u.op, .string u.ui])]) Tryz.func9 rfl Tryz.ntmps9 rfl rfl ?_
 intro Q hret hnorm hP a A
 refine wsk fun K1 hK1 => wrl (jb (vs := [.slice tz ts.length tc, .slice ro rs.length rc]) (t := 29) A M rfl rfl rfl pg (zh rfl rfl) (by decide) ?_)
 intro g2 w3 M a A
 refine jb (vs := [.string u.nm, .int .i64 u.par, .slice u.fo u.fs.length u.fc, .slice u.mo u.ms.length u.mc, .bool u.sl, .bool u.op, .string u.ui]) (t := 33) A M rfl rfl rfl pg (zh rfl rfl) (by decide) ?_
 intro g4 w5 M a A
 iterate 2 refine sda A λa A↦?_
 refine jb (vs := [.slice none 0 0, .slice none 0 0]) (t := 29) A M rfl rfl rfl pg (zw (z := .agg #[.slice none 0 0, .slice none 0 0]) (by kernel_rfl) rfl) (by decide) ?_
 intro g6 w7 M a A
 refine qa (hK1 _ _ (wsk fun K8 hK8 => wsk fun K9 hK9 => wrl (sdo (v := .pointer (some ⟨g4, 3, none⟩)) A (qb RcI_fld_33_3 rfl rfl) λa A↦?_)))
 refine sdo A (qh M RcI_is1_31 rfl 1 rfl rfl) λa A↦?_
 refine sdo A (qp Tryz.underlying31 rfl) λa A↦?_
 refine sdo (v := .pointer (some ⟨g4, 2, none⟩)) A (qb RcI_fld_33_2 rfl rfl) λa A↦?_
 refine sdo A (qh M RcI_is1_30 rfl 1 rfl rfl) λa A↦?_
 refine sdo A (qp Tryz.underlying30 rfl) λa A↦?_
 rcases tf ((((u.ms.length : Nat) : Int) != ((u.fs.length : Nat) : Int))) with hb10 | hb10
 ·
  have hb10' := bne_iff_ne.1 hb10
  refine sdc A zi hb10 λa A↦?_
  refine sdm A λa A↦?_
  iterate 3 refine qk A rfl rfl rfl λa A↦?_
  refine sdk (v := .bool true) A λa A↦?_
  refine sdm A λa A↦?_
  iterate 3 refine qk A rfl rfl rfl λa A↦?_
  refine sdk (v := .bool true) A λa A↦?_
  refine sdm A λa A↦?_
  iterate 6 refine qk A rfl rfl rfl λa A↦?_
  refine sdk (v := .bool true) A λa A↦?_
  refine qa (hK9 _ _ (wp_cond_true (A.ev rfl) ?_))
  refine wsk fun K11 hK11 => zn (S := fun w1 => Mg w w1 (.obj g2 (.cells #[.slice tz ts.length tc, .slice ro rs.length rc] 29) :: [])) (by kernel_rfl) ?_
  replace M := M.drew
  refine qe A 0 rfl rfl rfl rfl hP (M.sub (cn (cn (cc (List.nil_sublist _))))) (fun w1 M => qy M RcI_isS_29 rfl 0 rfl (cs := [.slice tz ts.length tc, .slice ro rs.length rc]) rfl rfl) λa A↦?_
  refine qe A 1 rfl rfl rfl rfl hP (M.sub (cn (cn (cc (List.nil_sublist _))))) (fun w1 M => qm rfl) λa A↦?_
  refine qe A 2 rfl rfl rfl rfl hP (M.sub (cn (cn (cc (List.nil_sublist _))))) (fun w1 M => qm rfl) λa A↦?_
  refine qw (by kernel_rfl) (zx (us := [.slice tz ts.length tc, .slice ro rs.length rc]) (L' := (.obj g6 (.cells #[.slice tz ts.length tc, .slice ro rs.length rc] 29) :: .obj g4 (.cells #[.string u.nm, .int .i64 u.par, .slice u.fo u.fs.length u.fc, .slice u.mo u.ms.length u.mc, .bool u.sl, .bool u.op, .string u.ui] 33) :: .obj g2 (.cells #[.slice tz ts.length tc, .slice ro rs.length rc] 29) :: [])) A M 3 rfl rfl rfl (qz rfl rfl rfl (by kernel_rfl) M 0 rfl rfl rfl) 0 rfl rfl rfl ?_)
  intro w12 M
  refine ⟨(M.sub (cn (cn (cc (List.nil_sublist _))))), ?_⟩
  refine zd (by kernel_rfl) ?_
  refine hK11 _ _ (wp_ret (hret _ _ (en3 A rfl (qf rfl) (qf rfl) (zm M RcI_isS_29 rfl 0 rfl (cs := [.slice tz ts.length tc, .slice ro rs.length rc]) rfl rfl) ?_)))
  exact .inl ⟨by rw [kt (show gdB (ts.map Ty.k).length u.k = false by rw [List.length_map]; exact uy (k := u.k) (.inl (show u.ms.length ≠ u.fs.length by omega)))], by rw [kt (show gdB (ts.map Ty.k).length u.k = false by rw [List.length_map]; exact uy (k := u.k) (.inl (show u.ms.length ≠ u.fs.length by omega)))], M.bel⟩
 ·
  have hb10' := bne_eq_false_iff_eq.1 hb10
  refine sdc A zi hb10 λa A↦?_
  refine sdm A λa A↦?_
  refine sdo (v := .pointer (some ⟨g4, 2, none⟩)) A (qb RcI_fld_33_2 rfl rfl) λa A↦?_
  refine sdo A (qh M RcI_is1_30 rfl 1 rfl rfl) λa A↦?_
  rcases tf (E.twS u.fs) with hb13 | hb13
  ·
   refine gcl A M (ef rfl rfl) ((hb13 ▸ E.rtwice_any (hU.f.below M.bel) (by omega))) fun w15 hb14 M a A => ?_
   refine sdk (v := .bool true) A λa A↦?_
   refine sdm A λa A↦?_
   iterate 3 refine qk A rfl rfl rfl λa A↦?_
   refine sdk (v := .bool true) A λa A↦?_
   refine sdm A λa A↦?_
   iterate 6 refine qk A rfl rfl rfl λa A↦?_
   refine sdk (v := .bool true) A λa A↦?_
   refine qa (hK9 _ _ (wp_cond_true (A.ev rfl) ?_))
   refine wsk fun K16 hK16 => zn (S := fun w1 => Mg w w1 (.obj g2 (.cells #[.slice tz ts.length tc, .slice ro rs.length rc] 29) :: [])) (by kernel_rfl) ?_
   replace M := M.drew
   refine qe A 0 rfl rfl rfl rfl hP (M.sub (cn (cn (cc (List.nil_sublist _))))) (fun w1 M => qy M RcI_isS_29 rfl 0 rfl (cs := [.slice tz ts.length tc, .slice ro rs.length rc]) rfl rfl) λa A↦?_
   refine qe A 1 rfl rfl rfl rfl hP (M.sub (cn (cn (cc (List.nil_sublist _))))) (fun w1 M => qm rfl) λa A↦?_
   refine qe A 2 rfl rfl rfl rfl hP (M.sub (cn (cn (cc (List.nil_sublist _))))) (fun w1 M => qm rfl) λa A↦?_
   refine qw (by kernel_rfl) (zx (us := [.slice tz ts.length tc, .slice ro rs.length rc]) (L' := (.obj g6 (.cells #[.slice tz ts.length tc, .slice ro rs.length rc] 29) :: .obj g4 (.cells #[.string u.nm, .int .i64 u.par, .slice u.fo u.fs.length u.fc, .slice u.mo u.ms.length u.mc, .bool u.sl, .bool u.op, .string u.ui] 33) :: .obj g2 (.cells #[.slice tz ts.length tc, .slice ro rs.length rc] 29) :: [])) A M 3 rfl rfl rfl (qz rfl rfl rfl (by kernel_rfl) M 0 rfl rfl rfl) 0 rfl rfl rfl ?_)
   intro w17 M
   refine ⟨(M.sub (cn (cn (cc (List.nil_sublist _))))), ?_⟩
   refine zd (by kernel_rfl) ?_
   refine hK16 _ _ (wp_ret (hret _ _ (en3 A rfl (qf rfl) (qf rfl) (zm M RcI_isS_29 rfl 0 rfl (cs := [.slice tz ts.length tc, .slice ro rs.length rc]) rfl rfl) ?_)))
   exact .inl ⟨by rw [kt (show gdB (ts.map Ty.k).length u.k = false by rw [List.length_map]; exact uy (k := u.k) (.inr (.inl hb13)))], by rw [kt (show gdB (ts.map Ty.k).length u.k = false by rw [List.length_map]; exact uy (k := u.k) (.inr (.inl hb13)))], M.bel⟩
  ·
   refine gcl A M (ef rfl rfl) ((hb13 ▸ E.rtwice_any (hU.f.below M.bel) (by omega))) fun w19 hb18 M a A => ?_
   refine sdk (v := .bool false) A λa A↦?_
   refine sdm A λa A↦?_
   refine sdo (v := .pointer (some ⟨g4, 1, none⟩)) A (qb RcI_fld_33_1 rfl rfl) λa A↦?_
   refine sdo A (qh M RcI_is1_3 rfl 1 rfl rfl) λa A↦?_
   rcases tf (decide (u.par < -1)) with hb20 | hb20
   ·
    have hb20' := of_decide_eq_true hb20
    refine sdc A za hb20 λa A↦?_
    refine sdk (v := .bool true) A λa A↦?_
    refine sdm A λa A↦?_
    iterate 6 refine qk A rfl rfl rfl λa A↦?_
    refine sdk (v := .bool true) A λa A↦?_
    refine qa (hK9 _ _ (wp_cond_true (A.ev rfl) ?_))
    refine wsk fun K21 hK21 => zn (S := fun w1 => Mg w w1 (.obj g2 (.cells #[.slice tz ts.length tc, .slice ro rs.length rc] 29) :: [])) (by kernel_rfl) ?_
    replace M := M.drew
    refine qe A 0 rfl rfl rfl rfl hP (M.sub (cn (cn (cc (List.nil_sublist _))))) (fun w1 M => qy M RcI_isS_29 rfl 0 rfl (cs := [.slice tz ts.length tc, .slice ro rs.length rc]) rfl rfl) λa A↦?_
    refine qe A 1 rfl rfl rfl rfl hP (M.sub (cn (cn (cc (List.nil_sublist _))))) (fun w1 M => qm rfl) λa A↦?_
    refine qe A 2 rfl rfl rfl rfl hP (M.sub (cn (cn (cc (List.nil_sublist _))))) (fun w1 M => qm rfl) λa A↦?_
    refine qw (by kernel_rfl) (zx (us := [.slice tz ts.length tc, .slice ro rs.length rc]) (L' := (.obj g6 (.cells #[.slice tz ts.length tc, .slice ro rs.length rc] 29) :: .obj g4 (.cells #[.string u.nm, .int .i64 u.par, .slice u.fo u.fs.length u.fc, .slice u.mo u.ms.length u.mc, .bool u.sl, .bool u.op, .string u.ui] 33) :: .obj g2 (.cells #[.slice tz ts.length tc, .slice ro rs.length rc] 29) :: [])) A M 3 rfl rfl rfl (qz rfl rfl rfl (by kernel_rfl) M 0 rfl rfl rfl) 0 rfl rfl rfl ?_)
    intro w22 M
    refine ⟨(M.sub (cn (cn (cc (List.nil_sublist _))))), ?_⟩
    refine zd (by kernel_rfl) ?_
    refine hK21 _ _ (wp_ret (hret _ _ (en3 A rfl (qf rfl) (qf rfl) (zm M RcI_isS_29 rfl 0 rfl (cs := [.slice tz ts.length tc, .slice ro rs.length rc]) rfl rfl) ?_)))
    exact .inl ⟨by rw [kt (show gdB (ts.map Ty.k).length u.k = false by rw [List.length_map]; exact uy (k := u.k) (.inr (.inr (show u.par < -1 ∨ ((ts.length : Nat) : Int) ≤ u.par by omega))))], by rw [kt (show gdB (ts.map Ty.k).length u.k = false by rw [List.length_map]; exact uy (k := u.k) (.inr (.inr (show u.par < -1 ∨ ((ts.length : Nat) : Int) ≤ u.par by omega))))], M.bel⟩
   ·
    have hb20' := of_decide_eq_false hb20
    refine sdc A za hb20 λa A↦?_
    refine sdk (v := .bool false) A λa A↦?_
    refine sdm A λa A↦?_
    refine sdo (v := .pointer (some ⟨g4, 1, none⟩)) A (qb RcI_fld_33_1 rfl rfl) λa A↦?_
    refine sdo A (qh M RcI_is1_3 rfl 1 rfl rfl) λa A↦?_
    refine sdo (v := .pointer (some ⟨g2, 0, none⟩)) A (qb RcI_fld_29_0 rfl rfl) λa A↦?_
    refine sdo A (qh M RcI_is1_26 rfl 2 rfl rfl) λa A↦?_
    refine sdo A (qp Tryz.underlying26 rfl) λa A↦?_
    rcases tf (decide (((ts.length : Nat) : Int) ≤ u.par)) with hb23 | hb23
    ·
     have hb23' := of_decide_eq_true hb23
     refine sdc A zk hb23 λa A↦?_
     refine sdk (v := .bool true) A λa A↦?_
     refine qa (hK9 _ _ (wp_cond_true (A.ev rfl) ?_))
     refine wsk fun K24 hK24 => zn (S := fun w1 => Mg w w1 (.obj g2 (.cells #[.slice tz ts.length tc, .slice ro rs.length rc] 29) :: [])) (by kernel_rfl) ?_
     replace M := M.drew
     refine qe A 0 rfl rfl rfl rfl hP (M.sub (cn (cn (cc (List.nil_sublist _))))) (fun w1 M => qy M RcI_isS_29 rfl 0 rfl (cs := [.slice tz ts.length tc, .slice ro rs.length rc]) rfl rfl) λa A↦?_
     refine qe A 1 rfl rfl rfl rfl hP (M.sub (cn (cn (cc (List.nil_sublist _))))) (fun w1 M => qm rfl) λa A↦?_
     refine qe A 2 rfl rfl rfl rfl hP (M.sub (cn (cn (cc (List.nil_sublist _))))) (fun w1 M => qm rfl) λa A↦?_
     refine qw (by kernel_rfl) (zx (us := [.slice tz ts.length tc, .slice ro rs.length rc]) (L' := (.obj g6 (.cells #[.slice tz ts.length tc, .slice ro rs.length rc] 29) :: .obj g4 (.cells #[.string u.nm, .int .i64 u.par, .slice u.fo u.fs.length u.fc, .slice u.mo u.ms.length u.mc, .bool u.sl, .bool u.op, .string u.ui] 33) :: .obj g2 (.cells #[.slice tz ts.length tc, .slice ro rs.length rc] 29) :: [])) A M 3 rfl rfl rfl (qz rfl rfl rfl (by kernel_rfl) M 0 rfl rfl rfl) 0 rfl rfl rfl ?_)
     intro w25 M
     refine ⟨(M.sub (cn (cn (cc (List.nil_sublist _))))), ?_⟩
     refine zd (by kernel_rfl) ?_
     refine hK24 _ _ (wp_ret (hret _ _ (en3 A rfl (qf rfl) (qf rfl) (zm M RcI_isS_29 rfl 0 rfl (cs := [.slice tz ts.length tc, .slice ro rs.length rc]) rfl rfl) ?_)))
     exact .inl ⟨by rw [kt (show gdB (ts.map Ty.k).length u.k = false by rw [List.length_map]; exact uy (k := u.k) (.inr (.inr (show u.par < -1 ∨ ((ts.length : Nat) : Int) ≤ u.par by omega))))], by rw [kt (show gdB (ts.map Ty.k).length u.k = false by rw [List.length_map]; exact uy (k := u.k) (.inr (.inr (show u.par < -1 ∨ ((ts.length : Nat) : Int) ≤ u.par by omega))))], M.bel⟩
    ·
     have hb23' := of_decide_eq_false hb23
     refine sdc A zk hb23 λa A↦?_
     refine sdk (v := .bool false) A λa A↦?_
     refine qa (hK9 _ _ (wp_cond_false (A.ev rfl) ?_))
     refine wp_skip (hK8 _ _ (wsk fun K26 hK26 => wsk fun K27 hK27 => wrl (sda A λa A↦?_)))
     refine qa (hK27 _ _ (wp_block ?_))
     have hgd9 : gdB ts.length u.k = true := zih (show u.ms.length = u.fs.length by omega) hb13 (show -1 ≤ u.par by omega) (show u.par < ((ts.length : Nat) : Int) by omega)
     have hp0 : -1 ≤ u.par := by omega
     have hp1 : u.par < ((ts.length : Nat) : Int) := by omega
     have hc16 := hW.cnt16 (t := u.par) (by rw [List.length_map]; exact hp1)
     refine zt (fun m_ a w1 => ∃ (i : Nat), m_ = 1 + (ts.length - i) ∧ (i ≤ ts.length ∧ ∀ (j : Nat) y, j < i → ts[j]? = some y → y.ui ≠ u.ui) ∧ Sl a 110 [(0, .agg #[.slice tz ts.length tc, .slice ro rs.length rc]), (1, .agg #[.string u.nm, .int .i64 u.par, .slice u.fo u.fs.length u.fc, .slice u.mo u.ms.length u.mc, .bool u.sl, .bool u.op, .string u.ui]), (2, .pointer (some ⟨g2, 0, none⟩)), (3, .pointer (some ⟨g4, 0, none⟩)), (6, .pointer (some ⟨g6, 0, none⟩)), (7, .int .i64 (((i : Nat) : Int))), (10, .pointer (some ⟨g4, 3, none⟩)), (11, .slice u.mo u.ms.length u.mc), (12, .int .i64 (((u.ms.length : Nat) : Int))), (13, .pointer (some ⟨g4, 2, none⟩)), (14, .slice u.fo u.fs.length u.fc), (15, .int .i64 (((u.fs.length : Nat) : Int))), (16, .bool false), (17, .bool false), (18, .pointer (some ⟨g4, 2, none⟩)), (19, .slice u.fo u.fs.length u.fc), (20, .bool false), (21, .bool false), (22, .bool false), (23, .pointer (some ⟨g4, 1, none⟩)), (24, .int .i64 u.par), (25, .bool false), (26, .bool false), (27, .bool false), (28, .pointer (some ⟨g4, 1, none⟩)), (29, .int .i64 u.par), (30, .pointer (some ⟨g2, 0, none⟩)), (31, .slice tz ts.length tc), (32, .int .i64 (((ts.length : Nat) : Int))), (33, .bool false), (34, .bool false)] ∧ Mg w w1 (.obj g6 (.cells #[.slice none 0 0, .slice none 0 0] 29) :: .obj g4 (.cells #[.string u.nm, .int .i64 u.par, .slice u.fo u.fs.length u.fc, .slice u.mo u.ms.length u.mc, .bool u.sl, .bool u.op, .string u.ui] 33) :: .obj g2 (.cells #[.slice tz ts.length tc, .slice ro rs.length rc] 29) :: [])) _ ⟨0, rfl, ⟨Nat.zero_le _, fun j u h => absurd h (Nat.not_lt_zero _)⟩, A.keep _ (by repeat' constructor), M⟩ ?_
     clear M A
     rintro m_ a w28 ⟨i, rfl, hinv30, A, M⟩ K29 hK29
     obtain ⟨hi0, hin9⟩ := hinv30
     refine wsk fun K31 hK31 => wsk fun K32 hK32 => wrl (sdm A λa A↦?_)
     refine sdo (v := .pointer (some ⟨g2, 0, none⟩)) A (qb RcI_fld_29_0 rfl rfl) λa A↦?_
     refine sdo A (qh M RcI_is1_26 rfl 2 rfl rfl) λa A↦?_
     refine sdo A (qp Tryz.underlying26 rfl) λa A↦?_
     rcases tf (decide (((i : Nat) : Int) < ((ts.length : Nat) : Int))) with hb33 | hb33
     ·
      have hb33' := of_decide_eq_true hb33
      refine sdc A za hb33 λa A↦?_
      refine sdm A λa A↦?_
      refine sdo (v := .pointer (some ⟨g4, 6, none⟩)) A (qb RcI_fld_33_6 rfl rfl) λa A↦?_
      refine sdo A (qh M RcI_is1_9 rfl 1 rfl rfl) λa A↦?_
      rcases tf (decide (u.ui = ⟨#[]⟩)) with hb34 | hb34
      ·
       have hb34' := of_decide_eq_true hb34
       refine sdo (v := .bool false) A (qi rfl rfl (fun w => (xd Tryz.underlying9 w).trans (by rw [hb34] <;> rfl))) λa A↦?_
       refine sdk (v := .bool false) A λa A↦?_
       refine qa (hK32 _ _ (wp_cond_false (A.ev rfl) ?_))
       refine wp_exit (hK26 _ _ (wsk fun K35 hK35 => ?_))
       have hux9 : ¬ 0 ≤ uix (ts.map Ty.k) u.k.ui := qvc hin9 (.inl (of_decide_eq_true hb34))
       refine wrl (sdo (v := .pointer (some ⟨g4, 2, none⟩)) A (qb RcI_fld_33_2 rfl rfl) λa A↦?_)
       refine sdo A (qh M RcI_is1_30 rfl 1 rfl rfl) λa A↦?_
       refine sdo A (qp Tryz.underlying30 rfl) λa A↦?_
       refine sda A λa A↦?_
       refine qa (hK35 _ _ (wsk fun K36 hK36 => wsk fun K37 hK37 => wrl (sdo (v := .pointer (some ⟨g4, 1, none⟩)) A (qb RcI_fld_33_1 rfl rfl) λa A↦?_)))
       refine sdo A (qh M RcI_is1_3 rfl 1 rfl rfl) λa A↦?_
       rcases tf (decide (0 ≤ u.par)) with hb38 | hb38
       ·
        have hb38' := of_decide_eq_true hb38
        refine sdc A zk hb38 λa A↦?_
        refine qa (hK37 _ _ (wp_cond_true (A.ev rfl) ?_))
        refine wsk fun K39 hK39 => wsk fun K40 hK40 => wrl (sdo (v := .pointer (some ⟨g2, 0, none⟩)) A (qb RcI_fld_29_0 rfl rfl) λa A↦?_)
        refine sdo A (qh M RcI_is1_26 rfl 2 rfl rfl) λa A↦?_
        refine sdo (v := .pointer (some ⟨g4, 1, none⟩)) A (qb RcI_fld_33_1 rfl rfl) λa A↦?_
        refine sdo A (qh M RcI_is1_3 rfl 1 rfl rfl) λa A↦?_
        obtain ⟨ty41, bt42, ot43, it44, mt45, rt46, lt47, Ht48⟩ := hT.at_ (i := (u.par).toNat) (by omega)
        refine sdo (v := .pointer (some ⟨bt42, ot43 + (u.par).toNat * 7, none⟩)) A (zb (k := (u.par).toNat) Tryz.underlying26 (by kernel_rfl) rfl rfl (by first | rfl | omega) lt47 (by omega)) λa A↦?_
        refine sdo (v := .pointer (some ⟨bt42, ot43 + (u.par).toNat * 7 + 4, none⟩)) A (qb RcI_fld_33_4 rfl rfl) λa A↦?_
        refine sdo A (jm (j := 4) M Ht48 RcI_is1_4 rfl rfl rfl) λa A↦?_
        refine qa (hK40 _ _ ?_)
        refine wp_cond_split (t := ty41.sl) (A.ev rfl) (fun hc49 => ?_) (fun hc49 => ?_)
        ·
         refine wsk fun K50 hK50 => zn (S := fun w1 => Mg w w1 (.obj g2 (.cells #[.slice tz ts.length tc, .slice ro rs.length rc] 29) :: [])) (by kernel_rfl) ?_
         replace M := M.drew
         refine qe A 0 rfl rfl rfl rfl hP (M.sub (cn (cn (cc (List.nil_sublist _))))) (fun w1 M => qy M RcI_isS_29 rfl 0 rfl (cs := [.slice tz ts.length tc, .slice ro rs.length rc]) rfl rfl) λa A↦?_
         refine qe A 1 rfl rfl rfl rfl hP (M.sub (cn (cn (cc (List.nil_sublist _))))) (fun w1 M => qm rfl) λa A↦?_
         refine qe A 2 rfl rfl rfl rfl hP (M.sub (cn (cn (cc (List.nil_sublist _))))) (fun w1 M => qm rfl) λa A↦?_
         refine qw (by kernel_rfl) (zx (us := [.slice tz ts.length tc, .slice ro rs.length rc]) (L' := (.obj g6 (.cells #[.slice tz ts.length tc, .slice ro rs.length rc] 29) :: .obj g4 (.cells #[.string u.nm, .int .i64 u.par, .slice u.fo u.fs.length u.fc, .slice u.mo u.ms.length u.mc, .bool u.sl, .bool u.op, .string u.ui] 33) :: .obj g2 (.cells #[.slice tz ts.length tc, .slice ro rs.length rc] 29) :: [])) A M 3 rfl rfl rfl (qz rfl rfl rfl (by kernel_rfl) M 0 rfl rfl rfl) 0 rfl rfl rfl ?_)
         intro w51 M
         refine ⟨(M.sub (cn (cn (cc (List.nil_sublist _))))), ?_⟩
         refine zd (by kernel_rfl) ?_
         refine hK50 _ _ (wp_ret (hret _ _ (en3 A rfl (qf rfl) (qf rfl) (zm M RcI_isS_29 rfl 0 rfl (cs := [.slice tz ts.length tc, .slice ro rs.length rc]) rfl rfl) ?_)))
         exact .inl ⟨by rw [uz (show gdB (ts.map Ty.k).length u.k = true by rw [List.length_map]; exact hgd9) hux9 (show slP (ts.map Ty.k) u.k.par = true from ((xr (show 0 ≤ u.par by omega) (zl it44)).trans hc49))], by rw [uz (show gdB (ts.map Ty.k).length u.k = true by rw [List.length_map]; exact hgd9) hux9 (show slP (ts.map Ty.k) u.k.par = true from ((xr (show 0 ≤ u.par by omega) (zl it44)).trans hc49))], M.bel⟩
        ·
         refine wp_skip (hK39 _ _ (wrl (sdm A λa A↦?_)))
         refine sdo A (qy M RcI_isS_29 rfl 2 rfl (cs := [.slice tz ts.length tc, .slice ro rs.length rc]) rfl rfl) λa A↦?_
         refine sdo (v := .pointer (some ⟨g4, 1, none⟩)) A (qb RcI_fld_33_1 rfl rfl) λa A↦?_
         refine sdo A (qh M RcI_is1_3 rfl 1 rfl rfl) λa A↦?_
         refine gcl A M (ef rfl rfl) (uq (hT.below M.bel) (hR.below M.bel) hW (by omega) (by omega)) fun w53 hb52 M a A => ?_
         refine sdo (v := .int .i64 (((u.fs.length + cnt (ts.map Ty.k) u.par : Nat) : Int))) A (qi rfl rfl (fun w => (jc (jg (by omega) (by omega)) w).trans (by rw [show (((u.fs.length : Nat) : Int) + ((cnt (ts.map Ty.k) u.par : Nat) : Int) : Int) = ((u.fs.length + cnt (ts.map Ty.k) u.par : Nat) : Int) from by omega]))) λa A↦?_
         refine sda A λa A↦?_
         refine qa (hK36 _ _ (wsk fun K54 hK54 => wsk fun K55 hK55 => wrl (sdm A λa A↦?_)))
         rcases tf (decide (16 < ((u.fs.length + cnt (ts.map Ty.k) u.par : Nat) : Int))) with hb56 | hb56
         ·
          have hb56' := of_decide_eq_true hb56
          refine sdc A jj hb56 λa A↦?_
          refine sdm A λa A↦?_
          iterate 4 refine qk A rfl rfl rfl λa A↦?_
          refine sdk (v := .bool true) A λa A↦?_
          refine qa (hK55 _ _ (wp_cond_true (A.ev rfl) ?_))
          refine wsk fun K57 hK57 => zn (S := fun w1 => Mg w w1 (.obj g2 (.cells #[.slice tz ts.length tc, .slice ro rs.length rc] 29) :: [])) (by kernel_rfl) ?_
          replace M := M.drew
          refine qe A 0 rfl rfl rfl rfl hP (M.sub (cn (cn (cc (List.nil_sublist _))))) (fun w1 M => qy M RcI_isS_29 rfl 0 rfl (cs := [.slice tz ts.length tc, .slice ro rs.length rc]) rfl rfl) λa A↦?_
          refine qe A 1 rfl rfl rfl rfl hP (M.sub (cn (cn (cc (List.nil_sublist _))))) (fun w1 M => qm rfl) λa A↦?_
          refine qe A 2 rfl rfl rfl rfl hP (M.sub (cn (cn (cc (List.nil_sublist _))))) (fun w1 M => qm rfl) λa A↦?_
          refine qw (by kernel_rfl) (zx (us := [.slice tz ts.length tc, .slice ro rs.length rc]) (L' := (.obj g6 (.cells #[.slice tz ts.length tc, .slice ro rs.length rc] 29) :: .obj g4 (.cells #[.string u.nm, .int .i64 u.par, .slice u.fo u.fs.length u.fc, .slice u.mo u.ms.length u.mc, .bool u.sl, .bool u.op, .string u.ui] 33) :: .obj g2 (.cells #[.slice tz ts.length tc, .slice ro rs.length rc] 29) :: [])) A M 3 rfl rfl rfl (qz rfl rfl rfl (by kernel_rfl) M 0 rfl rfl rfl) 0 rfl rfl rfl ?_)
          intro w58 M
          refine ⟨(M.sub (cn (cn (cc (List.nil_sublist _))))), ?_⟩
          refine zd (by kernel_rfl) ?_
          refine hK57 _ _ (wp_ret (hret _ _ (en3 A rfl (qf rfl) (qf rfl) (zm M RcI_isS_29 rfl 0 rfl (cs := [.slice tz ts.length tc, .slice ro rs.length rc]) rfl rfl) ?_)))
          exact .inl ⟨by rw [jo (show gdB (ts.map Ty.k).length u.k = true by rw [List.length_map]; exact hgd9) hux9 (show slP (ts.map Ty.k) u.k.par = false from ((xr (show 0 ≤ u.par by omega) (zl it44)).trans hc49)) (show ¬ (cnt (ts.map Ty.k) u.par + u.fs.length ≤ 16 ∧ (ts.map Ty.k).length < 4096) by rw [List.length_map]; omega)], by rw [jo (show gdB (ts.map Ty.k).length u.k = true by rw [List.length_map]; exact hgd9) hux9 (show slP (ts.map Ty.k) u.k.par = false from ((xr (show 0 ≤ u.par by omega) (zl it44)).trans hc49)) (show ¬ (cnt (ts.map Ty.k) u.par + u.fs.length ≤ 16 ∧ (ts.map Ty.k).length < 4096) by rw [List.length_map]; omega)], M.bel⟩
         ·
          have hb56' := of_decide_eq_false hb56
          refine sdc A jj hb56 λa A↦?_
          refine sdm A λa A↦?_
          refine sdo (v := .pointer (some ⟨g2, 0, none⟩)) A (qb RcI_fld_29_0 rfl rfl) λa A↦?_
          refine sdo A (qh M RcI_is1_26 rfl 2 rfl rfl) λa A↦?_
          refine sdo A (qp Tryz.underlying26 rfl) λa A↦?_
          rcases tf (decide (4096 ≤ ((ts.length : Nat) : Int))) with hb59 | hb59
          ·
           have hb59' := of_decide_eq_true hb59
           refine sdc A zk hb59 λa A↦?_
           refine sdk (v := .bool true) A λa A↦?_
           refine qa (hK55 _ _ (wp_cond_true (A.ev rfl) ?_))
           refine wsk fun K60 hK60 => zn (S := fun w1 => Mg w w1 (.obj g2 (.cells #[.slice tz ts.length tc, .slice ro rs.length rc] 29) :: [])) (by kernel_rfl) ?_
           replace M := M.drew
           refine qe A 0 rfl rfl rfl rfl hP (M.sub (cn (cn (cc (List.nil_sublist _))))) (fun w1 M => qy M RcI_isS_29 rfl 0 rfl (cs := [.slice tz ts.length tc, .slice ro rs.length rc]) rfl rfl) λa A↦?_
           refine qe A 1 rfl rfl rfl rfl hP (M.sub (cn (cn (cc (List.nil_sublist _))))) (fun w1 M => qm rfl) λa A↦?_
           refine qe A 2 rfl rfl rfl rfl hP (M.sub (cn (cn (cc (List.nil_sublist _))))) (fun w1 M => qm rfl) λa A↦?_
           refine qw (by kernel_rfl) (zx (us := [.slice tz ts.length tc, .slice ro rs.length rc]) (L' := (.obj g6 (.cells #[.slice tz ts.length tc, .slice ro rs.length rc] 29) :: .obj g4 (.cells #[.string u.nm, .int .i64 u.par, .slice u.fo u.fs.length u.fc, .slice u.mo u.ms.length u.mc, .bool u.sl, .bool u.op, .string u.ui] 33) :: .obj g2 (.cells #[.slice tz ts.length tc, .slice ro rs.length rc] 29) :: [])) A M 3 rfl rfl rfl (qz rfl rfl rfl (by kernel_rfl) M 0 rfl rfl rfl) 0 rfl rfl rfl ?_)
           intro w61 M
           refine ⟨(M.sub (cn (cn (cc (List.nil_sublist _))))), ?_⟩
           refine zd (by kernel_rfl) ?_
           refine hK60 _ _ (wp_ret (hret _ _ (en3 A rfl (qf rfl) (qf rfl) (zm M RcI_isS_29 rfl 0 rfl (cs := [.slice tz ts.length tc, .slice ro rs.length rc]) rfl rfl) ?_)))
           exact .inl ⟨by rw [jo (show gdB (ts.map Ty.k).length u.k = true by rw [List.length_map]; exact hgd9) hux9 (show slP (ts.map Ty.k) u.k.par = false from ((xr (show 0 ≤ u.par by omega) (zl it44)).trans hc49)) (show ¬ (cnt (ts.map Ty.k) u.par + u.fs.length ≤ 16 ∧ (ts.map Ty.k).length < 4096) by rw [List.length_map]; omega)], by rw [jo (show gdB (ts.map Ty.k).length u.k = true by rw [List.length_map]; exact hgd9) hux9 (show slP (ts.map Ty.k) u.k.par = false from ((xr (show 0 ≤ u.par by omega) (zl it44)).trans hc49)) (show ¬ (cnt (ts.map Ty.k) u.par + u.fs.length ≤ 16 ∧ (ts.map Ty.k).length < 4096) by rw [List.length_map]; omega)], M.bel⟩
          ·
           have hb59' := of_decide_eq_false hb59
           refine sdc A zk hb59 λa A↦?_
           refine sdk (v := .bool false) A λa A↦?_
           refine qa (hK55 _ _ (wp_cond_false (A.ev rfl) ?_))
           refine wp_skip (hK54 _ _ (wsk fun K62 hK62 => wrl (jw (e := 33) (sz := 7) (m := 0) (vs := qj Ty.c []) A M rfl rfl rfl (qs rfl (by kernel_rfl)) rfl rfl (.inl (by decide)) ?_)))
           intro g63 w64 M a A
           refine sdo (v := .pointer (some ⟨g2, 0, none⟩)) A (qb RcI_fld_29_0 rfl rfl) λa A↦?_
           refine sdo A (qh M RcI_is1_26 rfl 3 rfl rfl) λa A↦?_
           refine jh (e := 33) (sz := 7) (k := 0) (q := 0) (m := ts.length) (xs := qj Ty.c []) (news := qj Ty.c ts) (L' := fun v65 => (.row 33 7 (v65) (0 + ts.length) (qj Ty.c [] ++ qj Ty.c ts) :: .obj g6 (.cells #[.slice none 0 0, .slice none 0 0] 29) :: .obj g4 (.cells #[.string u.nm, .int .i64 u.par, .slice u.fo u.fs.length u.fc, .slice u.mo u.ms.length u.mc, .bool u.sl, .bool u.op, .string u.ui] 33) :: .obj g2 (.cells #[.slice tz ts.length tc, .slice ro rs.length rc] 29) :: [])) A rfl rfl rfl (jp (z := .agg #[.string (⟨#[]⟩), .int .i64 0, .slice none 0 0, .slice none 0 0, .bool false, .bool false, .string (⟨#[]⟩)]) (sz := 7) (by_ := 96) Tryz.underlying26 (by kernel_rfl) rfl rfl rfl M 0 rfl rfl rfl (vf ux ts) (hT.row.below M.bel) (vb ts) (by first | omega | (simp only [List.length_nil]; omega))) (fun _ => rfl) ?_
           intro v65 w66 M a A
           replace M : Mg w w66 (.row 33 7 (v65) ts.length (qj Ty.c ts) :: .obj g6 (.cells #[.slice none 0 0, .slice none 0 0] 29) :: .obj g4 (.cells #[.string u.nm, .int .i64 u.par, .slice u.fo u.fs.length u.fc, .slice u.mo u.ms.length u.mc, .bool u.sl, .bool u.op, .string u.ui] 33) :: .obj g2 (.cells #[.slice tz ts.length tc, .slice ro rs.length rc] 29) :: []) := by
            have h9 := M
            rw [show 0 + ts.length = ts.length from by simp] at h9
            exact h9
           obtain ⟨so67, ca68, rfl⟩ := zv (M.has 0 rfl)
           refine sda A λa A↦?_
           refine qa (hK62 _ _ (wsk fun K69 hK69 => wrl (sdm A λa A↦?_)))
           refine sdo A (qy M RcI_isS_33 rfl 2 rfl (cs := [.string u.nm, .int .i64 u.par, .slice u.fo u.fs.length u.fc, .slice u.mo u.ms.length u.mc, .bool u.sl, .bool u.op, .string u.ui]) rfl rfl) λa A↦?_
           refine jw (e := 33) (sz := 7) (m := 1) (vs := qj Ty.c [u]) A M rfl rfl rfl (qs rfl (by kernel_rfl)) rfl rfl (.inl (by decide)) ?_
           intro g70 w71 M a A
           refine jh (e := 33) (sz := 7) (k := 1) (q := ts.length) (m := 1) (xs := qj Ty.c ts) (news := qj Ty.c [u]) (L' := fun v72 => (.row 33 7 (.slice (some ⟨g70, 0, none⟩) 1 1) 1 (qj Ty.c [u]) :: .row 33 7 (v72) (ts.length + 1) (qj Ty.c ts ++ qj Ty.c [u]) :: .obj g6 (.cells #[.slice none 0 0, .slice none 0 0] 29) :: .obj g4 (.cells #[.string u.nm, .int .i64 u.par, .slice u.fo u.fs.length u.fc, .slice u.mo u.ms.length u.mc, .bool u.sl, .bool u.op, .string u.ui] 33) :: .obj g2 (.cells #[.slice tz ts.length tc, .slice ro rs.length rc] 29) :: [])) A rfl rfl rfl (jp (z := .agg #[.string (⟨#[]⟩), .int .i64 0, .slice none 0 0, .slice none 0 0, .bool false, .bool false, .string (⟨#[]⟩)]) (sz := 7) (by_ := 96) Tryz.underlying26 (by kernel_rfl) rfl rfl rfl M 1 rfl rfl rfl rfl (rc_own (M.has 0 rfl)) (vb [u]) (by first | omega | (simp only [List.length_nil]; omega))) (fun _ => rfl) ?_
           intro v72 w73 M a A
           replace M : Mg w w73 (.row 33 7 (.slice (some ⟨g70, 0, none⟩) 1 1) 1 (qj Ty.c [u]) :: .row 33 7 (v72) ((ts ++ [u]).length) (qj Ty.c (ts ++ [u])) :: .obj g6 (.cells #[.slice none 0 0, .slice none 0 0] 29) :: .obj g4 (.cells #[.string u.nm, .int .i64 u.par, .slice u.fo u.fs.length u.fc, .slice u.mo u.ms.length u.mc, .bool u.sl, .bool u.op, .string u.ui] 33) :: .obj g2 (.cells #[.slice tz ts.length tc, .slice ro rs.length rc] 29) :: []) := by
            rw [ji, List.length_append]; exact M
           obtain ⟨so74, ca75, rfl⟩ := zv (M.has 1 rfl)
           refine sdo (v := .pointer (some ⟨g2, 0, none⟩)) A (qb RcI_fld_29_0 rfl rfl) λa A↦?_
           refine zr (us := [.slice so74 ((ts ++ [u]).length) ca75, .slice ro rs.length rc]) (L' := (.row 33 7 (.slice (some ⟨g70, 0, none⟩) 1 1) 1 (qj Ty.c [u]) :: .row 33 7 (.slice so74 ((ts ++ [u]).length) ca75) ((ts ++ [u]).length) (qj Ty.c (ts ++ [u])) :: .obj g6 (.cells #[.slice none 0 0, .slice none 0 0] 29) :: .obj g4 (.cells #[.string u.nm, .int .i64 u.par, .slice u.fo u.fs.length u.fc, .slice u.mo u.ms.length u.mc, .bool u.sl, .bool u.op, .string u.ui] 33) :: .obj g2 (.cells #[.slice so74 ((ts ++ [u]).length) ca75, .slice ro rs.length rc] 29) :: [])) A M rfl rfl (qz rfl rfl rfl (by kernel_rfl) M 4 rfl rfl rfl) 4 rfl rfl rfl ?_
           intro w76 M
           refine qa (hK69 _ _ (wsk fun K77 hK77 => zn (S := fun w1 => Mg w w1 (.obj g2 (.cells #[.slice so74 ((ts ++ [u]).length) ca75, .slice ro rs.length rc] 29) :: [])) (by kernel_rfl) ?_))
           replace M := M.drew
           refine qe (v := .pointer (some ⟨g2, 0, none⟩)) A 0 rfl rfl rfl rfl hP (M.sub (cn (cn (cn (cn (cc (List.nil_sublist _))))))) (fun w1 M => qb RcI_fld_29_0 rfl rfl) λa A↦?_
           refine qe A 1 rfl rfl rfl rfl hP (M.sub (cn (cn (cn (cn (cc (List.nil_sublist _))))))) (fun w1 M => qh M RcI_is1_26 rfl 0 rfl rfl) λa A↦?_
           refine qe (v := .int .i64 ((((ts ++ [u]).length : Nat) : Int))) A 2 rfl rfl rfl rfl hP (M.sub (cn (cn (cn (cn (cc (List.nil_sublist _))))))) (fun w1 M => qp Tryz.underlying26 rfl) λa A↦?_
           have hln9 : (ts ++ [u]).length = ts.length + 1 := by rw [List.length_append]; rfl
           refine qe (v := .int .i64 ((((ts ++ [u]).length - 1 : Nat) : Int))) A 3 rfl rfl rfl rfl hP (M.sub (cn (cn (cn (cn (cc (List.nil_sublist _))))))) (fun w1 M => qi rfl rfl (fun w => (xb (jg (by omega) (by omega)) w).trans (by rw [show ((((ts ++ [u]).length : Nat) : Int) - 1 : Int) = (((ts ++ [u]).length - 1 : Nat) : Int) from by omega]))) λa A↦?_
           refine qe A 4 rfl rfl rfl rfl hP (M.sub (cn (cn (cn (cn (cc (List.nil_sublist _))))))) (fun w1 M => qy M RcI_isS_29 rfl 0 rfl (cs := [.slice so74 ((ts ++ [u]).length) ca75, .slice ro rs.length rc]) rfl rfl) λa A↦?_
           refine qe A 5 rfl rfl rfl rfl hP (M.sub (cn (cn (cn (cn (cc (List.nil_sublist _))))))) (fun w1 M => qm rfl) λa A↦?_
           refine qe A 6 rfl rfl rfl rfl hP (M.sub (cn (cn (cn (cn (cc (List.nil_sublist _))))))) (fun w1 M => qm rfl) λa A↦?_
           refine qw (by kernel_rfl) (zx (us := [.slice so74 ((ts ++ [u]).length) ca75, .slice ro rs.length rc]) (L' := (.row 33 7 (.slice (some ⟨g70, 0, none⟩) 1 1) 1 (qj Ty.c [u]) :: .row 33 7 (.slice so74 ((ts ++ [u]).length) ca75) ((ts ++ [u]).length) (qj Ty.c (ts ++ [u])) :: .obj g6 (.cells #[.slice so74 ((ts ++ [u]).length) ca75, .slice ro rs.length rc] 29) :: .obj g4 (.cells #[.string u.nm, .int .i64 u.par, .slice u.fo u.fs.length u.fc, .slice u.mo u.ms.length u.mc, .bool u.sl, .bool u.op, .string u.ui] 33) :: .obj g2 (.cells #[.slice so74 ((ts ++ [u]).length) ca75, .slice ro rs.length rc] 29) :: [])) A M 7 rfl rfl rfl (qz rfl rfl rfl (by kernel_rfl) M 2 rfl rfl rfl) 2 rfl rfl rfl ?_)
           intro w78 M
           refine ⟨(M.sub (cn (cn (cn (cn (cc (List.nil_sublist _))))))), ?_⟩
           refine zd (by kernel_rfl) ?_
           refine hK77 _ _ (wp_ret (hret _ _ (en3 A rfl (qf rfl) (qf rfl) (zm M RcI_isS_29 rfl 2 rfl (cs := [.slice so74 ((ts ++ [u]).length) ca75, .slice ro rs.length rc]) rfl rfl) ?_)))
           replace M : Mg w w78 (.row 33 7 (.slice so74 ((ts ++ [u]).length) ca75) ((ts ++ [u]).length) (qj Ty.c (ts ++ [u])) :: .row 33 7 (.slice (some ⟨g70, 0, none⟩) 1 1) 1 (qj Ty.c [u]) :: .obj g6 (.cells #[.slice so74 ((ts ++ [u]).length) ca75, .slice ro rs.length rc] 29) :: .obj g4 (.cells #[.string u.nm, .int .i64 u.par, .slice u.fo u.fs.length u.fc, .slice u.mo u.ms.length u.mc, .bool u.sl, .bool u.op, .string u.ui] 33) :: .obj g2 (.cells #[.slice so74 ((ts ++ [u]).length) ca75, .slice ro rs.length rc] 29) :: []) := M.bring 1 rfl rfl
           replace M : Mg w w78 (.row 33 7 (.slice so74 ((ts ++ [u]).length) ca75) ((ts ++ [u]).length) (qj Ty.c (ts ++ [u])) :: []) := by
            have h9 := M.sub (cc (cn (cn (cn (cn (.refl _))))))
            exact h9
           have hln : (ts ++ [u]).length = ts.length + 1 := by rw [List.length_append]; rfl
           have hty8 := uj (show gdB (ts.map Ty.k).length u.k = true by rw [List.length_map]; exact hgd9) hux9 (show slP (ts.map Ty.k) u.k.par = false from ((xr (show 0 ≤ u.par by omega) (zl it44)).trans hc49)) (show cnt (ts.map Ty.k) u.par + u.fs.length ≤ 16 ∧ (ts.map Ty.k).length < 4096 by rw [List.length_map]; omega)
           exact .inr ⟨by rw [hty8], so74, ca75, by rw [show (ts ++ [u]).length - 1 = ts.length by omega], M⟩
       ·
        have hb38' := of_decide_eq_false hb38
        refine sdc A zk hb38 λa A↦?_
        refine qa (hK37 _ _ (wp_cond_false (A.ev rfl) ?_))
        refine wp_skip (hK36 _ _ (wsk fun K79 hK79 => wsk fun K80 hK80 => wrl (sdm A λa A↦?_)))
        rcases tf (decide (16 < ((u.fs.length : Nat) : Int))) with hb81 | hb81
        ·
         have hb81' := of_decide_eq_true hb81
         refine sdc A jj hb81 λa A↦?_
         refine sdm A λa A↦?_
         iterate 4 refine qk A rfl rfl rfl λa A↦?_
         refine sdk (v := .bool true) A λa A↦?_
         refine qa (hK80 _ _ (wp_cond_true (A.ev rfl) ?_))
         refine wsk fun K82 hK82 => zn (S := fun w1 => Mg w w1 (.obj g2 (.cells #[.slice tz ts.length tc, .slice ro rs.length rc] 29) :: [])) (by kernel_rfl) ?_
         replace M := M.drew
         refine qe A 0 rfl rfl rfl rfl hP (M.sub (cn (cn (cc (List.nil_sublist _))))) (fun w1 M => qy M RcI_isS_29 rfl 0 rfl (cs := [.slice tz ts.length tc, .slice ro rs.length rc]) rfl rfl) λa A↦?_
         refine qe A 1 rfl rfl rfl rfl hP (M.sub (cn (cn (cc (List.nil_sublist _))))) (fun w1 M => qm rfl) λa A↦?_
         refine qe A 2 rfl rfl rfl rfl hP (M.sub (cn (cn (cc (List.nil_sublist _))))) (fun w1 M => qm rfl) λa A↦?_
         refine qw (by kernel_rfl) (zx (us := [.slice tz ts.length tc, .slice ro rs.length rc]) (L' := (.obj g6 (.cells #[.slice tz ts.length tc, .slice ro rs.length rc] 29) :: .obj g4 (.cells #[.string u.nm, .int .i64 u.par, .slice u.fo u.fs.length u.fc, .slice u.mo u.ms.length u.mc, .bool u.sl, .bool u.op, .string u.ui] 33) :: .obj g2 (.cells #[.slice tz ts.length tc, .slice ro rs.length rc] 29) :: [])) A M 3 rfl rfl rfl (qz rfl rfl rfl (by kernel_rfl) M 0 rfl rfl rfl) 0 rfl rfl rfl ?_)
         intro w83 M
         refine ⟨(M.sub (cn (cn (cc (List.nil_sublist _))))), ?_⟩
         refine zd (by kernel_rfl) ?_
         refine hK82 _ _ (wp_ret (hret _ _ (en3 A rfl (qf rfl) (qf rfl) (zm M RcI_isS_29 rfl 0 rfl (cs := [.slice tz ts.length tc, .slice ro rs.length rc]) rfl rfl) ?_)))
         have hc0 := ym (ks := (ts.map Ty.k)) (show u.par < 0 by omega)
         exact .inl ⟨by rw [jo (show gdB (ts.map Ty.k).length u.k = true by rw [List.length_map]; exact hgd9) hux9 (show slP (ts.map Ty.k) u.k.par = false from (xn (show u.par < 0 by omega))) (show ¬ (cnt (ts.map Ty.k) u.par + u.fs.length ≤ 16 ∧ (ts.map Ty.k).length < 4096) by rw [List.length_map]; omega)], by rw [jo (show gdB (ts.map Ty.k).length u.k = true by rw [List.length_map]; exact hgd9) hux9 (show slP (ts.map Ty.k) u.k.par = false from (xn (show u.par < 0 by omega))) (show ¬ (cnt (ts.map Ty.k) u.par + u.fs.length ≤ 16 ∧ (ts.map Ty.k).length < 4096) by rw [List.length_map]; omega)], M.bel⟩
        ·
         have hb81' := of_decide_eq_false hb81
         refine sdc A jj hb81 λa A↦?_
         refine sdm A λa A↦?_
         refine sdo (v := .pointer (some ⟨g2, 0, none⟩)) A (qb RcI_fld_29_0 rfl rfl) λa A↦?_
         refine sdo A (qh M RcI_is1_26 rfl 2 rfl rfl) λa A↦?_
         refine sdo A (qp Tryz.underlying26 rfl) λa A↦?_
         rcases tf (decide (4096 ≤ ((ts.length : Nat) : Int))) with hb84 | hb84
         ·
          have hb84' := of_decide_eq_true hb84
          refine sdc A zk hb84 λa A↦?_
          refine sdk (v := .bool true) A λa A↦?_
          refine qa (hK80 _ _ (wp_cond_true (A.ev rfl) ?_))
          refine wsk fun K85 hK85 => zn (S := fun w1 => Mg w w1 (.obj g2 (.cells #[.slice tz ts.length tc, .slice ro rs.length rc] 29) :: [])) (by kernel_rfl) ?_
          replace M := M.drew
          refine qe A 0 rfl rfl rfl rfl hP (M.sub (cn (cn (cc (List.nil_sublist _))))) (fun w1 M => qy M RcI_isS_29 rfl 0 rfl (cs := [.slice tz ts.length tc, .slice ro rs.length rc]) rfl rfl) λa A↦?_
          refine qe A 1 rfl rfl rfl rfl hP (M.sub (cn (cn (cc (List.nil_sublist _))))) (fun w1 M => qm rfl) λa A↦?_
          refine qe A 2 rfl rfl rfl rfl hP (M.sub (cn (cn (cc (List.nil_sublist _))))) (fun w1 M => qm rfl) λa A↦?_
          refine qw (by kernel_rfl) (zx (us := [.slice tz ts.length tc, .slice ro rs.length rc]) (L' := (.obj g6 (.cells #[.slice tz ts.length tc, .slice ro rs.length rc] 29) :: .obj g4 (.cells #[.string u.nm, .int .i64 u.par, .slice u.fo u.fs.length u.fc, .slice u.mo u.ms.length u.mc, .bool u.sl, .bool u.op, .string u.ui] 33) :: .obj g2 (.cells #[.slice tz ts.length tc, .slice ro rs.length rc] 29) :: [])) A M 3 rfl rfl rfl (qz rfl rfl rfl (by kernel_rfl) M 0 rfl rfl rfl) 0 rfl rfl rfl ?_)
          intro w86 M
          refine ⟨(M.sub (cn (cn (cc (List.nil_sublist _))))), ?_⟩
          refine zd (by kernel_rfl) ?_
          refine hK85 _ _ (wp_ret (hret _ _ (en3 A rfl (qf rfl) (qf rfl) (zm M RcI_isS_29 rfl 0 rfl (cs := [.slice tz ts.length tc, .slice ro rs.length rc]) rfl rfl) ?_)))
          have hc0 := ym (ks := (ts.map Ty.k)) (show u.par < 0 by omega)
          exact .inl ⟨by rw [jo (show gdB (ts.map Ty.k).length u.k = true by rw [List.length_map]; exact hgd9) hux9 (show slP (ts.map Ty.k) u.k.par = false from (xn (show u.par < 0 by omega))) (show ¬ (cnt (ts.map Ty.k) u.par + u.fs.length ≤ 16 ∧ (ts.map Ty.k).length < 4096) by rw [List.length_map]; omega)], by rw [jo (show gdB (ts.map Ty.k).length u.k = true by rw [List.length_map]; exact hgd9) hux9 (show slP (ts.map Ty.k) u.k.par = false from (xn (show u.par < 0 by omega))) (show ¬ (cnt (ts.map Ty.k) u.par + u.fs.length ≤ 16 ∧ (ts.map Ty.k).length < 4096) by rw [List.length_map]; omega)], M.bel⟩
         ·
          have hb84' := of_decide_eq_false hb84
          refine sdc A zk hb84 λa A↦?_
          refine sdk (v := .bool false) A λa A↦?_
          refine qa (hK80 _ _ (wp_cond_false (A.ev rfl) ?_))
          refine wp_skip (hK79 _ _ (wsk fun K87 hK87 => wrl (jw (e := 33) (sz := 7) (m := 0) (vs := qj Ty.c []) A M rfl rfl rfl (qs rfl (by kernel_rfl)) rfl rfl (.inl (by decide)) ?_)))
          intro g88 w89 M a A
          refine sdo (v := .pointer (some ⟨g2, 0, none⟩)) A (qb RcI_fld_29_0 rfl rfl) λa A↦?_
          refine sdo A (qh M RcI_is1_26 rfl 3 rfl rfl) λa A↦?_
          refine jh (e := 33) (sz := 7) (k := 0) (q := 0) (m := ts.length) (xs := qj Ty.c []) (news := qj Ty.c ts) (L' := fun v90 => (.row 33 7 (v90) (0 + ts.length) (qj Ty.c [] ++ qj Ty.c ts) :: .obj g6 (.cells #[.slice none 0 0, .slice none 0 0] 29) :: .obj g4 (.cells #[.string u.nm, .int .i64 u.par, .slice u.fo u.fs.length u.fc, .slice u.mo u.ms.length u.mc, .bool u.sl, .bool u.op, .string u.ui] 33) :: .obj g2 (.cells #[.slice tz ts.length tc, .slice ro rs.length rc] 29) :: [])) A rfl rfl rfl (jp (z := .agg #[.string (⟨#[]⟩), .int .i64 0, .slice none 0 0, .slice none 0 0, .bool false, .bool false, .string (⟨#[]⟩)]) (sz := 7) (by_ := 96) Tryz.underlying26 (by kernel_rfl) rfl rfl rfl M 0 rfl rfl rfl (vf ux ts) (hT.row.below M.bel) (vb ts) (by first | omega | (simp only [List.length_nil]; omega))) (fun _ => rfl) ?_
          intro v90 w91 M a A
          replace M : Mg w w91 (.row 33 7 (v90) ts.length (qj Ty.c ts) :: .obj g6 (.cells #[.slice none 0 0, .slice none 0 0] 29) :: .obj g4 (.cells #[.string u.nm, .int .i64 u.par, .slice u.fo u.fs.length u.fc, .slice u.mo u.ms.length u.mc, .bool u.sl, .bool u.op, .string u.ui] 33) :: .obj g2 (.cells #[.slice tz ts.length tc, .slice ro rs.length rc] 29) :: []) := by
           have h9 := M
           rw [show 0 + ts.length = ts.length from by simp] at h9
           exact h9
          obtain ⟨so92, ca93, rfl⟩ := zv (M.has 0 rfl)
          refine sda A λa A↦?_
          refine qa (hK87 _ _ (wsk fun K94 hK94 => wrl (sdm A λa A↦?_)))
          refine sdo A (qy M RcI_isS_33 rfl 2 rfl (cs := [.string u.nm, .int .i64 u.par, .slice u.fo u.fs.length u.fc, .slice u.mo u.ms.length u.mc, .bool u.sl, .bool u.op, .string u.ui]) rfl rfl) λa A↦?_
          refine jw (e := 33) (sz := 7) (m := 1) (vs := qj Ty.c [u]) A M rfl rfl rfl (qs rfl (by kernel_rfl)) rfl rfl (.inl (by decide)) ?_
          intro g95 w96 M a A
          refine jh (e := 33) (sz := 7) (k := 1) (q := ts.length) (m := 1) (xs := qj Ty.c ts) (news := qj Ty.c [u]) (L' := fun v97 => (.row 33 7 (.slice (some ⟨g95, 0, none⟩) 1 1) 1 (qj Ty.c [u]) :: .row 33 7 (v97) (ts.length + 1) (qj Ty.c ts ++ qj Ty.c [u]) :: .obj g6 (.cells #[.slice none 0 0, .slice none 0 0] 29) :: .obj g4 (.cells #[.string u.nm, .int .i64 u.par, .slice u.fo u.fs.length u.fc, .slice u.mo u.ms.length u.mc, .bool u.sl, .bool u.op, .string u.ui] 33) :: .obj g2 (.cells #[.slice tz ts.length tc, .slice ro rs.length rc] 29) :: [])) A rfl rfl rfl (jp (z := .agg #[.string (⟨#[]⟩), .int .i64 0, .slice none 0 0, .slice none 0 0, .bool false, .bool false, .string (⟨#[]⟩)]) (sz := 7) (by_ := 96) Tryz.underlying26 (by kernel_rfl) rfl rfl rfl M 1 rfl rfl rfl rfl (rc_own (M.has 0 rfl)) (vb [u]) (by first | omega | (simp only [List.length_nil]; omega))) (fun _ => rfl) ?_
          intro v97 w98 M a A
          replace M : Mg w w98 (.row 33 7 (.slice (some ⟨g95, 0, none⟩) 1 1) 1 (qj Ty.c [u]) :: .row 33 7 (v97) ((ts ++ [u]).length) (qj Ty.c (ts ++ [u])) :: .obj g6 (.cells #[.slice none 0 0, .slice none 0 0] 29) :: .obj g4 (.cells #[.string u.nm, .int .i64 u.par, .slice u.fo u.fs.length u.fc, .slice u.mo u.ms.length u.mc, .bool u.sl, .bool u.op, .string u.ui] 33) :: .obj g2 (.cells #[.slice tz ts.length tc, .slice ro rs.length rc] 29) :: []) := by
           rw [ji, List.length_append]; exact M
          obtain ⟨so99, ca100, rfl⟩ := zv (M.has 1 rfl)
          refine sdo (v := .pointer (some ⟨g2, 0, none⟩)) A (qb RcI_fld_29_0 rfl rfl) λa A↦?_
          refine zr (us := [.slice so99 ((ts ++ [u]).length) ca100, .slice ro rs.length rc]) (L' := (.row 33 7 (.slice (some ⟨g95, 0, none⟩) 1 1) 1 (qj Ty.c [u]) :: .row 33 7 (.slice so99 ((ts ++ [u]).length) ca100) ((ts ++ [u]).length) (qj Ty.c (ts ++ [u])) :: .obj g6 (.cells #[.slice none 0 0, .slice none 0 0] 29) :: .obj g4 (.cells #[.string u.nm, .int .i64 u.par, .slice u.fo u.fs.length u.fc, .slice u.mo u.ms.length u.mc, .bool u.sl, .bool u.op, .string u.ui] 33) :: .obj g2 (.cells #[.slice so99 ((ts ++ [u]).length) ca100, .slice ro rs.length rc] 29) :: [])) A M rfl rfl (qz rfl rfl rfl (by kernel_rfl) M 4 rfl rfl rfl) 4 rfl rfl rfl ?_
          intro w101 M
          refine qa (hK94 _ _ (wsk fun K102 hK102 => zn (S := fun w1 => Mg w w1 (.obj g2 (.cells #[.slice so99 ((ts ++ [u]).length) ca100, .slice ro rs.length rc] 29) :: [])) (by kernel_rfl) ?_))
          replace M := M.drew
          refine qe (v := .pointer (some ⟨g2, 0, none⟩)) A 0 rfl rfl rfl rfl hP (M.sub (cn (cn (cn (cn (cc (List.nil_sublist _))))))) (fun w1 M => qb RcI_fld_29_0 rfl rfl) λa A↦?_
          refine qe A 1 rfl rfl rfl rfl hP (M.sub (cn (cn (cn (cn (cc (List.nil_sublist _))))))) (fun w1 M => qh M RcI_is1_26 rfl 0 rfl rfl) λa A↦?_
          refine qe (v := .int .i64 ((((ts ++ [u]).length : Nat) : Int))) A 2 rfl rfl rfl rfl hP (M.sub (cn (cn (cn (cn (cc (List.nil_sublist _))))))) (fun w1 M => qp Tryz.underlying26 rfl) λa A↦?_
          have hln9 : (ts ++ [u]).length = ts.length + 1 := by rw [List.length_append]; rfl
          refine qe (v := .int .i64 ((((ts ++ [u]).length - 1 : Nat) : Int))) A 3 rfl rfl rfl rfl hP (M.sub (cn (cn (cn (cn (cc (List.nil_sublist _))))))) (fun w1 M => qi rfl rfl (fun w => (xb (jg (by omega) (by omega)) w).trans (by rw [show ((((ts ++ [u]).length : Nat) : Int) - 1 : Int) = (((ts ++ [u]).length - 1 : Nat) : Int) from by omega]))) λa A↦?_
          refine qe A 4 rfl rfl rfl rfl hP (M.sub (cn (cn (cn (cn (cc (List.nil_sublist _))))))) (fun w1 M => qy M RcI_isS_29 rfl 0 rfl (cs := [.slice so99 ((ts ++ [u]).length) ca100, .slice ro rs.length rc]) rfl rfl) λa A↦?_
          refine qe A 5 rfl rfl rfl rfl hP (M.sub (cn (cn (cn (cn (cc (List.nil_sublist _))))))) (fun w1 M => qm rfl) λa A↦?_
          refine qe A 6 rfl rfl rfl rfl hP (M.sub (cn (cn (cn (cn (cc (List.nil_sublist _))))))) (fun w1 M => qm rfl) λa A↦?_
          refine qw (by kernel_rfl) (zx (us := [.slice so99 ((ts ++ [u]).length) ca100, .slice ro rs.length rc]) (L' := (.row 33 7 (.slice (some ⟨g95, 0, none⟩) 1 1) 1 (qj Ty.c [u]) :: .row 33 7 (.slice so99 ((ts ++ [u]).length) ca100) ((ts ++ [u]).length) (qj Ty.c (ts ++ [u])) :: .obj g6 (.cells #[.slice so99 ((ts ++ [u]).length) ca100, .slice ro rs.length rc] 29) :: .obj g4 (.cells #[.string u.nm, .int .i64 u.par, .slice u.fo u.fs.length u.fc, .slice u.mo u.ms.length u.mc, .bool u.sl, .bool u.op, .string u.ui] 33) :: .obj g2 (.cells #[.slice so99 ((ts ++ [u]).length) ca100, .slice ro rs.length rc] 29) :: [])) A M 7 rfl rfl rfl (qz rfl rfl rfl (by kernel_rfl) M 2 rfl rfl rfl) 2 rfl rfl rfl ?_)
          intro w103 M
          refine ⟨(M.sub (cn (cn (cn (cn (cc (List.nil_sublist _))))))), ?_⟩
          refine zd (by kernel_rfl) ?_
          refine hK102 _ _ (wp_ret (hret _ _ (en3 A rfl (qf rfl) (qf rfl) (zm M RcI_isS_29 rfl 2 rfl (cs := [.slice so99 ((ts ++ [u]).length) ca100, .slice ro rs.length rc]) rfl rfl) ?_)))
          replace M : Mg w w103 (.row 33 7 (.slice so99 ((ts ++ [u]).length) ca100) ((ts ++ [u]).length) (qj Ty.c (ts ++ [u])) :: .row 33 7 (.slice (some ⟨g95, 0, none⟩) 1 1) 1 (qj Ty.c [u]) :: .obj g6 (.cells #[.slice so99 ((ts ++ [u]).length) ca100, .slice ro rs.length rc] 29) :: .obj g4 (.cells #[.string u.nm, .int .i64 u.par, .slice u.fo u.fs.length u.fc, .slice u.mo u.ms.length u.mc, .bool u.sl, .bool u.op, .string u.ui] 33) :: .obj g2 (.cells #[.slice so99 ((ts ++ [u]).length) ca100, .slice ro rs.length rc] 29) :: []) := M.bring 1 rfl rfl
          replace M : Mg w w103 (.row 33 7 (.slice so99 ((ts ++ [u]).length) ca100) ((ts ++ [u]).length) (qj Ty.c (ts ++ [u])) :: []) := by
           have h9 := M.sub (cc (cn (cn (cn (cn (.refl _))))))
           exact h9
          have hc0 := ym (ks := (ts.map Ty.k)) (show u.par < 0 by omega)
          have hln : (ts ++ [u]).length = ts.length + 1 := by rw [List.length_append]; rfl
          have hty8 := uj (show gdB (ts.map Ty.k).length u.k = true by rw [List.length_map]; exact hgd9) hux9 (show slP (ts.map Ty.k) u.k.par = false from (xn (show u.par < 0 by omega))) (show cnt (ts.map Ty.k) u.par + u.fs.length ≤ 16 ∧ (ts.map Ty.k).length < 4096 by rw [List.length_map]; omega)
          exact .inr ⟨by rw [hty8], so99, ca100, by rw [show (ts ++ [u]).length - 1 = ts.length by omega], M⟩
      ·
       have hb34' := of_decide_eq_false hb34
       refine sdo (v := .bool true) A (qi rfl rfl (fun w => (xd Tryz.underlying9 w).trans (by rw [hb34] <;> rfl))) λa A↦?_
       refine sdk (v := .bool true) A λa A↦?_
       refine qa (hK32 _ _ (wp_cond_true (A.ev rfl) ?_))
       refine wp_skip (hK31 _ _ (wsk fun K104 hK104 => wp_block (wsk fun K105 hK105 => wsk fun K106 hK106 => zn (S := fun w1 => Mg w w1 (.obj g4 (.cells #[.string u.nm, .int .i64 u.par, .slice u.fo u.fs.length u.fc, .slice u.mo u.ms.length u.mc, .bool u.sl, .bool u.op, .string u.ui] 33) :: .obj g2 (.cells #[.slice tz ts.length tc, .slice ro rs.length rc] 29) :: [])) (by kernel_rfl) ?_)))
       replace M := M.drew
       refine qe (v := .pointer (some ⟨g2, 0, none⟩)) A 0 rfl rfl rfl rfl hP (M.sub (cn (cc (cc (List.nil_sublist _))))) (fun w1 M => qb RcI_fld_29_0 rfl rfl) λa A↦?_
       refine qe A 1 rfl rfl rfl rfl hP (M.sub (cn (cc (cc (List.nil_sublist _))))) (fun w1 M => qh M RcI_is1_26 rfl 1 rfl rfl) λa A↦?_
       refine qe A 2 rfl rfl rfl rfl hP (M.sub (cn (cc (cc (List.nil_sublist _))))) (fun w1 M => qr rfl) λa A↦?_
       obtain ⟨ty107, bt108, ot109, it110, mt111, rt112, lt113, Ht114⟩ := hT.at_ (i := i) (by omega)
       refine qe (v := .pointer (some ⟨bt108, ot109 + i * 7, none⟩)) A 3 rfl rfl rfl rfl hP (M.sub (cn (cc (cc (List.nil_sublist _))))) (fun w1 M => zb (k := i) Tryz.underlying26 (by kernel_rfl) rfl rfl (by first | rfl | omega) lt113 (by omega)) λa A↦?_
       refine qe (v := .pointer (some ⟨bt108, ot109 + i * 7 + 6, none⟩)) A 4 rfl rfl rfl rfl hP (M.sub (cn (cc (cc (List.nil_sublist _))))) (fun w1 M => qb RcI_fld_33_6 rfl rfl) λa A↦?_
       refine qe A 5 rfl rfl rfl rfl hP (M.sub (cn (cc (cc (List.nil_sublist _))))) (fun w1 M => jm (j := 6) M Ht114 RcI_is1_9 rfl rfl rfl) λa A↦?_
       refine qe (v := .pointer (some ⟨g4, 6, none⟩)) A 6 rfl rfl rfl rfl hP (M.sub (cn (cc (cc (List.nil_sublist _))))) (fun w1 M => qb RcI_fld_33_6 rfl rfl) λa A↦?_
       refine qe A 7 rfl rfl rfl rfl hP (M.sub (cn (cc (cc (List.nil_sublist _))))) (fun w1 M => qh M RcI_is1_9 rfl 0 rfl rfl) λa A↦?_
       rcases tf (decide (ty107.ui = u.ui)) with hb115 | hb115
       ·
        have hb115' := of_decide_eq_true hb115
        refine qe (v := .bool false) A 8 rfl rfl rfl rfl hP (M.sub (cn (cc (cc (List.nil_sublist _))))) (fun w1 M => qi rfl rfl (fun w => (xd Tryz.underlying9 w).trans (by rw [hb115] <;> rfl))) λa A↦?_
        refine zd (by kernel_rfl) ?_
        refine hK106 _ _ (wp_cond_false (A.ev rfl) ?_)
        refine wp_skip (hK105 _ _ (wsk fun K116 hK116 => wsk fun K117 hK117 => ?_))
        have hnf := hW.nf16 (zl it110)
        have hml := hW.ml _ (List.mem_of_getElem? (zl it110))
        rw [show ty107.k.fs.length = ty107.fs.length from rfl] at hnf
        rw [show ty107.k.fs.length = ty107.fs.length from rfl, show ty107.k.ms.length = ty107.ms.length from rfl] at hml
        refine zn (S := fun w1 => Mg w w1 (.obj g4 (.cells #[.string u.nm, .int .i64 u.par, .slice u.fo u.fs.length u.fc, .slice u.mo u.ms.length u.mc, .bool u.sl, .bool u.op, .string u.ui] 33) :: .obj g2 (.cells #[.slice tz ts.length tc, .slice ro rs.length rc] 29) :: [])) (by kernel_rfl) ?_
        replace M := M.drew
        refine qe (v := .pointer (some ⟨g2, 0, none⟩)) A 0 rfl rfl rfl rfl hP (M.sub (cn (cc (cc (List.nil_sublist _))))) (fun w1 M => qb RcI_fld_29_0 rfl rfl) λa A↦?_
        refine qe A 1 rfl rfl rfl rfl hP (M.sub (cn (cc (cc (List.nil_sublist _))))) (fun w1 M => qh M RcI_is1_26 rfl 1 rfl rfl) λa A↦?_
        refine qe A 2 rfl rfl rfl rfl hP (M.sub (cn (cc (cc (List.nil_sublist _))))) (fun w1 M => qr rfl) λa A↦?_
        refine qe (v := .pointer (some ⟨bt108, ot109 + i * 7, none⟩)) A 3 rfl rfl rfl rfl hP (M.sub (cn (cc (cc (List.nil_sublist _))))) (fun w1 M => zb (k := i) Tryz.underlying26 (by kernel_rfl) rfl rfl (by first | rfl | omega) lt113 (by omega)) λa A↦?_
        refine qe (v := .agg #[.string ty107.nm, .int .i64 ty107.par, .slice ty107.fo ty107.fs.length ty107.fc, .slice ty107.mo ty107.ms.length ty107.mc, .bool ty107.sl, .bool ty107.op, .string ty107.ui]) A 4 rfl rfl rfl rfl hP (M.sub (cn (cc (cc (List.nil_sublist _))))) (fun w1 M => xa M Ht114 RcI_isS_33 rfl rfl) λa A↦?_
        refine qe A 5 rfl rfl rfl rfl hP (M.sub (cn (cc (cc (List.nil_sublist _))))) (fun w1 M => qy M RcI_isS_33 rfl 0 rfl (cs := [.string u.nm, .int .i64 u.par, .slice u.fo u.fs.length u.fc, .slice u.mo u.ms.length u.mc, .bool u.sl, .bool u.op, .string u.ui]) rfl rfl) λa A↦?_
        rcases tf (xm ty107.k u.k) with hb118 | hb118
        ·
         refine qw (by kernel_rfl) (jf A 6 rfl rfl rfl rfl (zg rfl rfl (fun w => by kernel_rfl)) (qci (ya := ty107) (yb := u) (rt112.below M.bel) (hU.below M.bel) (by omega) (by omega) (by omega) (by omega) hb118) ?_)
         rintro _ w120 ⟨rfl, hb119⟩
         replace M := M.call hb119
         refine ⟨_, rfl, (M.sub (cn (cc (cc (List.nil_sublist _))))), ?_⟩
         intro a A
         refine zd (by kernel_rfl) ?_
         refine hK117 _ _ (wp_cond_true (A.ev rfl) ?_)
         refine wsk fun K121 hK121 => zn (S := fun w1 => Mg w w1 (.obj g2 (.cells #[.slice tz ts.length tc, .slice ro rs.length rc] 29) :: [])) (by kernel_rfl) ?_
         replace M := M.drew
         refine qe A 0 rfl rfl rfl rfl hP (M.sub (cn (cn (cc (List.nil_sublist _))))) (fun w1 M => qr rfl) λa A↦?_
         refine qe A 1 rfl rfl rfl rfl hP (M.sub (cn (cn (cc (List.nil_sublist _))))) (fun w1 M => qy M RcI_isS_29 rfl 0 rfl (cs := [.slice tz ts.length tc, .slice ro rs.length rc]) rfl rfl) λa A↦?_
         refine qe A 2 rfl rfl rfl rfl hP (M.sub (cn (cn (cc (List.nil_sublist _))))) (fun w1 M => qm rfl) λa A↦?_
         refine qe A 3 rfl rfl rfl rfl hP (M.sub (cn (cn (cc (List.nil_sublist _))))) (fun w1 M => qm rfl) λa A↦?_
         refine qw (by kernel_rfl) (zx (us := [.slice tz ts.length tc, .slice ro rs.length rc]) (L' := (.obj g6 (.cells #[.slice tz ts.length tc, .slice ro rs.length rc] 29) :: .obj g4 (.cells #[.string u.nm, .int .i64 u.par, .slice u.fo u.fs.length u.fc, .slice u.mo u.ms.length u.mc, .bool u.sl, .bool u.op, .string u.ui] 33) :: .obj g2 (.cells #[.slice tz ts.length tc, .slice ro rs.length rc] 29) :: [])) A M 4 rfl rfl rfl (qz rfl rfl rfl (by kernel_rfl) M 0 rfl rfl rfl) 0 rfl rfl rfl ?_)
         intro w122 M
         refine ⟨(M.sub (cn (cn (cc (List.nil_sublist _))))), ?_⟩
         refine zd (by kernel_rfl) ?_
         refine hK121 _ _ (wp_ret (hret _ _ (en3 A rfl (qf rfl) (qf rfl) (zm M RcI_isS_29 rfl 0 rfl (cs := [.slice tz ts.length tc, .slice ro rs.length rc]) rfl rfl) ?_)))
         have hux8 : uix (ts.map Ty.k) u.k.ui = ((i : Nat) : Int) := zch (of_decide_eq_false hb34) hin9 it110 (of_decide_eq_true hb115)
         have hty8 : tyS (ts.map Ty.k) u.k = if xm ty107.k u.k = true then (uix (ts.map Ty.k) u.k.ui, 0, false) else (0, 8, false) := qqi (show gdB (ts.map Ty.k).length u.k = true by rw [List.length_map]; exact hgd9) (by rw [hux8]; omega) (by rw [hux8]; exact zl it110)
         exact .inl ⟨by rw [hty8, if_pos hb118], by rw [hty8, if_pos hb118, hux8], M.bel⟩
        ·
         refine qw (by kernel_rfl) (jf A 6 rfl rfl rfl rfl (zg rfl rfl (fun w => by kernel_rfl)) (qci (ya := ty107) (yb := u) (rt112.below M.bel) (hU.below M.bel) (by omega) (by omega) (by omega) (by omega) hb118) ?_)
         rintro _ w124 ⟨rfl, hb123⟩
         replace M := M.call hb123
         refine ⟨_, rfl, (M.sub (cn (cc (cc (List.nil_sublist _))))), ?_⟩
         intro a A
         refine zd (by kernel_rfl) ?_
         refine hK117 _ _ (wp_cond_false (A.ev rfl) ?_)
         refine wp_skip (hK116 _ _ (wsk fun K125 hK125 => zn (S := fun w1 => Mg w w1 (.obj g2 (.cells #[.slice tz ts.length tc, .slice ro rs.length rc] 29) :: [])) (by kernel_rfl) ?_))
         replace M := M.drew
         refine qe A 0 rfl rfl rfl rfl hP (M.sub (cn (cn (cc (List.nil_sublist _))))) (fun w1 M => qy M RcI_isS_29 rfl 0 rfl (cs := [.slice tz ts.length tc, .slice ro rs.length rc]) rfl rfl) λa A↦?_
         refine qe A 1 rfl rfl rfl rfl hP (M.sub (cn (cn (cc (List.nil_sublist _))))) (fun w1 M => qm rfl) λa A↦?_
         refine qe A 2 rfl rfl rfl rfl hP (M.sub (cn (cn (cc (List.nil_sublist _))))) (fun w1 M => qm rfl) λa A↦?_
         refine qw (by kernel_rfl) (zx (us := [.slice tz ts.length tc, .slice ro rs.length rc]) (L' := (.obj g6 (.cells #[.slice tz ts.length tc, .slice ro rs.length rc] 29) :: .obj g4 (.cells #[.string u.nm, .int .i64 u.par, .slice u.fo u.fs.length u.fc, .slice u.mo u.ms.length u.mc, .bool u.sl, .bool u.op, .string u.ui] 33) :: .obj g2 (.cells #[.slice tz ts.length tc, .slice ro rs.length rc] 29) :: [])) A M 3 rfl rfl rfl (qz rfl rfl rfl (by kernel_rfl) M 0 rfl rfl rfl) 0 rfl rfl rfl ?_)
         intro w126 M
         refine ⟨(M.sub (cn (cn (cc (List.nil_sublist _))))), ?_⟩
         refine zd (by kernel_rfl) ?_
         refine hK125 _ _ (wp_ret (hret _ _ (en3 A rfl (qf rfl) (qf rfl) (zm M RcI_isS_29 rfl 0 rfl (cs := [.slice tz ts.length tc, .slice ro rs.length rc]) rfl rfl) ?_)))
         have hux8 : uix (ts.map Ty.k) u.k.ui = ((i : Nat) : Int) := zch (of_decide_eq_false hb34) hin9 it110 (of_decide_eq_true hb115)
         have hty8 : tyS (ts.map Ty.k) u.k = if xm ty107.k u.k = true then (uix (ts.map Ty.k) u.k.ui, 0, false) else (0, 8, false) := qqi (show gdB (ts.map Ty.k).length u.k = true by rw [List.length_map]; exact hgd9) (by rw [hux8]; omega) (by rw [hux8]; exact zl it110)
         exact .inl ⟨by rw [hty8, if_neg (by rw [hb118]; decide)], by rw [hty8, if_neg (by rw [hb118]; decide)], M.bel⟩
       ·
        have hb115' := of_decide_eq_false hb115
        refine qe (v := .bool true) A 8 rfl rfl rfl rfl hP (M.sub (cn (cc (cc (List.nil_sublist _))))) (fun w1 M => qi rfl rfl (fun w => (xd Tryz.underlying9 w).trans (by rw [hb115] <;> rfl))) λa A↦?_
        refine zd (by kernel_rfl) ?_
        refine hK106 _ _ (wp_cond_true (A.ev rfl) ?_)
        refine wp_exit (hK104 _ _ (wrl (sdm A λa A↦?_)))
        refine sdo (v := .int .i64 (((i + 1 : Nat) : Int))) A (qi rfl rfl (fun w => (jc (jg (by omega) (by omega)) w).trans (by rw [show (((i : Nat) : Int) + 1 : Int) = ((i + 1 : Nat) : Int) from by omega]))) λa A↦?_
        refine sda A λa A↦?_
        refine qa ?_
        refine hK29 _ _ _ (by omega) ⟨i + 1, rfl, ⟨by omega, fun j y hj hy => if h9 : j < i then hin9 j y h9 hy else by have h8 : j = i := (by omega); subst h8; rw [it110] at hy; rw [← Option.some.inj hy]; exact of_decide_eq_false hb115⟩, A.keep _ (by repeat' constructor), M⟩
     ·
      have hb33' := of_decide_eq_false hb33
      refine sdc A za hb33 λa A↦?_
      refine sdm A λa A↦?_
      iterate 3 refine qk A rfl rfl rfl λa A↦?_
      refine sdk (v := .bool false) A λa A↦?_
      refine qa (hK32 _ _ (wp_cond_false (A.ev rfl) ?_))
      refine wp_exit (hK26 _ _ (wsk fun K127 hK127 => ?_))
      have hux9 : ¬ 0 ≤ uix (ts.map Ty.k) u.k.ui := qvc hin9 (.inr (by omega))
      refine wrl (sdo (v := .pointer (some ⟨g4, 2, none⟩)) A (qb RcI_fld_33_2 rfl rfl) λa A↦?_)
      refine sdo A (qh M RcI_is1_30 rfl 1 rfl rfl) λa A↦?_
      refine sdo A (qp Tryz.underlying30 rfl) λa A↦?_
      refine sda A λa A↦?_
      refine qa (hK127 _ _ (wsk fun K128 hK128 => wsk fun K129 hK129 => wrl (sdo (v := .pointer (some ⟨g4, 1, none⟩)) A (qb RcI_fld_33_1 rfl rfl) λa A↦?_)))
      refine sdo A (qh M RcI_is1_3 rfl 1 rfl rfl) λa A↦?_
      rcases tf (decide (0 ≤ u.par)) with hb130 | hb130
      ·
       have hb130' := of_decide_eq_true hb130
       refine sdc A zk hb130 λa A↦?_
       refine qa (hK129 _ _ (wp_cond_true (A.ev rfl) ?_))
       refine wsk fun K131 hK131 => wsk fun K132 hK132 => wrl (sdo (v := .pointer (some ⟨g2, 0, none⟩)) A (qb RcI_fld_29_0 rfl rfl) λa A↦?_)
       refine sdo A (qh M RcI_is1_26 rfl 2 rfl rfl) λa A↦?_
       refine sdo (v := .pointer (some ⟨g4, 1, none⟩)) A (qb RcI_fld_33_1 rfl rfl) λa A↦?_
       refine sdo A (qh M RcI_is1_3 rfl 1 rfl rfl) λa A↦?_
       obtain ⟨ty133, bt134, ot135, it136, mt137, rt138, lt139, Ht140⟩ := hT.at_ (i := (u.par).toNat) (by omega)
       refine sdo (v := .pointer (some ⟨bt134, ot135 + (u.par).toNat * 7, none⟩)) A (zb (k := (u.par).toNat) Tryz.underlying26 (by kernel_rfl) rfl rfl (by first | rfl | omega) lt139 (by omega)) λa A↦?_
       refine sdo (v := .pointer (some ⟨bt134, ot135 + (u.par).toNat * 7 + 4, none⟩)) A (qb RcI_fld_33_4 rfl rfl) λa A↦?_
       refine sdo A (jm (j := 4) M Ht140 RcI_is1_4 rfl rfl rfl) λa A↦?_
       refine qa (hK132 _ _ ?_)
       refine wp_cond_split (t := ty133.sl) (A.ev rfl) (fun hc141 => ?_) (fun hc141 => ?_)
       ·
        refine wsk fun K142 hK142 => zn (S := fun w1 => Mg w w1 (.obj g2 (.cells #[.slice tz ts.length tc, .slice ro rs.length rc] 29) :: [])) (by kernel_rfl) ?_
        replace M := M.drew
        refine qe A 0 rfl rfl rfl rfl hP (M.sub (cn (cn (cc (List.nil_sublist _))))) (fun w1 M => qy M RcI_isS_29 rfl 0 rfl (cs := [.slice tz ts.length tc, .slice ro rs.length rc]) rfl rfl) λa A↦?_
        refine qe A 1 rfl rfl rfl rfl hP (M.sub (cn (cn (cc (List.nil_sublist _))))) (fun w1 M => qm rfl) λa A↦?_
        refine qe A 2 rfl rfl rfl rfl hP (M.sub (cn (cn (cc (List.nil_sublist _))))) (fun w1 M => qm rfl) λa A↦?_
        refine qw (by kernel_rfl) (zx (us := [.slice tz ts.length tc, .slice ro rs.length rc]) (L' := (.obj g6 (.cells #[.slice tz ts.length tc, .slice ro rs.length rc] 29) :: .obj g4 (.cells #[.string u.nm, .int .i64 u.par, .slice u.fo u.fs.length u.fc, .slice u.mo u.ms.length u.mc, .bool u.sl, .bool u.op, .string u.ui] 33) :: .obj g2 (.cells #[.slice tz ts.length tc, .slice ro rs.length rc] 29) :: [])) A M 3 rfl rfl rfl (qz rfl rfl rfl (by kernel_rfl) M 0 rfl rfl rfl) 0 rfl rfl rfl ?_)
        intro w143 M
        refine ⟨(M.sub (cn (cn (cc (List.nil_sublist _))))), ?_⟩
        refine zd (by kernel_rfl) ?_
        refine hK142 _ _ (wp_ret (hret _ _ (en3 A rfl (qf rfl) (qf rfl) (zm M RcI_isS_29 rfl 0 rfl (cs := [.slice tz ts.length tc, .slice ro rs.length rc]) rfl rfl) ?_)))
        exact .inl ⟨by rw [uz (show gdB (ts.map Ty.k).length u.k = true by rw [List.length_map]; exact hgd9) hux9 (show slP (ts.map Ty.k) u.k.par = true from ((xr (show 0 ≤ u.par by omega) (zl it136)).trans hc141))], by rw [uz (show gdB (ts.map Ty.k).length u.k = true by rw [List.length_map]; exact hgd9) hux9 (show slP (ts.map Ty.k) u.k.par = true from ((xr (show 0 ≤ u.par by omega) (zl it136)).trans hc141))], M.bel⟩
       ·
        refine wp_skip (hK131 _ _ (wrl (sdm A λa A↦?_)))
        refine sdo A (qy M RcI_isS_29 rfl 2 rfl (cs := [.slice tz ts.length tc, .slice ro rs.length rc]) rfl rfl) λa A↦?_
        refine sdo (v := .pointer (some ⟨g4, 1, none⟩)) A (qb RcI_fld_33_1 rfl rfl) λa A↦?_
        refine sdo A (qh M RcI_is1_3 rfl 1 rfl rfl) λa A↦?_
        refine gcl A M (ef rfl rfl) (uq (hT.below M.bel) (hR.below M.bel) hW (by omega) (by omega)) fun w145 hb144 M a A => ?_
        refine sdo (v := .int .i64 (((u.fs.length + cnt (ts.map Ty.k) u.par : Nat) : Int))) A (qi rfl rfl (fun w => (jc (jg (by omega) (by omega)) w).trans (by rw [show (((u.fs.length : Nat) : Int) + ((cnt (ts.map Ty.k) u.par : Nat) : Int) : Int) = ((u.fs.length + cnt (ts.map Ty.k) u.par : Nat) : Int) from by omega]))) λa A↦?_
        refine sda A λa A↦?_
        refine qa (hK128 _ _ (wsk fun K146 hK146 => wsk fun K147 hK147 => wrl (sdm A λa A↦?_)))
        rcases tf (decide (16 < ((u.fs.length + cnt (ts.map Ty.k) u.par : Nat) : Int))) with hb148 | hb148
        ·
         have hb148' := of_decide_eq_true hb148
         refine sdc A jj hb148 λa A↦?_
         refine sdm A λa A↦?_
         iterate 4 refine qk A rfl rfl rfl λa A↦?_
         refine sdk (v := .bool true) A λa A↦?_
         refine qa (hK147 _ _ (wp_cond_true (A.ev rfl) ?_))
         refine wsk fun K149 hK149 => zn (S := fun w1 => Mg w w1 (.obj g2 (.cells #[.slice tz ts.length tc, .slice ro rs.length rc] 29) :: [])) (by kernel_rfl) ?_
         replace M := M.drew
         refine qe A 0 rfl rfl rfl rfl hP (M.sub (cn (cn (cc (List.nil_sublist _))))) (fun w1 M => qy M RcI_isS_29 rfl 0 rfl (cs := [.slice tz ts.length tc, .slice ro rs.length rc]) rfl rfl) λa A↦?_
         refine qe A 1 rfl rfl rfl rfl hP (M.sub (cn (cn (cc (List.nil_sublist _))))) (fun w1 M => qm rfl) λa A↦?_
         refine qe A 2 rfl rfl rfl rfl hP (M.sub (cn (cn (cc (List.nil_sublist _))))) (fun w1 M => qm rfl) λa A↦?_
         refine qw (by kernel_rfl) (zx (us := [.slice tz ts.length tc, .slice ro rs.length rc]) (L' := (.obj g6 (.cells #[.slice tz ts.length tc, .slice ro rs.length rc] 29) :: .obj g4 (.cells #[.string u.nm, .int .i64 u.par, .slice u.fo u.fs.length u.fc, .slice u.mo u.ms.length u.mc, .bool u.sl, .bool u.op, .string u.ui] 33) :: .obj g2 (.cells #[.slice tz ts.length tc, .slice ro rs.length rc] 29) :: [])) A M 3 rfl rfl rfl (qz rfl rfl rfl (by kernel_rfl) M 0 rfl rfl rfl) 0 rfl rfl rfl ?_)
         intro w150 M
         refine ⟨(M.sub (cn (cn (cc (List.nil_sublist _))))), ?_⟩
         refine zd (by kernel_rfl) ?_
         refine hK149 _ _ (wp_ret (hret _ _ (en3 A rfl (qf rfl) (qf rfl) (zm M RcI_isS_29 rfl 0 rfl (cs := [.slice tz ts.length tc, .slice ro rs.length rc]) rfl rfl) ?_)))
         exact .inl ⟨by rw [jo (show gdB (ts.map Ty.k).length u.k = true by rw [List.length_map]; exact hgd9) hux9 (show slP (ts.map Ty.k) u.k.par = false from ((xr (show 0 ≤ u.par by omega) (zl it136)).trans hc141)) (show ¬ (cnt (ts.map Ty.k) u.par + u.fs.length ≤ 16 ∧ (ts.map Ty.k).length < 4096) by rw [List.length_map]; omega)], by rw [jo (show gdB (ts.map Ty.k).length u.k = true by rw [List.length_map]; exact hgd9) hux9 (show slP (ts.map Ty.k) u.k.par = false from ((xr (show 0 ≤ u.par by omega) (zl it136)).trans hc141)) (show ¬ (cnt (ts.map Ty.k) u.par + u.fs.length ≤ 16 ∧ (ts.map Ty.k).length < 4096) by rw [List.length_map]; omega)], M.bel⟩
        ·
         have hb148' := of_decide_eq_false hb148
         refine sdc A jj hb148 λa A↦?_
         refine sdm A λa A↦?_
         refine sdo (v := .pointer (some ⟨g2, 0, none⟩)) A (qb RcI_fld_29_0 rfl rfl) λa A↦?_
         refine sdo A (qh M RcI_is1_26 rfl 2 rfl rfl) λa A↦?_
         refine sdo A (qp Tryz.underlying26 rfl) λa A↦?_
         rcases tf (decide (4096 ≤ ((ts.length : Nat) : Int))) with hb151 | hb151
         ·
          have hb151' := of_decide_eq_true hb151
          refine sdc A zk hb151 λa A↦?_
          refine sdk (v := .bool true) A λa A↦?_
          refine qa (hK147 _ _ (wp_cond_true (A.ev rfl) ?_))
          refine wsk fun K152 hK152 => zn (S := fun w1 => Mg w w1 (.obj g2 (.cells #[.slice tz ts.length tc, .slice ro rs.length rc] 29) :: [])) (by kernel_rfl) ?_
          replace M := M.drew
          refine qe A 0 rfl rfl rfl rfl hP (M.sub (cn (cn (cc (List.nil_sublist _))))) (fun w1 M => qy M RcI_isS_29 rfl 0 rfl (cs := [.slice tz ts.length tc, .slice ro rs.length rc]) rfl rfl) λa A↦?_
          refine qe A 1 rfl rfl rfl rfl hP (M.sub (cn (cn (cc (List.nil_sublist _))))) (fun w1 M => qm rfl) λa A↦?_
          refine qe A 2 rfl rfl rfl rfl hP (M.sub (cn (cn (cc (List.nil_sublist _))))) (fun w1 M => qm rfl) λa A↦?_
          refine qw (by kernel_rfl) (zx (us := [.slice tz ts.length tc, .slice ro rs.length rc]) (L' := (.obj g6 (.cells #[.slice tz ts.length tc, .slice ro rs.length rc] 29) :: .obj g4 (.cells #[.string u.nm, .int .i64 u.par, .slice u.fo u.fs.length u.fc, .slice u.mo u.ms.length u.mc, .bool u.sl, .bool u.op, .string u.ui] 33) :: .obj g2 (.cells #[.slice tz ts.length tc, .slice ro rs.length rc] 29) :: [])) A M 3 rfl rfl rfl (qz rfl rfl rfl (by kernel_rfl) M 0 rfl rfl rfl) 0 rfl rfl rfl ?_)
          intro w153 M
          refine ⟨(M.sub (cn (cn (cc (List.nil_sublist _))))), ?_⟩
          refine zd (by kernel_rfl) ?_
          refine hK152 _ _ (wp_ret (hret _ _ (en3 A rfl (qf rfl) (qf rfl) (zm M RcI_isS_29 rfl 0 rfl (cs := [.slice tz ts.length tc, .slice ro rs.length rc]) rfl rfl) ?_)))
          exact .inl ⟨by rw [jo (show gdB (ts.map Ty.k).length u.k = true by rw [List.length_map]; exact hgd9) hux9 (show slP (ts.map Ty.k) u.k.par = false from ((xr (show 0 ≤ u.par by omega) (zl it136)).trans hc141)) (show ¬ (cnt (ts.map Ty.k) u.par + u.fs.length ≤ 16 ∧ (ts.map Ty.k).length < 4096) by rw [List.length_map]; omega)], by rw [jo (show gdB (ts.map Ty.k).length u.k = true by rw [List.length_map]; exact hgd9) hux9 (show slP (ts.map Ty.k) u.k.par = false from ((xr (show 0 ≤ u.par by omega) (zl it136)).trans hc141)) (show ¬ (cnt (ts.map Ty.k) u.par + u.fs.length ≤ 16 ∧ (ts.map Ty.k).length < 4096) by rw [List.length_map]; omega)], M.bel⟩
         ·
          have hb151' := of_decide_eq_false hb151
          refine sdc A zk hb151 λa A↦?_
          refine sdk (v := .bool false) A λa A↦?_
          refine qa (hK147 _ _ (wp_cond_false (A.ev rfl) ?_))
          refine wp_skip (hK146 _ _ (wsk fun K154 hK154 => wrl (jw (e := 33) (sz := 7) (m := 0) (vs := qj Ty.c []) A M rfl rfl rfl (qs rfl (by kernel_rfl)) rfl rfl (.inl (by decide)) ?_)))
          intro g155 w156 M a A
          refine sdo (v := .pointer (some ⟨g2, 0, none⟩)) A (qb RcI_fld_29_0 rfl rfl) λa A↦?_
          refine sdo A (qh M RcI_is1_26 rfl 3 rfl rfl) λa A↦?_
          refine jh (e := 33) (sz := 7) (k := 0) (q := 0) (m := ts.length) (xs := qj Ty.c []) (news := qj Ty.c ts) (L' := fun v157 => (.row 33 7 (v157) (0 + ts.length) (qj Ty.c [] ++ qj Ty.c ts) :: .obj g6 (.cells #[.slice none 0 0, .slice none 0 0] 29) :: .obj g4 (.cells #[.string u.nm, .int .i64 u.par, .slice u.fo u.fs.length u.fc, .slice u.mo u.ms.length u.mc, .bool u.sl, .bool u.op, .string u.ui] 33) :: .obj g2 (.cells #[.slice tz ts.length tc, .slice ro rs.length rc] 29) :: [])) A rfl rfl rfl (jp (z := .agg #[.string (⟨#[]⟩), .int .i64 0, .slice none 0 0, .slice none 0 0, .bool false, .bool false, .string (⟨#[]⟩)]) (sz := 7) (by_ := 96) Tryz.underlying26 (by kernel_rfl) rfl rfl rfl M 0 rfl rfl rfl (vf ux ts) (hT.row.below M.bel) (vb ts) (by first | omega | (simp only [List.length_nil]; omega))) (fun _ => rfl) ?_
          intro v157 w158 M a A
          replace M : Mg w w158 (.row 33 7 (v157) ts.length (qj Ty.c ts) :: .obj g6 (.cells #[.slice none 0 0, .slice none 0 0] 29) :: .obj g4 (.cells #[.string u.nm, .int .i64 u.par, .slice u.fo u.fs.length u.fc, .slice u.mo u.ms.length u.mc, .bool u.sl, .bool u.op, .string u.ui] 33) :: .obj g2 (.cells #[.slice tz ts.length tc, .slice ro rs.length rc] 29) :: []) := by
           have h9 := M
           rw [show 0 + ts.length = ts.length from by simp] at h9
           exact h9
          obtain ⟨so159, ca160, rfl⟩ := zv (M.has 0 rfl)
          refine sda A λa A↦?_
          refine qa (hK154 _ _ (wsk fun K161 hK161 => wrl (sdm A λa A↦?_)))
          refine sdo A (qy M RcI_isS_33 rfl 2 rfl (cs := [.string u.nm, .int .i64 u.par, .slice u.fo u.fs.length u.fc, .slice u.mo u.ms.length u.mc, .bool u.sl, .bool u.op, .string u.ui]) rfl rfl) λa A↦?_
          refine jw (e := 33) (sz := 7) (m := 1) (vs := qj Ty.c [u]) A M rfl rfl rfl (qs rfl (by kernel_rfl)) rfl rfl (.inl (by decide)) ?_
          intro g162 w163 M a A
          refine jh (e := 33) (sz := 7) (k := 1) (q := ts.length) (m := 1) (xs := qj Ty.c ts) (news := qj Ty.c [u]) (L' := fun v164 => (.row 33 7 (.slice (some ⟨g162, 0, none⟩) 1 1) 1 (qj Ty.c [u]) :: .row 33 7 (v164) (ts.length + 1) (qj Ty.c ts ++ qj Ty.c [u]) :: .obj g6 (.cells #[.slice none 0 0, .slice none 0 0] 29) :: .obj g4 (.cells #[.string u.nm, .int .i64 u.par, .slice u.fo u.fs.length u.fc, .slice u.mo u.ms.length u.mc, .bool u.sl, .bool u.op, .string u.ui] 33) :: .obj g2 (.cells #[.slice tz ts.length tc, .slice ro rs.length rc] 29) :: [])) A rfl rfl rfl (jp (z := .agg #[.string (⟨#[]⟩), .int .i64 0, .slice none 0 0, .slice none 0 0, .bool false, .bool false, .string (⟨#[]⟩)]) (sz := 7) (by_ := 96) Tryz.underlying26 (by kernel_rfl) rfl rfl rfl M 1 rfl rfl rfl rfl (rc_own (M.has 0 rfl)) (vb [u]) (by first | omega | (simp only [List.length_nil]; omega))) (fun _ => rfl) ?_
          intro v164 w165 M a A
          replace M : Mg w w165 (.row 33 7 (.slice (some ⟨g162, 0, none⟩) 1 1) 1 (qj Ty.c [u]) :: .row 33 7 (v164) ((ts ++ [u]).length) (qj Ty.c (ts ++ [u])) :: .obj g6 (.cells #[.slice none 0 0, .slice none 0 0] 29) :: .obj g4 (.cells #[.string u.nm, .int .i64 u.par, .slice u.fo u.fs.length u.fc, .slice u.mo u.ms.length u.mc, .bool u.sl, .bool u.op, .string u.ui] 33) :: .obj g2 (.cells #[.slice tz ts.length tc, .slice ro rs.length rc] 29) :: []) := by
           rw [ji, List.length_append]; exact M
          obtain ⟨so166, ca167, rfl⟩ := zv (M.has 1 rfl)
          refine sdo (v := .pointer (some ⟨g2, 0, none⟩)) A (qb RcI_fld_29_0 rfl rfl) λa A↦?_
          refine zr (us := [.slice so166 ((ts ++ [u]).length) ca167, .slice ro rs.length rc]) (L' := (.row 33 7 (.slice (some ⟨g162, 0, none⟩) 1 1) 1 (qj Ty.c [u]) :: .row 33 7 (.slice so166 ((ts ++ [u]).length) ca167) ((ts ++ [u]).length) (qj Ty.c (ts ++ [u])) :: .obj g6 (.cells #[.slice none 0 0, .slice none 0 0] 29) :: .obj g4 (.cells #[.string u.nm, .int .i64 u.par, .slice u.fo u.fs.length u.fc, .slice u.mo u.ms.length u.mc, .bool u.sl, .bool u.op, .string u.ui] 33) :: .obj g2 (.cells #[.slice so166 ((ts ++ [u]).length) ca167, .slice ro rs.length rc] 29) :: [])) A M rfl rfl (qz rfl rfl rfl (by kernel_rfl) M 4 rfl rfl rfl) 4 rfl rfl rfl ?_
          intro w168 M
          refine qa (hK161 _ _ (wsk fun K169 hK169 => zn (S := fun w1 => Mg w w1 (.obj g2 (.cells #[.slice so166 ((ts ++ [u]).length) ca167, .slice ro rs.length rc] 29) :: [])) (by kernel_rfl) ?_))
          replace M := M.drew
          refine qe (v := .pointer (some ⟨g2, 0, none⟩)) A 0 rfl rfl rfl rfl hP (M.sub (cn (cn (cn (cn (cc (List.nil_sublist _))))))) (fun w1 M => qb RcI_fld_29_0 rfl rfl) λa A↦?_
          refine qe A 1 rfl rfl rfl rfl hP (M.sub (cn (cn (cn (cn (cc (List.nil_sublist _))))))) (fun w1 M => qh M RcI_is1_26 rfl 0 rfl rfl) λa A↦?_
          refine qe (v := .int .i64 ((((ts ++ [u]).length : Nat) : Int))) A 2 rfl rfl rfl rfl hP (M.sub (cn (cn (cn (cn (cc (List.nil_sublist _))))))) (fun w1 M => qp Tryz.underlying26 rfl) λa A↦?_
          have hln9 : (ts ++ [u]).length = ts.length + 1 := by rw [List.length_append]; rfl
          refine qe (v := .int .i64 ((((ts ++ [u]).length - 1 : Nat) : Int))) A 3 rfl rfl rfl rfl hP (M.sub (cn (cn (cn (cn (cc (List.nil_sublist _))))))) (fun w1 M => qi rfl rfl (fun w => (xb (jg (by omega) (by omega)) w).trans (by rw [show ((((ts ++ [u]).length : Nat) : Int) - 1 : Int) = (((ts ++ [u]).length - 1 : Nat) : Int) from by omega]))) λa A↦?_
          refine qe A 4 rfl rfl rfl rfl hP (M.sub (cn (cn (cn (cn (cc (List.nil_sublist _))))))) (fun w1 M => qy M RcI_isS_29 rfl 0 rfl (cs := [.slice so166 ((ts ++ [u]).length) ca167, .slice ro rs.length rc]) rfl rfl) λa A↦?_
          refine qe A 5 rfl rfl rfl rfl hP (M.sub (cn (cn (cn (cn (cc (List.nil_sublist _))))))) (fun w1 M => qm rfl) λa A↦?_
          refine qe A 6 rfl rfl rfl rfl hP (M.sub (cn (cn (cn (cn (cc (List.nil_sublist _))))))) (fun w1 M => qm rfl) λa A↦?_
          refine qw (by kernel_rfl) (zx (us := [.slice so166 ((ts ++ [u]).length) ca167, .slice ro rs.length rc]) (L' := (.row 33 7 (.slice (some ⟨g162, 0, none⟩) 1 1) 1 (qj Ty.c [u]) :: .row 33 7 (.slice so166 ((ts ++ [u]).length) ca167) ((ts ++ [u]).length) (qj Ty.c (ts ++ [u])) :: .obj g6 (.cells #[.slice so166 ((ts ++ [u]).length) ca167, .slice ro rs.length rc] 29) :: .obj g4 (.cells #[.string u.nm, .int .i64 u.par, .slice u.fo u.fs.length u.fc, .slice u.mo u.ms.length u.mc, .bool u.sl, .bool u.op, .string u.ui] 33) :: .obj g2 (.cells #[.slice so166 ((ts ++ [u]).length) ca167, .slice ro rs.length rc] 29) :: [])) A M 7 rfl rfl rfl (qz rfl rfl rfl (by kernel_rfl) M 2 rfl rfl rfl) 2 rfl rfl rfl ?_)
          intro w170 M
          refine ⟨(M.sub (cn (cn (cn (cn (cc (List.nil_sublist _))))))), ?_⟩
          refine zd (by kernel_rfl) ?_
          refine hK169 _ _ (wp_ret (hret _ _ (en3 A rfl (qf rfl) (qf rfl) (zm M RcI_isS_29 rfl 2 rfl (cs := [.slice so166 ((ts ++ [u]).length) ca167, .slice ro rs.length rc]) rfl rfl) ?_)))
          replace M : Mg w w170 (.row 33 7 (.slice so166 ((ts ++ [u]).length) ca167) ((ts ++ [u]).length) (qj Ty.c (ts ++ [u])) :: .row 33 7 (.slice (some ⟨g162, 0, none⟩) 1 1) 1 (qj Ty.c [u]) :: .obj g6 (.cells #[.slice so166 ((ts ++ [u]).length) ca167, .slice ro rs.length rc] 29) :: .obj g4 (.cells #[.string u.nm, .int .i64 u.par, .slice u.fo u.fs.length u.fc, .slice u.mo u.ms.length u.mc, .bool u.sl, .bool u.op, .string u.ui] 33) :: .obj g2 (.cells #[.slice so166 ((ts ++ [u]).length) ca167, .slice ro rs.length rc] 29) :: []) := M.bring 1 rfl rfl
          replace M : Mg w w170 (.row 33 7 (.slice so166 ((ts ++ [u]).length) ca167) ((ts ++ [u]).length) (qj Ty.c (ts ++ [u])) :: []) := by
           have h9 := M.sub (cc (cn (cn (cn (cn (.refl _))))))
           exact h9
          have hln : (ts ++ [u]).length = ts.length + 1 := by rw [List.length_append]; rfl
          have hty8 := uj (show gdB (ts.map Ty.k).length u.k = true by rw [List.length_map]; exact hgd9) hux9 (show slP (ts.map Ty.k) u.k.par = false from ((xr (show 0 ≤ u.par by omega) (zl it136)).trans hc141)) (show cnt (ts.map Ty.k) u.par + u.fs.length ≤ 16 ∧ (ts.map Ty.k).length < 4096 by rw [List.length_map]; omega)
          exact .inr ⟨by rw [hty8], so166, ca167, by rw [show (ts ++ [u]).length - 1 = ts.length by omega], M⟩
      ·
       have hb130' := of_decide_eq_false hb130
       refine sdc A zk hb130 λa A↦?_
       refine qa (hK129 _ _ (wp_cond_false (A.ev rfl) ?_))
       refine wp_skip (hK128 _ _ (wsk fun K171 hK171 => wsk fun K172 hK172 => wrl (sdm A λa A↦?_)))
       rcases tf (decide (16 < ((u.fs.length : Nat) : Int))) with hb173 | hb173
       ·
        have hb173' := of_decide_eq_true hb173
        refine sdc A jj hb173 λa A↦?_
        refine sdm A λa A↦?_
        iterate 4 refine qk A rfl rfl rfl λa A↦?_
        refine sdk (v := .bool true) A λa A↦?_
        refine qa (hK172 _ _ (wp_cond_true (A.ev rfl) ?_))
        refine wsk fun K174 hK174 => zn (S := fun w1 => Mg w w1 (.obj g2 (.cells #[.slice tz ts.length tc, .slice ro rs.length rc] 29) :: [])) (by kernel_rfl) ?_
        replace M := M.drew
        refine qe A 0 rfl rfl rfl rfl hP (M.sub (cn (cn (cc (List.nil_sublist _))))) (fun w1 M => qy M RcI_isS_29 rfl 0 rfl (cs := [.slice tz ts.length tc, .slice ro rs.length rc]) rfl rfl) λa A↦?_
        refine qe A 1 rfl rfl rfl rfl hP (M.sub (cn (cn (cc (List.nil_sublist _))))) (fun w1 M => qm rfl) λa A↦?_
        refine qe A 2 rfl rfl rfl rfl hP (M.sub (cn (cn (cc (List.nil_sublist _))))) (fun w1 M => qm rfl) λa A↦?_
        refine qw (by kernel_rfl) (zx (us := [.slice tz ts.length tc, .slice ro rs.length rc]) (L' := (.obj g6 (.cells #[.slice tz ts.length tc, .slice ro rs.length rc] 29) :: .obj g4 (.cells #[.string u.nm, .int .i64 u.par, .slice u.fo u.fs.length u.fc, .slice u.mo u.ms.length u.mc, .bool u.sl, .bool u.op, .string u.ui] 33) :: .obj g2 (.cells #[.slice tz ts.length tc, .slice ro rs.length rc] 29) :: [])) A M 3 rfl rfl rfl (qz rfl rfl rfl (by kernel_rfl) M 0 rfl rfl rfl) 0 rfl rfl rfl ?_)
        intro w175 M
        refine ⟨(M.sub (cn (cn (cc (List.nil_sublist _))))), ?_⟩
        refine zd (by kernel_rfl) ?_
        refine hK174 _ _ (wp_ret (hret _ _ (en3 A rfl (qf rfl) (qf rfl) (zm M RcI_isS_29 rfl 0 rfl (cs := [.slice tz ts.length tc, .slice ro rs.length rc]) rfl rfl) ?_)))
        have hc0 := ym (ks := (ts.map Ty.k)) (show u.par < 0 by omega)
        exact .inl ⟨by rw [jo (show gdB (ts.map Ty.k).length u.k = true by rw [List.length_map]; exact hgd9) hux9 (show slP (ts.map Ty.k) u.k.par = false from (xn (show u.par < 0 by omega))) (show ¬ (cnt (ts.map Ty.k) u.par + u.fs.length ≤ 16 ∧ (ts.map Ty.k).length < 4096) by rw [List.length_map]; omega)], by rw [jo (show gdB (ts.map Ty.k).length u.k = true by rw [List.length_map]; exact hgd9) hux9 (show slP (ts.map Ty.k) u.k.par = false from (xn (show u.par < 0 by omega))) (show ¬ (cnt (ts.map Ty.k) u.par + u.fs.length ≤ 16 ∧ (ts.map Ty.k).length < 4096) by rw [List.length_map]; omega)], M.bel⟩
       ·
        have hb173' := of_decide_eq_false hb173
        refine sdc A jj hb173 λa A↦?_
        refine sdm A λa A↦?_
        refine sdo (v := .pointer (some ⟨g2, 0, none⟩)) A (qb RcI_fld_29_0 rfl rfl) λa A↦?_
        refine sdo A (qh M RcI_is1_26 rfl 2 rfl rfl) λa A↦?_
        refine sdo A (qp Tryz.underlying26 rfl) λa A↦?_
        rcases tf (decide (4096 ≤ ((ts.length : Nat) : Int))) with hb176 | hb176
        ·
         have hb176' := of_decide_eq_true hb176
         refine sdc A zk hb176 λa A↦?_
         refine sdk (v := .bool true) A λa A↦?_
         refine qa (hK172 _ _ (wp_cond_true (A.ev rfl) ?_))
         refine wsk fun K177 hK177 => zn (S := fun w1 => Mg w w1 (.obj g2 (.cells #[.slice tz ts.length tc, .slice ro rs.length rc] 29) :: [])) (by kernel_rfl) ?_
         replace M := M.drew
         refine qe A 0 rfl rfl rfl rfl hP (M.sub (cn (cn (cc (List.nil_sublist _))))) (fun w1 M => qy M RcI_isS_29 rfl 0 rfl (cs := [.slice tz ts.length tc, .slice ro rs.length rc]) rfl rfl) λa A↦?_
         refine qe A 1 rfl rfl rfl rfl hP (M.sub (cn (cn (cc (List.nil_sublist _))))) (fun w1 M => qm rfl) λa A↦?_
         refine qe A 2 rfl rfl rfl rfl hP (M.sub (cn (cn (cc (List.nil_sublist _))))) (fun w1 M => qm rfl) λa A↦?_
         refine qw (by kernel_rfl) (zx (us := [.slice tz ts.length tc, .slice ro rs.length rc]) (L' := (.obj g6 (.cells #[.slice tz ts.length tc, .slice ro rs.length rc] 29) :: .obj g4 (.cells #[.string u.nm, .int .i64 u.par, .slice u.fo u.fs.length u.fc, .slice u.mo u.ms.length u.mc, .bool u.sl, .bool u.op, .string u.ui] 33) :: .obj g2 (.cells #[.slice tz ts.length tc, .slice ro rs.length rc] 29) :: [])) A M 3 rfl rfl rfl (qz rfl rfl rfl (by kernel_rfl) M 0 rfl rfl rfl) 0 rfl rfl rfl ?_)
         intro w178 M
         refine ⟨(M.sub (cn (cn (cc (List.nil_sublist _))))), ?_⟩
         refine zd (by kernel_rfl) ?_
         refine hK177 _ _ (wp_ret (hret _ _ (en3 A rfl (qf rfl) (qf rfl) (zm M RcI_isS_29 rfl 0 rfl (cs := [.slice tz ts.length tc, .slice ro rs.length rc]) rfl rfl) ?_)))
         have hc0 := ym (ks := (ts.map Ty.k)) (show u.par < 0 by omega)
         exact .inl ⟨by rw [jo (show gdB (ts.map Ty.k).length u.k = true by rw [List.length_map]; exact hgd9) hux9 (show slP (ts.map Ty.k) u.k.par = false from (xn (show u.par < 0 by omega))) (show ¬ (cnt (ts.map Ty.k) u.par + u.fs.length ≤ 16 ∧ (ts.map Ty.k).length < 4096) by rw [List.length_map]; omega)], by rw [jo (show gdB (ts.map Ty.k).length u.k = true by rw [List.length_map]; exact hgd9) hux9 (show slP (ts.map Ty.k) u.k.par = false from (xn (show u.par < 0 by omega))) (show ¬ (cnt (ts.map Ty.k) u.par + u.fs.length ≤ 16 ∧ (ts.map Ty.k).length < 4096) by rw [List.length_map]; omega)], M.bel⟩
        ·
         have hb176' := of_decide_eq_false hb176
         refine sdc A zk hb176 λa A↦?_
         refine sdk (v := .bool false) A λa A↦?_
         refine qa (hK172 _ _ (wp_cond_false (A.ev rfl) ?_))
         refine wp_skip (hK171 _ _ (wsk fun K179 hK179 => wrl (jw (e := 33) (sz := 7) (m := 0) (vs := qj Ty.c []) A M rfl rfl rfl (qs rfl (by kernel_rfl)) rfl rfl (.inl (by decide)) ?_)))
         intro g180 w181 M a A
         refine sdo (v := .pointer (some ⟨g2, 0, none⟩)) A (qb RcI_fld_29_0 rfl rfl) λa A↦?_
         refine sdo A (qh M RcI_is1_26 rfl 3 rfl rfl) λa A↦?_
         refine jh (e := 33) (sz := 7) (k := 0) (q := 0) (m := ts.length) (xs := qj Ty.c []) (news := qj Ty.c ts) (L' := fun v182 => (.row 33 7 (v182) (0 + ts.length) (qj Ty.c [] ++ qj Ty.c ts) :: .obj g6 (.cells #[.slice none 0 0, .slice none 0 0] 29) :: .obj g4 (.cells #[.string u.nm, .int .i64 u.par, .slice u.fo u.fs.length u.fc, .slice u.mo u.ms.length u.mc, .bool u.sl, .bool u.op, .string u.ui] 33) :: .obj g2 (.cells #[.slice tz ts.length tc, .slice ro rs.length rc] 29) :: [])) A rfl rfl rfl (jp (z := .agg #[.string (⟨#[]⟩), .int .i64 0, .slice none 0 0, .slice none 0 0, .bool false, .bool false, .string (⟨#[]⟩)]) (sz := 7) (by_ := 96) Tryz.underlying26 (by kernel_rfl) rfl rfl rfl M 0 rfl rfl rfl (vf ux ts) (hT.row.below M.bel) (vb ts) (by first | omega | (simp only [List.length_nil]; omega))) (fun _ => rfl) ?_
         intro v182 w183 M a A
         replace M : Mg w w183 (.row 33 7 (v182) ts.length (qj Ty.c ts) :: .obj g6 (.cells #[.slice none 0 0, .slice none 0 0] 29) :: .obj g4 (.cells #[.string u.nm, .int .i64 u.par, .slice u.fo u.fs.length u.fc, .slice u.mo u.ms.length u.mc, .bool u.sl, .bool u.op, .string u.ui] 33) :: .obj g2 (.cells #[.slice tz ts.length tc, .slice ro rs.length rc] 29) :: []) := by
          have h9 := M
          rw [show 0 + ts.length = ts.length from by simp] at h9
          exact h9
         obtain ⟨so184, ca185, rfl⟩ := zv (M.has 0 rfl)
         refine sda A λa A↦?_
         refine qa (hK179 _ _ (wsk fun K186 hK186 => wrl (sdm A λa A↦?_)))
         refine sdo A (qy M RcI_isS_33 rfl 2 rfl (cs := [.string u.nm, .int .i64 u.par, .slice u.fo u.fs.length u.fc, .slice u.mo u.ms.length u.mc, .bool u.sl, .bool u.op, .string u.ui]) rfl rfl) λa A↦?_
         refine jw (e := 33) (sz := 7) (m := 1) (vs := qj Ty.c [u]) A M rfl rfl rfl (qs rfl (by kernel_rfl)) rfl rfl (.inl (by decide)) ?_
         intro g187 w188 M a A
         refine jh (e := 33) (sz := 7) (k := 1) (q := ts.length) (m := 1) (xs := qj Ty.c ts) (news := qj Ty.c [u]) (L' := fun v189 => (.row 33 7 (.slice (some ⟨g187, 0, none⟩) 1 1) 1 (qj Ty.c [u]) :: .row 33 7 (v189) (ts.length + 1) (qj Ty.c ts ++ qj Ty.c [u]) :: .obj g6 (.cells #[.slice none 0 0, .slice none 0 0] 29) :: .obj g4 (.cells #[.string u.nm, .int .i64 u.par, .slice u.fo u.fs.length u.fc, .slice u.mo u.ms.length u.mc, .bool u.sl, .bool u.op, .string u.ui] 33) :: .obj g2 (.cells #[.slice tz ts.length tc, .slice ro rs.length rc] 29) :: [])) A rfl rfl rfl (jp (z := .agg #[.string (⟨#[]⟩), .int .i64 0, .slice none 0 0, .slice none 0 0, .bool false, .bool false, .string (⟨#[]⟩)]) (sz := 7) (by_ := 96) Tryz.underlying26 (by kernel_rfl) rfl rfl rfl M 1 rfl rfl rfl rfl (rc_own (M.has 0 rfl)) (vb [u]) (by first | omega | (simp only [List.length_nil]; omega))) (fun _ => rfl) ?_
         intro v189 w190 M a A
         replace M : Mg w w190 (.row 33 7 (.slice (some ⟨g187, 0, none⟩) 1 1) 1 (qj Ty.c [u]) :: .row 33 7 (v189) ((ts ++ [u]).length) (qj Ty.c (ts ++ [u])) :: .obj g6 (.cells #[.slice none 0 0, .slice none 0 0] 29) :: .obj g4 (.cells #[.string u.nm, .int .i64 u.par, .slice u.fo u.fs.length u.fc, .slice u.mo u.ms.length u.mc, .bool u.sl, .bool u.op, .string u.ui] 33) :: .obj g2 (.cells #[.slice tz ts.length tc, .slice ro rs.length rc] 29) :: []) := by
          rw [ji, List.length_append]; exact M
         obtain ⟨so191, ca192, rfl⟩ := zv (M.has 1 rfl)
         refine sdo (v := .pointer (some ⟨g2, 0, none⟩)) A (qb RcI_fld_29_0 rfl rfl) λa A↦?_
         refine zr (us := [.slice so191 ((ts ++ [u]).length) ca192, .slice ro rs.length rc]) (L' := (.row 33 7 (.slice (some ⟨g187, 0, none⟩) 1 1) 1 (qj Ty.c [u]) :: .row 33 7 (.slice so191 ((ts ++ [u]).length) ca192) ((ts ++ [u]).length) (qj Ty.c (ts ++ [u])) :: .obj g6 (.cells #[.slice none 0 0, .slice none 0 0] 29) :: .obj g4 (.cells #[.string u.nm, .int .i64 u.par, .slice u.fo u.fs.length u.fc, .slice u.mo u.ms.length u.mc, .bool u.sl, .bool u.op, .string u.ui] 33) :: .obj g2 (.cells #[.slice so191 ((ts ++ [u]).length) ca192, .slice ro rs.length rc] 29) :: [])) A M rfl rfl (qz rfl rfl rfl (by kernel_rfl) M 4 rfl rfl rfl) 4 rfl rfl rfl ?_
         intro w193 M
         refine qa (hK186 _ _ (wsk fun K194 hK194 => zn (S := fun w1 => Mg w w1 (.obj g2 (.cells #[.slice so191 ((ts ++ [u]).length) ca192, .slice ro rs.length rc] 29) :: [])) (by kernel_rfl) ?_))
         replace M := M.drew
         refine qe (v := .pointer (some ⟨g2, 0, none⟩)) A 0 rfl rfl rfl rfl hP (M.sub (cn (cn (cn (cn (cc (List.nil_sublist _))))))) (fun w1 M => qb RcI_fld_29_0 rfl rfl) λa A↦?_
         refine qe A 1 rfl rfl rfl rfl hP (M.sub (cn (cn (cn (cn (cc (List.nil_sublist _))))))) (fun w1 M => qh M RcI_is1_26 rfl 0 rfl rfl) λa A↦?_
         refine qe (v := .int .i64 ((((ts ++ [u]).length : Nat) : Int))) A 2 rfl rfl rfl rfl hP (M.sub (cn (cn (cn (cn (cc (List.nil_sublist _))))))) (fun w1 M => qp Tryz.underlying26 rfl) λa A↦?_
         have hln9 : (ts ++ [u]).length = ts.length + 1 := by rw [List.length_append]; rfl
         refine qe (v := .int .i64 ((((ts ++ [u]).length - 1 : Nat) : Int))) A 3 rfl rfl rfl rfl hP (M.sub (cn (cn (cn (cn (cc (List.nil_sublist _))))))) (fun w1 M => qi rfl rfl (fun w => (xb (jg (by omega) (by omega)) w).trans (by rw [show ((((ts ++ [u]).length : Nat) : Int) - 1 : Int) = (((ts ++ [u]).length - 1 : Nat) : Int) from by omega]))) λa A↦?_
         refine qe A 4 rfl rfl rfl rfl hP (M.sub (cn (cn (cn (cn (cc (List.nil_sublist _))))))) (fun w1 M => qy M RcI_isS_29 rfl 0 rfl (cs := [.slice so191 ((ts ++ [u]).length) ca192, .slice ro rs.length rc]) rfl rfl) λa A↦?_
         refine qe A 5 rfl rfl rfl rfl hP (M.sub (cn (cn (cn (cn (cc (List.nil_sublist _))))))) (fun w1 M => qm rfl) λa A↦?_
         refine qe A 6 rfl rfl rfl rfl hP (M.sub (cn (cn (cn (cn (cc (List.nil_sublist _))))))) (fun w1 M => qm rfl) λa A↦?_
         refine qw (by kernel_rfl) (zx (us := [.slice so191 ((ts ++ [u]).length) ca192, .slice ro rs.length rc]) (L' := (.row 33 7 (.slice (some ⟨g187, 0, none⟩) 1 1) 1 (qj Ty.c [u]) :: .row 33 7 (.slice so191 ((ts ++ [u]).length) ca192) ((ts ++ [u]).length) (qj Ty.c (ts ++ [u])) :: .obj g6 (.cells #[.slice so191 ((ts ++ [u]).length) ca192, .slice ro rs.length rc] 29) :: .obj g4 (.cells #[.string u.nm, .int .i64 u.par, .slice u.fo u.fs.length u.fc, .slice u.mo u.ms.length u.mc, .bool u.sl, .bool u.op, .string u.ui] 33) :: .obj g2 (.cells #[.slice so191 ((ts ++ [u]).length) ca192, .slice ro rs.length rc] 29) :: [])) A M 7 rfl rfl rfl (qz rfl rfl rfl (by kernel_rfl) M 2 rfl rfl rfl) 2 rfl rfl rfl ?_)
         intro w195 M
         refine ⟨(M.sub (cn (cn (cn (cn (cc (List.nil_sublist _))))))), ?_⟩
         refine zd (by kernel_rfl) ?_
         refine hK194 _ _ (wp_ret (hret _ _ (en3 A rfl (qf rfl) (qf rfl) (zm M RcI_isS_29 rfl 2 rfl (cs := [.slice so191 ((ts ++ [u]).length) ca192, .slice ro rs.length rc]) rfl rfl) ?_)))
         replace M : Mg w w195 (.row 33 7 (.slice so191 ((ts ++ [u]).length) ca192) ((ts ++ [u]).length) (qj Ty.c (ts ++ [u])) :: .row 33 7 (.slice (some ⟨g187, 0, none⟩) 1 1) 1 (qj Ty.c [u]) :: .obj g6 (.cells #[.slice so191 ((ts ++ [u]).length) ca192, .slice ro rs.length rc] 29) :: .obj g4 (.cells #[.string u.nm, .int .i64 u.par, .slice u.fo u.fs.length u.fc, .slice u.mo u.ms.length u.mc, .bool u.sl, .bool u.op, .string u.ui] 33) :: .obj g2 (.cells #[.slice so191 ((ts ++ [u]).length) ca192, .slice ro rs.length rc] 29) :: []) := M.bring 1 rfl rfl
         replace M : Mg w w195 (.row 33 7 (.slice so191 ((ts ++ [u]).length) ca192) ((ts ++ [u]).length) (qj Ty.c (ts ++ [u])) :: []) := by
          have h9 := M.sub (cc (cn (cn (cn (cn (.refl _))))))
          exact h9
         have hc0 := ym (ks := (ts.map Ty.k)) (show u.par < 0 by omega)
         have hln : (ts ++ [u]).length = ts.length + 1 := by rw [List.length_append]; rfl
         have hty8 := uj (show gdB (ts.map Ty.k).length u.k = true by rw [List.length_map]; exact hgd9) hux9 (show slP (ts.map Ty.k) u.k.par = false from (xn (show u.par < 0 by omega))) (show cnt (ts.map Ty.k) u.par + u.fs.length ≤ 16 ∧ (ts.map Ty.k).length < 4096 by rw [List.length_map]; omega)
         exact .inr ⟨by rw [hty8], so191, ca192, by rw [show (ts ++ [u]).length - 1 = ts.length by omega], M⟩
theorem zgg {w : World} {tz ro : Option Addr} {tc rc : Nat} {ts : List Ty} {rs : List Rk} (hT : TR w tz ts) (hR : RR w ro rs) (hW : WS (ts.map Ty.k) (rs.map Rk.k)) {t : Int} (h : okT ts.length t = true) : Calls Tryz.prog 12 #[.agg #[.slice tz ts.length tc, .slice ro rs.length rc], .int .i64 t] w fun e w' => e = .returned (.tuple #[.int .i64 ((cnt (ts.map Ty.k) t : Nat) : Int), .int .i64 0]) ∧ Below w.heap.size w w' := by
 have := qab (tc := tc) (rc := rc) (t := t) hT hR hW
 rw [qza h] at this
 exact this
theorem zgh {w : World} {tz ro : Option Addr} {tc rc : Nat} {ts : List Ty} {rs : List Rk} (hT : TR w tz ts) (hR : RR w ro rs) (hW : WS (ts.map Ty.k) (rs.map Rk.k)) {t : Int} (h : okT ts.length t = false) : Calls Tryz.prog 12 #[.agg #[.slice tz ts.length tc, .slice ro rs.length rc], .int .i64 t] w fun e w' => e = .returned (.tuple #[.int .i64 0, .int .i64 7]) ∧ Below w.heap.size w w' := by
 have := qab (tc := tc) (rc := rc) (t := t) hT hR hW
 rw [qrj h] at this
 exact this
theorem qbb {w : World} {t : Dt} (ht : t.rd w) (hb : t.tr.bulk ≤ 4000000) {v : Bool} (h : jn ja t.tr = v) : Calls Tryz.prog 36 #[.agg (t.d.cells t.ts.length).toArray] w fun e w' => e = .returned (.bool v) ∧ Below w.heap.size w w' := h ▸ rsound_any ht hb
theorem zac {vs : List Dt} {i : Nat} (h : ∀ (j : Nat) u, j < i → vs[j]? = some u → jn ja u.tr = true) (hi : vs.length ≤ i) : (vs.map Dt.tr).all (jn ja) = true := by
 rw [List.all_eq_true]
 intro x hx
 obtain ⟨u, hu, rfl⟩ := List.mem_map.1 hx
 obtain ⟨j, hj⟩ := List.mem_iff_getElem?.1 hu
 exact h j u (by have := (List.getElem?_eq_some_iff.1 hj).1; omega) hj
theorem zdc {vs : List Dt} {u : Dt} (hu : u ∈ vs) (h : jn ja u.tr = false) : (vs.map Dt.tr).all (jn ja) = false := by
 refine Bool.eq_false_iff.2 fun e => ?_
 rw [List.all_eq_true.1 e u.tr (List.mem_map.2 ⟨u, hu, rfl⟩)] at h
 cases h
set_option maxHeartbeats 2000000 in
theorem zgi {w : World} {tz ro : Option Addr} {tc rc : Nat} {ts : List Ty} {rs : List Rk} (hT : TR w tz ts) (hR : RR w ro rs) (hW : WS (ts.map Ty.k) (rs.map Rk.k)) {vo : Option Addr} {vc : Nat} {vs : List Dt} (hV : Rt w vo vs) (hD : ∀ d ∈ vs, d.rd w) (hvb : ∀ d ∈ vs, d.tr.bulk ≤ 4000000) (hvl : vs.length ≤ 2000000) {t : Int} : Calls Tryz.prog 11 #[.agg #[.slice tz ts.length tc, .slice ro rs.length rc], .int .i64 t, .slice vo vs.length vc] w fun e w' => (((mkS (ts.map Ty.k) rs.length t (vs.map Dt.tr)).2.2 = false ∧ e = .returned (.tuple #[.int .i64 (mkS (ts.map Ty.k) rs.length t (vs.map Dt.tr)).1, .int .i64 (mkS (ts.map Ty.k) rs.length t (vs.map Dt.tr)).2.1, .agg #[.slice tz ts.length tc, .slice ro rs.length rc]]) ∧ Below w.heap.size w w') ∨ ((mkS (ts.map Ty.k) rs.length t (vs.map Dt.tr)).2.2 = true ∧ ∃ (ro' : Option Addr) (rc' : Nat) (vo' : Option Addr) (vc' : Nat), e = .returned (.tuple #[.int .i64 ((rs.length : Nat) : Int), .int .i64 0, .agg #[.slice tz ts.length tc, .slice ro' (rs ++ [(Rk.mk t.toNat vo' vc' vs)]).length rc']]) ∧ Mg w w' [.row 88 2 (.slice ro' (rs ++ [(Rk.mk t.toNat vo' vc' vs)]).length rc') (rs ++ [(Rk.mk t.toNat vo' vc' vs)]).length (qj Rk.c (rs ++ [(Rk.mk t.toNat vo' vc' vs)])), .row 42 11 (.slice vo' vs.length vc') vs.length (cellsOf vs)])) := by
 have hkl := hW.kl
 have hrl := hW.rl
 rw [List.length_map] at hkl hrl
 have M : Mg w w ([]) := Mg.start w
 refine qx (l := [(0, .agg #[.slice tz ts.length tc, .slice ro rs.length rc]), (1, .int .i64 t), (2, .slice vo vs.length vc)]) Tryz.func11 rfl Tryz.ntmps11 rfl rfl ?_
 intro Q hret hnorm hP a A
 refine wsk fun K1 hK1 => wrl (jb (vs := [.slice tz ts.length tc, .slice ro rs.length rc]) (t := 29) A M rfl rfl rfl pg (zh rfl rfl) (by decide) ?_)
 intro g2 w3 M a A
 iterate 2 refine sda A λa A↦?_
 refine jb (vs := [.slice none 0 0, .slice none 0 0]) (t := 29) A M rfl rfl rfl pg (zw (z := .agg #[.slice none 0 0, .slice none 0 0]) (by kernel_rfl) rfl) (by decide) ?_
 intro g4 w5 M a A
 refine qa (hK1 _ _ (wsk fun K6 hK6 => wrl (sdo A (qy M RcI_isS_29 rfl 1 rfl (cs := [.slice tz ts.length tc, .slice ro rs.length rc]) rfl rfl) λa A↦?_)))
 refine sdm A λa A↦?_
 rcases tf (okT ts.length t) with hb7 | hb7
 ·
  have hok9 := ka hb7
  refine gcl A M (ef rfl rfl) (zgg (hT.below M.bel) (hR.below M.bel) hW hb7) fun w9 hb8 M a A => ?_
  refine sdm A λa A↦?_
  iterate 2 refine sdo A (ze (vs := [.int .i64 (((cnt (ts.map Ty.k) t : Nat) : Int)), .int .i64 0]) rfl rfl) λa A↦?_
  iterate 2 refine sda A λa A↦?_
  refine qa (hK6 _ _ (wsk fun K10 hK10 => wsk fun K11 hK11 => wrl (sdm A λa A↦?_)))
  refine sdo (v := .bool false) A (qi rfl rfl (fun w => by kernel_rfl)) λa A↦?_
  refine qa (hK11 _ _ (wp_cond_false (A.ev rfl) ?_))
  refine wp_skip (hK10 _ _ (wsk fun K12 hK12 => wsk fun K13 hK13 => wrl ?_))
  iterate 2 refine sdm A λa A↦?_
  refine sdo A (qp Tryz.underlying34 rfl) λa A↦?_
  rcases tf ((((cnt (ts.map Ty.k) t : Nat) : Int) != ((vs.length : Nat) : Int))) with hb14 | hb14
  ·
   have hb14' := bne_iff_ne.1 hb14
   refine sdc A zi hb14 λa A↦?_
   refine qa (hK13 _ _ (wp_cond_true (A.ev rfl) ?_))
   refine wsk fun K15 hK15 => zn (S := fun w1 => Mg w w1 (.obj g2 (.cells #[.slice tz ts.length tc, .slice ro rs.length rc] 29) :: [])) (by kernel_rfl) ?_
   replace M := M.drew
   refine qe A 0 rfl rfl rfl rfl hP (M.sub (cn (cc (List.nil_sublist _)))) (fun w1 M => qy M RcI_isS_29 rfl 0 rfl (cs := [.slice tz ts.length tc, .slice ro rs.length rc]) rfl rfl) λa A↦?_
   refine qe A 1 rfl rfl rfl rfl hP (M.sub (cn (cc (List.nil_sublist _)))) (fun w1 M => qm rfl) λa A↦?_
   refine qe A 2 rfl rfl rfl rfl hP (M.sub (cn (cc (List.nil_sublist _)))) (fun w1 M => qm rfl) λa A↦?_
   refine qw (by kernel_rfl) (zx (us := [.slice tz ts.length tc, .slice ro rs.length rc]) (L' := (.obj g4 (.cells #[.slice tz ts.length tc, .slice ro rs.length rc] 29) :: .obj g2 (.cells #[.slice tz ts.length tc, .slice ro rs.length rc] 29) :: [])) A M 3 rfl rfl rfl (qz rfl rfl rfl (by kernel_rfl) M 0 rfl rfl rfl) 0 rfl rfl rfl ?_)
   intro w16 M
   refine ⟨(M.sub (cn (cc (List.nil_sublist _)))), ?_⟩
   refine zd (by kernel_rfl) ?_
   refine hK15 _ _ (wp_ret (hret _ _ (en3 A rfl (qf rfl) (qf rfl) (zm M RcI_isS_29 rfl 0 rfl (cs := [.slice tz ts.length tc, .slice ro rs.length rc]) rfl rfl) ?_)))
   exact .inl ⟨by rw [qsa hb7 (show (vs.map Dt.tr).length ≠ cnt (ts.map Ty.k) t by rw [List.length_map]; omega)], by rw [qsa hb7 (show (vs.map Dt.tr).length ≠ cnt (ts.map Ty.k) t by rw [List.length_map]; omega)], M.bel⟩
  ·
   have hb14' := bne_eq_false_iff_eq.1 hb14
   refine sdc A zi hb14 λa A↦?_
   refine qa (hK13 _ _ (wp_cond_false (A.ev rfl) ?_))
   refine wp_skip (hK12 _ _ (wsk fun K17 hK17 => wsk fun K18 hK18 => wrl (sda A λa A↦?_)))
   refine qa (hK18 _ _ (wp_block (zt (fun m_ a w1 => ∃ (i : Nat), m_ = 1 + (vs.length - i) ∧ (i ≤ vs.length ∧ ∀ (j : Nat) u, j < i → vs[j]? = some u → jn ja u.tr = true) ∧ Sl a 63 [(0, .agg #[.slice tz ts.length tc, .slice ro rs.length rc]), (1, .int .i64 t), (2, .slice vo vs.length vc), (3, .pointer (some ⟨g2, 0, none⟩)), (8, .pointer (some ⟨g4, 0, none⟩)), (9, .int .i64 (((cnt (ts.map Ty.k) t : Nat) : Int))), (10, .int .i64 0), (11, .int .i64 (((i : Nat) : Int))), (13, .tuple #[.int .i64 (((cnt (ts.map Ty.k) t : Nat) : Int)), .int .i64 0]), (14, .agg #[.slice tz ts.length tc, .slice ro rs.length rc]), (15, .int .i64 t), (16, .tuple #[.int .i64 (((cnt (ts.map Ty.k) t : Nat) : Int)), .int .i64 0]), (17, .int .i64 (((cnt (ts.map Ty.k) t : Nat) : Int))), (18, .int .i64 0), (19, .int .i64 0), (20, .bool false), (23, .int .i64 (((cnt (ts.map Ty.k) t : Nat) : Int))), (24, .slice vo vs.length vc), (25, .int .i64 (((vs.length : Nat) : Int))), (26, .bool false)] ∧ Mg w w1 (.obj g4 (.cells #[.slice none 0 0, .slice none 0 0] 29) :: .obj g2 (.cells #[.slice tz ts.length tc, .slice ro rs.length rc] 29) :: [])) _ ⟨0, rfl, ⟨Nat.zero_le _, fun j u h => absurd h (Nat.not_lt_zero _)⟩, A.keep _ (by repeat' constructor), M⟩ ?_)))
   clear M A
   rintro m_ a w19 ⟨i, rfl, hinv21, A, M⟩ K20 hK20
   obtain ⟨hi0, hin9⟩ := hinv21
   refine wsk fun K22 hK22 => wsk fun K23 hK23 => wrl ?_
   iterate 2 refine sdm A λa A↦?_
   rcases tf (decide (((i : Nat) : Int) < ((cnt (ts.map Ty.k) t : Nat) : Int))) with hb24 | hb24
   ·
    have hb24' := of_decide_eq_true hb24
    refine sdc A za hb24 λa A↦?_
    refine qa (hK23 _ _ (wp_cond_true (A.ev rfl) ?_))
    refine wp_skip (hK22 _ _ (wsk fun K25 hK25 => wp_block (wsk fun K26 hK26 => wrl ?_)))
    iterate 2 refine sdm A λa A↦?_
    obtain ⟨tk27, btk27, otk27, itk27, mtk27, rtk27_, ltk27, Htk27⟩ := zna hV hD (i := i) (by omega)
    refine sdo (v := .pointer (some ⟨btk27, otk27 + i * 11, none⟩)) A (zb (k := i) Tryz.underlying34 (by kernel_rfl) rfl rfl (by first | rfl | omega) ltk27 (by omega)) λa A↦?_
    refine sdo A (xa M Htk27 RcI_isS_42 rfl rfl) λa A↦?_
    rcases tf (jn ja tk27.tr) with hb28 | hb28
    ·
     refine gcl A M (ef rfl rfl) (qbb (Dt.keep M.bel _ rtk27_) (hvb _ mtk27) hb28) fun w30 hb29 M a A => ?_
     refine sdo (v := .bool false) A (zj rfl zq) λa A↦?_
     refine qa (hK26 _ _ (wp_cond_false (A.ev rfl) ?_))
     refine wp_skip (hK25 _ _ (wrl (sdm A λa A↦?_)))
     refine sdo (v := .int .i64 (((i + 1 : Nat) : Int))) A (qi rfl rfl (fun w => (jc (jg (by omega) (by omega)) w).trans (by rw [show (((i : Nat) : Int) + 1 : Int) = ((i + 1 : Nat) : Int) from by omega]))) λa A↦?_
     refine sda A λa A↦?_
     refine qa ?_
     refine hK20 _ _ _ (by omega) ⟨i + 1, rfl, ⟨by omega, fun j u hj hu => if h9 : j < i then hin9 j u h9 hu else by have h8 : j = i := (by omega); subst h8; rw [itk27] at hu; rw [← Option.some.inj hu]; exact hb28⟩, A.keep _ (by repeat' constructor), M⟩
    ·
     refine gcl A M (ef rfl rfl) (qbb (Dt.keep M.bel _ rtk27_) (hvb _ mtk27) hb28) fun w32 hb31 M a A => ?_
     refine sdo (v := .bool true) A (zj rfl zq) λa A↦?_
     refine qa (hK26 _ _ (wp_cond_true (A.ev rfl) ?_))
     refine wsk fun K33 hK33 => zn (S := fun w1 => Mg w w1 (.obj g2 (.cells #[.slice tz ts.length tc, .slice ro rs.length rc] 29) :: [])) (by kernel_rfl) ?_
     replace M := M.drew
     refine qe A 0 rfl rfl rfl rfl hP (M.sub (cn (cc (List.nil_sublist _)))) (fun w1 M => qy M RcI_isS_29 rfl 0 rfl (cs := [.slice tz ts.length tc, .slice ro rs.length rc]) rfl rfl) λa A↦?_
     refine qe A 1 rfl rfl rfl rfl hP (M.sub (cn (cc (List.nil_sublist _)))) (fun w1 M => qm rfl) λa A↦?_
     refine qe A 2 rfl rfl rfl rfl hP (M.sub (cn (cc (List.nil_sublist _)))) (fun w1 M => qm rfl) λa A↦?_
     refine qw (by kernel_rfl) (zx (us := [.slice tz ts.length tc, .slice ro rs.length rc]) (L' := (.obj g4 (.cells #[.slice tz ts.length tc, .slice ro rs.length rc] 29) :: .obj g2 (.cells #[.slice tz ts.length tc, .slice ro rs.length rc] 29) :: [])) A M 3 rfl rfl rfl (qz rfl rfl rfl (by kernel_rfl) M 0 rfl rfl rfl) 0 rfl rfl rfl ?_)
     intro w34 M
     refine ⟨(M.sub (cn (cc (List.nil_sublist _)))), ?_⟩
     refine zd (by kernel_rfl) ?_
     refine hK33 _ _ (wp_ret (hret _ _ (en3 A rfl (qf rfl) (qf rfl) (zm M RcI_isS_29 rfl 0 rfl (cs := [.slice tz ts.length tc, .slice ro rs.length rc]) rfl rfl) ?_)))
     exact .inl ⟨by rw [qlb hb7 (show (vs.map Dt.tr).length = cnt (ts.map Ty.k) t by rw [List.length_map]; omega) (zdc mtk27 hb28)], by rw [qlb hb7 (show (vs.map Dt.tr).length = cnt (ts.map Ty.k) t by rw [List.length_map]; omega) (zdc mtk27 hb28)], M.bel⟩
   ·
    have hb24' := of_decide_eq_false hb24
    refine sdc A za hb24 λa A↦?_
    refine qa (hK23 _ _ (wp_cond_false (A.ev rfl) ?_))
    refine wp_exit (hK17 _ _ (wsk fun K35 hK35 => wsk fun K36 hK36 => wrl (sdo (v := .pointer (some ⟨g2, 1, none⟩)) A (qb RcI_fld_29_1 rfl rfl) λa A↦?_)))
    refine sdo A (qh M RcI_is1_27 rfl 1 rfl rfl) λa A↦?_
    refine sdo A (qp Tryz.underlying27 rfl) λa A↦?_
    rcases tf (decide (20000 ≤ ((rs.length : Nat) : Int))) with hb37 | hb37
    ·
     have hb37' := of_decide_eq_true hb37
     refine sdc A zk hb37 λa A↦?_
     refine qa (hK36 _ _ (wp_cond_true (A.ev rfl) ?_))
     refine wsk fun K38 hK38 => zn (S := fun w1 => Mg w w1 (.obj g2 (.cells #[.slice tz ts.length tc, .slice ro rs.length rc] 29) :: [])) (by kernel_rfl) ?_
     replace M := M.drew
     refine qe A 0 rfl rfl rfl rfl hP (M.sub (cn (cc (List.nil_sublist _)))) (fun w1 M => qy M RcI_isS_29 rfl 0 rfl (cs := [.slice tz ts.length tc, .slice ro rs.length rc]) rfl rfl) λa A↦?_
     refine qe A 1 rfl rfl rfl rfl hP (M.sub (cn (cc (List.nil_sublist _)))) (fun w1 M => qm rfl) λa A↦?_
     refine qe A 2 rfl rfl rfl rfl hP (M.sub (cn (cc (List.nil_sublist _)))) (fun w1 M => qm rfl) λa A↦?_
     refine qw (by kernel_rfl) (zx (us := [.slice tz ts.length tc, .slice ro rs.length rc]) (L' := (.obj g4 (.cells #[.slice tz ts.length tc, .slice ro rs.length rc] 29) :: .obj g2 (.cells #[.slice tz ts.length tc, .slice ro rs.length rc] 29) :: [])) A M 3 rfl rfl rfl (qz rfl rfl rfl (by kernel_rfl) M 0 rfl rfl rfl) 0 rfl rfl rfl ?_)
     intro w39 M
     refine ⟨(M.sub (cn (cc (List.nil_sublist _)))), ?_⟩
     refine zd (by kernel_rfl) ?_
     refine hK38 _ _ (wp_ret (hret _ _ (en3 A rfl (qf rfl) (qf rfl) (zm M RcI_isS_29 rfl 0 rfl (cs := [.slice tz ts.length tc, .slice ro rs.length rc]) rfl rfl) ?_)))
     exact .inl ⟨by rw [qlc hb7 (show (vs.map Dt.tr).length = cnt (ts.map Ty.k) t by rw [List.length_map]; omega) (zac hin9 (by omega)) (by omega)], by rw [qlc hb7 (show (vs.map Dt.tr).length = cnt (ts.map Ty.k) t by rw [List.length_map]; omega) (zac hin9 (by omega)) (by omega)], M.bel⟩
    ·
     have hb37' := of_decide_eq_false hb37
     refine sdc A zk hb37 λa A↦?_
     refine qa (hK36 _ _ (wp_cond_false (A.ev rfl) ?_))
     refine wp_skip (hK35 _ _ (wsk fun K40 hK40 => wrl (jw (e := 88) (sz := 2) (m := 0) (vs := qj Rk.c []) A M rfl rfl rfl (qs rfl (by kernel_rfl)) rfl rfl (.inl (by decide)) ?_)))
     intro g41 w42 M a A
     refine sdo (v := .pointer (some ⟨g2, 1, none⟩)) A (qb RcI_fld_29_1 rfl rfl) λa A↦?_
     refine sdo A (qh M RcI_is1_27 rfl 2 rfl rfl) λa A↦?_
     refine jh (e := 88) (sz := 2) (k := 0) (q := 0) (m := rs.length) (xs := qj Rk.c []) (news := qj Rk.c rs) (L' := fun v43 => (.row 88 2 (v43) (0 + rs.length) (qj Rk.c [] ++ qj Rk.c rs) :: .obj g4 (.cells #[.slice none 0 0, .slice none 0 0] 29) :: .obj g2 (.cells #[.slice tz ts.length tc, .slice ro rs.length rc] 29) :: [])) A rfl rfl rfl (jp (z := .agg #[.int .i64 0, .slice none 0 0]) (sz := 2) (by_ := 32) Tryz.underlying27 (by kernel_rfl) rfl rfl rfl M 0 rfl rfl rfl (vf ug rs) (hR.row.below M.bel) (qff rs) (by first | omega | (simp only [List.length_nil]; omega))) (fun _ => rfl) ?_
     intro v43 w44 M a A
     replace M : Mg w w44 (.row 88 2 (v43) rs.length (qj Rk.c rs) :: .obj g4 (.cells #[.slice none 0 0, .slice none 0 0] 29) :: .obj g2 (.cells #[.slice tz ts.length tc, .slice ro rs.length rc] 29) :: []) := by
      have h9 := M
      rw [show 0 + rs.length = rs.length from by simp] at h9
      exact h9
     obtain ⟨so45, ca46, rfl⟩ := zv (M.has 0 rfl)
     refine sda A λa A↦?_
     refine qa (hK40 _ _ (wsk fun K47 hK47 => wrl ?_))
     iterate 2 refine sdm A λa A↦?_
     refine jw (e := 42) (sz := 11) (m := 0) (vs := cellsOf []) A M rfl rfl rfl (qs rfl (by kernel_rfl)) rfl rfl (.inl (by decide)) ?_
     intro g48 w49 M a A
     refine sdm A λa A↦?_
     refine jh (e := 42) (sz := 11) (k := 0) (q := 0) (m := vs.length) (xs := cellsOf []) (news := cellsOf vs) (L' := fun v50 => (.row 42 11 (v50) (0 + vs.length) (cellsOf [] ++ cellsOf vs) :: .row 88 2 (.slice so45 rs.length ca46) rs.length (qj Rk.c rs) :: .obj g4 (.cells #[.slice none 0 0, .slice none 0 0] 29) :: .obj g2 (.cells #[.slice tz ts.length tc, .slice ro rs.length rc] 29) :: [])) A rfl rfl rfl (jp (z := .agg #[.int .i64 0, .int .i64 0, .bool false, .slice none 0 0, .slice none 0 0, .bool false, .slice none 0 0, .slice none 0 0, .string (⟨#[]⟩), .slice none 0 0, .slice none 0 0]) (sz := 11) (by_ := 192) Tryz.underlying34 (by kernel_rfl) rfl rfl rfl M 0 rfl rfl rfl (xw vs) ((zhj hV).below M.bel) (vw vs) (by first | omega | (simp only [List.length_nil]; omega))) (fun _ => rfl) ?_
     intro v50 w51 M a A
     replace M : Mg w w51 (.row 42 11 (v50) vs.length (cellsOf vs) :: .row 88 2 (.slice so45 rs.length ca46) rs.length (qj Rk.c rs) :: .obj g4 (.cells #[.slice none 0 0, .slice none 0 0] 29) :: .obj g2 (.cells #[.slice tz ts.length tc, .slice ro rs.length rc] 29) :: []) := by
      have h9 := M
      rw [show 0 + vs.length = vs.length from by simp] at h9
      exact h9
     obtain ⟨so52, ca53, rfl⟩ := zv (M.has 0 rfl)
     refine sdo (v := .agg #[.int .i64 (((t.toNat : Nat) : Int)), .slice so52 vs.length ca53]) A (jd rfl (fun w => by rw [show ((t.toNat : Nat) : Int) = t by omega]; kernel_rfl)) λa A↦?_
     refine jw (e := 88) (sz := 2) (m := 1) (vs := qj Rk.c [(Rk.mk t.toNat so52 ca53 vs)]) A M rfl rfl rfl (qs rfl (by kernel_rfl)) rfl rfl (.inl (by decide)) ?_
     intro g54 w55 M a A
     refine jh (e := 88) (sz := 2) (k := 2) (q := rs.length) (m := 1) (xs := qj Rk.c rs) (news := qj Rk.c [(Rk.mk t.toNat so52 ca53 vs)]) (L' := fun v56 => (.row 88 2 (.slice (some ⟨g54, 0, none⟩) 1 1) 1 (qj Rk.c [(Rk.mk t.toNat so52 ca53 vs)]) :: .row 42 11 (.slice so52 vs.length ca53) vs.length (cellsOf vs) :: .row 88 2 (v56) (rs.length + 1) (qj Rk.c rs ++ qj Rk.c [(Rk.mk t.toNat so52 ca53 vs)]) :: .obj g4 (.cells #[.slice none 0 0, .slice none 0 0] 29) :: .obj g2 (.cells #[.slice tz ts.length tc, .slice ro rs.length rc] 29) :: [])) A rfl rfl rfl (jp (z := .agg #[.int .i64 0, .slice none 0 0]) (sz := 2) (by_ := 32) Tryz.underlying27 (by kernel_rfl) rfl rfl rfl M 2 rfl rfl rfl rfl (rc_own (M.has 0 rfl)) (qff [(Rk.mk t.toNat so52 ca53 vs)]) (by first | omega | (simp only [List.length_nil]; omega))) (fun _ => rfl) ?_
     intro v56 w57 M a A
     replace M : Mg w w57 (.row 88 2 (.slice (some ⟨g54, 0, none⟩) 1 1) 1 (qj Rk.c [(Rk.mk t.toNat so52 ca53 vs)]) :: .row 42 11 (.slice so52 vs.length ca53) vs.length (cellsOf vs) :: .row 88 2 (v56) ((rs ++ [(Rk.mk t.toNat so52 ca53 vs)]).length) (qj Rk.c (rs ++ [(Rk.mk t.toNat so52 ca53 vs)])) :: .obj g4 (.cells #[.slice none 0 0, .slice none 0 0] 29) :: .obj g2 (.cells #[.slice tz ts.length tc, .slice ro rs.length rc] 29) :: []) := by
      rw [ji, List.length_append]; exact M
     obtain ⟨so58, ca59, rfl⟩ := zv (M.has 2 rfl)
     refine sdo (v := .pointer (some ⟨g2, 1, none⟩)) A (qb RcI_fld_29_1 rfl rfl) λa A↦?_
     refine zr (us := [.slice tz ts.length tc, .slice so58 ((rs ++ [(Rk.mk t.toNat so52 ca53 vs)]).length) ca59]) (L' := (.row 88 2 (.slice (some ⟨g54, 0, none⟩) 1 1) 1 (qj Rk.c [(Rk.mk t.toNat so52 ca53 vs)]) :: .row 42 11 (.slice so52 vs.length ca53) vs.length (cellsOf vs) :: .row 88 2 (.slice so58 ((rs ++ [(Rk.mk t.toNat so52 ca53 vs)]).length) ca59) ((rs ++ [(Rk.mk t.toNat so52 ca53 vs)]).length) (qj Rk.c (rs ++ [(Rk.mk t.toNat so52 ca53 vs)])) :: .obj g4 (.cells #[.slice none 0 0, .slice none 0 0] 29) :: .obj g2 (.cells #[.slice tz ts.length tc, .slice so58 ((rs ++ [(Rk.mk t.toNat so52 ca53 vs)]).length) ca59] 29) :: [])) A M rfl rfl (qz rfl rfl rfl (by kernel_rfl) M 4 rfl rfl rfl) 4 rfl rfl rfl ?_
     intro w60 M
     refine qa (hK47 _ _ (wsk fun K61 hK61 => zn (S := fun w1 => Mg w w1 (.obj g2 (.cells #[.slice tz ts.length tc, .slice so58 ((rs ++ [(Rk.mk t.toNat so52 ca53 vs)]).length) ca59] 29) :: [])) (by kernel_rfl) ?_))
     replace M := M.drew
     refine qe (v := .pointer (some ⟨g2, 1, none⟩)) A 0 rfl rfl rfl rfl hP (M.sub (cn (cn (cn (cn (cc (List.nil_sublist _))))))) (fun w1 M => qb RcI_fld_29_1 rfl rfl) λa A↦?_
     refine qe A 1 rfl rfl rfl rfl hP (M.sub (cn (cn (cn (cn (cc (List.nil_sublist _))))))) (fun w1 M => qh M RcI_is1_27 rfl 0 rfl rfl) λa A↦?_
     refine qe (v := .int .i64 ((((rs ++ [(Rk.mk t.toNat so52 ca53 vs)]).length : Nat) : Int))) A 2 rfl rfl rfl rfl hP (M.sub (cn (cn (cn (cn (cc (List.nil_sublist _))))))) (fun w1 M => qp Tryz.underlying27 rfl) λa A↦?_
     have hln9 : (rs ++ [(Rk.mk t.toNat so52 ca53 vs)]).length = rs.length + 1 := by rw [List.length_append]; rfl
     refine qe (v := .int .i64 ((((rs ++ [(Rk.mk t.toNat so52 ca53 vs)]).length - 1 : Nat) : Int))) A 3 rfl rfl rfl rfl hP (M.sub (cn (cn (cn (cn (cc (List.nil_sublist _))))))) (fun w1 M => qi rfl rfl (fun w => (xb (jg (by omega) (by omega)) w).trans (by rw [show ((((rs ++ [(Rk.mk t.toNat so52 ca53 vs)]).length : Nat) : Int) - 1 : Int) = (((rs ++ [(Rk.mk t.toNat so52 ca53 vs)]).length - 1 : Nat) : Int) from by omega]))) λa A↦?_
     refine qe A 4 rfl rfl rfl rfl hP (M.sub (cn (cn (cn (cn (cc (List.nil_sublist _))))))) (fun w1 M => qy M RcI_isS_29 rfl 0 rfl (cs := [.slice tz ts.length tc, .slice so58 ((rs ++ [(Rk.mk t.toNat so52 ca53 vs)]).length) ca59]) rfl rfl) λa A↦?_
     refine qe A 5 rfl rfl rfl rfl hP (M.sub (cn (cn (cn (cn (cc (List.nil_sublist _))))))) (fun w1 M => qm rfl) λa A↦?_
     refine qe A 6 rfl rfl rfl rfl hP (M.sub (cn (cn (cn (cn (cc (List.nil_sublist _))))))) (fun w1 M => qm rfl) λa A↦?_
     refine qw (by kernel_rfl) (zx (us := [.slice tz ts.length tc, .slice so58 ((rs ++ [(Rk.mk t.toNat so52 ca53 vs)]).length) ca59]) (L' := (.row 88 2 (.slice (some ⟨g54, 0, none⟩) 1 1) 1 (qj Rk.c [(Rk.mk t.toNat so52 ca53 vs)]) :: .row 42 11 (.slice so52 vs.length ca53) vs.length (cellsOf vs) :: .row 88 2 (.slice so58 ((rs ++ [(Rk.mk t.toNat so52 ca53 vs)]).length) ca59) ((rs ++ [(Rk.mk t.toNat so52 ca53 vs)]).length) (qj Rk.c (rs ++ [(Rk.mk t.toNat so52 ca53 vs)])) :: .obj g4 (.cells #[.slice tz ts.length tc, .slice so58 ((rs ++ [(Rk.mk t.toNat so52 ca53 vs)]).length) ca59] 29) :: .obj g2 (.cells #[.slice tz ts.length tc, .slice so58 ((rs ++ [(Rk.mk t.toNat so52 ca53 vs)]).length) ca59] 29) :: [])) A M 7 rfl rfl rfl (qz rfl rfl rfl (by kernel_rfl) M 3 rfl rfl rfl) 3 rfl rfl rfl ?_)
     intro w62 M
     refine ⟨(M.sub (cn (cn (cn (cn (cc (List.nil_sublist _))))))), ?_⟩
     refine zd (by kernel_rfl) ?_
     refine hK61 _ _ (wp_ret (hret _ _ (en3 A rfl (qf rfl) (qf rfl) (zm M RcI_isS_29 rfl 3 rfl (cs := [.slice tz ts.length tc, .slice so58 ((rs ++ [(Rk.mk t.toNat so52 ca53 vs)]).length) ca59]) rfl rfl) ?_)))
     replace M : Mg w w62 (.row 42 11 (.slice so52 vs.length ca53) vs.length (cellsOf vs) :: .row 88 2 (.slice (some ⟨g54, 0, none⟩) 1 1) 1 (qj Rk.c [(Rk.mk t.toNat so52 ca53 vs)]) :: .row 88 2 (.slice so58 ((rs ++ [(Rk.mk t.toNat so52 ca53 vs)]).length) ca59) ((rs ++ [(Rk.mk t.toNat so52 ca53 vs)]).length) (qj Rk.c (rs ++ [(Rk.mk t.toNat so52 ca53 vs)])) :: .obj g4 (.cells #[.slice tz ts.length tc, .slice so58 ((rs ++ [(Rk.mk t.toNat so52 ca53 vs)]).length) ca59] 29) :: .obj g2 (.cells #[.slice tz ts.length tc, .slice so58 ((rs ++ [(Rk.mk t.toNat so52 ca53 vs)]).length) ca59] 29) :: []) := M.bring 1 rfl rfl
     replace M : Mg w w62 (.row 88 2 (.slice so58 ((rs ++ [(Rk.mk t.toNat so52 ca53 vs)]).length) ca59) ((rs ++ [(Rk.mk t.toNat so52 ca53 vs)]).length) (qj Rk.c (rs ++ [(Rk.mk t.toNat so52 ca53 vs)])) :: .row 42 11 (.slice so52 vs.length ca53) vs.length (cellsOf vs) :: .row 88 2 (.slice (some ⟨g54, 0, none⟩) 1 1) 1 (qj Rk.c [(Rk.mk t.toNat so52 ca53 vs)]) :: .obj g4 (.cells #[.slice tz ts.length tc, .slice so58 ((rs ++ [(Rk.mk t.toNat so52 ca53 vs)]).length) ca59] 29) :: .obj g2 (.cells #[.slice tz ts.length tc, .slice so58 ((rs ++ [(Rk.mk t.toNat so52 ca53 vs)]).length) ca59] 29) :: []) := M.bring 2 rfl rfl
     replace M : Mg w w62 (.row 88 2 (.slice so58 ((rs ++ [(Rk.mk t.toNat so52 ca53 vs)]).length) ca59) ((rs ++ [(Rk.mk t.toNat so52 ca53 vs)]).length) (qj Rk.c (rs ++ [(Rk.mk t.toNat so52 ca53 vs)])) :: .row 42 11 (.slice so52 vs.length ca53) vs.length (cellsOf vs) :: []) := by
      have h9 := M.sub (cc (cc (cn (cn (cn (.refl _))))))
      exact h9
     have hln : ((rs ++ [(Rk.mk t.toNat so52 ca53 vs)])).length = rs.length + 1 := by rw [List.length_append]; rfl
     exact .inr ⟨by rw [qzc hb7 (show (vs.map Dt.tr).length = cnt (ts.map Ty.k) t by rw [List.length_map]; omega) (zac hin9 (by omega)) (by omega)], so58, ca59, so52, ca53, by rw [show ((rs ++ [(Rk.mk t.toNat so52 ca53 vs)])).length - 1 = rs.length by omega], M⟩
 ·
  have hok9 := qbe hb7
  refine gcl A M (ef rfl rfl) (zgh (hT.below M.bel) (hR.below M.bel) hW hb7) fun w64 hb63 M a A => ?_
  refine sdm A λa A↦?_
  iterate 2 refine sdo A (ze (vs := [.int .i64 0, .int .i64 7]) rfl rfl) λa A↦?_
  iterate 2 refine sda A λa A↦?_
  refine qa (hK6 _ _ (wsk fun K65 hK65 => wsk fun K66 hK66 => wrl (sdm A λa A↦?_)))
  refine sdo (v := .bool true) A (qi rfl rfl (fun w => by kernel_rfl)) λa A↦?_
  refine qa (hK66 _ _ (wp_cond_true (A.ev rfl) ?_))
  refine wsk fun K67 hK67 => zn (S := fun w1 => Mg w w1 (.obj g2 (.cells #[.slice tz ts.length tc, .slice ro rs.length rc] 29) :: [])) (by kernel_rfl) ?_
  replace M := M.drew
  refine qe A 0 rfl rfl rfl rfl hP (M.sub (cn (cc (List.nil_sublist _)))) (fun w1 M => qr rfl) λa A↦?_
  refine qe A 1 rfl rfl rfl rfl hP (M.sub (cn (cc (List.nil_sublist _)))) (fun w1 M => qy M RcI_isS_29 rfl 0 rfl (cs := [.slice tz ts.length tc, .slice ro rs.length rc]) rfl rfl) λa A↦?_
  refine qe A 2 rfl rfl rfl rfl hP (M.sub (cn (cc (List.nil_sublist _)))) (fun w1 M => qm rfl) λa A↦?_
  refine qe A 3 rfl rfl rfl rfl hP (M.sub (cn (cc (List.nil_sublist _)))) (fun w1 M => qm rfl) λa A↦?_
  refine qw (by kernel_rfl) (zx (us := [.slice tz ts.length tc, .slice ro rs.length rc]) (L' := (.obj g4 (.cells #[.slice tz ts.length tc, .slice ro rs.length rc] 29) :: .obj g2 (.cells #[.slice tz ts.length tc, .slice ro rs.length rc] 29) :: [])) A M 4 rfl rfl rfl (qz rfl rfl rfl (by kernel_rfl) M 0 rfl rfl rfl) 0 rfl rfl rfl ?_)
  intro w68 M
  refine ⟨(M.sub (cn (cc (List.nil_sublist _)))), ?_⟩
  refine zd (by kernel_rfl) ?_
  refine hK67 _ _ (wp_ret (hret _ _ (en3 A rfl (qf rfl) (qf rfl) (zm M RcI_isS_29 rfl 0 rfl (cs := [.slice tz ts.length tc, .slice ro rs.length rc]) rfl rfl) ?_)))
  exact .inl ⟨by rw [qzb hb7], by rw [qzb hb7], M.bel⟩
section
variable {P : Program} {w0 w : World} {L : List Ck} {l : List (Nat × Value)} {ops : List Oper} {Q : Exit → Act → World → Prop} {a : Act} {n : Nat} {o : Oper} {rest : List Oper}
theorem qwg (A : Sl a n l) (M : Mg w0 w L) (hg : zu l ops o = true) (hdst : o.dst = none) {g q m cap : Nat} {cs xs us : List Value} {e : TypeId} {sz : Nat} {so : Option Addr} (he : Sets P l o w (w.setCells g q cs)) (hso : so = some ⟨g, 0, none⟩) (k : Nat) (hk0 : L[k]? = some (.row e sz (.slice so m cap) m xs)) (hus : over xs q cs = us) {L' : List Ck} (hL : L.set k (.row e sz (.slice so m cap) m us) = L')
  (hk : ∀ w', Mg w0 w' L' → wpList P ops.toArray Q rest a w') : wpList P ops.toArray Q (o :: rest) a w := by
 subst hso
 exact qoa A M hg hdst he k hk0 hus hL (fun w' h1 _ => hk w' h1)
end
theorem zsh {rs : List Rk} {j : Nat} {x : Rk} (hx : rs[j]? = some x) {so : Option Addr} {ca : Nat} {v : List Dt} (hv : v.length = x.vs.length) : over (qj Rk.c rs) (j * 2 + 1) [.slice so x.vs.length ca] = qj Rk.c (rs.set j (Rk.mk x.kd so ca v)) := by
 have hj := (List.getElem?_eq_some_iff.1 hx).1
 rw [← qtj ug _ hj]
 show _ = over (qj Rk.c rs) (j * 2) [.int .i64 ((x.kd : Nat) : Int), .slice so v.length ca]
 rw [hv]
 have h0 : (qj Rk.c rs)[j * 2]? = some (.int .i64 ((x.kd : Nat) : Int)) := by
  have h4 := qhg ug hx
  have h5 : (Rk.c x)[0]? = some (.int .i64 ((x.kd : Nat) : Int)) := rfl
  rw [← h4, List.getElem?_take, if_pos (by decide), List.getElem?_drop] at h5
  exact h5
 have h1 := qof (xs := qj Rk.c rs) (o := j * 2) (cs := [.int .i64 ((x.kd : Nat) : Int)]) (by
  have hl := (List.getElem?_eq_some_iff.1 h0).1
  have h6 := (List.getElem?_eq_some_iff.1 h0).2
  rw [List.drop_eq_getElem_cons hl, h6]; rfl)
 rw [show over (qj Rk.c rs) (j * 2) [.int .i64 ((x.kd : Nat) : Int), .slice so x.vs.length ca] = over (over (qj Rk.c rs) (j * 2) [.int .i64 ((x.kd : Nat) : Int)]) (j * 2 + 1) [.slice so x.vs.length ca] from rfl, h1]
set_option maxHeartbeats 2000000 in
theorem zld {w : World} {tz ro : Option Addr} {tc rc : Nat} {ts : List Ty} {rs : List Rk} (hT : TR w tz ts) (hR : RR w ro rs) (hW : WS (ts.map Ty.k) (rs.map Rk.k)) {v : Dt} (hv : v.rd w) (hvb : v.tr.bulk ≤ 4000000) {r t i : Int} : Calls Tryz.prog 17 #[.agg #[.slice tz ts.length tc, .slice ro rs.length rc], .int .i64 r, .int .i64 t, .int .i64 i, .agg (v.d.cells v.ts.length).toArray] w fun e w' => (((seS (ts.map Ty.k) (rs.map Rk.k) r t i v.tr) ≠ 0 ∧ e = .returned (.tuple #[.int .i64 (seS (ts.map Ty.k) (rs.map Rk.k) r t i v.tr), .agg #[.slice tz ts.length tc, .slice ro rs.length rc]]) ∧ Below w.heap.size w w') ∨ ((seS (ts.map Ty.k) (rs.map Rk.k) r t i v.tr) = 0 ∧ ∃ (x : Rk) (ro' : Option Addr) (rc' : Nat) (vo' : Option Addr) (vc' : Nat), rs[r.toNat]? = some x ∧ e = .returned (.tuple #[.int .i64 0, .agg #[.slice tz ts.length tc, .slice ro' rs.length rc']]) ∧ Mg w w' [.row 88 2 (.slice ro' rs.length rc') rs.length (qj Rk.c (rs.set r.toNat (Rk.mk x.kd vo' vc' (x.vs.set (plS (ts.map Ty.k) (rs.map Rk.k) r t i).1.toNat v)))), .row 42 11 (.slice vo' x.vs.length vc') x.vs.length (cellsOf (x.vs.set (plS (ts.map Ty.k) (rs.map Rk.k) r t i).1.toNat v))])) := by
 have hkl := hW.kl
 have hrl := hW.rl
 rw [List.length_map] at hkl hrl
 have M : Mg w w ([]) := Mg.start w
 refine qx (l := [(0, .agg #[.slice tz ts.length tc, .slice ro rs.length rc]), (1, .int .i64 r), (2, .int .i64 t), (3, .int .i64 i), (4, .agg (v.d.cells v.ts.length).toArray)]) Tryz.func17 rfl Tryz.ntmps17 rfl rfl ?_
 intro Q hret hnorm hP a A
 refine wsk fun K1 hK1 => wrl (jb (vs := [.slice tz ts.length tc, .slice ro rs.length rc]) (t := 29) A M rfl rfl rfl pg (zh rfl rfl) (by decide) ?_)
 intro g2 w3 M a A
 refine jb (vs := (v.d.cells v.ts.length)) (t := 42) A M rfl rfl rfl pg (zh rfl rfl) (by decide) ?_
 intro g4 w5 M a A
 refine sda A λa A↦?_
 refine jb (vs := [.slice none 0 0, .slice none 0 0]) (t := 29) A M rfl rfl rfl pg (zw (z := .agg #[.slice none 0 0, .slice none 0 0]) (by kernel_rfl) rfl) (by decide) ?_
 intro g6 w7 M a A
 refine qa (hK1 _ _ (wsk fun K8 hK8 => wrl (sdo A (qy M RcI_isS_29 rfl 2 rfl (cs := [.slice tz ts.length tc, .slice ro rs.length rc]) rfl rfl) λa A↦?_)))
 iterate 3 refine sdm A λa A↦?_
 refine gcl A M (ef rfl rfl) (qmd (hT.below M.bel) (hR.below M.bel) hW) fun w10 hb9 M a A => ?_
 refine sdm A λa A↦?_
 iterate 2 refine sdo A (ze (vs := [.int .i64 ((plS (ts.map Ty.k) (rs.map Rk.k) r t i).1), .int .i64 ((plS (ts.map Ty.k) (rs.map Rk.k) r t i).2)]) rfl rfl) λa A↦?_
 iterate 2 refine sda A λa A↦?_
 refine qa (hK8 _ _ (wsk fun K11 hK11 => wsk fun K12 hK12 => wrl (sdm A λa A↦?_)))
 rcases tf (((plS (ts.map Ty.k) (rs.map Rk.k) r t i).2 != 0)) with hb13 | hb13
 ·
  have hb13' := bne_iff_ne.1 hb13
  refine sdc A zi hb13 λa A↦?_
  refine qa (hK12 _ _ (wp_cond_true (A.ev rfl) ?_))
  refine wsk fun K14 hK14 => zn (S := fun w1 => Mg w w1 (.obj g2 (.cells #[.slice tz ts.length tc, .slice ro rs.length rc] 29) :: [])) (by kernel_rfl) ?_
  replace M := M.drew
  refine qe A 0 rfl rfl rfl rfl hP (M.sub (cn (cn (cc (List.nil_sublist _))))) (fun w1 M => qr rfl) λa A↦?_
  refine qe A 1 rfl rfl rfl rfl hP (M.sub (cn (cn (cc (List.nil_sublist _))))) (fun w1 M => qy M RcI_isS_29 rfl 0 rfl (cs := [.slice tz ts.length tc, .slice ro rs.length rc]) rfl rfl) λa A↦?_
  refine qe A 2 rfl rfl rfl rfl hP (M.sub (cn (cn (cc (List.nil_sublist _))))) (fun w1 M => qm rfl) λa A↦?_
  refine qw (by kernel_rfl) (zx (us := [.slice tz ts.length tc, .slice ro rs.length rc]) (L' := (.obj g6 (.cells #[.slice tz ts.length tc, .slice ro rs.length rc] 29) :: .obj g4 (.cells (v.d.cells v.ts.length).toArray 42) :: .obj g2 (.cells #[.slice tz ts.length tc, .slice ro rs.length rc] 29) :: [])) A M 3 rfl rfl rfl (qz rfl rfl rfl (by kernel_rfl) M 0 rfl rfl rfl) 0 rfl rfl rfl ?_)
  intro w15 M
  refine ⟨(M.sub (cn (cn (cc (List.nil_sublist _))))), ?_⟩
  refine zd (by kernel_rfl) ?_
  refine hK14 _ _ (wp_ret (hret _ _ (en2 A rfl (qf rfl) (zm M RcI_isS_29 rfl 0 rfl (cs := [.slice tz ts.length tc, .slice ro rs.length rc]) rfl rfl) ?_)))
  exact .inl ⟨by rw [qzf (show (plS (ts.map Ty.k) (rs.map Rk.k) r t i).2 ≠ 0 by omega)]; omega, by rw [qzf (show (plS (ts.map Ty.k) (rs.map Rk.k) r t i).2 ≠ 0 by omega)], M.bel⟩
 ·
  have hb13' := bne_eq_false_iff_eq.1 hb13
  refine sdc A zi hb13 λa A↦?_
  refine qa (hK12 _ _ (wp_cond_false (A.ev rfl) ?_))
  refine wp_skip (hK11 _ _ (wsk fun K16 hK16 => wsk fun K17 hK17 => wrl (sdo A (qy M RcI_isS_42 rfl 1 rfl (cs := (v.d.cells v.ts.length)) rfl rfl) λa A↦?_)))
  rcases tf (jn ja v.tr) with hb18 | hb18
  ·
   refine gcl A M (ef rfl rfl) (qbb (Dt.keep M.bel _ hv) hvb hb18) fun w20 hb19 M a A => ?_
   refine sdo (v := .bool false) A (zj rfl zq) λa A↦?_
   refine qa (hK17 _ _ (wp_cond_false (A.ev rfl) ?_))
   refine wp_skip (hK16 _ _ (wsk fun K21 hK21 => wsk fun K22 hK22 => ?_))
   obtain ⟨x9, k9, hx9, hk9, p1, p2, p3, p4, p5, p6, p7, p8, p9, p10⟩ := qoe hW (show (plS (ts.map Ty.k) (rs.map Rk.k) r t i).2 = 0 by omega)
   rw [List.length_map] at p2 p4
   obtain ⟨ty23, bt24, ot25, it26, mt27, rt28, lt29, Ht30⟩ := hT.at_ (i := t.toNat) (by omega)
   have hml := hW.ml _ (List.mem_of_getElem? (zl it26))
   rw [show ty23.k.fs.length = ty23.fs.length from rfl, show ty23.k.ms.length = ty23.ms.length from rfl] at hml
   obtain rfl : k9 = ty23.k := Option.some.inj (hk9.symm.trans (zl it26))
   rw [show ty23.k.fs.length = ty23.fs.length from rfl] at p6
   obtain ⟨x, br, or_, hx, mx, rx, lr, Hr⟩ := hR.at_ (i := r.toNat) (by omega)
   obtain rfl : x9 = x.k := Option.some.inj (hx9.symm.trans (xf hx))
   rw [show x.k.2.length = x.vs.length from List.length_map _] at p9 p10
   refine wrl (sdo (v := .pointer (some ⟨g2, 0, none⟩)) A (qb RcI_fld_29_0 rfl rfl) λa A↦?_)
   refine sdo A (qh M RcI_is1_26 rfl 2 rfl rfl) λa A↦?_
   refine sdm A λa A↦?_
   refine sdo (v := .pointer (some ⟨bt24, ot25 + t.toNat * 7, none⟩)) A (zb (k := t.toNat) Tryz.underlying26 (by kernel_rfl) rfl rfl (by first | rfl | omega) lt29 (by omega)) λa A↦?_
   refine sdo (v := .pointer (some ⟨bt24, ot25 + t.toNat * 7 + 3, none⟩)) A (qb RcI_fld_33_3 rfl rfl) λa A↦?_
   refine sdo A (jm (j := 3) M Ht30 RcI_is1_31 rfl rfl rfl) λa A↦?_
   refine sdm A λa A↦?_
   obtain ⟨bx31, ox32, sx33, hs34, hc35, hi36⟩ := rt28.m.at_ (i := i.toNat) (by omega)
   refine sdo (v := .pointer (some ⟨bx31, ox32 + i.toNat, none⟩)) A (zp (k := i.toNat) Tryz.underlying31 (by kernel_rfl) rfl rfl (by first | rfl | omega) hs34 (by omega)) λa A↦?_
   refine sdo A (E.m_loadX M hc35 RcI_is1_4 rfl) λa A↦?_
   rcases sx33 with _ | _
   ·
    refine sdo (v := .bool true) A (zj rfl zq) λa A↦?_
    refine qa (hK22 _ _ (wp_cond_true (A.ev rfl) ?_))
    refine wsk fun K37 hK37 => zn (S := fun w1 => Mg w w1 (.obj g2 (.cells #[.slice tz ts.length tc, .slice ro rs.length rc] 29) :: [])) (by kernel_rfl) ?_
    replace M := M.drew
    refine qe A 0 rfl rfl rfl rfl hP (M.sub (cn (cn (cc (List.nil_sublist _))))) (fun w1 M => qy M RcI_isS_29 rfl 0 rfl (cs := [.slice tz ts.length tc, .slice ro rs.length rc]) rfl rfl) λa A↦?_
    refine qe A 1 rfl rfl rfl rfl hP (M.sub (cn (cn (cc (List.nil_sublist _))))) (fun w1 M => qm rfl) λa A↦?_
    refine qw (by kernel_rfl) (zx (us := [.slice tz ts.length tc, .slice ro rs.length rc]) (L' := (.obj g6 (.cells #[.slice tz ts.length tc, .slice ro rs.length rc] 29) :: .obj g4 (.cells (v.d.cells v.ts.length).toArray 42) :: .obj g2 (.cells #[.slice tz ts.length tc, .slice ro rs.length rc] 29) :: [])) A M 2 rfl rfl rfl (qz rfl rfl rfl (by kernel_rfl) M 0 rfl rfl rfl) 0 rfl rfl rfl ?_)
    intro w38 M
    refine ⟨(M.sub (cn (cn (cc (List.nil_sublist _))))), ?_⟩
    refine zd (by kernel_rfl) ?_
    refine hK37 _ _ (wp_ret (hret _ _ (en2 A rfl (qf rfl) (zm M RcI_isS_29 rfl 0 rfl (cs := [.slice tz ts.length tc, .slice ro rs.length rc]) rfl rfl) ?_)))
    exact .inl ⟨by rw [qeg (show (plS (ts.map Ty.k) (rs.map Rk.k) r t i).2 = 0 by omega) hb18 hk9 hi36, if_neg (by decide)]; decide, by rw [qeg (show (plS (ts.map Ty.k) (rs.map Rk.k) r t i).2 = 0 by omega) hb18 hk9 hi36, if_neg (by decide)], M.bel⟩
   ·
    refine sdo (v := .bool false) A (zj rfl zq) λa A↦?_
    refine qa (hK22 _ _ (wp_cond_false (A.ev rfl) ?_))
    refine wp_skip (hK21 _ _ (wsk fun K39 hK39 => wrl (jw (e := 88) (sz := 2) (m := 0) (vs := qj Rk.c []) A M rfl rfl rfl (qs rfl (by kernel_rfl)) rfl rfl (.inl (by decide)) ?_)))
    intro g40 w41 M a A
    refine sdo (v := .pointer (some ⟨g2, 1, none⟩)) A (qb RcI_fld_29_1 rfl rfl) λa A↦?_
    refine sdo A (qh M RcI_is1_27 rfl 3 rfl rfl) λa A↦?_
    refine jh (e := 88) (sz := 2) (k := 0) (q := 0) (m := rs.length) (xs := qj Rk.c []) (news := qj Rk.c rs) (L' := fun v42 => (.row 88 2 (v42) (0 + rs.length) (qj Rk.c [] ++ qj Rk.c rs) :: .obj g6 (.cells #[.slice none 0 0, .slice none 0 0] 29) :: .obj g4 (.cells (v.d.cells v.ts.length).toArray 42) :: .obj g2 (.cells #[.slice tz ts.length tc, .slice ro rs.length rc] 29) :: [])) A rfl rfl rfl (jp (z := .agg #[.int .i64 0, .slice none 0 0]) (sz := 2) (by_ := 32) Tryz.underlying27 (by kernel_rfl) rfl rfl rfl M 0 rfl rfl rfl (vf ug rs) (hR.row.below M.bel) (qff rs) (by first | omega | (simp only [List.length_nil]; omega))) (fun _ => rfl) ?_
    intro v42 w43 M a A
    replace M : Mg w w43 (.row 88 2 (v42) rs.length (qj Rk.c rs) :: .obj g6 (.cells #[.slice none 0 0, .slice none 0 0] 29) :: .obj g4 (.cells (v.d.cells v.ts.length).toArray 42) :: .obj g2 (.cells #[.slice tz ts.length tc, .slice ro rs.length rc] 29) :: []) := by
     have h9 := M
     rw [show 0 + rs.length = rs.length from by simp] at h9
     exact h9
    obtain ⟨so44, ca45, rfl⟩ := zv (M.has 0 rfl)
    refine sda A λa A↦?_
    refine qa (hK39 _ _ (wsk fun K46 hK46 => wrl (jw (e := 42) (sz := 11) (m := 0) (vs := cellsOf []) A M rfl rfl rfl (qs rfl (by kernel_rfl)) rfl rfl (.inl (by decide)) ?_)))
    intro g47 w48 M a A
    iterate 2 refine sdm A λa A↦?_
    obtain ⟨gl49, hggl49⟩ := qsb M 1 rfl (show 0 < rs.length by omega)
    refine sdo (v := .pointer (some ⟨gl49, r.toNat * 2, none⟩)) A (yn (k := r.toNat) Tryz.underlying27 (by kernel_rfl) rfl rfl (by omega) hggl49 (by omega)) λa A↦?_
    refine sdo (v := .pointer (some ⟨gl49, r.toNat * 2 + 1, none⟩)) A (qb RcI_fld_88_1 rfl rfl) λa A↦?_
    refine sdo A (qef (j := 1) (o := 0) ug (by decide) M 1 rfl hx hggl49 rfl RcI_is1_34 rfl (by omega)) λa A↦?_
    refine jh (e := 42) (sz := 11) (k := 0) (q := 0) (m := x.vs.length) (xs := cellsOf []) (news := cellsOf x.vs) (L' := fun v50 => (.row 42 11 (v50) (0 + x.vs.length) (cellsOf [] ++ cellsOf x.vs) :: .row 88 2 (.slice so44 rs.length ca45) rs.length (qj Rk.c rs) :: .obj g6 (.cells #[.slice none 0 0, .slice none 0 0] 29) :: .obj g4 (.cells (v.d.cells v.ts.length).toArray 42) :: .obj g2 (.cells #[.slice tz ts.length tc, .slice ro rs.length rc] 29) :: [])) A rfl rfl rfl (jp (z := .agg #[.int .i64 0, .int .i64 0, .bool false, .slice none 0 0, .slice none 0 0, .bool false, .slice none 0 0, .slice none 0 0, .string (⟨#[]⟩), .slice none 0 0, .slice none 0 0]) (sz := 11) (by_ := 192) Tryz.underlying34 (by kernel_rfl) rfl rfl rfl M 0 rfl rfl rfl (xw x.vs) ((zhj rx.v).below M.bel) (vw x.vs) (by first | omega | (simp only [List.length_nil]; omega))) (fun _ => rfl) ?_
    intro v50 w51 M a A
    replace M : Mg w w51 (.row 42 11 (v50) x.vs.length (cellsOf x.vs) :: .row 88 2 (.slice so44 rs.length ca45) rs.length (qj Rk.c rs) :: .obj g6 (.cells #[.slice none 0 0, .slice none 0 0] 29) :: .obj g4 (.cells (v.d.cells v.ts.length).toArray 42) :: .obj g2 (.cells #[.slice tz ts.length tc, .slice ro rs.length rc] 29) :: []) := by
     have h9 := M
     rw [show 0 + x.vs.length = x.vs.length from by simp] at h9
     exact h9
    obtain ⟨so52, ca53, rfl⟩ := zv (M.has 0 rfl)
    refine sda A λa A↦?_
    refine qa (hK46 _ _ (wsk fun K54 hK54 => wrl ?_))
    iterate 2 refine sdm A λa A↦?_
    refine sdo A (qy M RcI_isS_42 rfl 3 rfl (cs := (v.d.cells v.ts.length)) rfl rfl) λa A↦?_
    obtain ⟨gf55, hggf55⟩ := qsb M 0 rfl (show 0 < x.vs.length by omega)
    refine sdo (v := .pointer (some ⟨gf55, (plS (ts.map Ty.k) (rs.map Rk.k) r t i).1.toNat * 11, none⟩)) A (yn (k := (plS (ts.map Ty.k) (rs.map Rk.k) r t i).1.toNat) Tryz.underlying34 (by kernel_rfl) rfl rfl (by omega) hggf55 (by omega)) λa A↦?_
    refine qwg (cs := v.d.cells v.ts.length) (us := cellsOf (x.vs.set (plS (ts.map Ty.k) (rs.map Rk.k) r t i).1.toNat v)) (L' := (.row 42 11 (.slice so52 x.vs.length ca53) x.vs.length (cellsOf (x.vs.set (plS (ts.map Ty.k) (rs.map Rk.k) r t i).1.toNat v)) :: .row 88 2 (.slice so44 rs.length ca45) rs.length (qj Rk.c rs) :: .obj g6 (.cells #[.slice none 0 0, .slice none 0 0] 29) :: .obj g4 (.cells (v.d.cells v.ts.length).toArray 42) :: .obj g2 (.cells #[.slice tz ts.length tc, .slice ro rs.length rc] 29) :: [])) A M rfl rfl (qld hggf55 rfl rfl rfl (by kernel_rfl) M 0 rfl (by show _ + 11 ≤ _; omega) (qai v)) hggf55 0 rfl (qjc (by omega) rfl) rfl ?_
    intro w56 M
    refine qa (hK54 _ _ (wsk fun K57 hK57 => wrl ?_))
    iterate 3 refine sdm A λa A↦?_
    refine sdo (v := .pointer (some ⟨gl49, r.toNat * 2, none⟩)) A (yn (k := r.toNat) Tryz.underlying27 (by kernel_rfl) rfl rfl (by omega) hggl49 (by omega)) λa A↦?_
    refine sdo (v := .pointer (some ⟨gl49, r.toNat * 2 + 1, none⟩)) A (qb RcI_fld_88_1 rfl rfl) λa A↦?_
    refine qwg (cs := [.slice so52 x.vs.length ca53]) (us := over (qj Rk.c rs) (r.toNat * 2 + 1) [.slice so52 x.vs.length ca53]) (L' := (.row 42 11 (.slice so52 x.vs.length ca53) x.vs.length (cellsOf (x.vs.set (plS (ts.map Ty.k) (rs.map Rk.k) r t i).1.toNat v)) :: .row 88 2 (.slice so44 rs.length ca45) rs.length (over (qj Rk.c rs) (r.toNat * 2 + 1) [.slice so52 x.vs.length ca53]) :: .obj g6 (.cells #[.slice none 0 0, .slice none 0 0] 29) :: .obj g4 (.cells (v.d.cells v.ts.length).toArray 42) :: .obj g2 (.cells #[.slice tz ts.length tc, .slice ro rs.length rc] 29) :: [])) A M rfl rfl (qld hggl49 rfl rfl rfl (by kernel_rfl) M 1 rfl (by show _ + 1 ≤ _; omega) rfl) hggl49 1 rfl rfl rfl ?_
    intro w58 M
    replace M : Mg w w58 (.row 42 11 (.slice so52 x.vs.length ca53) x.vs.length (cellsOf (x.vs.set (plS (ts.map Ty.k) (rs.map Rk.k) r t i).1.toNat v)) :: .row 88 2 (.slice so44 rs.length ca45) rs.length (qj Rk.c (rs.set r.toNat (Rk.mk x.kd so52 ca53 (x.vs.set (plS (ts.map Ty.k) (rs.map Rk.k) r t i).1.toNat v)))) :: .obj g6 (.cells #[.slice none 0 0, .slice none 0 0] 29) :: .obj g4 (.cells (v.d.cells v.ts.length).toArray 42) :: .obj g2 (.cells #[.slice tz ts.length tc, .slice ro rs.length rc] 29) :: []) := by
     rw [zsh hx (v := x.vs.set (plS (ts.map Ty.k) (rs.map Rk.k) r t i).1.toNat v) List.length_set] at M
     exact M
    refine qa (hK57 _ _ (wsk fun K59 hK59 => wrl (sdm A λa A↦?_)))
    refine sdo (v := .pointer (some ⟨g2, 1, none⟩)) A (qb RcI_fld_29_1 rfl rfl) λa A↦?_
    refine zr (us := [.slice tz ts.length tc, .slice so44 rs.length ca45]) (L' := (.row 42 11 (.slice so52 x.vs.length ca53) x.vs.length (cellsOf (x.vs.set (plS (ts.map Ty.k) (rs.map Rk.k) r t i).1.toNat v)) :: .row 88 2 (.slice so44 rs.length ca45) rs.length (qj Rk.c (rs.set r.toNat (Rk.mk x.kd so52 ca53 (x.vs.set (plS (ts.map Ty.k) (rs.map Rk.k) r t i).1.toNat v)))) :: .obj g6 (.cells #[.slice none 0 0, .slice none 0 0] 29) :: .obj g4 (.cells (v.d.cells v.ts.length).toArray 42) :: .obj g2 (.cells #[.slice tz ts.length tc, .slice so44 rs.length ca45] 29) :: [])) A M rfl rfl (qz rfl rfl rfl (by kernel_rfl) M 4 rfl rfl rfl) 4 rfl rfl rfl ?_
    intro w60 M
    refine qa (hK59 _ _ (wsk fun K61 hK61 => zn (S := fun w1 => Mg w w1 (.obj g2 (.cells #[.slice tz ts.length tc, .slice so44 rs.length ca45] 29) :: [])) (by kernel_rfl) ?_))
    replace M := M.drew
    refine qe A 0 rfl rfl rfl rfl hP (M.sub (cn (cn (cn (cn (cc (List.nil_sublist _))))))) (fun w1 M => qy M RcI_isS_29 rfl 0 rfl (cs := [.slice tz ts.length tc, .slice so44 rs.length ca45]) rfl rfl) λa A↦?_
    refine qe A 1 rfl rfl rfl rfl hP (M.sub (cn (cn (cn (cn (cc (List.nil_sublist _))))))) (fun w1 M => qm rfl) λa A↦?_
    refine qw (by kernel_rfl) (zx (us := [.slice tz ts.length tc, .slice so44 rs.length ca45]) (L' := (.row 42 11 (.slice so52 x.vs.length ca53) x.vs.length (cellsOf (x.vs.set (plS (ts.map Ty.k) (rs.map Rk.k) r t i).1.toNat v)) :: .row 88 2 (.slice so44 rs.length ca45) rs.length (qj Rk.c (rs.set r.toNat (Rk.mk x.kd so52 ca53 (x.vs.set (plS (ts.map Ty.k) (rs.map Rk.k) r t i).1.toNat v)))) :: .obj g6 (.cells #[.slice tz ts.length tc, .slice so44 rs.length ca45] 29) :: .obj g4 (.cells (v.d.cells v.ts.length).toArray 42) :: .obj g2 (.cells #[.slice tz ts.length tc, .slice so44 rs.length ca45] 29) :: [])) A M 2 rfl rfl rfl (qz rfl rfl rfl (by kernel_rfl) M 2 rfl rfl rfl) 2 rfl rfl rfl ?_)
    intro w62 M
    refine ⟨(M.sub (cn (cn (cn (cn (cc (List.nil_sublist _))))))), ?_⟩
    refine zd (by kernel_rfl) ?_
    refine hK61 _ _ (wp_ret (hret _ _ (en2 A rfl (qf rfl) (zm M RcI_isS_29 rfl 2 rfl (cs := [.slice tz ts.length tc, .slice so44 rs.length ca45]) rfl rfl) ?_)))
    replace M : Mg w w62 (.row 88 2 (.slice so44 rs.length ca45) rs.length (qj Rk.c (rs.set r.toNat (Rk.mk x.kd so52 ca53 (x.vs.set (plS (ts.map Ty.k) (rs.map Rk.k) r t i).1.toNat v)))) :: .row 42 11 (.slice so52 x.vs.length ca53) x.vs.length (cellsOf (x.vs.set (plS (ts.map Ty.k) (rs.map Rk.k) r t i).1.toNat v)) :: .obj g6 (.cells #[.slice tz ts.length tc, .slice so44 rs.length ca45] 29) :: .obj g4 (.cells (v.d.cells v.ts.length).toArray 42) :: .obj g2 (.cells #[.slice tz ts.length tc, .slice so44 rs.length ca45] 29) :: []) := M.bring 1 rfl rfl
    replace M : Mg w w62 (.row 88 2 (.slice so44 rs.length ca45) rs.length (qj Rk.c (rs.set r.toNat (Rk.mk x.kd so52 ca53 (x.vs.set (plS (ts.map Ty.k) (rs.map Rk.k) r t i).1.toNat v)))) :: .row 42 11 (.slice so52 x.vs.length ca53) x.vs.length (cellsOf (x.vs.set (plS (ts.map Ty.k) (rs.map Rk.k) r t i).1.toNat v)) :: []) := by
     have h9 := M.sub (cc (cc (cn (cn (cn (.refl _))))))
     exact h9
    exact .inr ⟨by rw [qeg (show (plS (ts.map Ty.k) (rs.map Rk.k) r t i).2 = 0 by omega) hb18 hk9 hi36, if_pos rfl], x, so44, ca45, so52, ca53, hx, rfl, M⟩
  ·
   refine gcl A M (ef rfl rfl) (qbb (Dt.keep M.bel _ hv) hvb hb18) fun w64 hb63 M a A => ?_
   refine sdo (v := .bool true) A (zj rfl zq) λa A↦?_
   refine qa (hK17 _ _ (wp_cond_true (A.ev rfl) ?_))
   refine wsk fun K65 hK65 => zn (S := fun w1 => Mg w w1 (.obj g2 (.cells #[.slice tz ts.length tc, .slice ro rs.length rc] 29) :: [])) (by kernel_rfl) ?_
   replace M := M.drew
   refine qe A 0 rfl rfl rfl rfl hP (M.sub (cn (cn (cc (List.nil_sublist _))))) (fun w1 M => qy M RcI_isS_29 rfl 0 rfl (cs := [.slice tz ts.length tc, .slice ro rs.length rc]) rfl rfl) λa A↦?_
   refine qe A 1 rfl rfl rfl rfl hP (M.sub (cn (cn (cc (List.nil_sublist _))))) (fun w1 M => qm rfl) λa A↦?_
   refine qw (by kernel_rfl) (zx (us := [.slice tz ts.length tc, .slice ro rs.length rc]) (L' := (.obj g6 (.cells #[.slice tz ts.length tc, .slice ro rs.length rc] 29) :: .obj g4 (.cells (v.d.cells v.ts.length).toArray 42) :: .obj g2 (.cells #[.slice tz ts.length tc, .slice ro rs.length rc] 29) :: [])) A M 2 rfl rfl rfl (qz rfl rfl rfl (by kernel_rfl) M 0 rfl rfl rfl) 0 rfl rfl rfl ?_)
   intro w66 M
   refine ⟨(M.sub (cn (cn (cc (List.nil_sublist _))))), ?_⟩
   refine zd (by kernel_rfl) ?_
   refine hK65 _ _ (wp_ret (hret _ _ (en2 A rfl (qf rfl) (zm M RcI_isS_29 rfl 0 rfl (cs := [.slice tz ts.length tc, .slice ro rs.length rc]) rfl rfl) ?_)))
   exact .inl ⟨by rw [qle (show (plS (ts.map Ty.k) (rs.map Rk.k) r t i).2 = 0 by omega) hb18]; decide, by rw [qle (show (plS (ts.map Ty.k) (rs.map Rk.k) r t i).2 = 0 by omega) hb18], M.bel⟩
structure Ro where
  kd : Int
  r : Int
  t : Int
  i : Int
  u : Ty
  vo : Option Addr
  vc : Nat
  vs : List Dt
  v : Dt
def Ro.c (o : Ro) : List Value := [.int .i64 o.kd, .int .i64 o.r, .int .i64 o.t, .int .i64 o.i, .string o.u.nm, .int .i64 o.u.par, .slice o.u.fo o.u.fs.length o.u.fc, .slice o.u.mo o.u.ms.length o.u.mc, .bool o.u.sl, .bool o.u.op, .string o.u.ui, .slice o.vo o.vs.length o.vc] ++ o.v.d.cells o.v.ts.length
theorem zad (o : Ro) : o.c.length = 23 := rfl
structure RoR (w : World) (o : Ro) : Prop where
  ty : TyR w o.u
  rv : Rt w o.vo o.vs
  rd : ∀ d ∈ o.vs, d.rd w
  rx : o.v.rd w
  n1 : o.u.nm.size ≤ 1048576
  n2 : o.u.ui.size ≤ 1048576
  n3 : o.u.fs.length ≤ 1048576
  n4 : o.u.ms.length ≤ 1048576
  n5 : ∀ s ∈ o.u.fs, s.size ≤ 1048576
  b1 : Tr.bulks (o.vs.map Dt.tr) ≤ 1048576
  b2 : o.v.tr.bulk ≤ 1048576
structure Rops (w : World) (so : Option Addr) (ops : List Ro) : Prop where
  row : Rc w so (qj Ro.c ops)
  own : ∀ o ∈ ops, RoR w o
theorem Rops.at_ {w : World} {so : Option Addr} {ops : List Ro} (h : Rops w so ops) {i : Nat} (hi : i < ops.length) : ∃ o b off, ops[i]? = some o ∧ RoR w o ∧ so = some ⟨b, off, none⟩ ∧ Here w b (off + i * 23) o.c := by
  have e : ops[i]? = some ops[i] := List.getElem?_eq_getElem hi
  obtain ⟨b, o, h1, h2⟩ := yx zad (by decide) h.row e
  exact ⟨ops[i], b, o, e, h.own _ (List.getElem_mem hi), h1, h2⟩
theorem zsi (o : Ro) : o.c.all Value.oneCell' = true := by
  unfold Ro.c
  rw [List.all_append, show (o.v.d.cells o.v.ts.length).all Value.oneCell' = true from qai o.v]
  rfl
theorem zgj {vs cs : List Value} (h : vs.length = cs.length) : over vs 0 cs = cs := by
  rw [qpf (by omega), List.take_zero, List.nil_append, List.drop_eq_nil_of_le (by omega), List.append_nil]
theorem qgc (t : Tr) : ∀ n : Nat, Tr.bulks (List.replicate n t) = n * t.bulk
  | 0 => by simp [Tr.bulks]
  | n + 1 => by rw [List.replicate_succ, Tr.bulks, qgc t n, Nat.add_mul, Nat.one_mul, Nat.add_comm]
def DL (w0 : World) (X : List Ck) (D : Pst) : Prop := ∀ w, Mg w0 w X → TR w D.tz D.ts ∧ RR w D.ro D.rs
theorem DL.more {w0 : World} {X : List Ck} {D : Pst} (h : DL w0 X D) (F : List Ck) : DL w0 (F ++ X) D := fun w M => h w (M.sub (List.sublist_append_right _ _))
section
variable {w0 w : World} {b : Nat} {P D : Pst} {EE X : List Ck} {ks : List TK} {rr : List (Nat × List Tr)}
theorem inX (M : Mg w0 w (EE ++ (P.pcs b ++ X))) : Mg w0 w X := M.sub ((List.sublist_append_right _ _).trans (List.sublist_append_right _ _))
theorem qac (hP : PL w0 X P) (hE : jk EE) : jk (EE ++ (P.pcs b ++ X)) := jz hE (jz (jz (qve _ _) (qeh _)) hP.nb)
theorem zle {N : List Ck} (h : Mg w0 w (N ++ (EE ++ (P.pcs b ++ X)))) : Mg w0 w (EE ++ (P.pcs b ++ (N ++ X))) := by
 refine h.perm ?_
 refine (List.perm_append_comm_assoc N EE _).trans (List.Perm.append_left EE ?_)
 exact List.perm_append_comm_assoc N _ X
theorem zsj (hD : DL w0 X D) (hks : D.ks = ks) (hrr : D.rr = rr) (hW : WS ks rr) (hP : PL w0 X P) (hE : jk EE) {u : Ty} (hU : TyR w0 u) (hul : u.fs.length ≤ 2000000) (hum : u.ms.length ≤ 2000000) (M : Mg w0 w (EE ++ (P.pcs b ++ X))) : Calls Tryz.prog 9 #[.agg #[.slice D.tz D.ts.length D.tc, .slice D.ro D.rs.length D.rc], .agg #[.string u.nm, .int .i64 u.par, .slice u.fo u.fs.length u.fc, .slice u.mo u.ms.length u.mc, .bool u.sl, .bool u.op, .string u.ui]] w fun e w' => ∃ (D' : Pst) (F : List Ck), e = .returned (.tuple #[.int .i64 (tyS ks u.k).1, .int .i64 (tyS ks u.k).2.1, .agg #[.slice D'.tz D'.ts.length D'.tc, .slice D'.ro D'.rs.length D'.rc]]) ∧ (DL w0 (F ++ X) D' ∧ jk F ∧ D'.ks = (if (tyS ks u.k).2.2 = true then ks ++ [u.k] else ks) ∧ D'.rr = rr) ∧ Mg w0 w' (EE ++ (P.pcs b ++ (F ++ X))) := by
 subst hks hrr
 have S := hD w (inX M)
 refine (zgf (tc := D.tc) (rc := D.rc) S.1 S.2 hW (hU.below M.bel) hul hum).mono ?_
 rintro e w' (⟨hq, rfl, h1⟩ | ⟨hq, tz', tc', rfl, h1⟩)
 ·
  exact ⟨D, [], rfl, ⟨hD, (fun c hc => by cases hc), by rw [if_neg (by rw [show (tyS D.ks u.k).2.2 = false from hq]; decide)], rfl⟩, M.call h1⟩
 ·
  have hty : tyS D.ks u.k = (((D.ts.length : Nat) : Int), 0, true) := by
   have hq0 : (tyS D.ks u.k).2.2 = true := hq
   unfold tyS at hq0 ⊢
   split at hq0
   ·
    rename_i a1
    split at hq0
    ·
     split at hq0 <;> cases hq0
    ·
     rename_i a2
     split at hq0
     ·
      cases hq0
     ·
      rename_i a3
      split at hq0
      ·
       rename_i a4
       rw [if_pos a1, if_neg a2, if_neg a3, if_pos a4, Pst.ks, List.length_map]
      ·
       cases hq0
   ·
    cases hq0
  refine ⟨⟨tz', tc', D.ts ++ [u], D.ro, D.rc, D.rs⟩, [.row 33 7 (.slice tz' (D.ts ++ [u]).length tc') (D.ts ++ [u]).length (qj Ty.c (D.ts ++ [u]))], by rw [hty], ⟨fun w9 h9 => ⟨⟨rc_own (h9.has 0 rfl), fun y hy => ?_⟩, (hD w9 (h9.sub (List.sublist_append_right _ _))).2⟩, qg (by simp) (ql qn), by rw [hty, if_pos rfl]; show (D.ts ++ [u]).map Ty.k = _; rw [List.map_append]; rfl, rfl⟩, zle (M.both h1 (qac hP hE) (qg (by simp) (ql qn)))⟩
  rcases List.mem_append.1 hy with h | h
  ·
   exact (hD w9 (h9.sub (List.sublist_append_right _ _))).1.own y h
  ·
   rw [List.mem_singleton.1 h]; exact hU.below h9.bel
theorem zae (hD : DL w0 X D) (hks : D.ks = ks) (hrr : D.rr = rr) (hW : WS ks rr) (hP : PL w0 X P) (hE : jk EE) {vo : Option Addr} {vc : Nat} {vs : List Dt} (hV : Rt w vo vs) (hd0 : ∀ d ∈ vs, d.rd w0) (hvb : ∀ d ∈ vs, d.tr.bulk ≤ 4000000) (hvl : vs.length ≤ 2000000) (t : Int) {n : Nat} {trs : List Tr} (hn : rr.length = n) (htr : vs.map Dt.tr = trs) (M : Mg w0 w (EE ++ (P.pcs b ++ X))) : Calls Tryz.prog 11 #[.agg #[.slice D.tz D.ts.length D.tc, .slice D.ro D.rs.length D.rc], .int .i64 t, .slice vo vs.length vc] w fun e w' => ∃ (D' : Pst) (F : List Ck), e = .returned (.tuple #[.int .i64 (mkS ks n t trs).1, .int .i64 (mkS ks n t trs).2.1, .agg #[.slice D'.tz D'.ts.length D'.tc, .slice D'.ro D'.rs.length D'.rc]]) ∧ (DL w0 (F ++ X) D' ∧ jk F ∧ D'.ks = ks ∧ D'.rr = (if (mkS ks n t trs).2.2 = true then rr ++ [(t.toNat, trs)] else rr)) ∧ Mg w0 w' (EE ++ (P.pcs b ++ (F ++ X))) := by
 subst hks hrr htr
 have hn2 : D.rs.length = n := by rw [← hn]; exact (List.length_map _).symm
 subst hn2
 have S := hD w (inX M)
 refine (zgi (tc := D.tc) (rc := D.rc) S.1 S.2 hW hV (fun d hd => Dt.keep M.bel _ (hd0 d hd)) hvb hvl).mono ?_
 rintro e w' (⟨hq, rfl, h1⟩ | ⟨hq, ro', rc', vo', vc', rfl, h1⟩)
 ·
  exact ⟨D, [], rfl, ⟨hD, (fun c hc => by cases hc), rfl, by rw [if_neg (by rw [show (mkS D.ks D.rs.length t (vs.map Dt.tr)).2.2 = false from hq]; decide)]⟩, M.call h1⟩
 ·
  have hmk : mkS D.ks D.rs.length t (vs.map Dt.tr) = (((D.rs.length : Nat) : Int), 0, true) := by
   have hq0 : (mkS D.ks D.rs.length t (vs.map Dt.tr)).2.2 = true := hq
   unfold mkS at hq0 ⊢
   split at hq0
   ·
    rename_i a1
    split at hq0
    ·
     rename_i a2
     split at hq0
     ·
      rename_i a3
      split at hq0
      ·
       rename_i a4; rw [if_pos a1, if_pos a2, if_pos a3, if_pos a4]
      ·
       cases hq0
     ·
      cases hq0
    ·
     cases hq0
   ·
    cases hq0
  refine ⟨⟨D.tz, D.tc, D.ts, ro', rc', D.rs ++ [Rk.mk t.toNat vo' vc' vs]⟩, [.row 88 2 (.slice ro' (D.rs ++ [Rk.mk t.toNat vo' vc' vs]).length rc') (D.rs ++ [Rk.mk t.toNat vo' vc' vs]).length (qj Rk.c (D.rs ++ [Rk.mk t.toNat vo' vc' vs])), .row 42 11 (.slice vo' vs.length vc') vs.length (cellsOf vs)], by rw [hmk], ⟨fun w9 h9 => ⟨(hD w9 (h9.sub (List.sublist_append_right _ _))).1, rc_own (h9.has 0 rfl), fun y hy => ?_⟩, qg (by simp) (qg (by simp) (ql qn)), rfl, by rw [hmk, if_pos rfl]; show (D.rs ++ [Rk.mk t.toNat vo' vc' vs]).map Rk.k = _; rw [List.map_append]; rfl⟩, zle (M.both h1 (qac hP hE) (qg (by simp) (qg (by simp) (ql qn))))⟩
  rcases List.mem_append.1 hy with h | h
  ·
   exact (hD w9 (h9.sub (List.sublist_append_right _ _))).2.own y h
  ·
   rw [List.mem_singleton.1 h]
   exact ⟨(uf (h9.has 1 rfl)).1, fun d hd => Dt.keep h9.bel _ (hd0 d hd)⟩
theorem zuh (hD : DL w0 X D) (hks : D.ks = ks) (hrr : D.rr = rr) (hW : WS ks rr) (hP : PL w0 X P) (hE : jk EE) {v : Dt} (hv0 : v.rd w0) (hvb : v.tr.bulk ≤ 4000000) (r t i : Int) (M : Mg w0 w (EE ++ (P.pcs b ++ X))) : Calls Tryz.prog 17 #[.agg #[.slice D.tz D.ts.length D.tc, .slice D.ro D.rs.length D.rc], .int .i64 r, .int .i64 t, .int .i64 i, .agg (v.d.cells v.ts.length).toArray] w fun e w' => ∃ (D' : Pst) (F : List Ck), e = .returned (.tuple #[.int .i64 (seS ks rr r t i v.tr), .agg #[.slice D'.tz D'.ts.length D'.tc, .slice D'.ro D'.rs.length D'.rc]]) ∧ (DL w0 (F ++ X) D' ∧ jk F ∧ D'.ks = ks ∧ D'.rr = (if seS ks rr r t i v.tr = 0 then qvb rr r.toNat (plS ks rr r t i).1.toNat v.tr else rr)) ∧ Mg w0 w' (EE ++ (P.pcs b ++ (F ++ X))) := by
 subst hks hrr
 have S := hD w (inX M)
 refine (zld (tc := D.tc) (rc := D.rc) S.1 S.2 hW (Dt.keep M.bel _ hv0) hvb).mono ?_
 rintro e w' (⟨hq, rfl, h1⟩ | ⟨hq, x, ro', rc', vo', vc', hx, rfl, h1⟩)
 ·
  exact ⟨D, [], rfl, ⟨hD, (fun c hc => by cases hc), rfl, by rw [if_neg (show ¬ seS D.ks D.rr r t i v.tr = 0 from hq)]⟩, M.call h1⟩
 ·
  have hq2 : seS D.ks D.rr r t i v.tr = 0 := hq
  have hln : (D.rs.set r.toNat (Rk.mk x.kd vo' vc' (x.vs.set (plS D.ks D.rr r t i).1.toNat v))).length = D.rs.length := List.length_set
  have hlv : (x.vs.set (plS D.ks D.rr r t i).1.toNat v).length = x.vs.length := List.length_set
  refine ⟨⟨D.tz, D.tc, D.ts, ro', rc', D.rs.set r.toNat (Rk.mk x.kd vo' vc' (x.vs.set (plS D.ks D.rr r t i).1.toNat v))⟩, [.row 88 2 (.slice ro' D.rs.length rc') D.rs.length (qj Rk.c (D.rs.set r.toNat (Rk.mk x.kd vo' vc' (x.vs.set (plS D.ks D.rr r t i).1.toNat v)))), .row 42 11 (.slice vo' x.vs.length vc') x.vs.length (cellsOf (x.vs.set (plS D.ks D.rr r t i).1.toNat v))], by dsimp only; rw [hq2, hln], ⟨fun w9 h9 => ⟨(hD w9 (h9.sub (List.sublist_append_right _ _))).1, rc_own (h9.has 0 rfl), fun y hy => ?_⟩, qg (by simp) (qg (by simp) (ql qn)), rfl, ?_⟩, zle (M.both h1 (qac hP hE) (qg (by simp) (qg (by simp) (ql qn))))⟩
  ·
   have h8 := hD w9 (h9.sub (List.sublist_append_right _ _))
   rcases um hy with h | h
   ·
    exact h8.2.own y h
   ·
    rw [h]
    refine ⟨?_, fun d hd => ?_⟩
    ·
     have h7 := h9.has 1 rfl
     rw [← hlv] at h7
     exact (uf h7).1
    ·
     rcases um hd with h | h
     ·
      exact (h8.2.own x (List.mem_of_getElem? hx)).d d h
     ·
      rw [h]; exact Dt.keep h9.bel _ hv0
  ·
   rw [if_pos hq2, show qvb D.rr r.toNat (plS D.ks D.rr r t i).1.toNat v.tr = _ from zcg (xf hx)]
   show (D.rs.set r.toNat (Rk.mk x.kd vo' vc' (x.vs.set (plS D.ks D.rr r t i).1.toNat v))).map Rk.k = _
   rw [List.map_set]
   show (D.rs.map Rk.k).set _ (x.kd, (x.vs.set (plS D.ks D.rr r t i).1.toNat v).map Dt.tr) = _
   rw [List.map_set]; rfl
theorem zui (hD : DL w0 X D) (hks : D.ks = ks) (hrr : D.rr = rr) (hW : WS ks rr) (hP : PL w0 X P) (hE : jk EE) (r t i : Int) (M : Mg w0 w (EE ++ (P.pcs b ++ X))) : Calls Tryz.prog 14 #[.agg #[.slice D.tz D.ts.length D.tc, .slice D.ro D.rs.length D.rc], .int .i64 r, .int .i64 t, .int .i64 i] w fun e w' => ∃ d2 : Dt, e = .returned (.tuple #[.agg (d2.d.cells d2.ts.length).toArray, .int .i64 (plS ks rr r t i).2]) ∧ ((∀ w9, Mg w0 w9 X → d2.rd w9) ∧ d2.tr = gtT ks rr r t i) ∧ Mg w0 w' (EE ++ (P.pcs b ++ X)) := by
 subst hks hrr
 have S := hD w (inX M)
 refine (zlc (tc := D.tc) (rc := D.rc) S.1 S.2 hW).mono ?_
 rintro e w' ⟨d2, h1, ⟨h2, h3⟩, h4⟩
 refine ⟨d2, h1, ⟨fun w9 h9 => ?_, h3⟩, M.call h4⟩
 rcases h2 with rfl | ⟨x, hx, hd⟩
 ·
  exact qtf _
 ·
  exact ((hD w9 h9).2.own x hx).d d2 hd
theorem zvb (hD : DL w0 X D) (hks : D.ks = ks) (hrr : D.rr = rr) (hW : WS ks rr) (hP : PL w0 X P) (hE : jk EE) (r t : Int) (M : Mg w0 w (EE ++ (P.pcs b ++ X))) : Calls Tryz.prog 19 #[.agg #[.slice D.tz D.ts.length D.tc, .slice D.ro D.rs.length D.rc], .int .i64 r, .int .i64 t] w fun e w' => e = .returned (.tuple #[.bool (isS ks rr r t).1, .int .i64 (isS ks rr r t).2]) ∧ Mg w0 w' (EE ++ (P.pcs b ++ X)) := by
 subst hks hrr
 have S := hD w (inX M)
 exact (zdb (tc := D.tc) (rc := D.rc) S.1 S.2 hW).mono fun e w' h => ⟨h.1, M.call h.2⟩
theorem zlf (hD : DL w0 X D) (hks : D.ks = ks) (hrr : D.rr = rr) (hW : WS ks rr) (hP : PL w0 X P) (hE : jk EE) (r : Int) (M : Mg w0 w (EE ++ (P.pcs b ++ X))) : Calls Tryz.prog 21 #[.agg #[.slice D.tz D.ts.length D.tc, .slice D.ro D.rs.length D.rc], .int .i64 r] w fun e w' => e = .returned (.tuple #[.int .i64 (yf ks rr r).1, .int .i64 (yf ks rr r).2]) ∧ Mg w0 w' (EE ++ (P.pcs b ++ X)) := by
 subst hks hrr
 have S := hD w (inX M)
 exact (qwf (tc := D.tc) (rc := D.rc) S.1 S.2 hW).mono fun e w' h => ⟨h.1, M.call h.2⟩
theorem zlg {t : Int} (h : okT ks.length t = true) : flS ks t = (((cnt ks t : Nat) : Int), 0) := if_pos h
theorem zlh {t : Int} (h : okT ks.length t = false) : flS ks t = (0, 7) := if_neg (by rw [h]; decide)
theorem qei (hD : DL w0 X D) (hks : D.ks = ks) (hrr : D.rr = rr) (hW : WS ks rr) (hP : PL w0 X P) (hE : jk EE) (t : Int) {z : Int × Int} (hz : flS ks t = z) (M : Mg w0 w (EE ++ (P.pcs b ++ X))) : Calls Tryz.prog 12 #[.agg #[.slice D.tz D.ts.length D.tc, .slice D.ro D.rs.length D.rc], .int .i64 t] w fun e w' => e = .returned (.tuple #[.int .i64 z.1, .int .i64 z.2]) ∧ Mg w0 w' (EE ++ (P.pcs b ++ X)) := by
 subst hks hrr hz
 have S := hD w (inX M)
 exact (qab (tc := D.tc) (rc := D.rc) S.1 S.2 hW).mono fun e w' h => ⟨h.1, M.call h.2⟩
/-! The program's calls that only ask -/
theorem zta (hP : PL w0 X P) (hE : jk EE) (r t i : Int) (M : Mg w0 w (EE ++ (P.pcs b ++ X))) : Calls Tryz.prog 13 #[.pointer (some ⟨b, 0, none⟩), .int .i64 r, .int .i64 t, .int .i64 i] w fun e w' => ∃ (d2 : Dt) (F : List Ck), e = .returned (.tuple #[.agg (d2.d.cells d2.ts.length).toArray, .int .i64 (plS P.ks P.rr r t i).2]) ∧ (Lives F d2 ∧ d2.tr = gtT P.ks P.rr r t i ∧ jk F) ∧ Mg w0 w' (EE ++ (P.pcs b ++ (F ++ X))) := by
 refine (zcd (hP.sr M) hP.ws).mono ?_
 rintro e w' ⟨d2, h1, ⟨h2, h3, h4⟩, h5⟩
 exact ⟨d2, made w w', h1, ⟨qje h2 h4, h3, qti⟩, zle (M.freeze (qac hP hE) h5)⟩
theorem zvc (hP : PL w0 X P) (r t : Int) (M : Mg w0 w (EE ++ (P.pcs b ++ X))) : Calls Tryz.prog 18 #[.pointer (some ⟨b, 0, none⟩), .int .i64 r, .int .i64 t] w fun e w' => e = .returned (.tuple #[.bool (isS P.ks P.rr r t).1, .int .i64 (isS P.ks P.rr r t).2]) ∧ Mg w0 w' (EE ++ (P.pcs b ++ X)) :=
 (zjh (hP.sr M) hP.ws).mono fun e w' h => ⟨h.1, M.call h.2⟩
theorem zli (hP : PL w0 X P) (r : Int) (M : Mg w0 w (EE ++ (P.pcs b ++ X))) : Calls Tryz.prog 20 #[.pointer (some ⟨b, 0, none⟩), .int .i64 r] w fun e w' => e = .returned (.tuple #[.int .i64 (yf P.ks P.rr r).1, .int .i64 (yf P.ks P.rr r).2]) ∧ Mg w0 w' (EE ++ (P.pcs b ++ X)) :=
 (qze (hP.sr M) hP.ws).mono fun e w' h => ⟨h.1, M.call h.2⟩
theorem qwh (hP : PL w0 X P) (t : Int) {z : Int × Int} (hz : flS P.ks t = z) (M : Mg w0 w (EE ++ (P.pcs b ++ X))) : Calls Tryz.prog 22 #[.pointer (some ⟨b, 0, none⟩), .int .i64 t] w fun e w' => e = .returned (.tuple #[.int .i64 z.1, .int .i64 z.2]) ∧ Mg w0 w' (EE ++ (P.pcs b ++ X)) := by
 subst hz
 exact (qzd (hP.sr M) hP.ws).mono fun e w' h => ⟨h.1, M.call h.2⟩
theorem zqf (hP : PL w0 X P) (hE : jk EE) (t : Int) {q : Bool} (hq : okT P.ks.length t = q) (M : Mg w0 w (EE ++ (P.pcs b ++ X))) : Calls Tryz.prog 23 #[.pointer (some ⟨b, 0, none⟩), .int .i64 t] w fun e w' => ∃ (t2 : Ty) (F : List Ck), e = .returned (.tuple #[.agg #[.string t2.nm, .int .i64 t2.par, .slice t2.fo t2.fs.length t2.fc, .slice t2.mo t2.ms.length t2.mc, .bool t2.sl, .bool t2.op, .string t2.ui], .int .i64 (if q = true then 0 else 7)]) ∧ ((q = true → P.ks[t.toNat]? = some t2.k) ∧ (∀ w9, Mg w0 w9 F → TyR w9 t2) ∧ jk F) ∧ Mg w0 w' (EE ++ (P.pcs b ++ (F ++ X))) := by
 refine (zob (hP.sr M) hP.ws).mono ?_
 rintro e w' ⟨t2, ev, rfl, h2, h3⟩
 rw [Pst.ks, List.length_map] at hq
 refine ⟨t2, [.row 9 1 (.slice t2.fo t2.fs.length t2.fc) t2.fs.length (E.strC t2.fs), .row 4 1 (.slice t2.mo t2.ms.length t2.mc) t2.ms.length (E.boolC t2.ms)], ?_, ⟨?_, fun w9 h9 => ⟨E.rc_own (h9.has 0 rfl), E.rc_own (h9.has 1 rfl)⟩, qg (by simp) (qg (by simp) (ql qn))⟩, zle (M.both h3 (qac hP hE) (qg (by simp) (qg (by simp) (ql qn))))⟩
 ·
  rcases h2 with ⟨a1, rfl, _⟩ | ⟨a1, rfl⟩
  ·
   rw [show q = true from hq.symm.trans a1, if_pos rfl]
  ·
   rw [show q = false from hq.symm.trans a1, if_neg (by decide)]
 ·
  intro h
  rcases h2 with ⟨_, _, a2⟩ | ⟨a1, _⟩
  ·
   exact a2
  ·
   rw [hq, h] at a1; cases a1
theorem zlj {Pr : Program} {l : List (Nat × Value)} {dst : Option Tmp} {ty : TypeId} {pos : String} {after : Array Edge} {guard : Option (Nat × Bool)} (hD : DL w0 X D) (hX : Mg w0 w X) {i b o : Nat} {y : Ty} (hi : D.ts[i]? = some y) (hso : D.tz = some ⟨b, o, none⟩) {t : TypeId} (ht : IsS Pr t 7) {x : Operand} (hx : ev l x = some (.pointer (some ⟨b, o + i * 7, none⟩))) : Does Pr l ⟨dst, .load t x, ty, pos, after, guard⟩ w (.agg #[.string y.nm, .int .i64 y.par, .slice y.fo y.fs.length y.fc, .slice y.mo y.ms.length y.mc, .bool y.sl, .bool y.op, .string y.ui]) w := by
 obtain ⟨b', o', e1, h1⟩ := yx ux (by decide) (hD w hX).1.row hi
 rw [hso] at e1
 cases e1
 exact zeb h1 ht hx rfl
end
end Go.Proofs.YtokgmpjblnpjmaaGreatDoor.G
