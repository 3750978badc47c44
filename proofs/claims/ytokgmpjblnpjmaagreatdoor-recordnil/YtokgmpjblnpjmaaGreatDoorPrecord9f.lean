/- Walks of the law of a nil store. What a bound on the bulk of what is read gives. Transcoders that come in as arguments. Rows of bytes that come in as arguments; the first part of a row, and of a text. Data that come in as arguments. Record types, and scripts over a store, that come in as arguments. -/
import Derived.Test.YtokgmpjblnpjmaaGreatDoorPrecord9e
import Derived.Test.YtokgmpjblnpjmaaGreatDoorRows
import Derived.Test.YtokgmpjblnpjmaaGreatDoorPrecord9b
import Derived.Test.YtokgmpjblnpjmaaGreatDoorProg
import Derived.WalkKit
import Derived.ProofKit
import Derived.OpenShut
import Derived.ChangeOld
import Derived.Lib.SmallJoins
import Derived.Deep.Strs
import Derived.Test.YtokgmpjblnpjmaaGreatDoorPrecord9a
import Derived.Test.YtokgmpjblnpjmaaGreatDoorPrecord9d
import Derived.Deep.Slices
import Derived.Deep.SlicePairs
import Derived.DataElems
namespace Go.Proofs.YtokgmpjblnpjmaaGreatDoor.G
open Go.RowKit
set_option linter.unusedVariables false
set_option linter.unusedSimpArgs false
set_option maxRecDepth 100000
theorem RcG_is1_3 : Is1 Tryz.prog 3 := ⟨⟨_, Tryz.underlying3, rfl⟩, by kernel_rfl⟩
theorem RcG_fld_42_1 : FieldAt Tryz.prog 42 1 1 := ⟨_, _, Tryz.underlying42, rfl, rfl, by kernel_rfl⟩
theorem RcG_isS_33 : IsS Tryz.prog 33 7 := ⟨⟨_, Tryz.underlying33⟩, by kernel_rfl⟩
theorem RcG_isS_42 : IsS Tryz.prog 42 11 := ⟨⟨_, Tryz.underlying42⟩, by kernel_rfl⟩
theorem new_any {w : World} : Calls Tryz.prog 7 #[] w fun e w' => ∃ g, e = .returned (.pointer (some ⟨g, 0, none⟩)) ∧ Mg w w' ((⟨none, 0, [], none, 0, []⟩ : Pst).pcs g) := by
 have M : Mg w w ([]) := Mg.start w
 refine qm (l := []) Tryz.func7 rfl Tryz.ntmps7 rfl rfl ?_
 intro Q hret hnorm hP a A
 refine wsk fun K1 hK1 => wrl (sda A λa A↦?_)
 refine qa (hK1 _ _ (wsk fun K2 hK2 => wrl (sdo (v := .agg #[.slice none 0 0, .slice none 0 0]) A (zk rfl (fun w => by kernel_rfl)) λa A↦?_)))
 refine zp (vs := [.slice none 0 0, .slice none 0 0]) (t := 73) A M rfl rfl rfl pg (zh rfl rfl) (by decide) ?_
 intro g3 w4 M a A
 refine sda A λa A↦?_
 refine qa (hK2 _ _ (wp_ret (hret _ _ (en1 A rfl (qe rfl) ?_))))
 have hM2 := (M.nilRow (qi (by simp) (qk qp)) 86 2).nilRow (qi (by simp) (qi (by simp) (qk qp))) 33 7
 exact ⟨_, rfl, hM2.perm ((List.Perm.cons _ (List.Perm.swap _ _ _)).trans (List.Perm.swap _ _ _))⟩
theorem pcs0_nob (g : Nat) : jb ((⟨none, 0, [], none, 0, []⟩ : Pst).pcs g) := xw (head_nob _ _) (qgh _)
theorem pl0 (w0 : World) : PL w0 [] (⟨none, 0, [], none, 0, []⟩ : Pst) := ⟨fun t h => (by cases h), fun r h => (by cases h), ws_nil, fun c h => (by cases h)⟩
def awK : TK := ⟨⟨#[112]⟩, -1, [⟨#[120]⟩], [true], false, false, ⟨#[]⟩⟩
theorem aw_ty : tyS [] awK = (0, 0, true) := by decide +kernel
theorem aw_mk : mkS [awK] 0 0 [kT 2 1] = (0, 0, true) := by decide +kernel
theorem aw_pl : plS [awK] [(0, [kT 2 1])] 0 0 0 = (0, 0) := by decide +kernel
theorem aw_gt : gtT [awK] [(0, [kT 2 1])] 0 0 0 = kT 2 1 := by unfold gtT; rw [aw_pl]; rfl
theorem p_type1 {w0 w : World} {b : Nat} {P : Pst} {EE X : List Ck} (hP : PL w0 X P) (hE : jb EE) {u : Ty} (hU : ∀ w1, Mg w0 w1 EE → TyR w1 u) (hul : u.fs.length ≤ 1000000) (hum : u.ms.length ≤ 1000000) (hz1 : u.nm.size ≤ 281474976710656) (hz2 : u.ui.size ≤ 281474976710656) (huz : ∀ s ∈ u.fs, s.size ≤ 281474976710656) {a : Int} (hz : tyS P.ks u.k = (a, 0, true)) (M : Mg w0 w (EE ++ (P.pcs b ++ X))) : Calls Tryz.prog 8 #[.pointer (some ⟨b, 0, none⟩), .agg #[.string u.nm, .int .i64 u.par, .slice u.fo u.fs.length u.fc, .slice u.mo u.ms.length u.mc, .bool u.sl, .bool u.op, .string u.ui]] w fun e w' => ∃ (P' : Pst) (F : List Ck), e = .returned (.tuple #[.int .i64 a, .int .i64 0]) ∧ (PL w0 (F ++ X) P' ∧ P'.ks = P.ks ++ [u.k] ∧ P'.rr = P.rr) ∧ Mg w0 w' (EE ++ (P'.pcs b ++ (F ++ X))) := by
 have h := p_type hP hE hU hul hum hz1 hz2 huz M
 rw [hz] at h
 exact h
theorem p_make1 {w0 w : World} {b : Nat} {P : Pst} {EE X : List Ck} (hP : PL w0 X P) (hE : jb EE) {vo : Option Addr} {vc : Nat} {vs : List Dt} (hV : ∀ w1, Mg w0 w1 EE → Rt w1 vo vs ∧ ∀ d ∈ vs, d.rd w1) (hvb : Tr.bulks (vs.map Dt.tr) ≤ 1000000000) (hT : ∀ w1, Mg w0 w1 EE → Tabs8 w1) (t : Int) {ks : List TK} {n : Nat} {trs : List Tr} {a : Int} (hks : P.ks = ks) (hn : P.rs.length = n) (htr : vs.map Dt.tr = trs) (hz : mkS ks n t trs = (a, 0, true)) (M : Mg w0 w (EE ++ (P.pcs b ++ X))) : Calls Tryz.prog 10 #[.pointer (some ⟨b, 0, none⟩), .int .i64 t, .slice vo vs.length vc] w fun e w' => ∃ (P' : Pst) (F : List Ck), e = .returned (.tuple #[.int .i64 a, .int .i64 0]) ∧ (PL w0 (F ++ X) P' ∧ P'.ks = ks ∧ P'.rr = P.rr ++ [(t.toNat, trs)]) ∧ Mg w0 w' (EE ++ (P'.pcs b ++ (F ++ X))) := by
 have h := p_make (vc := vc) hP hE hV hvb hT t M
 rw [hks, hn, htr, hz] at h
 exact h
theorem p_get {w0 w : World} {b : Nat} {P : Pst} {EE X : List Ck} (hP : PL w0 X P) (r t i : Int) {ks : List TK} {rr : List (Nat × List Tr)} (hks : P.ks = ks) (hrr : P.rr = rr) (M : Mg w0 w (EE ++ (P.pcs b ++ X))) : Calls Tryz.prog 13 #[.pointer (some ⟨b, 0, none⟩), .int .i64 r, .int .i64 t, .int .i64 i] w fun e w' => ∃ d2 : Dt, e = .returned (.tuple #[.agg (d2.d.cells d2.ts.length).toArray, .int .i64 (plS ks rr r t i).2]) ∧ (d2.rd w' ∧ d2.tr = gtT ks rr r t i) ∧ Mg w0 w' (EE ++ (P.pcs b ++ X)) := by
 subst hks hrr
 refine (get_any (hP.sr M) hP.ws).mono ?_
 rintro e w' ⟨d2, h1, h2, h3⟩
 exact ⟨d2, h1, ⟨h2.1, h2.2.1⟩, M.call h3⟩
theorem awake_any {w : World} (hT : Tabs8 w) : Calls Tryz.prog 6 #[] w fun e w' => e = .returned (.bool true) ∧ Below w.heap.size w w' := by
 have M : Mg w w ([]) := Mg.start w
 refine qm (l := []) Tryz.func6 rfl Tryz.ntmps6 rfl rfl ?_
 intro Q hret hnorm hP a A
 refine wsk fun K1 hK1 => wrl (sda A λa A↦?_)
 refine qa (hK1 _ _ (wsk fun K2 hK2 => wrl (sct A (ef rfl rfl) (new_any) ?_)))
 rintro _ w5 ⟨g4, rfl, hM3⟩
 replace M : Mg w w5 (((⟨none, 0, [], none, 0, []⟩ : Pst).pcs g4 ++ [])) := (show Mg _ _ ([] ++ ((⟨none, 0, [], none, 0, []⟩ : Pst).pcs g4 ++ [])) from (by rw [List.append_nil]; exact (M.both hM3 (qk qp) (pcs0_nob g4)).perm List.perm_append_comm))
 refine ⟨_, rfl, ?_⟩
 intro a A
 refine sda A λa A↦?_
 refine qa (hK2 _ _ (wsk fun K6 hK6 => wsk fun K7 hK7 => wrl (sdm A λa A↦?_)))
 refine sdo (v := .bool false) A (qh rfl rfl (fun w => by kernel_rfl)) λa A↦?_
 refine qa (hK7 _ _ (wp_cond_false (A.ev rfl) ?_))
 refine wp_skip (hK6 _ _ (wsk fun K8 hK8 => wrl (sdm A λa A↦?_)))
 refine uk (e := 9) (sz := 1) (m := 1) (vs := E.strC [⟨#[120]⟩]) A M rfl rfl rfl (qz rfl (by kernel_rfl)) rfl rfl (.inl (by decide)) ?_
 intro g9 w10 M a A
 refine uk (e := 4) (sz := 1) (m := 1) (vs := E.boolC [true]) A M rfl rfl rfl (qz rfl (by kernel_rfl)) rfl rfl (.inl (by decide)) ?_
 intro g11 w12 M a A
 refine sdo (v := .agg #[.string (⟨#[112]⟩), .int .i64 (-1), .slice (some ⟨g9, 0, none⟩) 1 1, .slice (some ⟨g11, 0, none⟩) 1 1, .bool false, .bool false, .string (⟨#[]⟩)]) A (zk rfl (fun w => by kernel_rfl)) λa A↦?_
 refine sct A (ef rfl rfl) (p_type1 (EE := [.row 4 1 (.slice (some ⟨g11, 0, none⟩) 1 1) 1 (E.boolC [true]), .row 9 1 (.slice (some ⟨g9, 0, none⟩) 1 1) 1 (E.strC [⟨#[120]⟩])]) (pl0 w) (qi (by simp) (qi (by simp) (qk qp))) (u := (⟨⟨#[112]⟩, -1, some ⟨g9, 0, none⟩, 1, [⟨#[120]⟩], some ⟨g11, 0, none⟩, 1, [true], false, false, ⟨#[]⟩⟩ : Ty)) (fun w1 h1 => ⟨E.rc_own (h1.has 1 rfl), E.rc_own (h1.has 0 rfl)⟩) (show 1 ≤ 1000000 by decide) (show 1 ≤ 1000000 by decide) (show (⟨#[112]⟩ : ByteArray).size ≤ 281474976710656 by decide) (show (⟨#[]⟩ : ByteArray).size ≤ 281474976710656 by decide) (fun s hs => by rw [List.mem_singleton.1 hs]; decide) aw_ty M) ?_
 rintro _ w14 ⟨P1, F1, rfl, ⟨hP1, hk1, hr1⟩, hM13⟩
 replace M : Mg w w14 (.row 4 1 (.slice (some ⟨g11, 0, none⟩) 1 1) 1 (E.boolC [true]) :: .row 9 1 (.slice (some ⟨g9, 0, none⟩) 1 1) 1 (E.strC [⟨#[120]⟩]) :: (P1.pcs g4 ++ (F1 ++ []))) := hM13
 refine ⟨_, rfl, ?_⟩
 intro a A
 refine sdm A λa A↦?_
 iterate 2 refine sdo A (za (vs := [.int .i64 0, .int .i64 0]) rfl rfl) λa A↦?_
 iterate 2 refine sda A λa A↦?_
 refine qa (hK8 _ _ (wsk fun K15 hK15 => wrl ?_))
 iterate 2 refine sdm A λa A↦?_
 refine sdo (v := .agg ((kD 2 1).d.cells (kD 2 1).ts.length).toArray) A (zk rfl (fun w => by kernel_rfl)) λa A↦?_
 refine uk (e := 42) (sz := 11) (m := 1) (vs := cellsOf [(kD 2 1)]) A M rfl rfl rfl (qz rfl (by kernel_rfl)) rfl rfl (.inl (by decide)) ?_
 intro g16 w17 M a A
 refine sct A (ef rfl rfl) (p_make1 (EE := [.row 42 11 (.slice (some ⟨g16, 0, none⟩) 1 1) 1 (cellsOf [(kD 2 1)]), .row 4 1 (.slice (some ⟨g11, 0, none⟩) 1 1) 1 (E.boolC [true]), .row 9 1 (.slice (some ⟨g9, 0, none⟩) 1 1) 1 (E.strC [⟨#[120]⟩])]) (vs := [kD 2 1]) hP1 (qi (by simp) (qi (by simp) (qi (by simp) (qk qp)))) (fun w1 h1 => ⟨(qhh (h1.has 0 rfl)).1, fun d hd => by rw [List.mem_singleton.1 hd]; exact kD_rd _ (by decide) (by decide) (by decide) (by decide)⟩) (by decide +kernel) (fun w1 h1 => hT.below h1.bel) 0 (show P1.ks = [awK] from hk1) (by have h8 := congrArg List.length hr1; rw [Pst.rr, List.length_map] at h8; exact h8) (show [kD 2 1].map Dt.tr = [kT 2 1] by rw [List.map_cons, List.map_nil, kD_tr]) aw_mk M) ?_
 rintro _ w19 ⟨P2, F2, rfl, ⟨hP2, hk2, hr2⟩, hM18⟩
 replace M : Mg w w19 (.row 42 11 (.slice (some ⟨g16, 0, none⟩) 1 1) 1 (cellsOf [(kD 2 1)]) :: .row 4 1 (.slice (some ⟨g11, 0, none⟩) 1 1) 1 (E.boolC [true]) :: .row 9 1 (.slice (some ⟨g9, 0, none⟩) 1 1) 1 (E.strC [⟨#[120]⟩]) :: (P2.pcs g4 ++ (F2 ++ (F1 ++ [])))) := hM18
 refine ⟨_, rfl, ?_⟩
 intro a A
 refine sdm A λa A↦?_
 iterate 2 refine sdo A (za (vs := [.int .i64 0, .int .i64 0]) rfl rfl) λa A↦?_
 iterate 2 refine sda A λa A↦?_
 refine qa (hK15 _ _ (wsk fun K20 hK20 => wrl ?_))
 iterate 3 refine sdm A λa A↦?_
 refine sct A (ef rfl rfl) (p_get (EE := [.row 42 11 (.slice (some ⟨g16, 0, none⟩) 1 1) 1 (cellsOf [(kD 2 1)]), .row 4 1 (.slice (some ⟨g11, 0, none⟩) 1 1) 1 (E.boolC [true]), .row 9 1 (.slice (some ⟨g9, 0, none⟩) 1 1) 1 (E.strC [⟨#[120]⟩])]) hP2 0 0 0 hk2 (show P2.rr = [(0, [kT 2 1])] by rw [hr2, hr1]; rfl) M) ?_
 rintro _ w22 ⟨d2, rfl, ⟨hd2, hdt2⟩, hM21⟩
 have hn2 : d2.d.n = 1 := tr_n (u := kD 2 1) (hdt2.trans (aw_gt.trans (kD_tr 2 1).symm))
 replace M : Mg w w22 (.row 42 11 (.slice (some ⟨g16, 0, none⟩) 1 1) 1 (cellsOf [(kD 2 1)]) :: .row 4 1 (.slice (some ⟨g11, 0, none⟩) 1 1) 1 (E.boolC [true]) :: .row 9 1 (.slice (some ⟨g9, 0, none⟩) 1 1) 1 (E.strC [⟨#[120]⟩]) :: (P2.pcs g4 ++ (F2 ++ (F1 ++ [])))) := hM21
 refine ⟨_, rfl, ?_⟩
 intro a A
 refine sdm A λa A↦?_
 iterate 2 refine sdo A (za (vs := [.agg (d2.d.cells d2.ts.length).toArray, .int .i64 0]) rfl rfl) λa A↦?_
 refine zp (vs := (zm.d.cells zm.ts.length)) (t := 42) A M rfl rfl rfl pg (zg (z := .agg (zm.d.cells zm.ts.length).toArray) (by kernel_rfl) rfl) (by decide) ?_
 intro g23 w24 M a A
 refine zf (us := (d2.d.cells d2.ts.length)) (L' := (.obj g23 (.cells (d2.d.cells d2.ts.length).toArray 42) :: .row 42 11 (.slice (some ⟨g16, 0, none⟩) 1 1) 1 (cellsOf [(kD 2 1)]) :: .row 4 1 (.slice (some ⟨g11, 0, none⟩) 1 1) 1 (E.boolC [true]) :: .row 9 1 (.slice (some ⟨g9, 0, none⟩) 1 1) 1 (E.strC [⟨#[120]⟩]) :: (P2.pcs g4 ++ (F2 ++ (F1 ++ []))))) A M rfl rfl (qy rfl rfl rfl (by kernel_rfl) M 0 rfl rfl rfl) 0 rfl rfl rfl ?_
 intro w25 M
 refine sda A λa A↦?_
 refine qa (hK20 _ _ (wsk fun K26 hK26 => wrl (sdm A λa A↦?_)))
 refine sdo (v := .bool true) A (qh rfl rfl (fun w => by kernel_rfl)) λa A↦?_
 iterate 2 refine sdm A λa A↦?_
 refine sdo (v := .bool true) A (qh rfl rfl (fun w => by kernel_rfl)) λa A↦?_
 refine sdk (v := .bool true) A λa A↦?_
 iterate 2 refine sdm A λa A↦?_
 refine sdo (v := .bool true) A (qh rfl rfl (fun w => by kernel_rfl)) λa A↦?_
 refine sdk (v := .bool true) A λa A↦?_
 refine sdm A λa A↦?_
 refine sdo (v := .pointer (some ⟨g23, 1, none⟩)) A (qb RcG_fld_42_1 rfl rfl) λa A↦?_
 refine sdo A (qj M RcG_is1_3 rfl 0 rfl rfl) λa A↦?_
 refine sdo (v := .bool true) A (qh rfl rfl (fun w => (qw w).trans (by rw [show ((d2.d.n == 1)) = true from (by rw [hn2]; rfl)]))) λa A↦?_
 refine sdk (v := .bool true) A λa A↦?_
 refine sda A λa A↦?_
 refine qa (hK26 _ _ (wp_ret (hret _ _ (en1 A rfl (qe rfl) ?_))))
 exact ⟨rfl, M.bel⟩
theorem qbd {w : World} {r t i : Int} {u : Ty} {v : Dt} (hT : Tabs8 w) : Calls Tryz.prog 5 #[.int .i64 r, .int .i64 t, .int .i64 i, .agg #[.string u.nm, .int .i64 u.par, .slice u.fo u.fs.length u.fc, .slice u.mo u.ms.length u.mc, .bool u.sl, .bool u.op, .string u.ui], .agg (v.d.cells v.ts.length).toArray] w fun e w' => e = .returned (.bool true) ∧ Below w.heap.size w w' := by
 have M : Mg w w ([]) := Mg.start w
 refine qm (l := [(0, .int .i64 r), (1, .int .i64 t), (2, .int .i64 i), (3, .agg #[.string u.nm, .int .i64 u.par, .slice u.fo u.fs.length u.fc, .slice u.mo u.ms.length u.mc, .bool u.sl, .bool u.op, .string u.ui]), (4, .agg (v.d.cells v.ts.length).toArray)]) Tryz.func5 rfl Tryz.ntmps5 rfl rfl ?_
 intro Q hret hnorm hP a A
 refine wsk fun K1 hK1 => wrl (zp (vs := [.string u.nm, .int .i64 u.par, .slice u.fo u.fs.length u.fc, .slice u.mo u.ms.length u.mc, .bool u.sl, .bool u.op, .string u.ui]) (t := 33) A M rfl rfl rfl pg (zh rfl rfl) (by decide) ?_)
 intro g2 w3 M a A
 refine zp (vs := (v.d.cells v.ts.length)) (t := 42) A M rfl rfl rfl pg (zh rfl rfl) (by decide) ?_
 intro g4 w5 M a A
 refine sda A λa A↦?_
 refine qa (hK1 _ _ (wsk fun K6 hK6 => wrl (sda A λa A↦?_)))
 refine qa (hK6 _ _ (wsk fun K7 hK7 => wrl (sdm A λa A↦?_)))
 refine sdo A (zu M RcG_isS_33 rfl 1 rfl (cs := [.string u.nm, .int .i64 u.par, .slice u.fo u.fs.length u.fc, .slice u.mo u.ms.length u.mc, .bool u.sl, .bool u.op, .string u.ui]) rfl rfl) λa A↦?_
 refine gcl A M (ef rfl rfl) (type_nil (u := u)) fun w9 hb8 M a A => ?_
 refine sdm A λa A↦?_
 iterate 2 refine sdo A (za (vs := [.int .i64 0, .int .i64 1]) rfl rfl) λa A↦?_
 iterate 2 refine sda A λa A↦?_
 refine qa (hK7 _ _ (wsk fun K10 hK10 => wrl ?_))
 iterate 2 refine sdm A λa A↦?_
 refine gcl A M (ef rfl rfl) (rtd_nil) fun w12 hb11 M a A => ?_
 refine sdm A λa A↦?_
 iterate 2 refine sdo A (za (vs := [.agg #[.string (⟨#[]⟩), .int .i64 0, .slice none 0 0, .slice none 0 0, .bool false, .bool false, .string (⟨#[]⟩)], .int .i64 1]) rfl rfl) λa A↦?_
 refine zp (vs := [.string (⟨#[]⟩), .int .i64 0, .slice none 0 0, .slice none 0 0, .bool false, .bool false, .string (⟨#[]⟩)]) (t := 33) A M rfl rfl rfl pg (zg (z := .agg #[.string (⟨#[]⟩), .int .i64 0, .slice none 0 0, .slice none 0 0, .bool false, .bool false, .string (⟨#[]⟩)]) (by kernel_rfl) rfl) (by decide) ?_
 intro g13 w14 M a A
 refine zf (us := [.string (⟨#[]⟩), .int .i64 0, .slice none 0 0, .slice none 0 0, .bool false, .bool false, .string (⟨#[]⟩)]) (L' := (.obj g13 (.cells #[.string (⟨#[]⟩), .int .i64 0, .slice none 0 0, .slice none 0 0, .bool false, .bool false, .string (⟨#[]⟩)] 33) :: .obj g4 (.cells (v.d.cells v.ts.length).toArray 42) :: .obj g2 (.cells #[.string u.nm, .int .i64 u.par, .slice u.fo u.fs.length u.fc, .slice u.mo u.ms.length u.mc, .bool u.sl, .bool u.op, .string u.ui] 33) :: [])) A M rfl rfl (qy rfl rfl rfl (by kernel_rfl) M 0 rfl rfl rfl) 0 rfl rfl rfl ?_
 intro w15 M
 refine sda A λa A↦?_
 refine qa (hK10 _ _ (wsk fun K16 hK16 => wrl ?_))
 iterate 2 refine sdm A λa A↦?_
 refine gcl A M (ef rfl rfl) (qjf) fun w18 hb17 M a A => ?_
 refine sdm A λa A↦?_
 iterate 2 refine sdo A (za (vs := [.int .i64 0, .int .i64 1]) rfl rfl) λa A↦?_
 iterate 2 refine sda A λa A↦?_
 refine qa (hK16 _ _ (wsk fun K19 hK19 => wrl ?_))
 iterate 2 refine sdm A λa A↦?_
 refine sdo A (zu M RcG_isS_42 rfl 1 rfl (cs := (v.d.cells v.ts.length)) rfl rfl) λa A↦?_
 refine uk (e := 42) (sz := 11) (m := 1) (vs := cellsOf [v]) A M rfl rfl rfl (qz rfl (by kernel_rfl)) rfl rfl (.inl (by decide)) ?_
 intro g20 w21 M a A
 refine gcl A M (ef rfl rfl) (make_nil (vs := [v])) fun w23 hb22 M a A => ?_
 refine sdm A λa A↦?_
 iterate 2 refine sdo A (za (vs := [.int .i64 0, .int .i64 1]) rfl rfl) λa A↦?_
 iterate 2 refine sda A λa A↦?_
 refine qa (hK19 _ _ (wsk fun K24 hK24 => wrl ?_))
 iterate 3 refine sdm A λa A↦?_
 refine gcl A M (ef rfl rfl) (is_nil) fun w26 hb25 M a A => ?_
 refine sdm A λa A↦?_
 iterate 2 refine sdo A (za (vs := [.bool false, .int .i64 1]) rfl rfl) λa A↦?_
 iterate 2 refine sda A λa A↦?_
 refine qa (hK24 _ _ (wsk fun K27 hK27 => wrl ?_))
 iterate 4 refine sdm A λa A↦?_
 refine gcl A M (ef rfl rfl) (get_nil) fun w29 hb28 M a A => ?_
 refine sdm A λa A↦?_
 iterate 2 refine sdo A (za (vs := [.agg (zm.d.cells zm.ts.length).toArray, .int .i64 1]) rfl rfl) λa A↦?_
 refine zp (vs := (zm.d.cells zm.ts.length)) (t := 42) A M rfl rfl rfl pg (zg (z := .agg (zm.d.cells zm.ts.length).toArray) (by kernel_rfl) rfl) (by decide) ?_
 intro g30 w31 M a A
 refine zf (us := (zm.d.cells zm.ts.length)) (L' := (.obj g30 (.cells (zm.d.cells zm.ts.length).toArray 42) :: .row 42 11 (.slice (some ⟨g20, 0, none⟩) 1 1) 1 (cellsOf [v]) :: .obj g13 (.cells #[.string (⟨#[]⟩), .int .i64 0, .slice none 0 0, .slice none 0 0, .bool false, .bool false, .string (⟨#[]⟩)] 33) :: .obj g4 (.cells (v.d.cells v.ts.length).toArray 42) :: .obj g2 (.cells #[.string u.nm, .int .i64 u.par, .slice u.fo u.fs.length u.fc, .slice u.mo u.ms.length u.mc, .bool u.sl, .bool u.op, .string u.ui] 33) :: [])) A M rfl rfl (qy rfl rfl rfl (by kernel_rfl) M 0 rfl rfl rfl) 0 rfl rfl rfl ?_
 intro w32 M
 refine sda A λa A↦?_
 refine qa (hK27 _ _ (wsk fun K33 hK33 => wrl ?_))
 iterate 2 refine sdm A λa A↦?_
 refine gcl A M (ef rfl rfl) (qjg) fun w35 hb34 M a A => ?_
 refine sdm A λa A↦?_
 iterate 2 refine sdo A (za (vs := [.int .i64 0, .int .i64 1]) rfl rfl) λa A↦?_
 iterate 2 refine sda A λa A↦?_
 refine qa (hK33 _ _ (wsk fun K36 hK36 => wrl (sct A (ef rfl rfl) (awake_any (hT.below M.bel)) ?_)))
 rintro _ w38 ⟨rfl, hb37⟩
 replace M := M.call hb37
 refine ⟨_, rfl, ?_⟩
 intro a A
 iterate 2 refine sdm A λa A↦?_
 refine sdo (v := .bool true) A (qh rfl rfl (fun w => by kernel_rfl)) λa A↦?_
 refine sdk (v := .bool true) A λa A↦?_
 iterate 2 refine sdm A λa A↦?_
 refine sdo (v := .bool true) A (qh rfl rfl (fun w => by kernel_rfl)) λa A↦?_
 refine sdk (v := .bool true) A λa A↦?_
 iterate 2 refine sdm A λa A↦?_
 refine sdo (v := .bool true) A (qh rfl rfl (fun w => by kernel_rfl)) λa A↦?_
 refine sdk (v := .bool true) A λa A↦?_
 iterate 2 refine sdm A λa A↦?_
 refine sdo (v := .bool true) A (qh rfl rfl (fun w => by kernel_rfl)) λa A↦?_
 refine sdk (v := .bool true) A λa A↦?_
 iterate 2 refine sdm A λa A↦?_
 refine sdo (v := .bool true) A (qh rfl rfl (fun w => by kernel_rfl)) λa A↦?_
 refine sdk (v := .bool true) A λa A↦?_
 iterate 2 refine sdm A λa A↦?_
 refine sdo (v := .bool true) A (qh rfl rfl (fun w => by kernel_rfl)) λa A↦?_
 refine sdk (v := .bool true) A λa A↦?_
 iterate 2 refine sdm A λa A↦?_
 refine sdo (v := .bool true) A (qh rfl rfl (fun w => by kernel_rfl)) λa A↦?_
 refine sdk (v := .bool true) A λa A↦?_
 iterate 5 refine sdm A λa A↦?_
 refine sdo A (zu M RcG_isS_42 rfl 3 rfl (cs := (v.d.cells v.ts.length)) rfl rfl) λa A↦?_
 refine gcl A M (ef rfl rfl) (set_nil (v := v)) fun w40 hb39 M a A => ?_
 refine sdo (v := .bool true) A (qh rfl rfl (fun w => by kernel_rfl)) λa A↦?_
 refine sdk (v := .bool true) A λa A↦?_
 refine sda A λa A↦?_
 refine qa (hK36 _ _ (wp_ret (hret _ _ (en1 A rfl (qe rfl) ?_))))
 exact ⟨rfl, M.bel⟩
end Go.Proofs.YtokgmpjblnpjmaaGreatDoor.G
namespace Go.Proofs.YtokgmpjblnpjmaaGreatDoor
set_option linter.unusedVariables false

section
variable {H : Type}
theorem qgj (d : DataW H) : 0 < Rows.uptoBulk d := by
  unfold Rows.uptoBulk
  split <;> omega
theorem qha : ∀ l : List (DataW H), l.length ≤ Rows.uptoBulkAll l
  | [] => by simp
  | d :: l => by
    have h1 := qgj d
    have h2 := qha l
    simp only [Rows.uptoBulkAll, List.length_cons]
    omega
theorem ky (xs ys : List (DataW H)) : xs.length ≤ Rows.uptoBulk (.slice xs ys) := by
  have := qha xs
  simp only [Rows.uptoBulk]
  omega
end
end Go.Proofs.YtokgmpjblnpjmaaGreatDoor
namespace Go.Proofs.YtokgmpjblnpjmaaGreatDoor.G
open Go.ChangeShapes Go.WideShapes Go.ChangeAt Go.RowKit Go.Joins Go.Deep
set_option linter.unusedVariables false
set_option linter.unusedSimpArgs false
set_option maxRecDepth 100000

section
variable {H : Type} {enc : TypeId × Value → H} {W : World}
end
theorem bytes_row {w : World} {x : Addr} {len cap : Nat} {zs : List Int} (hl : len ≤ cap) (hz : zs.length = cap)
    (hc : ∀ i, i < zs.length → w.cell? (x.add i) = some (.int .u8 (zs.getD i 0))) (hw : ∀ n ∈ zs, (Lit.int .u8 n).wf = true) :
    ∃ l : List UInt8, l.length = len ∧ Rb w (some x) l := by
  have hbd : ∀ n ∈ zs, 0 ≤ n ∧ n < 256 := by
    intro n hn
    have := bounds_u8 (hw n hn)
    omega
  refine ⟨(zs.take len).map b8, by rw [List.length_map, List.length_take]; omega, ⟨fun hne => ?_⟩⟩
  have hlen : ((zs.take len).map b8).length = len := by rw [List.length_map, List.length_take]; omega
  have h0 : 0 < len := by
    apply Classical.byContradiction
    intro h
    have : len = 0 := by omega
    subst this
    simp at hne
  obtain ⟨b, off, spot⟩ := x
  have hspot : spot = none := by
    have := hc 0 (by omega)
    simp only [World.cell?, Addr.add] at this
    split at this
    · cases spot with
      | none => rfl
      | some s => simp at this
    · cases this
  subst hspot
  have hcj : ∀ j, j < len → w.cell? ⟨b, off + j, none⟩ = some (.int .u8 (((((zs.take len).map b8).getD j 0).toNat : Nat) : Int)) := by
    intro j hj
    have h1 := hc j (by omega)
    rw [Addr.add_lit] at h1
    rw [h1]
    have hjz : j < zs.length := by omega
    have h2 := hbd zs[j] (List.getElem_mem hjz)
    have e1 : zs.getD j 0 = zs[j] := by simp [hjz]
    have e2 : ((zs.take len).map b8).getD j 0 = b8 zs[j] := by simp [List.getD_eq_getElem?_getD, hj, hjz]
    rw [e1, e2, b8_val h2.1 h2.2]
  refine ⟨b, off, rfl, ?_, fun j hj => hcj j (by omega)⟩
  have := hcj 0 h0
  apply Classical.byContradiction
  intro h
  simp [World.cell?, Array.getElem?_eq_none (Nat.le_of_not_lt h)] at this
section
variable {H : Type} {enc : TypeId × Value → H} {W : World}
end
theorem Rb.take {w : World} {so : Option Addr} {l : List UInt8} (h : Rb w so l) (n : Nat) : Rb w so (l.take n) := by
  refine ⟨fun hne => ?_⟩
  obtain ⟨b, off, h1, h2, h3⟩ := h.pos (fun k => hne (by rw [k]; simp))
  refine ⟨b, off, h1, h2, fun j hj => ?_⟩
  rw [List.length_take] at hj
  rw [h3 j (by omega), List.getD_eq_getElem?_getD, List.getD_eq_getElem?_getD, List.getElem?_take_of_lt (by omega)]
section
variable {P : Program} {w : World} {l : List (Nat × Value)} {dst : Option Tmp} {ty : TypeId} {pos : String} {after : Array Edge} {guard : Option (Nat × Bool)}
end
def Nu.cells (y : Nu) : List Value := [.bool y.q.b1, .slice y.o1 y.q.t1.length y.c1, .slice y.o2 y.q.q1.length y.c2, .bool y.q.b2, .slice y.o3 y.q.t2.length y.c3, .slice y.o4 y.q.q2.length y.c4]
theorem cellD_lt {w : World} {b o : Nat} {v : Value} (h : w.cell? ⟨b, o, none⟩ = some v) : b < w.heap.size := by
  apply Classical.byContradiction
  intro k
  simp [World.cell?, Array.getElem?_eq_none (Nat.le_of_not_lt k)] at h
section
variable {H : Type} {enc : TypeId × Value → H} {W : World}
theorem kz (l : List (DataW H)) : Rows.uptoBulk (.agg l) = Rows.uptoBulkAll l + 1 := by simp only [Rows.uptoBulk]
theorem qhb {fuel : Nat} {v : Value} {x : DataW H × List MemPlace} (h : DataW.trod enc Tryz.prog W 0 (fun _ => true) true fuel 40 [v] = some x) : ∃ so cap l, v = .slice so (l : List UInt8).length cap ∧ Rb W so l ∧ l.length ≤ cap ∧ cap ≤ 9223372036854775807 ∧ l.length ≤ Rows.uptoBulk x.1 := by
  rcases open_ints Tryz.underlying40 Tryz.underlying5 (by kernel_rfl) h with ⟨hcs, _⟩ | ⟨x, l, c, zs, hcs, _, hl, hm, hz, hx, hcell, hwz⟩
  · simp only [List.cons.injEq, and_true] at hcs
    subst hcs
    exact ⟨none, 0, [], rfl, ⟨fun k => absurd rfl k⟩, Nat.le_refl _, by decide, Nat.zero_le _⟩
  · simp only [List.cons.injEq, and_true] at hcs
    subst hcs
    obtain ⟨us, e, ha⟩ := bytes_row hl (by simpa using hz) hcell hwz
    subst e
    subst hx
    refine ⟨_, _, us, rfl, ha, hl, hm, ?_⟩
    simp only [if_true] at hz
    refine Nat.le_trans ?_ (ky _ _)
    simp only [lits, List.length_map, List.length_take, List.length_drop]
    omega
theorem yw {fuel : Nat} {v : Value} {x : DataW H × List MemPlace} (h : DataW.trod enc Tryz.prog W 0 (fun _ => true) true fuel 35 [v] = some x) : ∃ ao c l, v = .slice ao (l : List Nat).length c ∧ Arg W ao c l ∧ l.length ≤ Rows.uptoBulk x.1 := by
  rcases open_ints Tryz.underlying35 Tryz.underlying116 (by kernel_rfl) h with ⟨hcs, _⟩ | ⟨x, l, c, zs, hcs, _, hl, hm, hz, hx, hcell, hwz⟩
  · cases hcs
    exact ⟨none, 0, [], rfl, arg_nil W, Nat.zero_le _⟩
  · cases hcs
    obtain ⟨us, e, ha⟩ := arg_row hl hm (by simpa using hz) hcell hwz
    subst e
    subst hx
    refine ⟨_, _, us, rfl, ha, ?_⟩
    simp only [if_true] at hz
    refine Nat.le_trans ?_ (ky _ _)
    simp only [lits, List.length_map, List.length_take, List.length_drop]
    omega
theorem qcd {fuel : Nat} {v0 v1 v2 : Value} {x : DataW H × List MemPlace} (h : DataW.trod enc Tryz.prog W 0 (fun _ => true) true fuel 37 [v0, v1, v2] = some x) : ∃ b o1 c1 l1 o2 c2 l2, v0 = .bool b ∧ v1 = .slice o1 (l1 : List Nat).length c1 ∧ v2 = .slice o2 (l2 : List Nat).length c2 ∧ Arg W o1 c1 l1 ∧ Arg W o2 c2 l2 ∧ l1.length + l2.length ≤ Rows.uptoBulk x.1 := by
  obtain ⟨y0, y1, y2, n, hx, _, h0, h1, h2⟩ := trod_struct3 Tryz.underlying37 h
  have e0 : Tryz.prog.cellsOf 4 = 1 := by kernel_rfl
  have e1 : Tryz.prog.cellsOf 35 = 1 := by kernel_rfl
  simp only [e0, e1, List.drop_zero, List.take_succ_cons, List.take_zero, List.drop_succ_cons] at h0 h1 h2
  obtain ⟨b, rfl⟩ := trod_bool h0
  obtain ⟨o1, c1, l1, rfl, a1, k1⟩ := yw h1
  obtain ⟨o2, c2, l2, rfl, a2, k2⟩ := yw h2
  refine ⟨b, o1, c1, l1, o2, c2, l2, rfl, rfl, rfl, a1, a2, ?_⟩
  rw [hx, kz]
  simp only [Rows.uptoBulkAll]
  omega
theorem trodU_num {fuel : Nat} {cs : List Value} {x : DataW H × List MemPlace} (hl : cs.length = 6) (h : DataW.trod enc Tryz.prog W 0 (fun _ => true) true fuel 39 cs = some x) :
    ∃ y : Nu, cs = y.cells ∧ y.nm W ∧ LenQ y.q ∧ y.q.t1.length + y.q.q1.length + (y.q.t2.length + y.q.q2.length) ≤ Rows.uptoBulk x.1 := by
  match cs, hl with
  | [v0, v1, v2, v3, v4, v5], _ =>
    obtain ⟨y0, y1, n, hx, _, h0, h1⟩ := trod_struct2 Tryz.underlying39 h
    have e : Tryz.prog.cellsOf 37 = 3 := by kernel_rfl
    simp only [e, List.drop_zero, List.take_succ_cons, List.take_zero, List.drop_succ_cons] at h0 h1
    obtain ⟨b1, o1, c1, l1, o2, c2, l2, rfl, rfl, rfl, a1, a2, k1⟩ := qcd h0
    obtain ⟨b2, o3, c3, l3, o4, c4, l4, rfl, rfl, rfl, a3, a4, k2⟩ := qcd h1
    refine ⟨⟨⟨b1, l1, l2, b2, l3, l4⟩, o1, c1, o2, c2, o3, c3, o4, c4⟩, rfl, ⟨⟨a1.rd, a1.nil, a1.caps⟩, ⟨a2.rd, a2.nil, a2.caps⟩, ⟨a3.rd, a3.nil, a3.caps⟩, ⟨a4.rd, a4.nil, a4.caps⟩⟩, ⟨a1.len, a2.len, a3.len, a4.len⟩, ?_⟩
    rw [hx, kz]
    simp only [Rows.uptoBulkAll]
    omega
/-- One datum, as it lies in a row of cells; and a list of them. -/
def OpenD (H : Type) (enc : TypeId × Value → H) (W : World) (fuel : Nat) : Prop := ∀ (cs : List Value) (x : DataW H × List MemPlace), DataW.trod enc Tryz.prog W 0 (fun _ => true) true fuel 42 cs = some x → ∃ t : Dt, cs = t.cells ∧ t.rd W ∧ t.tr.bulk ≤ Rows.uptoBulk x.1
theorem qjh {fuel : Nat} {v : Value} {x : DataW H × List MemPlace} (ih : ∀ n, n < fuel → OpenD H enc W n) (h : DataW.trod enc Tryz.prog W 0 (fun _ => true) true fuel 34 [v] = some x) :
    ∃ lo lc ts, v = .slice lo (ts : List Dt).length lc ∧ ts.length ≤ lc ∧ lc ≤ 9223372036854775807 ∧ Rt W lo ts ∧ (∀ t ∈ ts, t.rd W) ∧ Tr.bulks (ts.map Dt.tr) ≤ Rows.uptoBulk x.1 := by
  rcases DataW.trod_slice Tryz.underlying34 h with ⟨hcs, _⟩ | ⟨a, len, cap, elems, rest, n, hf, hcs, hx, _, hl, hm, hlen, hel, _, _⟩
  · simp only [List.cons.injEq, and_true] at hcs
    subst hcs
    exact ⟨none, 0, [], rfl, Nat.le_refl _, by decide, fun k => absurd rfl k, fun _ k => by simp at k, Nat.zero_le _⟩
  · simp only [List.cons.injEq, and_true] at hcs
    subst hcs
    rw [show Tryz.prog.cellsOf 42 = 11 from by kernel_rfl] at hel
    have each : ∀ i, ∃ t : Dt, i < len → t.rd W ∧ (∀ j v, t.cells[j]? = some v → W.cell? ((a.add (i * 11)).add j) = some v) ∧ ∃ y, elems[i]? = some y ∧ t.tr.bulk ≤ Rows.uptoBulk y.1 := by
      intro i
      by_cases hi : i < len
      · have h1 := hel i hi
        rw [List.getElem?_eq_getElem (by omega)] at h1
        obtain ⟨cs, h2, h3⟩ := Option.bind_eq_some_iff.1 h1
        obtain ⟨_, hlc, hcell⟩ := World.cells?_some h2
        obtain ⟨t, rfl, hr, hb⟩ := ih n (by omega) cs _ h3
        exact ⟨t, fun _ => ⟨hr, fun j v hj => by rw [hcell j (by have := (List.getElem?_eq_some_iff.1 hj).1; rw [hlc] at this; exact this)]; exact hj, _, List.getElem?_eq_getElem (by omega), hb⟩⟩
      · exact ⟨.mk ⟨0, 0, ⟨⟨false, [], [], false, [], []⟩, none, 0, none, 0, none, 0, none, 0⟩, ⟨#[]⟩, none, 0, [], none, 0⟩ [], fun k => absurd k hi⟩
    obtain ⟨F, hF⟩ := Classical.skolem.1 each
    have hget : ∀ (j : Nat) (q : Dt), ((List.range len).map F)[j]? = some q → j < len ∧ q = F j := by
      intro j q hq
      rw [List.getElem?_map] at hq
      obtain ⟨y, h1, h2⟩ := Option.map_eq_some_iff.1 hq
      obtain ⟨h3, h4⟩ := List.getElem?_eq_some_iff.1 h1
      rw [List.length_range] at h3
      rw [List.getElem_range] at h4
      subst h4
      exact ⟨h3, h2.symm⟩
    refine ⟨some a, cap, (List.range len).map F, by simp, by simpa using hl, hm, fun hne => ?_, fun t ht => ?_, ?_⟩
    · have hn : 0 < len := by
        apply Classical.byContradiction
        intro k
        exact hne (by rw [show len = 0 from by omega]; rfl)
      obtain ⟨b, off, spot⟩ := a
      have h0 := (hF 0 hn).2.1 0 _ rfl
      have hspot : spot = none := by simpa [Addr.add] using World.cell?_spot h0
      subst hspot
      refine ⟨b, off, rfl, fun i t hi => ?_⟩
      obtain ⟨hlt, rfl⟩ := hget i t hi
      have hat : ∀ j v, (F i).cells[j]? = some v → W.cell? ⟨b, off + i * 11 + j, none⟩ = some v := fun j v hj => by
        have := (hF i hlt).2.1 j v hj
        rwa [Addr.add_lit, Addr.add_lit] at this
      exact ⟨cellD_lt (hat 0 _ rfl), hat⟩
    · obtain ⟨j, hj⟩ := List.mem_iff_getElem?.1 ht
      obtain ⟨h1, rfl⟩ := hget j t hj
      exact (hF j h1).1
    · rw [hx]
      have key : ∀ m, m ≤ len → Tr.bulks (((List.range m).map F).map Dt.tr) ≤ Rows.uptoBulkAll ((elems.map (·.1)).take m) := by
        intro m
        induction m with
        | zero => intro _; simp [Tr.bulks]
        | succ m ih2 =>
          intro hm2
          have hs : ∀ (l : List Tr) (t : Tr), Tr.bulks (l ++ [t]) = Tr.bulks l + t.bulk := by
            intro l t
            induction l with
            | nil => simp [Tr.bulks]
            | cons u l ih3 => simp only [List.cons_append, Tr.bulks, ih3]; omega
          have hu : ∀ (l : List (DataW H)) (d : DataW H), Rows.uptoBulkAll (l ++ [d]) = Rows.uptoBulkAll l + Rows.uptoBulk d := by
            intro l d
            induction l with
            | nil => simp [Rows.uptoBulkAll]
            | cons u l ih3 => simp only [List.cons_append, Rows.uptoBulkAll, ih3]; omega
          obtain ⟨_, _, y, hy, hb⟩ := hF m (by omega)
          have := ih2 (by omega)
          rw [List.range_succ, List.map_append, List.map_append, List.take_add_one, List.getElem?_map, hy]
          simp only [List.map_cons, List.map_nil, Option.map_some, Option.toList_some]
          rw [hs, hu]
          omega
      have h1 := key len (Nat.le_refl _)
      rw [List.take_of_length_le (by rw [List.length_map]; omega)] at h1
      simp only [Rows.uptoBulk]
      omega
theorem open_dt : ∀ fuel, OpenD H enc W fuel := by
  intro fuel
  induction fuel using Nat.strongRecOn with
  | ind fuel ih =>
    intro cs x h
    obtain ⟨xs, n, hfu, hx, hl, hxl, hf⟩ := DataW.trod_struct Tryz.underlying42 h
    rw [show Tryz.prog.cellsOf 42 = 11 from by kernel_rfl] at hl
    match cs, hl with
    | [v0, v1, v2, v3, v4, v5, v6, v7, v8, v9, v10], _ =>
      match xs, hxl with
      | [x0, x1, x2, x3, x4, x5], _ =>
        have g0 := hf 0 _ rfl
        have g1 := hf 1 _ rfl
        have g2 := hf 2 _ rfl
        have g3 := hf 3 _ rfl
        have g4 := hf 4 _ rfl
        have g5 := hf 5 _ rfl
        have c1 : Tryz.prog.cellsOf 3 = 1 := by kernel_rfl
        have c2 : Tryz.prog.cellsOf 39 = 6 := by kernel_rfl
        have c3 : Tryz.prog.cellsOf 9 = 1 := by kernel_rfl
        have c4 : Tryz.prog.cellsOf 40 = 1 := by kernel_rfl
        have c5 : Tryz.prog.cellsOf 34 = 1 := by kernel_rfl
        simp only [c1, c2, c3, c4, c5, List.drop_zero, List.take_succ_cons, List.take_zero, List.drop_succ_cons, List.getElem?_cons_zero, List.getElem?_cons_succ] at g0 g1 g2 g3 g4 g5
        obtain ⟨k, e0, _, w0⟩ := DataW.trod_int Tryz.underlying3 g0
        obtain ⟨m, e1, _, w1⟩ := DataW.trod_int Tryz.underlying3 g1
        obtain ⟨y, e2, hy, hq, b2⟩ := trodU_num rfl g2
        obtain ⟨s, e3, hs, hsm⟩ := DataW.trod_string Tryz.underlying9 g3
        obtain ⟨ro, rc, rl, e4, hr, hrc, hrm, b4⟩ := qhb g4
        obtain ⟨lo, lc, ts, e5, hlc, hlm, hrt, hrd, b5⟩ := qjh (fun n' hn' => ih n' (by omega)) g5
        have bk := bounds_i64 w0
        have bm := bounds_i64 w1
        refine ⟨.mk ⟨k, m, y, s, ro, rc, rl, lo, lc⟩ ts, ?_, ?_, ?_⟩
        · injection e0 with f0
          injection e1 with f1
          injection e3 with f3
          injection e2 with e20 g
          injection g with e21 g
          injection g with e22 g
          injection g with e23 g
          injection g with e24 g
          injection g with e25 g
          subst f0 f1 f3 e4 e5 e20 e21 e22 e23 e24 e25
          rfl
        · rw [Dt.rd_iff]
          exact ⟨⟨hy, hq, hr, hrc, hrm, bk.1, bk.2, bm.1, bm.2, hsm⟩, hlc, hlm, hrt, hrd⟩
        · rw [Dt.tr_mk, yj, hx, kz]
          have h3 : Rows.uptoBulk x3.1 = s.size + 1 := by
            rw [hs]
            rw [show Rows.uptoBulk (DataW.lit (H := H) (.string s.data.toList)) = s.data.toList.length + 1 from by simp only [Rows.uptoBulk], Array.length_toList]
            rfl
          simp only [List.map_cons, List.map_nil, Rows.uptoBulkAll]
          have := qgj x0.1
          omega
theorem qji {base : Nat} {v : Value} {d : DataW H} {p : List MemPlace} (hv : Value.okWide Tryz.prog W .any base 42 v) (h : DataW.Trod enc Tryz.prog W 0 (fun _ => true) true 42 v d p) :
    ∃ t : Dt, v = .agg t.cells.toArray ∧ t.rd W ∧ t.tr.bulk ≤ Rows.uptoBulk d := by
  obtain ⟨cs, rfl, hsz⟩ := okWide_struct Tryz.underlying42 hv
  obtain ⟨fuel, hf⟩ := h
  obtain ⟨t, e, hr, hb⟩ := open_dt fuel _ _ hf
  refine ⟨t, ?_, hr, hb⟩
  rw [← e]
  rfl
end
theorem qmb {w : World} {x : Addr} {vs : List Value} (hc : ∀ (i : Nat) v, vs[i]? = some v → w.cell? (x.add i) = some v) : Rc w (some x) vs := by
  intro hne
  obtain ⟨v, h0⟩ : ∃ v, vs[0]? = some v := by
    cases vs with
    | nil => exact absurd rfl hne
    | cons v t => exact ⟨v, rfl⟩
  obtain ⟨b, off, spot⟩ := x
  have hspot : spot = none := by
    have h2 := hc 0 v h0
    simp only [World.cell?, Addr.add] at h2
    split at h2
    · cases spot with
      | none => rfl
      | some s => simp at h2
    · cases h2
  subst hspot
  refine ⟨b, off, rfl, fun p u hp => ?_⟩
  have h2 := hc p u hp
  rw [Addr.add_lit] at h2
  exact h2
theorem qhc {H : Type} {d : DataW H} : ∀ {l : List (DataW H)}, d ∈ l → Rows.uptoBulk d ≤ Rows.uptoBulkAll l
  | c :: l, h => by
    simp only [Rows.uptoBulkAll]
    rcases List.mem_cons.1 h with rfl | h
    · omega
    · have := qhc h
      omega
section
variable {H : Type} {enc : TypeId × Value → H} {W : World}
theorem qhd {fuel : Nat} {v : Value} {y : DataW H × List MemPlace} (hf : DataW.trod enc Tryz.prog W 0 (fun _ => true) true fuel 31 [v] = some y) :
    ∃ so cap l, v = .slice so (l : List Bool).length cap ∧ E.Rl W so l ∧ l.length ≤ Rows.uptoBulk y.1 := by
  rcases DataW.trod_slice Tryz.underlying31 hf with ⟨hcs, _⟩ | ⟨x, len, cap, elems, rest, m, _, hcs, hx, _, hl, hm, hlen, hel, _, _⟩
  · simp at hcs
    subst hcs
    exact ⟨none, 0, [], rfl, E.rl_nil, Nat.zero_le _⟩
  · simp at hcs
    subst hcs
    subst hx
    have each : ∀ i, ∃ b : Bool, i < len → W.cell? (x.add i) = some (.bool b) := by
      intro i
      by_cases hi : i < len
      · have hE := hel i hi
        rw [show Tryz.prog.cellsOf 4 = 1 by kernel_rfl, Nat.mul_one] at hE
        rw [List.getElem?_eq_getElem (by omega), Option.bind_eq_some_iff] at hE
        obtain ⟨c1, hc1, hy1⟩ := hE
        obtain ⟨z, rfl, _⟩ := DataW.trod_bool Tryz.underlying4 hy1
        exact ⟨z, fun _ => cell_of_cells?_one hc1⟩
      · exact ⟨false, fun k => absurd k hi⟩
    obtain ⟨F, hF⟩ := Classical.skolem.1 each
    refine ⟨some x, cap, (List.range len).map F, by simp, qmb fun i v hi => ?_, ?_⟩
    · have hlt := (List.getElem?_eq_some_iff.1 hi).1
      simp only [E.boolC, List.length_map, List.length_range] at hlt
      simp only [E.boolC, List.map_map, List.getElem?_map, List.getElem?_range hlt, Option.map_some, Function.comp, Option.some.injEq] at hi
      rw [← hi]
      exact hF i hlt
    · refine Nat.le_trans ?_ (ky _ _)
      simp only [List.length_map, List.length_range]
      omega
theorem qjj {fuel : Nat} {v : Value} {y : DataW H × List MemPlace} (hf : DataW.trod enc Tryz.prog W 0 (fun _ => true) true fuel 30 [v] = some y) :
    ∃ so cap l, v = .slice so (l : List ByteArray).length cap ∧ E.Rs W so l ∧ l.length ≤ Rows.uptoBulk y.1 ∧ ∀ s ∈ l, s.size ≤ Rows.uptoBulk y.1 := by
  rcases DataW.trod_slice Tryz.underlying30 hf with ⟨hcs, _⟩ | ⟨x, len, cap, elems, rest, m, _, hcs, hx, _, hl, hm, hlen, hel, _, _⟩
  · simp at hcs
    subst hcs
    exact ⟨none, 0, [], rfl, E.rs_nil, Nat.zero_le _, fun s k => by cases k⟩
  · simp at hcs
    subst hcs
    subst hx
    have each : ∀ i, ∃ s : ByteArray, i < len → W.cell? (x.add i) = some (.string s) ∧ s.size ≤ Rows.uptoBulk (DataW.slice (elems.map (·.1)) (rest.map (·.1))) := by
      intro i
      by_cases hi : i < len
      · have hE := hel i hi
        rw [show Tryz.prog.cellsOf 9 = 1 by kernel_rfl, Nat.mul_one] at hE
        rw [List.getElem?_eq_getElem (by omega), Option.bind_eq_some_iff] at hE
        obtain ⟨c1, hc1, hy1⟩ := hE
        obtain ⟨s, rfl, hy2, _⟩ := DataW.trod_string Tryz.underlying9 hy1
        refine ⟨s, fun _ => ⟨cell_of_cells?_one hc1, ?_⟩⟩
        have hm : (elems[i]'(by omega)).1 ∈ elems.map (·.1) := List.mem_map.2 ⟨_, List.getElem_mem _, rfl⟩
        have h3 := qhc hm
        have h4 : Rows.uptoBulk (elems[i]'(by omega)).1 = s.size + 1 := by
          rw [hy2]
          rw [show Rows.uptoBulk (DataW.lit (H := H) (.string s.data.toList)) = s.data.toList.length + 1 from by simp only [Rows.uptoBulk], Array.length_toList]
          rfl
        simp only [Rows.uptoBulk]
        omega
      · exact ⟨ByteArray.empty, fun k => absurd k hi⟩
    obtain ⟨F, hF⟩ := Classical.skolem.1 each
    refine ⟨some x, cap, (List.range len).map F, by simp, qmb fun i v hi => ?_, ?_, ?_⟩
    · have hlt := (List.getElem?_eq_some_iff.1 hi).1
      simp only [E.strC, List.length_map, List.length_range] at hlt
      simp only [E.strC, List.map_map, List.getElem?_map, List.getElem?_range hlt, Option.map_some, Function.comp, Option.some.injEq] at hi
      rw [← hi]
      exact (hF i hlt).1
    · refine Nat.le_trans ?_ (ky _ _)
      simp only [List.length_map, List.length_range]
      omega
    · intro s hs
      obtain ⟨i, hi, rfl⟩ := List.mem_map.1 hs
      exact (hF i (List.mem_range.1 hi)).2
theorem trodU_rtd {fuel : Nat} {cs : List Value} {x : DataW H × List MemPlace} (h : DataW.trod enc Tryz.prog W 0 (fun _ => true) true fuel 33 cs = some x) :
    ∃ u : Ty, cs = u.c ∧ TyR W u ∧ u.nm.size ≤ Rows.uptoBulk x.1 ∧ u.ui.size ≤ Rows.uptoBulk x.1 ∧ u.fs.length ≤ Rows.uptoBulk x.1 ∧ u.ms.length ≤ Rows.uptoBulk x.1 ∧ ∀ s ∈ u.fs, s.size ≤ Rows.uptoBulk x.1 := by
  obtain ⟨xs, n, hfu, hx, hl, hxl, hf⟩ := DataW.trod_struct Tryz.underlying33 h
  rw [show Tryz.prog.cellsOf 33 = 7 from by kernel_rfl] at hl
  match cs, hl with
  | [v0, v1, v2, v3, v4, v5, v6], _ =>
    match xs, hxl with
    | [x0, x1, x2, x3, x4, x5, x6], _ =>
      have g0 := hf 0 _ rfl
      have g1 := hf 1 _ rfl
      have g2 := hf 2 _ rfl
      have g3 := hf 3 _ rfl
      have g4 := hf 4 _ rfl
      have g5 := hf 5 _ rfl
      have g6 := hf 6 _ rfl
      have c1 : Tryz.prog.cellsOf 3 = 1 := by kernel_rfl
      have c2 : Tryz.prog.cellsOf 9 = 1 := by kernel_rfl
      have c3 : Tryz.prog.cellsOf 30 = 1 := by kernel_rfl
      have c4 : Tryz.prog.cellsOf 31 = 1 := by kernel_rfl
      have c5 : Tryz.prog.cellsOf 4 = 1 := by kernel_rfl
      simp only [c1, c2, c3, c4, c5, List.drop_zero, List.take_succ_cons, List.take_zero, List.drop_succ_cons, List.getElem?_cons_zero, List.getElem?_cons_succ] at g0 g1 g2 g3 g4 g5 g6
      obtain ⟨s0, e0, hs0, hsm0⟩ := DataW.trod_string Tryz.underlying9 g0
      obtain ⟨k, e1, _, w0⟩ := DataW.trod_int Tryz.underlying3 g1
      obtain ⟨fo, fc, fs, e2, hfs, b2, z2⟩ := qjj g2
      obtain ⟨mo, mc, ms, e3, hms, b3⟩ := qhd g3
      obtain ⟨sl, e4, _⟩ := DataW.trod_bool Tryz.underlying4 g4
      obtain ⟨op, e5, _⟩ := DataW.trod_bool Tryz.underlying4 g5
      obtain ⟨s6, e6, hs6, hsm6⟩ := DataW.trod_string Tryz.underlying9 g6
      have hb : ∀ (s : ByteArray) (q : DataW H × List MemPlace), q.1 = .lit (.string s.data.toList) → Rows.uptoBulk q.1 = s.size + 1 := fun s q e => by
        rw [e, show Rows.uptoBulk (DataW.lit (H := H) (.string s.data.toList)) = s.data.toList.length + 1 from by simp only [Rows.uptoBulk], Array.length_toList]
        rfl
      have h0 := hb s0 x0 (by rw [hs0])
      have h6 := hb s6 x6 (by rw [hs6])
      have hbx : Rows.uptoBulk x.1 = Rows.uptoBulk x0.1 + (Rows.uptoBulk x1.1 + (Rows.uptoBulk x2.1 + (Rows.uptoBulk x3.1 + (Rows.uptoBulk x4.1 + (Rows.uptoBulk x5.1 + (Rows.uptoBulk x6.1 + 0)))))) + 1 := by
        rw [hx, kz]
        simp only [List.map_cons, List.map_nil, Rows.uptoBulkAll]
      refine ⟨⟨s0, k, fo, fc, fs, mo, mc, ms, sl, op, s6⟩, ?_, ⟨hfs, hms⟩, by show s0.size ≤ _; omega, by show s6.size ≤ _; omega, by show fs.length ≤ _; omega, by show ms.length ≤ _; omega, fun s hs => by have := z2 s hs; omega⟩
      injection e0 with f0
      injection e1 with f1
      injection e4 with f4
      injection e5 with f5
      injection e6 with f6
      subst f0 f1 f4 f5 f6 e2 e3
      rfl
theorem open_rtd {base : Nat} {v : Value} {d : DataW H} {p : List MemPlace} (hv : Value.okWide Tryz.prog W .any base 33 v) (h : DataW.Trod enc Tryz.prog W 0 (fun _ => true) true 33 v d p) :
    ∃ u : Ty, v = .agg u.c.toArray ∧ TyR W u ∧ u.nm.size ≤ Rows.uptoBulk d ∧ u.ui.size ≤ Rows.uptoBulk d ∧ u.fs.length ≤ Rows.uptoBulk d ∧ u.ms.length ≤ Rows.uptoBulk d ∧ ∀ s ∈ u.fs, s.size ≤ Rows.uptoBulk d := by
  obtain ⟨cs, rfl, hsz⟩ := okWide_struct Tryz.underlying33 hv
  obtain ⟨fuel, hf⟩ := h
  obtain ⟨u, e, hr⟩ := trodU_rtd hf
  refine ⟨u, ?_, hr⟩
  rw [← e]
  rfl
end
end Go.Proofs.YtokgmpjblnpjmaaGreatDoor.G
