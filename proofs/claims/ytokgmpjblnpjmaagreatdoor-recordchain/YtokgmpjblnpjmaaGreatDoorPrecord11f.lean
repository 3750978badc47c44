/- The walk of the law of a chain of types. Transcoders that come in as arguments. Rows of bytes that come in as arguments; the first part of a row, and of a text. -/
import Derived.Test.YtokgmpjblnpjmaaGreatDoorPrecord11e
import Derived.Test.YtokgmpjblnpjmaaGreatDoorPrecord11b
import Derived.Test.YtokgmpjblnpjmaaGreatDoorProg
import Derived.WalkKit
import Derived.ProofKit
import Derived.OpenShut
import Derived.ChangeOld
import Derived.Lib.SmallJoins
import Derived.Deep.Strs
namespace Go.Proofs.YtokgmpjblnpjmaaGreatDoor.G
open Go.RowKit
set_option linter.unusedVariables false
set_option linter.unusedSimpArgs false
set_option maxRecDepth 100000
theorem RcL_is1_3 : Is1 Tryz.prog 3 := ⟨⟨_, Tryz.underlying3, rfl⟩, by kernel_rfl⟩
theorem RcL_is1_30 : Is1 Tryz.prog 30 := ⟨⟨_, Tryz.underlying30, rfl⟩, by kernel_rfl⟩
theorem RcL_is1_31 : Is1 Tryz.prog 31 := ⟨⟨_, Tryz.underlying31, rfl⟩, by kernel_rfl⟩
theorem RcL_is1_5 : Is1 Tryz.prog 5 := ⟨⟨_, Tryz.underlying5, rfl⟩, by kernel_rfl⟩
theorem RcL_fld_33_2 : FieldAt Tryz.prog 33 2 2 := ⟨_, _, Tryz.underlying33, rfl, rfl, by kernel_rfl⟩
theorem RcL_fld_33_3 : FieldAt Tryz.prog 33 3 3 := ⟨_, _, Tryz.underlying33, rfl, rfl, by kernel_rfl⟩
theorem RcL_fld_42_1 : FieldAt Tryz.prog 42 1 1 := ⟨_, _, Tryz.underlying42, rfl, rfl, by kernel_rfl⟩
theorem RcL_isS_33 : IsS Tryz.prog 33 7 := ⟨⟨_, Tryz.underlying33⟩, by kernel_rfl⟩
def inZ (zs : List Nat) : List Int := zs.map fun k => ((k : Nat) : Int)
theorem inZ_snoc (zs : List Nat) (k : Nat) : inZ (zs ++ [k]) = inZ zs ++ [((k : Nat) : Int)] := by unfold inZ; rw [List.map_append]; rfl
theorem inZ_len (zs : List Nat) : (inZ zs).length = zs.length := List.length_map _
theorem inZ_at {ys : List Int} {zs : List Nat} (h : ys = inZ zs) {t k : Nat} {z : Int} (hk : zs[t]? = some k) (hi : ys[t]? = some z) : z = ((k : Nat) : Int) := by
 rw [h, inZ, List.getElem?_map, hk] at hi
 exact (Option.some.inj hi).symm
theorem mlen (j : Nat) (b : Bool) : (mts j ++ [b]).length = (mts j).length + 1 := List.length_append
theorem fld_sz (k : Nat) : ∀ s ∈ fld k, s.size ≤ 281474976710656 := fun s hs => by
 obtain ⟨i, _, rfl⟩ := List.mem_map.1 hs
 show 1 ≤ _
 decide
def vD (n : Nat) : List Dt := (List.range n).map fun i => kD 4 ((100 + i : Nat) : Int)
theorem vD_succ (n : Nat) : vD (n + 1) = vD n ++ [kD 4 ((100 + n : Nat) : Int)] := by unfold vD; rw [List.range_succ, List.map_append]; rfl
theorem vD_len (n : Nat) : (vD n).length = n := by simp [vD]
theorem vD_tr (n : Nat) : (vD n).map Dt.tr = vls n := by unfold vD vls; rw [List.map_map]; exact List.map_congr_left fun i _ => uu _ _
theorem vD_rd (w : World) {n : Nat} (hn : n ≤ 16) : ∀ d ∈ vD n, d.rd w := fun d hd => by
 obtain ⟨i, hi, rfl⟩ := List.mem_map.1 hd
 have := List.mem_range.1 hi
 exact kD_rd _ (by decide) (by decide) (by omega) (by omega)
theorem vls_bulk {n : Nat} (hn : n ≤ 16) : Tr.bulks (vls n) ≤ 1000000000 := by
 have key : ∀ m : Fin 17, Tr.bulks (vls m.val) ≤ 1000000000 := by decide +kernel
 exact key ⟨n, by omega⟩
theorem bq2 (j : Nat) : (((j % 2 : Nat) : Int) == 0) = decide (j % 2 = 0) := by
 by_cases h : j % 2 = 0
 ·
  rw [h]; rfl
 ·
  rw [decide_eq_false h]; exact beq_eq_false_iff_ne.2 (by omega)
theorem yw {ks ks' : List TK} {rr rr' : List (Nat × List Tr)} (h : WS ks rr) (h1 : ks = ks') (h2 : rr = rr') : WS ks' rr' := by subst h1 h2; exact h
theorem by_open {w : World} {so : Option Addr} {l : List UInt8} {i : Nat} (h : Rb w so l) (hi : i < l.length) : ∃ b off, so = some ⟨b, off, none⟩ ∧ b < w.heap.size ∧ ∀ j, j < l.length → w.cell? ⟨b, off + j, none⟩ = some (.int .u8 (((l.getD j 0).toNat : Nat) : Int)) := h.pos (fun e => by rw [e] at hi; cases hi)
section
variable {ks : List TK} {rr : List (Nat × List Tr)} {zs : List Nat} {c m k : Nat} {p : Int}
theorem ch_ty (hW : WS ks rr) (hks : ks = cK zs) (hc : c = zs.length) (hm : m = zs.sum) (hp : p = ((c : Nat) : Int) - 1) (hk : k ≤ 3) (hs : m + k ≤ 16) (hl : c < 8) : tyS ks (tk p k) = (((c : Nat) : Int), 0, true) := by
 subst hks hc hm hp
 exact c_ty hW hk hs hl
theorem ch_snoc {j : Nat} (hks : ks = cK zs) (hc : c = zs.length) (hp : p = ((c : Nat) : Int) - 1) (hj : j = k) : ks ++ [tk p j] = cK (zs ++ [k]) := by
 subst hks hc hp hj
 exact (cK_snoc zs _).symm
theorem ch_mk (hW : WS ks rr) (hks : ks = cK zs) (hne : 0 < zs.length) (hm : m = zs.sum) (hs : m ≤ 16) (hp : p = ((zs.length : Nat) : Int) - 1) : mkS (cK zs) 0 p (vls m) = (0, 0, true) := by
 subst hks hm hp
 exact c_mk hW hne hs
end
section
variable {w0 w : World} {b : Nat} {P : Pst} {EE X : List Ck} {ks : List TK} {rr : List (Nat × List Tr)}
theorem q_is (hP : PL w0 X P) (hks : P.ks = ks) (hrr : P.rr = rr) (r t : Int) (hz : isS ks rr r t = (true, 0)) (M : Mg w0 w (EE ++ (P.pcs b ++ X))) : Calls Tryz.prog 18 #[.pointer (some ⟨b, 0, none⟩), .int .i64 r, .int .i64 t] w fun e w' => e = .returned (.tuple #[.bool true, .int .i64 0]) ∧ Mg w0 w' (EE ++ (P.pcs b ++ X)) := by
 subst hks hrr
 have h := is_any (r := r) (t := t) (hP.sr M) hP.ws
 exact h.mono fun e w' h => ⟨h.1.trans (by show _ = _; rw [show isS (P.ts.map Ty.k) (P.rs.map Rk.k) r t = (true, 0) from hz]), M.call h.2⟩
theorem q_tof (hP : PL w0 X P) (hks : P.ks = ks) (hrr : P.rr = rr) (r : Int) {a : Int} (hz : uw ks rr r = (a, 0)) (M : Mg w0 w (EE ++ (P.pcs b ++ X))) : Calls Tryz.prog 20 #[.pointer (some ⟨b, 0, none⟩), .int .i64 r] w fun e w' => e = .returned (.tuple #[.int .i64 a, .int .i64 0]) ∧ Mg w0 w' (EE ++ (P.pcs b ++ X)) := by
 subst hks hrr
 have h := qmc (r := r) (hP.sr M) hP.ws
 exact h.mono fun e w' h => ⟨h.1.trans (by show _ = _; rw [show uw (P.ts.map Ty.k) (P.rs.map Rk.k) r = (a, 0) from hz]), M.call h.2⟩
theorem q_get (hP : PL w0 X P) (hks : P.ks = ks) (hrr : P.rr = rr) (r t i : Int) {z n : Int} (hz : plS ks rr r t i = (z, 0)) (hg : gtT ks rr r t i = kT 4 n) (M : Mg w0 w (EE ++ (P.pcs b ++ X))) : Calls Tryz.prog 13 #[.pointer (some ⟨b, 0, none⟩), .int .i64 r, .int .i64 t, .int .i64 i] w fun e w' => ∃ d2 : Dt, e = .returned (.tuple #[.agg (d2.d.cells d2.ts.length).toArray, .int .i64 0]) ∧ d2.d.n = n ∧ Mg w0 w' (EE ++ (P.pcs b ++ X)) := by
 refine (p_get hP r t i hks hrr M).mono ?_
 rintro e w' ⟨d2, h1, ⟨_, h3⟩, h4⟩
 rw [hz] at h1
 exact ⟨d2, h1, tr_n (u := kD 4 n) (h3.trans (hg.trans (uu 4 n).symm)), h4⟩
theorem q_set0 (hP : PL w0 X P) (hE : zv EE) (hks : P.ks = ks) (hrr : P.rr = rr) (hT : ∀ w1, Mg w0 w1 EE → Tabs8 w1) (r t i : Int) {a : Nat} (hp : plS ks rr r t i = (((a : Nat) : Int), 0)) (hz : seS ks rr r t i (kT 4 7) = 0) (M : Mg w0 w (EE ++ (P.pcs b ++ X))) : Calls Tryz.prog 16 #[.pointer (some ⟨b, 0, none⟩), .int .i64 r, .int .i64 t, .int .i64 i, .agg ((kD 4 7).d.cells (kD 4 7).ts.length).toArray] w fun e w' => ∃ (P' : Pst) (F : List Ck), e = .returned (.int .i64 0) ∧ (PL w0 (F ++ X) P' ∧ P'.ks = ks ∧ P'.rr = qmd rr r.toNat a (kT 4 7)) ∧ Mg w0 w' (EE ++ (P'.pcs b ++ (F ++ X))) := by
 subst hks hrr
 have h := p_set hP hE (v := kD 4 7) (fun w1 _ => kD_rd w1 (by decide) (by decide) (by decide) (by decide)) (by rw [uu]; exact Nat.le_trans (kT_bulk _ _) (by decide)) hT r t i M
 rw [uu, hz, hp, if_pos rfl, Int.toNat_natCast] at h
 exact h
theorem q_set8 (hP : PL w0 X P) (hE : zv EE) (hks : P.ks = ks) (hrr : P.rr = rr) (hT : ∀ w1, Mg w0 w1 EE → Tabs8 w1) (r t i : Int) (hz : seS ks rr r t i (kT 4 7) = 8) (M : Mg w0 w (EE ++ (P.pcs b ++ X))) : Calls Tryz.prog 16 #[.pointer (some ⟨b, 0, none⟩), .int .i64 r, .int .i64 t, .int .i64 i, .agg ((kD 4 7).d.cells (kD 4 7).ts.length).toArray] w fun e w' => ∃ (P' : Pst) (F : List Ck), e = .returned (.int .i64 8) ∧ (PL w0 (F ++ X) P' ∧ P'.ks = ks ∧ P'.rr = rr) ∧ Mg w0 w' (EE ++ (P'.pcs b ++ (F ++ X))) := by
 subst hks hrr
 have h := p_set hP hE (v := kD 4 7) (fun w1 _ => kD_rd w1 (by decide) (by decide) (by decide) (by decide)) (by rw [uu]; exact Nat.le_trans (kT_bulk _ _) (by decide)) hT r t i M
 rw [uu, hz, if_neg (by decide)] at h
 exact h
end
set_option maxHeartbeats 4000000 in
theorem ux {w : World} (hT : Tabs8 w) {so : Option Addr} {ca : Nat} {l : List UInt8} (hb : Rb w so l) (hl : l.length ≤ 9223372036854775807) {at_ : Int} : Calls Tryz.prog 4 #[.slice so l.length ca, .int .u8 at_] w fun e w' => e = .returned (.bool true) ∧ Below w.heap.size w w' := by
 have M : Mg w w ([]) := Mg.start w
 refine qp (l := [(0, .slice so l.length ca), (1, .int .u8 at_)]) Tryz.func4 rfl Tryz.ntmps4 rfl rfl ?_
 intro Q hret hnorm hP a A
 refine wsk fun K1 hK1 => wrl (sda A λa A↦?_)
 refine qa (hK1 _ _ (wsk fun K2 hK2 => wrl (sct A (ef rfl rfl) (new_any) ?_)))
 rintro _ w4 ⟨gst, rfl, hM3⟩
 replace M : Mg w w4 (((⟨none, 0, [], none, 0, []⟩ : Pst).pcs gst ++ [])) := (show Mg _ _ ([] ++ ((⟨none, 0, [], none, 0, []⟩ : Pst).pcs gst ++ [])) from (by rw [List.append_nil]; exact (M.both hM3 (qk qm) (qjh gst)).perm List.perm_append_comm))
 refine ⟨_, rfl, ?_⟩
 intro a A
 refine sda A λa A↦?_
 refine qa (hK2 _ _ (wsk fun K5 hK5 => wsk fun K6 hK6 => wrl (sct A (ef rfl rfl) (awake_any (hT.below M.bel)) ?_)))
 rintro _ w8 ⟨rfl, hb7⟩
 replace M := M.call hb7
 refine ⟨_, rfl, ?_⟩
 intro a A
 refine sdo (v := .bool false) A (zm rfl jb) λa A↦?_
 iterate 2 refine sdm A λa A↦?_
 refine sdo (v := .bool false) A (qf rfl rfl (fun w => by kernel_rfl)) λa A↦?_
 refine sdk (v := .bool false) A λa A↦?_
 refine qa (hK6 _ _ (wp_cond_false (A.ev rfl) ?_))
 refine wp_skip (hK5 _ _ (wsk fun K9 hK9 => wrl ?_))
 iterate 2 refine sda A λa A↦?_
 refine qa (hK9 _ _ (wsk fun K10 hK10 => wrl (ve (e := 3) (sz := 1) (m := 0) (vs := inC []) A M rfl rfl rfl (qx rfl (by kernel_rfl)) rfl rfl (.inl (by decide)) ?_)))
 intro g11 w12 M a A
 refine sda A λa A↦?_
 refine qa (hK10 _ _ (wsk fun K13 hK13 => ?_))
 have hJ14 : ∀ a w1, (∃ (m : Nat) (p : Int) (ys : List Int) (zs : List Nat) (P : Pst) (X : List Ck) (so_ : Option Addr) (ca_ : Nat), (m = zs.sum ∧ p = ((zs.length : Nat) : Int) - 1 ∧ ys = inZ zs ∧ zs.length ≤ 8 ∧ m ≤ 16 ∧ PL w X P ∧ P.ks = cK zs ∧ P.rr = []) ∧ Sl a 243 [(5, .pointer (some ⟨gst, 0, none⟩)), (6, .int .i64 p), (7, .int .i64 (((m : Nat) : Int))), (8, .slice so_ ys.length ca_), (30, .pointer (some ⟨gst, 0, none⟩)), (31, .bool true), (32, .bool false), (33, .bool false), (34, .pointer (some ⟨gst, 0, none⟩)), (35, .bool false), (36, .bool false), (37, .slice (some ⟨g11, 0, none⟩) 0 0)] ∧ Mg w w1 (.row 3 1 (.slice so_ ys.length ca_) ys.length (inC ys) :: (P.pcs gst ++ X))) → K13 a w1 := by
  clear A M
  rintro a w15 ⟨m, p, ys, zs, P, X, so_, ca_, hf16, A, M⟩
  obtain ⟨hmz, hpc, hys, hz8, hm16, hpl, hks, hrr⟩ := hf16
  have hyl : ys.length = zs.length := by rw [hys, inZ_len]
  refine hK13 _ _ (wsk fun K17 hK17 => wsk fun K18 hK18 => wrl (sdm A λa A↦?_))
  refine sdo A (qr Tryz.underlying68 rfl) λa A↦?_
  rcases tf ((((ys.length : Nat) : Int) == 0)) with hb19 | hb19
  ·
   have hb19' := eq_of_beq hb19
   refine sdc A qw hb19 λa A↦?_
   refine qa (hK18 _ _ (wp_cond_true (A.ev rfl) ?_))
   refine wsk fun K20 hK20 => wrl (sda A λa A↦?_)
   refine qa (hK20 _ _ (wp_ret (hret _ _ (en1 A rfl (qg rfl) ?_))))
   exact ⟨rfl, M.bel⟩
  ·
   have hb19' := ne_of_beq_false hb19
   refine sdc A qw hb19 λa A↦?_
   refine qa (hK18 _ _ (wp_cond_false (A.ev rfl) ?_))
   refine wp_skip (hK17 _ _ (wsk fun K21 hK21 => wrl (ve (e := 42) (sz := 11) (m := 0) (vs := qi []) A M rfl rfl rfl (qx rfl (by kernel_rfl)) rfl rfl (.inl (by decide)) ?_)))
   intro g22 w23 M a A
   refine sda A λa A↦?_
   refine qa (hK21 _ _ (wsk fun K24 hK24 => wsk fun K25 hK25 => wrl (sda A λa A↦?_)))
   refine qa (hK25 _ _ (wp_block (zq (fun m_ a w1 => ∃ (v : Nat) (xs : List Dt) (so2 : Option Addr) (ca2 : Nat), m_ = 1 + (m - v) ∧ (v ≤ m ∧ xs = vD v) ∧ Sl a 243 [(5, .pointer (some ⟨gst, 0, none⟩)), (6, .int .i64 p), (7, .int .i64 (((m : Nat) : Int))), (8, .slice so_ ys.length ca_), (15, .slice so2 xs.length ca2), (16, .int .i64 (((v : Nat) : Int))), (30, .pointer (some ⟨gst, 0, none⟩)), (31, .bool true), (32, .bool false), (33, .bool false), (34, .pointer (some ⟨gst, 0, none⟩)), (35, .bool false), (36, .bool false), (37, .slice (some ⟨g11, 0, none⟩) 0 0), (104, .slice so_ ys.length ca_), (105, .int .i64 (((ys.length : Nat) : Int))), (106, .bool false), (107, .slice (some ⟨g22, 0, none⟩) 0 0)] ∧ Mg w w1 (.row 42 11 (.slice so2 xs.length ca2) xs.length (qi xs) :: .row 3 1 (.slice so_ ys.length ca_) ys.length (inC ys) :: (P.pcs gst ++ X))) _ ⟨0, [], some ⟨g22, 0, none⟩, 0, rfl, ⟨Nat.zero_le _, rfl⟩, A.keep _ (by repeat' constructor), M⟩ ?_)))
   clear M A
   rintro m_ a w26 ⟨v, xs, so2, ca2, rfl, hinv28, A, M⟩ K27 hK27
   obtain ⟨hv0, hxs⟩ := hinv28
   have hxl : xs.length = v := by rw [hxs, vD_len]
   refine wsk fun K29 hK29 => wsk fun K30 hK30 => wrl ?_
   iterate 2 refine sdm A λa A↦?_
   rcases tf (decide (((v : Nat) : Int) < ((m : Nat) : Int))) with hb31 | hb31
   ·
    have hb31' := of_decide_eq_true hb31
    refine sdc A qy hb31 λa A↦?_
    refine qa (hK30 _ _ (wp_cond_true (A.ev rfl) ?_))
    refine wp_skip (hK29 _ _ (wsk fun K32 hK32 => wp_block (wrl ?_)))
    iterate 2 refine sdm A λa A↦?_
    refine sdo (v := .int .i64 (((100 + v : Nat) : Int))) A (qf rfl rfl (ar_add ((in_i64 (by omega) (by omega)).trans (by omega)))) λa A↦?_
    refine sdo (v := .agg ((kD 4 (((100 + v : Nat) : Int))).d.cells (kD 4 (((100 + v : Nat) : Int))).ts.length).toArray) A (zj rfl (fun w => by kernel_rfl)) λa A↦?_
    refine ve (e := 42) (sz := 11) (m := 1) (vs := qi [(kD 4 (((100 + v : Nat) : Int)))]) A M rfl rfl rfl (qx rfl (by kernel_rfl)) rfl rfl (.inl (by decide)) ?_
    intro g33 w34 M a A
    refine js (e := 42) (sz := 11) (k := 1) (q := xs.length) (m := 1) (xs := qi xs) (news := qi [(kD 4 (((100 + v : Nat) : Int)))]) (L' := fun v35 => (.row 42 11 (.slice (some ⟨g33, 0, none⟩) 1 1) 1 (qi [(kD 4 (((100 + v : Nat) : Int)))]) :: .row 42 11 (v35) (xs.length + 1) (qi xs ++ qi [(kD 4 (((100 + v : Nat) : Int)))]) :: .row 3 1 (.slice so_ ys.length ca_) ys.length (inC ys) :: (P.pcs gst ++ X))) A rfl rfl rfl (jw (z := .agg #[.int .i64 0, .int .i64 0, .bool false, .slice none 0 0, .slice none 0 0, .bool false, .slice none 0 0, .slice none 0 0, .string (⟨#[]⟩), .slice none 0 0, .slice none 0 0]) (sz := 11) (by_ := 192) Tryz.underlying34 (by kernel_rfl) rfl rfl rfl M 1 rfl rfl rfl rfl (rc_own (M.has 0 rfl)) (yi [(kD 4 (((100 + v : Nat) : Int)))]) (by first | omega | (simp only [List.length_nil]; omega))) (fun _ => rfl) ?_
    intro v35 w36 M a A
    replace M : Mg w w36 (.row 42 11 (.slice (some ⟨g33, 0, none⟩) 1 1) 1 (qi [(kD 4 (((100 + v : Nat) : Int)))]) :: .row 42 11 (v35) ((xs ++ [(kD 4 (((100 + v : Nat) : Int)))]).length) (qi (xs ++ [(kD 4 (((100 + v : Nat) : Int)))])) :: .row 3 1 (.slice so_ ys.length ca_) ys.length (inC ys) :: (P.pcs gst ++ X)) := by
     rw [xy, List.length_append]; exact M
    obtain ⟨so37, ca38, rfl⟩ := zx (M.has 1 rfl)
    refine sda A λa A↦?_
    refine qa (hK32 _ _ (wrl (sdm A λa A↦?_)))
    refine sdo (v := .int .i64 (((v + 1 : Nat) : Int))) A (qf rfl rfl (ar_add ((in_i64 (by omega) (by omega)).trans (by omega)))) λa A↦?_
    refine sda A λa A↦?_
    refine qa ?_
    replace M : Mg w w36 (.row 42 11 (.slice so37 ((xs ++ [(kD 4 (((100 + v : Nat) : Int)))]).length) ca38) ((xs ++ [(kD 4 (((100 + v : Nat) : Int)))]).length) (qi (xs ++ [(kD 4 (((100 + v : Nat) : Int)))])) :: .row 3 1 (.slice so_ ys.length ca_) ys.length (inC ys) :: (P.pcs gst ++ X)) := ((M.bring 2 rfl rfl).bring 2 rfl rfl).sub (cc (cc (cn (.refl _))))
    refine hK27 _ _ _ (by omega) ⟨v + 1, (xs ++ [(kD 4 ((100 + v : Nat) : Int))]), so37, ca38, rfl, ⟨by omega, by rw [hxs, vD_succ]⟩, A.keep _ (by repeat' constructor), M⟩
   ·
    have hb31' := of_decide_eq_false hb31
    refine sdc A qy hb31 λa A↦?_
    refine qa (hK30 _ _ (wp_cond_false (A.ev rfl) ?_))
    refine wp_exit (hK24 _ _ (wsk fun K39 hK39 => wrl ?_))
    iterate 3 refine sdm A λa A↦?_
    have hvm : v = m := by omega
    have hne : 0 < zs.length := by omega
    refine sct A (ef rfl rfl) (p_make1 (EE := [.row 42 11 (.slice so2 xs.length ca2) xs.length (qi xs), .row 3 1 (.slice so_ ys.length ca_) ys.length (inC ys)]) (vs := xs) hpl (qh (by simp) (qh (by simp) (qk qm))) (fun w1 h1 => ⟨(qfj (h1.has 0 rfl)).1, fun d hd => vD_rd w1 (show v ≤ 16 by omega) d (hxs ▸ hd)⟩) (by rw [hxs, vD_tr]; exact vls_bulk (by omega)) (fun w1 h1 => hT.below h1.bel) p hks (by have h8 := congrArg List.length hrr; rw [Pst.rr, List.length_map] at h8; exact h8) (show xs.map Dt.tr = vls m by rw [hxs, vD_tr, hvm]) (ch_mk hpl.ws hks hne hmz hm16 hpc) M) ?_
    rintro _ w41 ⟨P2, F2, rfl, ⟨hpl2, hk2, hr2⟩, hM40⟩
    replace hr2 : P2.rr = [(zs.length - 1, vls m)] := by rw [hr2, hrr, show p.toNat = zs.length - 1 by omega]; rfl
    replace M : Mg w w41 (.row 42 11 (.slice so2 xs.length ca2) xs.length (qi xs) :: .row 3 1 (.slice so_ ys.length ca_) ys.length (inC ys) :: (P2.pcs gst ++ (F2 ++ X))) := hM40
    refine ⟨_, rfl, ?_⟩
    intro a A
    refine sdm A λa A↦?_
    iterate 2 refine sdo A (ze (vs := [.int .i64 0, .int .i64 0]) rfl rfl) λa A↦?_
    iterate 2 refine sda A λa A↦?_
    refine qa (hK39 _ _ (wsk fun K42 hK42 => wsk fun K43 hK43 => wrl (sdm A λa A↦?_)))
    refine sdo (v := .bool false) A (qf rfl rfl (fun w => by kernel_rfl)) λa A↦?_
    refine qa (hK43 _ _ (wp_cond_false (A.ev rfl) ?_))
    refine wp_skip (hK42 _ _ (wsk fun K44 hK44 => wrl (sda A λa A↦?_)))
    refine qa (hK44 _ _ (wsk fun K45 hK45 => wsk fun K46 hK46 => wrl (sda A λa A↦?_)))
    refine qa (hK46 _ _ (wp_block ?_))
    replace M : Mg w w41 (.row 3 1 (.slice so_ ys.length ca_) ys.length (inC ys) :: (P2.pcs gst ++ (F2 ++ X))) := (M.bring 1 rfl rfl).sub (cc (cn (.refl _)))
    refine zq (fun m_ a w1 => ∃ (f : Nat) (t : Nat) (vs3 : List Tr) (P3 : Pst) (X3 : List Ck), m_ = 1 + (zs.length - t) ∧ (t ≤ zs.length ∧ f = (zs.take t).sum ∧ PL w X3 P3 ∧ P3.ks = cK zs ∧ P3.rr = [(zs.length - 1, vs3)] ∧ ∀ a, f ≤ a → a < m → vs3[a]? = some (kT 4 ((100 + a : Nat) : Int))) ∧ Sl a 243 [(5, .pointer (some ⟨gst, 0, none⟩)), (6, .int .i64 p), (7, .int .i64 (((m : Nat) : Int))), (8, .slice so_ ys.length ca_), (15, .slice so2 xs.length ca2), (16, .int .i64 (((v : Nat) : Int))), (17, .int .i64 0), (18, .int .i64 0), (19, .int .i64 (((f : Nat) : Int))), (20, .int .i64 (((t : Nat) : Int))), (30, .pointer (some ⟨gst, 0, none⟩)), (31, .bool true), (32, .bool false), (33, .bool false), (34, .pointer (some ⟨gst, 0, none⟩)), (35, .bool false), (36, .bool false), (37, .slice (some ⟨g11, 0, none⟩) 0 0), (104, .slice so_ ys.length ca_), (105, .int .i64 (((ys.length : Nat) : Int))), (106, .bool false), (107, .slice (some ⟨g22, 0, none⟩) 0 0), (108, .int .i64 (((v : Nat) : Int))), (109, .int .i64 (((m : Nat) : Int))), (110, .bool false), (119, .tuple #[.int .i64 0, .int .i64 0]), (120, .pointer (some ⟨gst, 0, none⟩)), (121, .int .i64 p), (122, .slice so2 xs.length ca2), (123, .tuple #[.int .i64 0, .int .i64 0]), (124, .int .i64 0), (125, .int .i64 0), (126, .int .i64 0), (127, .bool false)] ∧ Mg w w1 (.row 3 1 (.slice so_ ys.length ca_) ys.length (inC ys) :: (P3.pcs gst ++ X3))) _ ⟨0, 0, vls m, P2, (F2 ++ X), rfl, ⟨Nat.zero_le _, rfl, hpl2, hk2, hr2, fun a _ h => vls_at h⟩, A.keep _ (by repeat' constructor), M⟩ ?_
    clear M A
    rintro m_ a w47 ⟨f, t, vs3, P3, X3, rfl, hinv49, A, M⟩ K48 hK48
    obtain ⟨ht0, hft, hpl3, hk3, hr3, hun3⟩ := hinv49
    have hf16 := take_le zs t
    refine wsk fun K50 hK50 => wsk fun K51 hK51 => wrl ?_
    iterate 2 refine sdm A λa A↦?_
    refine sdo A (qr Tryz.underlying68 rfl) λa A↦?_
    rcases tf (decide (((t : Nat) : Int) < ((ys.length : Nat) : Int))) with hb52 | hb52
    ·
     have hb52' := of_decide_eq_true hb52
     refine sdc A qy hb52 λa A↦?_
     refine qa (hK51 _ _ (wp_cond_true (A.ev rfl) ?_))
     refine wp_skip (hK50 _ _ (wsk fun K53 hK53 => wp_block (wsk fun K54 hK54 => wrl ?_)))
     iterate 3 refine sdm A λa A↦?_
     refine sct A (ef rfl rfl) (q_is (EE := [.row 3 1 (.slice so_ ys.length ca_) ys.length (inC ys)]) hpl3 hk3 hr3 0 ((t : Nat) : Int) (c_is (yw hpl3.ws hk3 hr3) hne (show t < zs.length by omega)) M) ?_
     rintro _ w56 ⟨rfl, hM55⟩
     obtain ⟨k, hkt⟩ : ∃ k, zs[t]? = some k := ⟨_, List.getElem?_eq_getElem (show t < zs.length by omega)⟩
     have hsk := qda hkt
     have hsl := take_le zs (t + 1)
     replace M : Mg w w56 (.row 3 1 (.slice so_ ys.length ca_) ys.length (inC ys) :: (P3.pcs gst ++ X3)) := hM55
     refine ⟨_, rfl, ?_⟩
     intro a A
     refine sdm A λa A↦?_
     iterate 2 refine sdo A (ze (vs := [.bool true, .int .i64 0]) rfl rfl) λa A↦?_
     iterate 2 refine sda A λa A↦?_
     refine qa (hK54 _ _ (wsk fun K57 hK57 => wsk fun K58 hK58 => wrl (sdm A λa A↦?_)))
     refine sdo (v := .bool false) A (qf rfl rfl (fun w => by kernel_rfl)) λa A↦?_
     iterate 2 refine sdm A λa A↦?_
     refine sdo (v := .bool false) A (zm rfl jb) λa A↦?_
     refine sdk (v := .bool false) A λa A↦?_
     refine qa (hK58 _ _ (wp_cond_false (A.ev rfl) ?_))
     refine wp_skip (hK57 _ _ (wsk fun K59 hK59 => wsk fun K60 hK60 => wrl (sda A λa A↦?_)))
     refine qa (hK60 _ _ (wp_block ?_))
     replace M : Mg w w56 (.row 3 1 (.slice so_ ys.length ca_) ys.length (inC ys) :: (P3.pcs gst ++ X3)) := M
     refine zq (fun m_ a w1 => ∃ (i : Nat) (v4 : List Tr) (P4 : Pst) (X4 : List Ck), m_ = 1 + (k - i) ∧ (i ≤ k ∧ PL w X4 P4 ∧ P4.ks = cK zs ∧ P4.rr = [(zs.length - 1, v4)] ∧ ∀ a, f + i ≤ a → a < m → v4[a]? = some (kT 4 ((100 + a : Nat) : Int))) ∧ Sl a 243 [(5, .pointer (some ⟨gst, 0, none⟩)), (6, .int .i64 p), (7, .int .i64 (((m : Nat) : Int))), (8, .slice so_ ys.length ca_), (15, .slice so2 xs.length ca2), (16, .int .i64 (((v : Nat) : Int))), (17, .int .i64 0), (18, .int .i64 0), (19, .int .i64 (((f : Nat) : Int))), (20, .int .i64 (((t : Nat) : Int))), (21, .bool true), (22, .int .i64 0), (23, .int .i64 (((i : Nat) : Int))), (30, .pointer (some ⟨gst, 0, none⟩)), (31, .bool true), (32, .bool false), (33, .bool false), (34, .pointer (some ⟨gst, 0, none⟩)), (35, .bool false), (36, .bool false), (37, .slice (some ⟨g11, 0, none⟩) 0 0), (104, .slice so_ ys.length ca_), (105, .int .i64 (((ys.length : Nat) : Int))), (106, .bool false), (107, .slice (some ⟨g22, 0, none⟩) 0 0), (108, .int .i64 (((v : Nat) : Int))), (109, .int .i64 (((m : Nat) : Int))), (110, .bool false), (119, .tuple #[.int .i64 0, .int .i64 0]), (120, .pointer (some ⟨gst, 0, none⟩)), (121, .int .i64 p), (122, .slice so2 xs.length ca2), (123, .tuple #[.int .i64 0, .int .i64 0]), (124, .int .i64 0), (125, .int .i64 0), (126, .int .i64 0), (127, .bool false), (128, .int .i64 (((t : Nat) : Int))), (129, .slice so_ ys.length ca_), (130, .int .i64 (((ys.length : Nat) : Int))), (131, .bool true), (134, .tuple #[.bool true, .int .i64 0]), (135, .pointer (some ⟨gst, 0, none⟩)), (136, .int .i64 0), (137, .int .i64 (((t : Nat) : Int))), (138, .tuple #[.bool true, .int .i64 0]), (139, .bool true), (140, .int .i64 0), (141, .int .i64 0), (142, .bool false), (143, .bool false), (144, .bool true), (145, .bool false), (146, .bool false)] ∧ Mg w w1 (.row 3 1 (.slice so_ ys.length ca_) ys.length (inC ys) :: (P4.pcs gst ++ X4))) _ ⟨0, vs3, P3, X3, rfl, ⟨Nat.zero_le _, hpl3, hk3, hr3, fun a h1 h2 => hun3 a (by omega) h2⟩, A.keep _ (by repeat' constructor), M⟩ ?_
     clear M A
     rintro m_ a w61 ⟨i, v4, P4, X4, rfl, hinv63, A, M⟩ K62 hK62
     obtain ⟨hi0, hpl4, hk4, hr4, hun4⟩ := hinv63
     refine wsk fun K64 hK64 => wsk fun K65 hK65 => wrl ?_
     iterate 3 refine sdm A λa A↦?_
     obtain ⟨bi66, oi67, zi68, hs69, hc70, hi71, hm72⟩ := qif (rc_own (M.has 0 rfl)) (i := t) (by omega)
     obtain rfl := inZ_at hys hkt hi71
     refine sdo (v := .pointer (some ⟨bi66, oi67 + t, none⟩)) A (zl (k := t) Tryz.underlying68 (by kernel_rfl) rfl rfl (by first | rfl | omega) hs69 (by omega)) λa A↦?_
     refine sdo A (ki hc70 RcL_is1_3 rfl) λa A↦?_
     rcases tf (decide (((i : Nat) : Int) < ((k : Nat) : Int))) with hb73 | hb73
     ·
      have hb73' := of_decide_eq_true hb73
      refine sdc A qy hb73 λa A↦?_
      refine qa (hK65 _ _ (wp_cond_true (A.ev rfl) ?_))
      refine wp_skip (hK64 _ _ (wsk fun K74 hK74 => wp_block (wsk fun K75 hK75 => wrl ?_)))
      iterate 4 refine sdm A λa A↦?_
      have hpz := c_pl (yw hpl4.ws hk4 hr4) hne hkt (show i < k by omega)
      have hse := c_se (yw hpl4.ws hk4 hr4) hne hkt (show i < k by omega)
      have hfi : v4[(zs.take t).sum + i]? = some (kT 4 ((100 + f + i : Nat) : Int)) := by rw [← hft]; exact (hun4 (f + i) (by omega) (by omega)).trans (by rw [Nat.add_assoc])
      refine sct A (ef rfl rfl) (q_get (EE := [.row 3 1 (.slice so_ ys.length ca_) ys.length (inC ys)]) hpl4 hk4 hr4 0 ((t : Nat) : Int) ((i : Nat) : Int) hpz (c_gt (yw hpl4.ws hk4 hr4) hne hkt (show i < k by omega) hfi) M) ?_
      rintro _ w77 ⟨d2, rfl, hn2, hM76⟩
      replace M : Mg w w77 (.row 3 1 (.slice so_ ys.length ca_) ys.length (inC ys) :: (P4.pcs gst ++ X4)) := hM76
      refine ⟨_, rfl, ?_⟩
      intro a A
      refine sdm A λa A↦?_
      iterate 2 refine sdo A (ze (vs := [.agg (d2.d.cells d2.ts.length).toArray, .int .i64 0]) rfl rfl) λa A↦?_
      refine zw (vs := (jg.d.cells jg.ts.length)) (t := 42) A M rfl rfl rfl pg (zi (z := .agg (jg.d.cells jg.ts.length).toArray) (by kernel_rfl) rfl) (by decide) ?_
      intro g78 w79 M a A
      refine zh (us := (d2.d.cells d2.ts.length)) (L' := (.obj g78 (.cells (d2.d.cells d2.ts.length).toArray 42) :: .row 3 1 (.slice so_ ys.length ca_) ys.length (inC ys) :: (P4.pcs gst ++ X4))) A M rfl rfl (qz rfl rfl rfl (by kernel_rfl) M 0 rfl rfl rfl) 0 rfl rfl rfl ?_
      intro w80 M
      refine sda A λa A↦?_
      refine qa (hK75 _ _ (wsk fun K81 hK81 => wrl ?_))
      iterate 4 refine sdm A λa A↦?_
      refine sdo (v := .agg ((kD 4 7).d.cells (kD 4 7).ts.length).toArray) A (zj rfl (fun w => by kernel_rfl)) λa A↦?_
      rcases tf (decide (i % 2 = 0)) with hb82 | hb82
      ·
       have hb82' := of_decide_eq_true hb82
       refine sct A (ef rfl rfl) (q_set0 (EE := [.obj g78 (.cells (d2.d.cells d2.ts.length).toArray 42), .row 3 1 (.slice so_ ys.length ca_) ys.length (inC ys)]) hpl4 (qh (by simp) (qh (by simp) (qk qm))) hk4 hr4 (fun w1 h1 => hT.below h1.bel) 0 ((t : Nat) : Int) ((i : Nat) : Int) hpz (hse.trans (if_pos hb82')) M) ?_
       rintro _ w84 ⟨P5, F5, rfl, ⟨hpl5, hk5, hr5⟩, hM83⟩
       replace hr5 : P5.rr = [(zs.length - 1, v4.set ((zs.take t).sum + i) (kT 4 7))] := hr5
       replace M : Mg w w84 (.obj g78 (.cells (d2.d.cells d2.ts.length).toArray 42) :: .row 3 1 (.slice so_ ys.length ca_) ys.length (inC ys) :: (P5.pcs gst ++ (F5 ++ X4))) := hM83
       refine ⟨_, rfl, ?_⟩
       intro a A
       refine sda A λa A↦?_
       refine qa (hK81 _ _ (wsk fun K85 hK85 => wrl ?_))
       iterate 4 refine sdm A λa A↦?_
       refine sct A (ef rfl rfl) (q_get (EE := [.obj g78 (.cells (d2.d.cells d2.ts.length).toArray 42), .row 3 1 (.slice so_ ys.length ca_) ys.length (inC ys)]) hpl5 hk5 hr5 0 ((t : Nat) : Int) ((i : Nat) : Int) (c_pl (yw hpl5.ws hk5 hr5) hne hkt (show i < k by omega)) (c_gt (yw hpl5.ws hk5 hr5) hne hkt (show i < k by omega) (by rw [List.getElem?_set, if_pos rfl, if_pos (List.getElem?_eq_some_iff.1 hfi).1])) M) ?_
       rintro _ w87 ⟨d3, rfl, hn3, hM86⟩
       replace M : Mg w w87 (.obj g78 (.cells (d2.d.cells d2.ts.length).toArray 42) :: .row 3 1 (.slice so_ ys.length ca_) ys.length (inC ys) :: (P5.pcs gst ++ (F5 ++ X4))) := hM86
       refine ⟨_, rfl, ?_⟩
       intro a A
       refine sdm A λa A↦?_
       iterate 2 refine sdo A (ze (vs := [.agg (d3.d.cells d3.ts.length).toArray, .int .i64 0]) rfl rfl) λa A↦?_
       refine zw (vs := (jg.d.cells jg.ts.length)) (t := 42) A M rfl rfl rfl pg (zi (z := .agg (jg.d.cells jg.ts.length).toArray) (by kernel_rfl) rfl) (by decide) ?_
       intro g88 w89 M a A
       refine zh (us := (d3.d.cells d3.ts.length)) (L' := (.obj g88 (.cells (d3.d.cells d3.ts.length).toArray 42) :: .obj g78 (.cells (d2.d.cells d2.ts.length).toArray 42) :: .row 3 1 (.slice so_ ys.length ca_) ys.length (inC ys) :: (P5.pcs gst ++ (F5 ++ X4)))) A M rfl rfl (qz rfl rfl rfl (by kernel_rfl) M 0 rfl rfl rfl) 0 rfl rfl rfl ?_
       intro w90 M
       refine sda A λa A↦?_
       refine qa (hK85 _ _ (wsk fun K91 hK91 => wrl (sdm A λa A↦?_)))
       refine sdo (v := .bool false) A (qf rfl rfl (fun w => by kernel_rfl)) λa A↦?_
       iterate 2 refine sdm A λa A↦?_
       refine sdo (v := .bool false) A (qf rfl rfl (fun w => by kernel_rfl)) λa A↦?_
       refine sdk (v := .bool false) A λa A↦?_
       refine sdm A λa A↦?_
       refine sdo (v := .pointer (some ⟨g78, 1, none⟩)) A (qb RcL_fld_42_1 rfl rfl) λa A↦?_
       refine sdo A (qj M RcL_is1_3 rfl 1 rfl rfl) λa A↦?_
       refine sdm A λa A↦?_
       refine sdo (v := .int .i64 (((100 + f : Nat) : Int))) A (qf rfl rfl (ar_add ((in_i64 (by omega) (by omega)).trans (by omega)))) λa A↦?_
       refine sdm A λa A↦?_
       refine sdo (v := .int .i64 (((100 + f + i : Nat) : Int))) A (qf rfl rfl (ar_add ((in_i64 (by omega) (by omega)).trans (by omega)))) λa A↦?_
       refine sdo (v := .bool false) A (qf rfl rfl (fun w => (ja w).trans (by rw [show ((d2.d.n != ((100 + f + i : Nat) : Int))) = false from (by rw [hn2]; simp)]))) λa A↦?_
       refine sdk (v := .bool false) A λa A↦?_
       iterate 2 refine sdm A λa A↦?_
       refine sdo (v := .bool true) A (qf rfl rfl (fun w => by kernel_rfl)) λa A↦?_
       refine sdm A λa A↦?_
       refine sdo (v := .int .i64 (((i % 2 : Nat) : Int))) A (qf rfl rfl (ar_rem (by decide) ((Int.tmod_eq_emod_of_nonneg (by omega)).trans (by omega)))) λa A↦?_
       refine sdo (v := .bool true) A (qf rfl rfl (fun w => (qw w).trans (by rw [show ((((i % 2 : Nat) : Int) == 0)) = true from ((bq2 i).trans hb82)]))) λa A↦?_
       refine sdo (v := .bool false) A (qf rfl rfl (vw Tryz.underlying4)) λa A↦?_
       refine sdk (v := .bool false) A λa A↦?_
       iterate 2 refine sdm A λa A↦?_
       refine sdo (v := .bool true) A (qf rfl rfl (fun w => by kernel_rfl)) λa A↦?_
       refine sdm A λa A↦?_
       refine sdo (v := .pointer (some ⟨g88, 1, none⟩)) A (qb RcL_fld_42_1 rfl rfl) λa A↦?_
       refine sdo A (qj M RcL_is1_3 rfl 0 rfl rfl) λa A↦?_
       refine sdo (v := .bool false) A (qf rfl rfl (fun w => (ja w).trans (by rw [show ((d3.d.n != 7)) = false from (by rw [hn3]; rfl)]))) λa A↦?_
       iterate 2 refine sdk (v := .bool false) A λa A↦?_
       iterate 2 refine sdm A λa A↦?_
       refine sdo (v := .bool false) A (qf rfl rfl (fun w => by kernel_rfl)) λa A↦?_
       refine sdm A λa A↦?_
       iterate 3 refine ql A rfl rfl rfl λa A↦?_
       iterate 5 refine kf A rfl rfl rfl λa A↦?_
       refine ql A rfl rfl rfl λa A↦?_
       iterate 2 refine sdk (v := .bool false) A λa A↦?_
       refine qa (hK91 _ _ (wp_cond_false (A.ev rfl) ?_))
       refine wp_skip (hK74 _ _ (wrl (sdm A λa A↦?_)))
       refine sdo (v := .int .i64 (((i + 1 : Nat) : Int))) A (qf rfl rfl (ar_add ((in_i64 (by omega) (by omega)).trans (by omega)))) λa A↦?_
       refine sda A λa A↦?_
       refine qa ?_
       replace M : Mg w w90 (.row 3 1 (.slice so_ ys.length ca_) ys.length (inC ys) :: (P5.pcs gst ++ (F5 ++ X4))) := (M.bring 2 rfl rfl).sub (cc (cn (cn (.refl _))))
       refine hK62 _ _ _ (by omega) ⟨i + 1, v4.set ((zs.take t).sum + i) (kT 4 7), P5, (F5 ++ X4), rfl, ⟨by omega, hpl5, hk5, hr5, fun a h1 h2 => by rw [List.getElem?_set_ne (by omega)]; exact hun4 a (by omega) h2⟩, A.keep _ (by repeat' constructor), M⟩
      ·
       have hb82' := of_decide_eq_false hb82
       refine sct A (ef rfl rfl) (q_set8 (EE := [.obj g78 (.cells (d2.d.cells d2.ts.length).toArray 42), .row 3 1 (.slice so_ ys.length ca_) ys.length (inC ys)]) hpl4 (qh (by simp) (qh (by simp) (qk qm))) hk4 hr4 (fun w1 h1 => hT.below h1.bel) 0 ((t : Nat) : Int) ((i : Nat) : Int) (hse.trans (if_neg hb82')) M) ?_
       rintro _ w93 ⟨P5, F5, rfl, ⟨hpl5, hk5, hr5⟩, hM92⟩
       replace M : Mg w w93 (.obj g78 (.cells (d2.d.cells d2.ts.length).toArray 42) :: .row 3 1 (.slice so_ ys.length ca_) ys.length (inC ys) :: (P5.pcs gst ++ (F5 ++ X4))) := hM92
       refine ⟨_, rfl, ?_⟩
       intro a A
       refine sda A λa A↦?_
       refine qa (hK81 _ _ (wsk fun K94 hK94 => wrl ?_))
       iterate 4 refine sdm A λa A↦?_
       refine sct A (ef rfl rfl) (q_get (EE := [.obj g78 (.cells (d2.d.cells d2.ts.length).toArray 42), .row 3 1 (.slice so_ ys.length ca_) ys.length (inC ys)]) hpl5 hk5 hr5 0 ((t : Nat) : Int) ((i : Nat) : Int) (c_pl (yw hpl5.ws hk5 hr5) hne hkt (show i < k by omega)) (c_gt (yw hpl5.ws hk5 hr5) hne hkt (show i < k by omega) hfi) M) ?_
       rintro _ w96 ⟨d3, rfl, hn3, hM95⟩
       replace M : Mg w w96 (.obj g78 (.cells (d2.d.cells d2.ts.length).toArray 42) :: .row 3 1 (.slice so_ ys.length ca_) ys.length (inC ys) :: (P5.pcs gst ++ (F5 ++ X4))) := hM95
       refine ⟨_, rfl, ?_⟩
       intro a A
       refine sdm A λa A↦?_
       iterate 2 refine sdo A (ze (vs := [.agg (d3.d.cells d3.ts.length).toArray, .int .i64 0]) rfl rfl) λa A↦?_
       refine zw (vs := (jg.d.cells jg.ts.length)) (t := 42) A M rfl rfl rfl pg (zi (z := .agg (jg.d.cells jg.ts.length).toArray) (by kernel_rfl) rfl) (by decide) ?_
       intro g97 w98 M a A
       refine zh (us := (d3.d.cells d3.ts.length)) (L' := (.obj g97 (.cells (d3.d.cells d3.ts.length).toArray 42) :: .obj g78 (.cells (d2.d.cells d2.ts.length).toArray 42) :: .row 3 1 (.slice so_ ys.length ca_) ys.length (inC ys) :: (P5.pcs gst ++ (F5 ++ X4)))) A M rfl rfl (qz rfl rfl rfl (by kernel_rfl) M 0 rfl rfl rfl) 0 rfl rfl rfl ?_
       intro w99 M
       refine sda A λa A↦?_
       refine qa (hK94 _ _ (wsk fun K100 hK100 => wrl (sdm A λa A↦?_)))
       refine sdo (v := .bool false) A (qf rfl rfl (fun w => by kernel_rfl)) λa A↦?_
       iterate 2 refine sdm A λa A↦?_
       refine sdo (v := .bool false) A (qf rfl rfl (fun w => by kernel_rfl)) λa A↦?_
       refine sdk (v := .bool false) A λa A↦?_
       refine sdm A λa A↦?_
       refine sdo (v := .pointer (some ⟨g78, 1, none⟩)) A (qb RcL_fld_42_1 rfl rfl) λa A↦?_
       refine sdo A (qj M RcL_is1_3 rfl 1 rfl rfl) λa A↦?_
       refine sdm A λa A↦?_
       refine sdo (v := .int .i64 (((100 + f : Nat) : Int))) A (qf rfl rfl (ar_add ((in_i64 (by omega) (by omega)).trans (by omega)))) λa A↦?_
       refine sdm A λa A↦?_
       refine sdo (v := .int .i64 (((100 + f + i : Nat) : Int))) A (qf rfl rfl (ar_add ((in_i64 (by omega) (by omega)).trans (by omega)))) λa A↦?_
       refine sdo (v := .bool false) A (qf rfl rfl (fun w => (ja w).trans (by rw [show ((d2.d.n != ((100 + f + i : Nat) : Int))) = false from (by rw [hn2]; simp)]))) λa A↦?_
       refine sdk (v := .bool false) A λa A↦?_
       iterate 2 refine sdm A λa A↦?_
       refine sdo (v := .bool false) A (qf rfl rfl (fun w => by kernel_rfl)) λa A↦?_
       refine sdm A λa A↦?_
       refine sdo (v := .int .i64 (((i % 2 : Nat) : Int))) A (qf rfl rfl (ar_rem (by decide) ((Int.tmod_eq_emod_of_nonneg (by omega)).trans (by omega)))) λa A↦?_
       refine sdo (v := .bool false) A (qf rfl rfl (fun w => (qw w).trans (by rw [show ((((i % 2 : Nat) : Int) == 0)) = false from ((bq2 i).trans hb82)]))) λa A↦?_
       refine sdo (v := .bool false) A (qf rfl rfl (vw Tryz.underlying4)) λa A↦?_
       refine sdk (v := .bool false) A λa A↦?_
       iterate 2 refine sdm A λa A↦?_
       refine sdo (v := .bool false) A (qf rfl rfl (fun w => by kernel_rfl)) λa A↦?_
       refine sdm A λa A↦?_
       iterate 3 refine ql A rfl rfl rfl λa A↦?_
       iterate 2 refine sdk (v := .bool false) A λa A↦?_
       iterate 2 refine sdm A λa A↦?_
       refine sdo (v := .bool true) A (qf rfl rfl (fun w => by kernel_rfl)) λa A↦?_
       iterate 2 refine sdm A λa A↦?_
       refine sdo (v := .bool false) A (qf rfl rfl (fun w => by kernel_rfl)) λa A↦?_
       refine sdm A λa A↦?_
       refine sdo (v := .pointer (some ⟨g97, 1, none⟩)) A (qb RcL_fld_42_1 rfl rfl) λa A↦?_
       refine sdo A (qj M RcL_is1_3 rfl 0 rfl rfl) λa A↦?_
       refine sdo (v := .pointer (some ⟨g78, 1, none⟩)) A (qb RcL_fld_42_1 rfl rfl) λa A↦?_
       refine sdo A (qj M RcL_is1_3 rfl 1 rfl rfl) λa A↦?_
       refine sdo (v := .bool false) A (qf rfl rfl (fun w => (ja w).trans (by rw [show ((d3.d.n != d2.d.n)) = false from (by rw [hn3, hn2]; simp)]))) λa A↦?_
       iterate 3 refine sdk (v := .bool false) A λa A↦?_
       refine qa (hK100 _ _ (wp_cond_false (A.ev rfl) ?_))
       refine wp_skip (hK74 _ _ (wrl (sdm A λa A↦?_)))
       refine sdo (v := .int .i64 (((i + 1 : Nat) : Int))) A (qf rfl rfl (ar_add ((in_i64 (by omega) (by omega)).trans (by omega)))) λa A↦?_
       refine sda A λa A↦?_
       refine qa ?_
       replace M : Mg w w99 (.row 3 1 (.slice so_ ys.length ca_) ys.length (inC ys) :: (P5.pcs gst ++ (F5 ++ X4))) := (M.bring 2 rfl rfl).sub (cc (cn (cn (.refl _))))
       refine hK62 _ _ _ (by omega) ⟨i + 1, v4, P5, (F5 ++ X4), rfl, ⟨by omega, hpl5, hk5, hr5, fun a h1 h2 => hun4 a (by omega) h2⟩, A.keep _ (by repeat' constructor), M⟩
     ·
      have hb73' := of_decide_eq_false hb73
      refine sdc A qy hb73 λa A↦?_
      refine qa (hK65 _ _ (wp_cond_false (A.ev rfl) ?_))
      refine wp_exit (hK59 _ _ (wrl ?_))
      iterate 3 refine sdm A λa A↦?_
      obtain ⟨bi101, oi102, zi103, hs104, hc105, hi106, hm107⟩ := qif (rc_own (M.has 0 rfl)) (i := t) (by omega)
      obtain rfl := inZ_at hys hkt hi106
      refine sdo (v := .pointer (some ⟨bi101, oi102 + t, none⟩)) A (zl (k := t) Tryz.underlying68 (by kernel_rfl) rfl rfl (by first | rfl | omega) hs104 (by omega)) λa A↦?_
      refine sdo A (ki hc105 RcL_is1_3 rfl) λa A↦?_
      refine sdo (v := .int .i64 (((f + k : Nat) : Int))) A (qf rfl rfl (ar_add ((in_i64 (by omega) (by omega)).trans (by omega)))) λa A↦?_
      refine sda A λa A↦?_
      refine qa (hK53 _ _ (wrl (sdm A λa A↦?_)))
      refine sdo (v := .int .i64 (((t + 1 : Nat) : Int))) A (qf rfl rfl (ar_add ((in_i64 (by omega) (by omega)).trans (by omega)))) λa A↦?_
      refine sda A λa A↦?_
      refine qa ?_
      replace M : Mg w w61 (.row 3 1 (.slice so_ ys.length ca_) ys.length (inC ys) :: (P4.pcs gst ++ X4)) := M
      refine hK48 _ _ _ (by omega) ⟨f + k, t + 1, v4, P4, X4, rfl, ⟨by omega, by omega, hpl4, hk4, hr4, fun a h1 h2 => hun4 a (by omega) h2⟩, A.keep _ (by repeat' constructor), M⟩
    ·
     have hb52' := of_decide_eq_false hb52
     refine sdc A qy hb52 λa A↦?_
     refine qa (hK51 _ _ (wp_cond_false (A.ev rfl) ?_))
     refine wp_exit (hK45 _ _ (wsk fun K108 hK108 => wrl ?_))
     iterate 2 refine sdm A λa A↦?_
     refine sct A (ef rfl rfl) (q_tof (EE := [.row 3 1 (.slice so_ ys.length ca_) ys.length (inC ys)]) hpl3 hk3 hr3 0 ((c_tof (yw hpl3.ws hk3 hr3) hne).trans (by rw [← hpc])) M) ?_
     rintro _ w110 ⟨rfl, hM109⟩
     replace M : Mg w w110 (.row 3 1 (.slice so_ ys.length ca_) ys.length (inC ys) :: (P3.pcs gst ++ X3)) := hM109
     refine ⟨_, rfl, ?_⟩
     intro a A
     refine sdm A λa A↦?_
     iterate 2 refine sdo A (ze (vs := [.int .i64 p, .int .i64 0]) rfl rfl) λa A↦?_
     iterate 2 refine sda A λa A↦?_
     refine qa (hK108 _ _ (wsk fun K111 hK111 => wrl (sdm A λa A↦?_)))
     refine sdo (v := .bool true) A (qf rfl rfl (fun w => by kernel_rfl)) λa A↦?_
     iterate 3 refine sdm A λa A↦?_
     refine sdo (v := .bool true) A (qf rfl rfl (fun w => (qw w).trans (by rw [show ((p == p)) = true from (by simp)]))) λa A↦?_
     refine sdk (v := .bool true) A λa A↦?_
     refine sda A λa A↦?_
     refine qa (hK111 _ _ (wp_ret (hret _ _ (en1 A rfl (qg rfl) ?_))))
     exact ⟨rfl, M.bel⟩
 refine wsk fun K112 hK112 => wrl (sda A λa A↦?_)
 refine qa (hK112 _ _ (wp_block (zq (fun m_ a w1 => ∃ (c : Nat) (m : Nat) (p : Int) (ys : List Int) (zs : List Nat) (P : Pst) (X : List Ck) (so_ : Option Addr) (ca_ : Nat), m_ = 1 + (8 - c) ∧ (c ≤ 8 ∧ c ≤ l.length ∧ c = zs.length ∧ m = zs.sum ∧ p = ((c : Nat) : Int) - 1 ∧ ys = inZ zs ∧ m ≤ 16 ∧ PL w X P ∧ P.ks = cK zs ∧ P.rr = []) ∧ Sl a 243 [(0, .slice so l.length ca), (1, .int .u8 at_), (5, .pointer (some ⟨gst, 0, none⟩)), (6, .int .i64 p), (7, .int .i64 (((m : Nat) : Int))), (8, .slice so_ ys.length ca_), (9, .int .i64 (((c : Nat) : Int))), (30, .pointer (some ⟨gst, 0, none⟩)), (31, .bool true), (32, .bool false), (33, .bool false), (34, .pointer (some ⟨gst, 0, none⟩)), (35, .bool false), (36, .bool false), (37, .slice (some ⟨g11, 0, none⟩) 0 0)] ∧ Mg w w1 (.row 3 1 (.slice so_ ys.length ca_) ys.length (inC ys) :: (P.pcs gst ++ X))) _ ⟨0, 0, -1, [], [], (⟨none, 0, [], none, 0, []⟩ : Pst), [], some ⟨g11, 0, none⟩, 0, rfl, ⟨by decide, Nat.zero_le _, rfl, rfl, rfl, rfl, by decide, pl0 _, rfl, rfl⟩, A.keep _ (by repeat' constructor), M⟩ ?_)))
 clear M A
 rintro m_ a w113 ⟨c, m, p, ys, zs, P, X, so_, ca_, rfl, hinv115, A, M⟩ K114 hK114
 obtain ⟨hc8, hcl, hcz, hmz, hpc, hys, hm16, hpl, hks, hrr⟩ := hinv115
 have hyl : ys.length = c := by rw [hys, inZ_len, ← hcz]
 refine wsk fun K116 hK116 => wsk fun K117 hK117 => wrl ?_
 iterate 2 refine sdm A λa A↦?_
 refine sdo A (qr Tryz.underlying40 rfl) λa A↦?_
 rcases tf (decide (((c : Nat) : Int) < ((l.length : Nat) : Int))) with hb118 | hb118
 ·
  have hb118' := of_decide_eq_true hb118
  refine sdc A qy hb118 λa A↦?_
  iterate 2 refine sdm A λa A↦?_
  rcases tf (decide (((c : Nat) : Int) < 8)) with hb119 | hb119
  ·
   have hb119' := of_decide_eq_true hb119
   refine sdc A qy hb119 λa A↦?_
   refine sdk (v := .bool true) A λa A↦?_
   refine qa (hK117 _ _ (wp_cond_true (A.ev rfl) ?_))
   refine wp_skip (hK116 _ _ (wsk fun K120 hK120 => wp_block (wsk fun K121 hK121 => wrl ?_)))
   iterate 2 refine sdm A λa A↦?_
   obtain ⟨bx, ox, hx1, hx2, hx3⟩ := by_open (i := c) hb (by omega)
   have hX8 : (l.getD c 0).toNat < 256 := UInt8.toNat_lt _
   obtain ⟨kk, hkk⟩ : ∃ kk, kk = (l.getD c 0).toNat := ⟨_, rfl⟩
   have hk8 : kk < 256 := by omega
   replace hx3 := hx3 c (by omega)
   rw [← hkk] at hx3
   obtain ⟨kn, hkn⟩ : ∃ kn, kn = kk % 4 := ⟨_, rfl⟩
   have hk3 : kn ≤ 3 := by omega
   refine sdo (v := .pointer (some ⟨bx, ox + c, none⟩)) A (zl (k := c) Tryz.underlying40 (by kernel_rfl) rfl rfl rfl hx1 (by omega)) λa A↦?_
   refine sdo A (m_loadR M hx2 hx3 RcL_is1_5 rfl) λa A↦?_
   refine sdo (v := .int .u8 (((kn : Nat) : Int))) A (qf rfl rfl (ar_rem (by decide) ((Int.tmod_eq_emod_of_nonneg (by omega)).trans (by omega)))) λa A↦?_
   refine sdo (v := .int .i64 (((kn : Nat) : Int))) A (xv rfl (ar_conv Tryz.underlying5 Tryz.underlying3 (in_i64 (by omega) (by omega)))) λa A↦?_
   refine sda A λa A↦?_
   refine qa (hK121 _ _ (wsk fun K122 hK122 => wsk fun K123 hK123 => wrl ?_))
   iterate 2 refine sdm A λa A↦?_
   refine sdo (v := .int .i64 (((m + kn : Nat) : Int))) A (qf rfl rfl (ar_add ((in_i64 (by omega) (by omega)).trans (by omega)))) λa A↦?_
   rcases tf (decide (16 < ((m + kn : Nat) : Int))) with hb124 | hb124
   ·
    have hb124' := of_decide_eq_true hb124
    refine sdc A jx hb124 λa A↦?_
    refine qa (hK123 _ _ (wp_cond_true (A.ev rfl) ?_))
    refine wp_exit ?_
    replace M : Mg w w113 (.row 3 1 (.slice so_ ys.length ca_) ys.length (inC ys) :: (P.pcs gst ++ X)) := M
    exact hJ14 _ _ ⟨m, p, ys, zs, P, X, so_, ca_, ⟨hmz, by omega, hys, by omega, hm16, hpl, hks, hrr⟩, A.keep _ (by repeat' constructor), M⟩
   ·
    have hb124' := of_decide_eq_false hb124
    refine sdc A jx hb124 λa A↦?_
    refine qa (hK123 _ _ (wp_cond_false (A.ev rfl) ?_))
    refine wp_skip (hK122 _ _ (wsk fun K125 hK125 => wrl (sdm A λa A↦?_)))
    refine sdo (v := .agg #[.string (⟨#[116]⟩), .int .i64 p, .slice none 0 0, .slice none 0 0, .bool false, .bool false, .string (⟨#[]⟩)]) A (zj rfl (fun w => by kernel_rfl)) λa A↦?_
    refine zw (vs := [.string (⟨#[]⟩), .int .i64 0, .slice none 0 0, .slice none 0 0, .bool false, .bool false, .string (⟨#[]⟩)]) (t := 33) A M rfl rfl rfl pg (zi (z := .agg #[.string (⟨#[]⟩), .int .i64 0, .slice none 0 0, .slice none 0 0, .bool false, .bool false, .string (⟨#[]⟩)]) (by kernel_rfl) rfl) (by decide) ?_
    intro g126 w127 M a A
    refine zh (us := [.string (⟨#[116]⟩), .int .i64 p, .slice none 0 0, .slice none 0 0, .bool false, .bool false, .string (⟨#[]⟩)]) (L' := (.obj g126 (.cells #[.string (⟨#[116]⟩), .int .i64 p, .slice none 0 0, .slice none 0 0, .bool false, .bool false, .string (⟨#[]⟩)] 33) :: .row 3 1 (.slice so_ ys.length ca_) ys.length (inC ys) :: (P.pcs gst ++ X))) A M rfl rfl (qz rfl rfl rfl (by kernel_rfl) M 0 rfl rfl rfl) 0 rfl rfl rfl ?_
    intro w128 M
    refine qa (hK125 _ _ (wsk fun K129 hK129 => wsk fun K130 hK130 => wrl (sda A λa A↦?_)))
    refine qa (hK130 _ _ (wp_block ?_))
    replace M := (M.nilRow (qh (by simp) (qh (by simp) (jd (jd (yv _ _) (vj _)) hpl.nb))) 4 1).nilRow (qh (by simp) (qh (by simp) (qh (by simp) (jd (jd (yv _ _) (vj _)) hpl.nb)))) 9 1
    refine zq (fun m_ a w1 => ∃ (j : Nat) (s1 : Option Addr) (c1 : Nat) (s2 : Option Addr) (c2 : Nat), m_ = 1 + (kn - j) ∧ (j ≤ kn) ∧ Sl a 243 [(0, .slice so l.length ca), (1, .int .u8 at_), (5, .pointer (some ⟨gst, 0, none⟩)), (6, .int .i64 p), (7, .int .i64 (((m : Nat) : Int))), (8, .slice so_ ys.length ca_), (9, .int .i64 (((c : Nat) : Int))), (10, .int .i64 (((kn : Nat) : Int))), (11, .pointer (some ⟨g126, 0, none⟩)), (12, .int .i64 (((j : Nat) : Int))), (30, .pointer (some ⟨gst, 0, none⟩)), (31, .bool true), (32, .bool false), (33, .bool false), (34, .pointer (some ⟨gst, 0, none⟩)), (35, .bool false), (36, .bool false), (37, .slice (some ⟨g11, 0, none⟩) 0 0), (38, .int .i64 (((c : Nat) : Int))), (39, .slice so l.length ca), (40, .int .i64 (((l.length : Nat) : Int))), (41, .bool true), (42, .bool true), (43, .int .i64 (((c : Nat) : Int))), (44, .bool true), (45, .bool true), (48, .slice so l.length ca), (49, .int .i64 (((c : Nat) : Int))), (50, .pointer (some ⟨bx, ox + c, none⟩)), (51, .int .u8 (((kk : Nat) : Int))), (52, .int .u8 (((kn : Nat) : Int))), (53, .int .i64 (((kn : Nat) : Int))), (54, .int .i64 (((m : Nat) : Int))), (55, .int .i64 (((kn : Nat) : Int))), (56, .int .i64 (((m + kn : Nat) : Int))), (57, .bool false), (58, .int .i64 p), (59, .agg #[.string (⟨#[116]⟩), .int .i64 p, .slice none 0 0, .slice none 0 0, .bool false, .bool false, .string (⟨#[]⟩)])] ∧ Mg w w1 (.row 9 1 (.slice s1 ((fld j).length) c1) ((fld j).length) (E.strC (fld j)) :: .row 4 1 (.slice s2 ((mts j).length) c2) ((mts j).length) (E.boolC (mts j)) :: .obj g126 (.cells #[.string (⟨#[116]⟩), .int .i64 p, .slice s1 ((fld j).length) c1, .slice s2 ((mts j).length) c2, .bool false, .bool false, .string (⟨#[]⟩)] 33) :: .row 3 1 (.slice so_ ys.length ca_) ys.length (inC ys) :: (P.pcs gst ++ X))) _ ⟨0, none, 0, none, 0, rfl, (Nat.zero_le _), A.keep _ (by repeat' constructor), M⟩ ?_
    clear M A
    rintro m_ a w131 ⟨j, s1, c1, s2, c2, rfl, hinv133, A, M⟩ K132 hK132
    have hj0 := hinv133
    have hfl := vr j
    have hml := qhd j
    refine wsk fun K134 hK134 => wsk fun K135 hK135 => wrl ?_
    iterate 2 refine sdm A λa A↦?_
    rcases tf (decide (((j : Nat) : Int) < ((kn : Nat) : Int))) with hb136 | hb136
    ·
     have hb136' := of_decide_eq_true hb136
     refine sdc A qy hb136 λa A↦?_
     refine qa (hK135 _ _ (wp_cond_true (A.ev rfl) ?_))
     refine wp_skip (hK134 _ _ (wsk fun K137 hK137 => wp_block (wsk fun K138 hK138 => wrl (sdo (v := .pointer (some ⟨g126, 2, none⟩)) A (qb RcL_fld_33_2 rfl rfl) λa A↦?_))))
     refine sdo A (qj M RcL_is1_30 rfl 2 rfl rfl) λa A↦?_
     refine sdm A λa A↦?_
     refine sdo (v := .int .i64 (((97 + j : Nat) : Int))) A (qf rfl rfl (ar_add ((in_i64 (by omega) (by omega)).trans (by omega)))) λa A↦?_
     refine sdo (v := .int .u8 (((97 + j : Nat) : Int))) A (xv rfl (ar_conv Tryz.underlying3 Tryz.underlying5 (in_u8 (by omega) (by omega)))) λa A↦?_
     refine s_lit (vs := [.int .u8 (((97 + j : Nat) : Int))]) A M rfl rfl rfl (qx rfl (by kernel_rfl)) rfl rfl (qh (by simp) (qh (by simp) (qh (by simp) (qh (by simp) (jd (jd (yv _ _) (vj _)) hpl.nb))))) ?_
     intro g139 w140 M a A
     replace M : Mg w w140 (.row BY 1 (.slice (some ⟨g139, 0, none⟩) 1 1) 1 ((Lib.byteCells [UInt8.ofNat (97 + j)])) :: .row 9 1 (.slice s1 ((fld j).length) c1) ((fld j).length) (E.strC (fld j)) :: .row 4 1 (.slice s2 ((mts j).length) c2) ((mts j).length) (E.boolC (mts j)) :: .obj g126 (.cells #[.string (⟨#[116]⟩), .int .i64 p, .slice s1 ((fld j).length) c1, .slice s2 ((mts j).length) c2, .bool false, .bool false, .string (⟨#[]⟩)] 33) :: .row 3 1 (.slice so_ ys.length ca_) ys.length (inC ys) :: (P.pcs gst ++ X)) := by
      have h9 := M
      rw [ltr_conv j (by omega)] at h9
      exact h9
     refine sdo (v := .string (ltr j)) A (qjj rfl (qji Tryz.underlying40 Tryz.underlying5 Tryz.underlying9 (l := [UInt8.ofNat (97 + j)]) (rb_row M 0 rfl).1 1)) λa A↦?_
     refine ve (e := 9) (sz := 1) (m := 1) (vs := E.strC [ltr j]) A M rfl rfl rfl (qx rfl (by kernel_rfl)) rfl rfl (.inl (by decide)) ?_
     intro g141 w142 M a A
     refine js (e := 9) (sz := 1) (k := 2) (q := (fld j).length) (m := 1) (xs := E.strC (fld j)) (news := E.strC [ltr j]) (L' := fun v143 => (.row 9 1 (.slice (some ⟨g141, 0, none⟩) 1 1) 1 (E.strC [ltr j]) :: .row BY 1 (.slice (some ⟨g139, 0, none⟩) 1 1) 1 ((Lib.byteCells [UInt8.ofNat (97 + j)])) :: .row 9 1 (v143) ((fld j).length + 1) (E.strC (fld j) ++ E.strC [ltr j]) :: .row 4 1 (.slice s2 ((mts j).length) c2) ((mts j).length) (E.boolC (mts j)) :: .obj g126 (.cells #[.string (⟨#[116]⟩), .int .i64 p, .slice s1 ((fld j).length) c1, .slice s2 ((mts j).length) c2, .bool false, .bool false, .string (⟨#[]⟩)] 33) :: .row 3 1 (.slice so_ ys.length ca_) ys.length (inC ys) :: (P.pcs gst ++ X))) A rfl rfl rfl (jw (z := .string ⟨#[]⟩) (sz := 1) (by_ := 16) Tryz.underlying30 (by kernel_rfl) rfl rfl rfl M 2 rfl rfl rfl rfl (rc_own (M.has 0 rfl)) (E.strC_one [ltr j]) (by first | omega | (simp only [List.length_nil]; omega))) (fun _ => rfl) ?_
     intro v143 w144 M a A
     replace M : Mg w w144 (.row 9 1 (.slice (some ⟨g141, 0, none⟩) 1 1) 1 (E.strC [ltr j]) :: .row BY 1 (.slice (some ⟨g139, 0, none⟩) 1 1) 1 ((Lib.byteCells [UInt8.ofNat (97 + j)])) :: .row 9 1 (v143) (((fld j) ++ [ltr j]).length) (E.strC ((fld j) ++ [ltr j])) :: .row 4 1 (.slice s2 ((mts j).length) c2) ((mts j).length) (E.boolC (mts j)) :: .obj g126 (.cells #[.string (⟨#[116]⟩), .int .i64 p, .slice s1 ((fld j).length) c1, .slice s2 ((mts j).length) c2, .bool false, .bool false, .string (⟨#[]⟩)] 33) :: .row 3 1 (.slice so_ ys.length ca_) ys.length (inC ys) :: (P.pcs gst ++ X)) := by
      rw [← E.strC_app, List.length_append]; exact M
     obtain ⟨so145, ca146, rfl⟩ := zx (M.has 2 rfl)
     refine sdo (v := .pointer (some ⟨g126, 2, none⟩)) A (qb RcL_fld_33_2 rfl rfl) λa A↦?_
     refine zh (us := [.string (⟨#[116]⟩), .int .i64 p, .slice so145 (((fld j) ++ [ltr j]).length) ca146, .slice s2 ((mts j).length) c2, .bool false, .bool false, .string (⟨#[]⟩)]) (L' := (.row 9 1 (.slice (some ⟨g141, 0, none⟩) 1 1) 1 (E.strC [ltr j]) :: .row BY 1 (.slice (some ⟨g139, 0, none⟩) 1 1) 1 ((Lib.byteCells [UInt8.ofNat (97 + j)])) :: .row 9 1 (.slice so145 (((fld j) ++ [ltr j]).length) ca146) (((fld j) ++ [ltr j]).length) (E.strC ((fld j) ++ [ltr j])) :: .row 4 1 (.slice s2 ((mts j).length) c2) ((mts j).length) (E.boolC (mts j)) :: .obj g126 (.cells #[.string (⟨#[116]⟩), .int .i64 p, .slice so145 (((fld j) ++ [ltr j]).length) ca146, .slice s2 ((mts j).length) c2, .bool false, .bool false, .string (⟨#[]⟩)] 33) :: .row 3 1 (.slice so_ ys.length ca_) ys.length (inC ys) :: (P.pcs gst ++ X))) A M rfl rfl (qz rfl rfl rfl (by kernel_rfl) M 4 rfl rfl rfl) 4 rfl rfl rfl ?_
     intro w147 M
     refine qa (hK138 _ _ (wrl (sdo (v := .pointer (some ⟨g126, 3, none⟩)) A (qb RcL_fld_33_3 rfl rfl) λa A↦?_)))
     refine sdo A (qj M RcL_is1_31 rfl 4 rfl rfl) λa A↦?_
     refine sdm A λa A↦?_
     refine sdo (v := .int .i64 (((j % 2 : Nat) : Int))) A (qf rfl rfl (ar_rem (by decide) ((Int.tmod_eq_emod_of_nonneg (by omega)).trans (by omega)))) λa A↦?_
     refine sdo (v := .bool (decide (j % 2 = 0))) A (qf rfl rfl (fun w => (qw w).trans (by rw [bq2]))) λa A↦?_
     refine ve (e := 4) (sz := 1) (m := 1) (vs := E.boolC [decide (j % 2 = 0)]) A M rfl rfl rfl (qx rfl (by kernel_rfl)) rfl rfl (.inl (by decide)) ?_
     intro g148 w149 M a A
     refine js (e := 4) (sz := 1) (k := 4) (q := (mts j).length) (m := 1) (xs := E.boolC (mts j)) (news := E.boolC [decide (j % 2 = 0)]) (L' := fun v150 => (.row 4 1 (.slice (some ⟨g148, 0, none⟩) 1 1) 1 (E.boolC [decide (j % 2 = 0)]) :: .row 9 1 (.slice (some ⟨g141, 0, none⟩) 1 1) 1 (E.strC [ltr j]) :: .row BY 1 (.slice (some ⟨g139, 0, none⟩) 1 1) 1 ((Lib.byteCells [UInt8.ofNat (97 + j)])) :: .row 9 1 (.slice so145 (((fld j) ++ [ltr j]).length) ca146) (((fld j) ++ [ltr j]).length) (E.strC ((fld j) ++ [ltr j])) :: .row 4 1 (v150) ((mts j).length + 1) (E.boolC (mts j) ++ E.boolC [decide (j % 2 = 0)]) :: .obj g126 (.cells #[.string (⟨#[116]⟩), .int .i64 p, .slice so145 (((fld j) ++ [ltr j]).length) ca146, .slice s2 ((mts j).length) c2, .bool false, .bool false, .string (⟨#[]⟩)] 33) :: .row 3 1 (.slice so_ ys.length ca_) ys.length (inC ys) :: (P.pcs gst ++ X))) A rfl rfl rfl (jw (z := .bool false) (sz := 1) (by_ := 1) Tryz.underlying31 (by kernel_rfl) rfl rfl rfl M 4 rfl rfl rfl rfl (rc_own (M.has 0 rfl)) (E.boolC_one [decide (j % 2 = 0)]) (by first | omega | (simp only [List.length_nil]; omega))) (fun _ => rfl) ?_
     intro v150 w151 M a A
     replace M : Mg w w151 (.row 4 1 (.slice (some ⟨g148, 0, none⟩) 1 1) 1 (E.boolC [decide (j % 2 = 0)]) :: .row 9 1 (.slice (some ⟨g141, 0, none⟩) 1 1) 1 (E.strC [ltr j]) :: .row BY 1 (.slice (some ⟨g139, 0, none⟩) 1 1) 1 ((Lib.byteCells [UInt8.ofNat (97 + j)])) :: .row 9 1 (.slice so145 (((fld j) ++ [ltr j]).length) ca146) (((fld j) ++ [ltr j]).length) (E.strC ((fld j) ++ [ltr j])) :: .row 4 1 (v150) (((mts j) ++ [decide (j % 2 = 0)]).length) (E.boolC ((mts j) ++ [decide (j % 2 = 0)])) :: .obj g126 (.cells #[.string (⟨#[116]⟩), .int .i64 p, .slice so145 (((fld j) ++ [ltr j]).length) ca146, .slice s2 ((mts j).length) c2, .bool false, .bool false, .string (⟨#[]⟩)] 33) :: .row 3 1 (.slice so_ ys.length ca_) ys.length (inC ys) :: (P.pcs gst ++ X)) := by
      rw [← E.boolC_app, mlen]; exact M
     obtain ⟨so152, ca153, rfl⟩ := zx (M.has 4 rfl)
     refine sdo (v := .pointer (some ⟨g126, 3, none⟩)) A (qb RcL_fld_33_3 rfl rfl) λa A↦?_
     refine zh (us := [.string (⟨#[116]⟩), .int .i64 p, .slice so145 (((fld j) ++ [ltr j]).length) ca146, .slice so152 (((mts j) ++ [decide (j % 2 = 0)]).length) ca153, .bool false, .bool false, .string (⟨#[]⟩)]) (L' := (.row 4 1 (.slice (some ⟨g148, 0, none⟩) 1 1) 1 (E.boolC [decide (j % 2 = 0)]) :: .row 9 1 (.slice (some ⟨g141, 0, none⟩) 1 1) 1 (E.strC [ltr j]) :: .row BY 1 (.slice (some ⟨g139, 0, none⟩) 1 1) 1 ((Lib.byteCells [UInt8.ofNat (97 + j)])) :: .row 9 1 (.slice so145 (((fld j) ++ [ltr j]).length) ca146) (((fld j) ++ [ltr j]).length) (E.strC ((fld j) ++ [ltr j])) :: .row 4 1 (.slice so152 (((mts j) ++ [decide (j % 2 = 0)]).length) ca153) (((mts j) ++ [decide (j % 2 = 0)]).length) (E.boolC ((mts j) ++ [decide (j % 2 = 0)])) :: .obj g126 (.cells #[.string (⟨#[116]⟩), .int .i64 p, .slice so145 (((fld j) ++ [ltr j]).length) ca146, .slice so152 (((mts j) ++ [decide (j % 2 = 0)]).length) ca153, .bool false, .bool false, .string (⟨#[]⟩)] 33) :: .row 3 1 (.slice so_ ys.length ca_) ys.length (inC ys) :: (P.pcs gst ++ X))) A M rfl rfl (qz rfl rfl rfl (by kernel_rfl) M 5 rfl rfl rfl) 5 rfl rfl rfl ?_
     intro w154 M
     refine qa (hK137 _ _ (wrl (sdm A λa A↦?_)))
     refine sdo (v := .int .i64 (((j + 1 : Nat) : Int))) A (qf rfl rfl (ar_add ((in_i64 (by omega) (by omega)).trans (by omega)))) λa A↦?_
     refine sda A λa A↦?_
     refine qa ?_
     replace M : Mg w w154 (.row 9 1 (.slice so145 (((fld j) ++ [ltr j]).length) ca146) (((fld j) ++ [ltr j]).length) (E.strC ((fld j) ++ [ltr j])) :: .row 4 1 (.slice so152 (((mts j) ++ [decide (j % 2 = 0)]).length) ca153) (((mts j) ++ [decide (j % 2 = 0)]).length) (E.boolC ((mts j) ++ [decide (j % 2 = 0)])) :: .obj g126 (.cells #[.string (⟨#[116]⟩), .int .i64 p, .slice so145 (((fld j) ++ [ltr j]).length) ca146, .slice so152 (((mts j) ++ [decide (j % 2 = 0)]).length) ca153, .bool false, .bool false, .string (⟨#[]⟩)] 33) :: .row 3 1 (.slice so_ ys.length ca_) ys.length (inC ys) :: (P.pcs gst ++ X)) := ((((M.bring 6 rfl rfl).bring 6 rfl rfl).bring 6 rfl rfl).bring 6 rfl rfl).sub (cc (cc (cc (cc (cn (cn (cn (.refl _))))))))
     replace M : Mg w w154 (.row 9 1 (.slice so145 ((fld (j + 1)).length) ca146) ((fld (j + 1)).length) (E.strC (fld (j + 1))) :: .row 4 1 (.slice so152 ((mts (j + 1)).length) ca153) ((mts (j + 1)).length) (E.boolC (mts (j + 1))) :: .obj g126 (.cells #[.string (⟨#[116]⟩), .int .i64 p, .slice so145 ((fld (j + 1)).length) ca146, .slice so152 ((mts (j + 1)).length) ca153, .bool false, .bool false, .string (⟨#[]⟩)] 33) :: .row 3 1 (.slice so_ ys.length ca_) ys.length (inC ys) :: (P.pcs gst ++ X)) := by
      rw [fld_succ, mts_succ]; exact M
     refine hK132 _ _ _ (by omega) ⟨j + 1, so145, ca146, so152, ca153, rfl, (by omega), A.keep _ (by repeat' constructor), M⟩
    ·
     have hb136' := of_decide_eq_false hb136
     refine sdc A qy hb136 λa A↦?_
     refine qa (hK135 _ _ (wp_cond_false (A.ev rfl) ?_))
     refine wp_exit (hK129 _ _ (wsk fun K155 hK155 => wrl (sdm A λa A↦?_)))
     refine sdo A (je M RcL_isS_33 rfl 2 rfl (cs := [.string (⟨#[116]⟩), .int .i64 p, .slice s1 ((fld j).length) c1, .slice s2 ((mts j).length) c2, .bool false, .bool false, .string (⟨#[]⟩)]) rfl rfl) λa A↦?_
     have hjk : j = kn := by omega
     have hfl := vr j
     have hml := qhd j
     refine sct A (ef rfl rfl) (p_type1 (EE := [.row 9 1 (.slice s1 ((fld j).length) c1) ((fld j).length) (E.strC (fld j)), .row 4 1 (.slice s2 ((mts j).length) c2) ((mts j).length) (E.boolC (mts j)), .obj g126 (.cells #[.string (⟨#[116]⟩), .int .i64 p, .slice s1 ((fld j).length) c1, .slice s2 ((mts j).length) c2, .bool false, .bool false, .string (⟨#[]⟩)] 33), .row 3 1 (.slice so_ ys.length ca_) ys.length (inC ys)]) hpl (qh (by simp) (qh (by simp) (qh (by simp) (qh (by simp) (qk qm))))) (u := ⟨⟨#[116]⟩, p, s1, c1, fld j, s2, c2, mts j, false, false, ⟨#[]⟩⟩) (fun w1 h1 => ⟨E.rc_own (h1.has 0 rfl), E.rc_own (h1.has 1 rfl)⟩) (show (fld j).length ≤ 2000000 by omega) (show (mts j).length ≤ 2000000 by omega) (show (⟨#[116]⟩ : ByteArray).size ≤ 281474976710656 by decide) (show (⟨#[]⟩ : ByteArray).size ≤ 281474976710656 by decide) (fld_sz j) (ch_ty hpl.ws hks hcz hmz hpc (by omega) (by omega) (by omega)) M) ?_
     rintro _ w157 ⟨P1, F1, rfl, ⟨hpl1, hk1, hr1⟩, hM156⟩
     replace M : Mg w w157 (.row 9 1 (.slice s1 ((fld j).length) c1) ((fld j).length) (E.strC (fld j)) :: .row 4 1 (.slice s2 ((mts j).length) c2) ((mts j).length) (E.boolC (mts j)) :: .obj g126 (.cells #[.string (⟨#[116]⟩), .int .i64 p, .slice s1 ((fld j).length) c1, .slice s2 ((mts j).length) c2, .bool false, .bool false, .string (⟨#[]⟩)] 33) :: .row 3 1 (.slice so_ ys.length ca_) ys.length (inC ys) :: (P1.pcs gst ++ (F1 ++ X))) := hM156
     refine ⟨_, rfl, ?_⟩
     intro a A
     refine sdm A λa A↦?_
     iterate 2 refine sdo A (ze (vs := [.int .i64 (((c : Nat) : Int)), .int .i64 0]) rfl rfl) λa A↦?_
     iterate 2 refine sda A λa A↦?_
     refine qa (hK155 _ _ (wsk fun K158 hK158 => wsk fun K159 hK159 => wrl (sdm A λa A↦?_)))
     refine sdo (v := .bool false) A (qf rfl rfl (fun w => by kernel_rfl)) λa A↦?_
     iterate 3 refine sdm A λa A↦?_
     refine sdo (v := .bool false) A (qf rfl rfl (fun w => (ja w).trans (by rw [show ((((c : Nat) : Int) != ((c : Nat) : Int))) = false from (by simp)]))) λa A↦?_
     refine sdk (v := .bool false) A λa A↦?_
     refine qa (hK159 _ _ (wp_cond_false (A.ev rfl) ?_))
     refine wp_skip (hK158 _ _ (wsk fun K160 hK160 => wrl (sdm A λa A↦?_)))
     refine sda A λa A↦?_
     refine qa (hK160 _ _ (wsk fun K161 hK161 => wrl ?_))
     iterate 2 refine sdm A λa A↦?_
     refine sdo (v := .int .i64 (((m + kn : Nat) : Int))) A (qf rfl rfl (ar_add ((in_i64 (by omega) (by omega)).trans (by omega)))) λa A↦?_
     refine sda A λa A↦?_
     refine qa (hK161 _ _ (wrl ?_))
     iterate 2 refine sdm A λa A↦?_
     refine ve (e := 3) (sz := 1) (m := 1) (vs := inC [((kn : Nat) : Int)]) A M rfl rfl rfl (qx rfl (by kernel_rfl)) rfl rfl (.inl (by decide)) ?_
     intro g162 w163 M a A
     refine js (e := 3) (sz := 1) (k := 4) (q := ys.length) (m := 1) (xs := inC ys) (news := inC [((kn : Nat) : Int)]) (L' := fun v164 => (.row 3 1 (.slice (some ⟨g162, 0, none⟩) 1 1) 1 (inC [((kn : Nat) : Int)]) :: .row 9 1 (.slice s1 ((fld j).length) c1) ((fld j).length) (E.strC (fld j)) :: .row 4 1 (.slice s2 ((mts j).length) c2) ((mts j).length) (E.boolC (mts j)) :: .obj g126 (.cells #[.string (⟨#[116]⟩), .int .i64 p, .slice s1 ((fld j).length) c1, .slice s2 ((mts j).length) c2, .bool false, .bool false, .string (⟨#[]⟩)] 33) :: .row 3 1 (v164) (ys.length + 1) (inC ys ++ inC [((kn : Nat) : Int)]) :: (P1.pcs gst ++ (F1 ++ X)))) A rfl rfl rfl (jw (z := .int .i64 0) (sz := 1) (by_ := 8) Tryz.underlying68 (by kernel_rfl) rfl rfl rfl M 4 rfl rfl rfl rfl (rc_own (M.has 0 rfl)) (inC_one [((kn : Nat) : Int)]) (by first | omega | (simp only [List.length_nil]; omega))) (fun _ => rfl) ?_
     intro v164 w165 M a A
     replace M : Mg w w165 (.row 3 1 (.slice (some ⟨g162, 0, none⟩) 1 1) 1 (inC [((kn : Nat) : Int)]) :: .row 9 1 (.slice s1 ((fld j).length) c1) ((fld j).length) (E.strC (fld j)) :: .row 4 1 (.slice s2 ((mts j).length) c2) ((mts j).length) (E.boolC (mts j)) :: .obj g126 (.cells #[.string (⟨#[116]⟩), .int .i64 p, .slice s1 ((fld j).length) c1, .slice s2 ((mts j).length) c2, .bool false, .bool false, .string (⟨#[]⟩)] 33) :: .row 3 1 (v164) ((ys ++ [((kn : Nat) : Int)]).length) (inC (ys ++ [((kn : Nat) : Int)])) :: (P1.pcs gst ++ (F1 ++ X))) := by
      rw [qca, List.length_append]; exact M
     obtain ⟨so166, ca167, rfl⟩ := zx (M.has 4 rfl)
     refine sda A λa A↦?_
     refine qa (hK120 _ _ (wrl (sdm A λa A↦?_)))
     refine sdo (v := .int .i64 (((c + 1 : Nat) : Int))) A (qf rfl rfl (ar_add ((in_i64 (by omega) (by omega)).trans (by omega)))) λa A↦?_
     refine sda A λa A↦?_
     refine qa ?_
     replace M : Mg w w165 (.row 3 1 (.slice so166 ((ys ++ [((kn : Nat) : Int)]).length) ca167) ((ys ++ [((kn : Nat) : Int)]).length) (inC (ys ++ [((kn : Nat) : Int)])) :: (P1.pcs gst ++ (F1 ++ X))) := (M.bring 4 rfl rfl).sub (cc (cn (cn (cn (cn (.refl _))))))
     refine hK114 _ _ _ (by omega) ⟨c + 1, m + kn, ((c : Nat) : Int), (ys ++ [((kn : Nat) : Int)]), zs ++ [kn], P1, (F1 ++ X), so166, ca167, rfl, ⟨by omega, by omega, by rw [List.length_append, ← hcz]; rfl, by rw [List.sum_append, ← hmz]; simp, by omega, by rw [inZ_snoc, hys], by omega, hpl1, hk1.trans (ch_snoc hks hcz hpc hjk), hr1.trans hrr⟩, A.keep _ (by repeat' constructor), M⟩
  ·
   have hb119' := of_decide_eq_false hb119
   refine sdc A qy hb119 λa A↦?_
   refine sdk (v := .bool false) A λa A↦?_
   refine qa (hK117 _ _ (wp_cond_false (A.ev rfl) ?_))
   refine wp_exit ?_
   replace M : Mg w w113 (.row 3 1 (.slice so_ ys.length ca_) ys.length (inC ys) :: (P.pcs gst ++ X)) := M
   exact hJ14 _ _ ⟨m, p, ys, zs, P, X, so_, ca_, ⟨hmz, by omega, hys, by omega, hm16, hpl, hks, hrr⟩, A.keep _ (by repeat' constructor), M⟩
 ·
  have hb118' := of_decide_eq_false hb118
  refine sdc A qy hb118 λa A↦?_
  refine sdm A λa A↦?_
  iterate 2 refine ql A rfl rfl rfl λa A↦?_
  refine sdk (v := .bool false) A λa A↦?_
  refine qa (hK117 _ _ (wp_cond_false (A.ev rfl) ?_))
  refine wp_exit ?_
  replace M : Mg w w113 (.row 3 1 (.slice so_ ys.length ca_) ys.length (inC ys) :: (P.pcs gst ++ X)) := M
  exact hJ14 _ _ ⟨m, p, ys, zs, P, X, so_, ca_, ⟨hmz, by omega, hys, by omega, hm16, hpl, hks, hrr⟩, A.keep _ (by repeat' constructor), M⟩
open Go.ChangeShapes Go.WideShapes Go.ChangeAt Go.RowKit Go.Joins Go.Deep
section
variable {H : Type} {enc : TypeId × Value → H} {W : World}
end
theorem bytes_row {w : World} {x : Addr} {len cap : Nat} {zs : List Int} (hl : len ≤ cap) (hz : zs.length = cap)
    (hc : ∀ i, i < zs.length → w.cell? (x.add i) = some (.int .u8 (zs.getD i 0))) (hw : ∀ n ∈ zs, (Lit.int .u8 n).wf = true) :
    ∃ l : List UInt8, l.length = len ∧ Rb w (some x) l := by
  have hbd : ∀ n ∈ zs, 0 ≤ n ∧ n < 256 := by
    intro n hn
    have := bounds_u8 (hw n hn)
    omega
  refine ⟨(zs.take len).map b8, by rw [List.length_map, List.length_take]; omega, ⟨fun hne => ?_⟩⟩
  have hlen : ((zs.take len).map b8).length = len := by rw [List.length_map, List.length_take]; omega
  have h0 : 0 < len := by
    apply Classical.byContradiction
    intro h
    have : len = 0 := by omega
    subst this
    simp at hne
  obtain ⟨b, off, spot⟩ := x
  have hspot : spot = none := by
    have := hc 0 (by omega)
    simp only [World.cell?, Addr.add] at this
    split at this
    · cases spot with
      | none => rfl
      | some s => simp at this
    · cases this
  subst hspot
  have hcj : ∀ j, j < len → w.cell? ⟨b, off + j, none⟩ = some (.int .u8 (((((zs.take len).map b8).getD j 0).toNat : Nat) : Int)) := by
    intro j hj
    have h1 := hc j (by omega)
    rw [Addr.add_lit] at h1
    rw [h1]
    have hjz : j < zs.length := by omega
    have h2 := hbd zs[j] (List.getElem_mem hjz)
    have e1 : zs.getD j 0 = zs[j] := by simp [hjz]
    have e2 : ((zs.take len).map b8).getD j 0 = b8 zs[j] := by simp [List.getD_eq_getElem?_getD, hj, hjz]
    rw [e1, e2, b8_val h2.1 h2.2]
  refine ⟨b, off, rfl, ?_, fun j hj => hcj j (by omega)⟩
  have := hcj 0 h0
  apply Classical.byContradiction
  intro h
  simp [World.cell?, Array.getElem?_eq_none (Nat.le_of_not_lt h)] at this
section
variable {H : Type} {enc : TypeId × Value → H} {W : World}
end
theorem Rb.take {w : World} {so : Option Addr} {l : List UInt8} (h : Rb w so l) (n : Nat) : Rb w so (l.take n) := by
  refine ⟨fun hne => ?_⟩
  obtain ⟨b, off, h1, h2, h3⟩ := h.pos (fun k => hne (by rw [k]; simp))
  refine ⟨b, off, h1, h2, fun j hj => ?_⟩
  rw [List.length_take] at hj
  rw [h3 j (by omega), List.getD_eq_getElem?_getD, List.getD_eq_getElem?_getD, List.getElem?_take_of_lt (by omega)]
section
variable {P : Program} {w : World} {l : List (Nat × Value)} {dst : Option Tmp} {ty : TypeId} {pos : String} {after : Array Edge} {guard : Option (Nat × Bool)}
end
end Go.Proofs.YtokgmpjblnpjmaaGreatDoor.G
