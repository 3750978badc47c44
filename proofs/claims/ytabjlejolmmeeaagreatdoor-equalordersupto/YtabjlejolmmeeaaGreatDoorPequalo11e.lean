/- Walks of what makes a node sound. Walks of the document's Sound. Walks of sound data. The walk of the document's Sound. Walks of the order of numbers. Walks of small comparisons, and of the hash of lists. Walks of the order of data. -/
import Derived.Test.YtabjlejolmmeeaaGreatDoorPequalo11d
import Derived.Test.YtabjlejolmmeeaaGreatDoorShelfB
import Derived.Test.YtabjlejolmmeeaaGreatDoorPequalo11a
namespace Go.Proofs.YtabjlejolmmeeaaGreatDoor.G
open Go.RowKit
set_option linter.unusedVariables false
set_option linter.unusedSimpArgs false
set_option maxRecDepth 100000
theorem TrB_is1_22 : Is1 Tryz.prog 22 := ⟨⟨_, Tryz.underlying22, rfl⟩, by kernel_rfl⟩
theorem TrB_is1_27 : Is1 Tryz.prog 27 := ⟨⟨_, Tryz.underlying27, rfl⟩, by kernel_rfl⟩
theorem TrB_is1_28 : Is1 Tryz.prog 28 := ⟨⟨_, Tryz.underlying28, rfl⟩, by kernel_rfl⟩
theorem TrB_is1_3 : Is1 Tryz.prog 3 := ⟨⟨_, Tryz.underlying3, rfl⟩, by kernel_rfl⟩
theorem TrB_is1_4 : Is1 Tryz.prog 4 := ⟨⟨_, Tryz.underlying4, rfl⟩, by kernel_rfl⟩
theorem TrB_is1_9 : Is1 Tryz.prog 9 := ⟨⟨_, Tryz.underlying9, rfl⟩, by kernel_rfl⟩
theorem TrB_fld_24_0 : FieldAt Tryz.prog 24 0 0 := ⟨_, _, Tryz.underlying24, rfl, rfl, by kernel_rfl⟩
theorem TrB_fld_24_1 : FieldAt Tryz.prog 24 1 1 := ⟨_, _, Tryz.underlying24, rfl, rfl, by kernel_rfl⟩
theorem TrB_fld_24_2 : FieldAt Tryz.prog 24 2 2 := ⟨_, _, Tryz.underlying24, rfl, rfl, by kernel_rfl⟩
theorem TrB_fld_26_0 : FieldAt Tryz.prog 26 0 0 := ⟨_, _, Tryz.underlying26, rfl, rfl, by kernel_rfl⟩
theorem TrB_fld_26_1 : FieldAt Tryz.prog 26 1 3 := ⟨_, _, Tryz.underlying26, rfl, rfl, by kernel_rfl⟩
theorem TrB_fld_30_0 : FieldAt Tryz.prog 30 0 0 := ⟨_, _, Tryz.underlying30, rfl, rfl, by kernel_rfl⟩
theorem TrB_fld_30_1 : FieldAt Tryz.prog 30 1 1 := ⟨_, _, Tryz.underlying30, rfl, rfl, by kernel_rfl⟩
theorem TrB_fld_30_2 : FieldAt Tryz.prog 30 2 2 := ⟨_, _, Tryz.underlying30, rfl, rfl, by kernel_rfl⟩
theorem TrB_fld_30_3 : FieldAt Tryz.prog 30 3 8 := ⟨_, _, Tryz.underlying30, rfl, rfl, by kernel_rfl⟩
theorem TrB_fld_30_4 : FieldAt Tryz.prog 30 4 9 := ⟨_, _, Tryz.underlying30, rfl, rfl, by kernel_rfl⟩
theorem TrB_fld_30_5 : FieldAt Tryz.prog 30 5 10 := ⟨_, _, Tryz.underlying30, rfl, rfl, by kernel_rfl⟩
theorem TrB_isS_24 : IsS Tryz.prog 24 3 := ⟨⟨_, Tryz.underlying24⟩, by kernel_rfl⟩
theorem TrB_isS_26 : IsS Tryz.prog 26 6 := ⟨⟨_, Tryz.underlying26⟩, by kernel_rfl⟩
theorem TrB_isS_30 : IsS Tryz.prog 30 11 := ⟨⟨_, Tryz.underlying30⟩, by kernel_rfl⟩
/-- The library's tables of characters are there. -/
def Tabs8 (w : World) : Prop := Lib.Utf8Tabs (Tryz.laysValid_ren.g 3) (Tryz.laysValid_ren.g 4) w
theorem Tabs8.below {w w' : World} (h : Tabs8 w) (hb : Below w.heap.size w w') : Tabs8 w' := Utf8Tabs_below h hb
theorem valid_any {w : World} {s : ByteArray} (hs : s.size ≤ 9223372036854775807) (hT : Tabs8 w) {b : Bool} (h : okS s = b) : Calls Tryz.prog 67 #[.string s] w fun e w' => e = .returned (.bool b) ∧ Below w.heap.size w w' := h ▸ Any.utf8_ValidString Tryz.laysValid s w hs hT
theorem vrune_any {w : World} {r : Int} : Calls Tryz.prog 83 #[.int .i32 r] w fun e w' => e = .returned (.bool (Lib.validRune r)) ∧ Below w.heap.size w w' := (Tryz.utf8_ValidRune r w).mono fun e w' ⟨h, e2⟩ => ⟨h, e2 ▸ Below.refl _ _⟩
theorem convert_rune {P : Program} {s d : TypeId} (hs : P.underlying s = some (.int .i64)) (hd : P.underlying d = some (.int .i32)) {n : Int} (h0 : 0 ≤ n) (h1 : n ≤ 1114111) : ∀ w, (convert s d (.int .i64 n)).run P w = .ok (.int .i32 n) w := fun w => by
 simp [go_sem, run_underlying hs, run_underlying hd, convert]
 exact in_i32 (by omega) (by omega)
theorem isCh_any {w : World} {n : Int} : Calls Tryz.prog 66 #[.int .i64 n] w fun e w' => e = .returned (.bool (isCh n)) ∧ Below w.heap.size w w' := by
 have M : Mg w w ([]) := Mg.start w
 refine walk_of (l := [(0, .int .i64 n)]) Tryz.func66 rfl Tryz.ntmps66 rfl rfl ?_
 intro Q hret hnorm hP a A
 refine wsk fun K1 hK1 => wrl (sda A λa A↦?_)
 refine seq_end (hK1 _ _ (wsk fun K2 hK2 => wrl (sdm A λa A↦?_)))
 rcases tf (decide (0 ≤ n)) with hb3 | hb3
 ·
  have hb3' := of_decide_eq_true hb3
  refine sdo (v := .bool true) A (does_bin rfl rfl (fun w => (bin_geq w).trans (by rw [hb3]))) λa A↦?_
  iterate 2 refine sdm A λa A↦?_
  rcases tf (decide (n ≤ 1114111)) with hb4 | hb4
  ·
   have hb4' := of_decide_eq_true hb4
   refine sdo (v := .bool true) A (does_bin rfl rfl (fun w => (bin_leq w).trans (by rw [hb4]))) λa A↦?_
   refine sdk (v := .bool true) A λa A↦?_
   iterate 2 refine sdm A λa A↦?_
   refine sdo (v := .int .i32 n) A (does_convert rfl (convert_rune Tryz.underlying3 Tryz.underlying21 (by omega) (by omega))) λa A↦?_
   refine seq_call A rfl rfl rfl (enters_func rfl rfl (fun w => by kernel_rfl)) (vrune_any) ?_
   rintro _ w5 ⟨rfl, hbv⟩
   replace M := M.call hbv
   refine ⟨_, rfl, ?_⟩
   intro a A
   refine sdo (v := .bool (Lib.validRune n)) A (does_pick rfl rfl rfl rfl) λa A↦?_
   refine sda A λa A↦?_
   refine seq_end (hK2 _ _ (wp_ret (hret _ _ (en1 A rfl (res_tmp rfl) ?_))))
   exact ⟨by rw [show isCh n = Lib.validRune n from by unfold isCh; unfold Lib.validRune; exact decide_eq_decide.2 (by omega)], M.bel⟩
  ·
   have hb4' := of_decide_eq_false hb4
   refine sdo (v := .bool false) A (does_bin rfl rfl (fun w => (bin_leq w).trans (by rw [hb4]))) λa A↦?_
   refine sdk (v := .bool false) A λa A↦?_
   refine sdm A λa A↦?_
   iterate 3 refine seq_skip A rfl rfl rfl λa A↦?_
   refine sdk (v := .bool false) A λa A↦?_
   refine sda A λa A↦?_
   refine seq_end (hK2 _ _ (wp_ret (hret _ _ (en1 A rfl (res_tmp rfl) ?_))))
   exact ⟨by rw [show isCh n = false from by unfold isCh; apply decide_eq_false; omega], M.bel⟩
 ·
  have hb3' := of_decide_eq_false hb3
  refine sdo (v := .bool false) A (does_bin rfl rfl (fun w => (bin_geq w).trans (by rw [hb3]))) λa A↦?_
  refine sdm A λa A↦?_
  iterate 2 refine seq_skip A rfl rfl rfl λa A↦?_
  refine sdk (v := .bool false) A λa A↦?_
  refine sdm A λa A↦?_
  iterate 3 refine seq_skip A rfl rfl rfl λa A↦?_
  refine sdk (v := .bool false) A λa A↦?_
  refine sda A λa A↦?_
  refine seq_end (hK2 _ _ (wp_ret (hret _ _ (en1 A rfl (res_tmp rfl) ?_))))
  exact ⟨by rw [show isCh n = false from by unfold isCh; apply decide_eq_false; omega], M.bel⟩
theorem wrap_sum {m1 m2 : Nat} (h1 : m1 ≤ 9223372036854775807) (h2 : m2 ≤ 9223372036854775807) : (IntKind.i64.wrap (((m1 : Nat) : Int) + ((m2 : Nat) : Int)) == 0) = (decide (m1 = 0) && decide (m2 = 0)) := by
 rw [IntKind.wrap_i64]
 by_cases a1 : m1 = 0
 ·
  subst a1
  by_cases a2 : m2 = 0
  ·
   subst a2; rfl
  ·
   simp [a2]; omega
 ·
  simp [a1]; omega
theorem wordless_any {w : World} {b : Bool} {o1 o2 : Option Addr} {m1 m2 c1 c2 : Nat} (h1 : m1 ≤ 9223372036854775807) (h2 : m2 ≤ 9223372036854775807) {r : Bool} (hr : nowB b m1 m2 = r) : Calls Tryz.prog 85 #[.agg #[.bool b, .slice o1 m1 c1, .slice o2 m2 c2]] w fun e w' => e = .returned (.bool r) ∧ Below w.heap.size w w' := by
 have M : Mg w w ([]) := Mg.start w
 refine walk_of (l := [(0, .agg #[.bool b, .slice o1 m1 c1, .slice o2 m2 c2])]) Tryz.func85 rfl Tryz.ntmps85 rfl rfl ?_
 intro Q hret hnorm hP a A
 refine wsk fun K1 hK1 => wrl (s_new (vs := [.bool b, .slice o1 m1 c1, .slice o2 m2 c2]) (t := 24) A M rfl rfl rfl pg (does_box rfl rfl) (by decide) ?_)
 intro g2 w3 M a A
 refine sda A λa A↦?_
 refine seq_end (hK1 _ _ (wsk fun K4 hK4 => wrl (sdo (v := .pointer (some ⟨g2, 0, none⟩)) A (does_field TrB_fld_24_0 rfl rfl) λa A↦?_)))
 refine sdo A (m_load1 M TrB_is1_4 rfl 0 rfl rfl) λa A↦?_
 rcases b with _ | _
 ·
  refine sdo (v := .bool true) A (does_un rfl un_not) λa A↦?_
  refine sdm A λa A↦?_
  refine sdo (v := .pointer (some ⟨g2, 1, none⟩)) A (does_field TrB_fld_24_1 rfl rfl) λa A↦?_
  refine sdo A (m_load1 M TrB_is1_22 rfl 0 rfl rfl) λa A↦?_
  refine sdo A (does_len Tryz.underlying22 rfl) λa A↦?_
  rcases tf ((((m1 : Nat) : Int) == 0)) with hb5 | hb5
  ·
   have hb5' := eq_of_beq hb5
   refine sdo (v := .bool true) A (does_bin rfl rfl (fun w => (bin_eql w).trans (by rw [hb5]))) λa A↦?_
   refine sdk (v := .bool true) A λa A↦?_
   refine sdm A λa A↦?_
   refine sdo (v := .pointer (some ⟨g2, 2, none⟩)) A (does_field TrB_fld_24_2 rfl rfl) λa A↦?_
   refine sdo A (m_load1 M TrB_is1_22 rfl 0 rfl rfl) λa A↦?_
   refine sdo A (does_len Tryz.underlying22 rfl) λa A↦?_
   rcases tf ((((m2 : Nat) : Int) == 0)) with hb6 | hb6
   ·
    have hb6' := eq_of_beq hb6
    refine sdo (v := .bool true) A (does_bin rfl rfl (fun w => (bin_eql w).trans (by rw [hb6]))) λa A↦?_
    refine sdk (v := .bool true) A λa A↦?_
    refine sda A λa A↦?_
    refine seq_end (hK4 _ _ (wp_ret (hret _ _ (en1 A rfl (res_tmp rfl) ?_))))
    subst hr
    exact ⟨by unfold nowB; simp_all; try omega, M.bel⟩
   ·
    have hb6' := ne_of_beq_false hb6
    refine sdo (v := .bool false) A (does_bin rfl rfl (fun w => (bin_eql w).trans (by rw [hb6]))) λa A↦?_
    refine sdk (v := .bool false) A λa A↦?_
    refine sda A λa A↦?_
    refine seq_end (hK4 _ _ (wp_ret (hret _ _ (en1 A rfl (res_tmp rfl) ?_))))
    subst hr
    exact ⟨by unfold nowB; simp_all; try omega, M.bel⟩
  ·
   have hb5' := ne_of_beq_false hb5
   refine sdo (v := .bool false) A (does_bin rfl rfl (fun w => (bin_eql w).trans (by rw [hb5]))) λa A↦?_
   refine sdk (v := .bool false) A λa A↦?_
   refine sdm A λa A↦?_
   iterate 4 refine seq_skip A rfl rfl rfl λa A↦?_
   refine sdk (v := .bool false) A λa A↦?_
   refine sda A λa A↦?_
   refine seq_end (hK4 _ _ (wp_ret (hret _ _ (en1 A rfl (res_tmp rfl) ?_))))
   subst hr
   exact ⟨by unfold nowB; simp_all; try omega, M.bel⟩
 ·
  refine sdo (v := .bool false) A (does_un rfl un_not) λa A↦?_
  refine sdm A λa A↦?_
  iterate 4 refine seq_skip A rfl rfl rfl λa A↦?_
  refine sdk (v := .bool false) A λa A↦?_
  refine sdm A λa A↦?_
  iterate 4 refine seq_skip A rfl rfl rfl λa A↦?_
  refine sdk (v := .bool false) A λa A↦?_
  refine sda A λa A↦?_
  refine seq_end (hK4 _ _ (wp_ret (hret _ _ (en1 A rfl (res_tmp rfl) ?_))))
  subst hr
  exact ⟨by unfold nowB; simp_all; try omega, M.bel⟩
theorem noRat_any {w : World} {b : Bool} {o1 o2 : Option Addr} {m1 m2 c1 c2 : Nat} (h1 : m1 ≤ 9223372036854775807) (h2 : m2 ≤ 9223372036854775807) {r : Bool} (hr : nowB b m1 m2 = r) : Calls Tryz.prog 48 #[.agg #[.bool b, .slice o1 m1 c1, .slice o2 m2 c2]] w fun e w' => e = .returned (.bool r) ∧ Below w.heap.size w w' := by
 have M : Mg w w ([]) := Mg.start w
 refine walk_of (l := [(0, .agg #[.bool b, .slice o1 m1 c1, .slice o2 m2 c2])]) Tryz.func48 rfl Tryz.ntmps48 rfl rfl ?_
 intro Q hret hnorm hP a A
 refine wsk fun K1 hK1 => wrl (s_new (vs := [.bool b, .slice o1 m1 c1, .slice o2 m2 c2]) (t := 24) A M rfl rfl rfl pg (does_box rfl rfl) (by decide) ?_)
 intro g2 w3 M a A
 refine sda A λa A↦?_
 refine seq_end (hK1 _ _ (wsk fun K4 hK4 => wrl (sdo (v := .pointer (some ⟨g2, 0, none⟩)) A (does_field TrB_fld_24_0 rfl rfl) λa A↦?_)))
 refine sdo A (m_load1 M TrB_is1_4 rfl 0 rfl rfl) λa A↦?_
 rcases b with _ | _
 ·
  refine sdo (v := .bool true) A (does_un rfl un_not) λa A↦?_
  refine sdm A λa A↦?_
  refine sdo (v := .pointer (some ⟨g2, 1, none⟩)) A (does_field TrB_fld_24_1 rfl rfl) λa A↦?_
  refine sdo A (m_load1 M TrB_is1_22 rfl 0 rfl rfl) λa A↦?_
  refine sdo A (does_len Tryz.underlying22 rfl) λa A↦?_
  refine sdo (v := .pointer (some ⟨g2, 2, none⟩)) A (does_field TrB_fld_24_2 rfl rfl) λa A↦?_
  refine sdo A (m_load1 M TrB_is1_22 rfl 0 rfl rfl) λa A↦?_
  refine sdo A (does_len Tryz.underlying22 rfl) λa A↦?_
  refine sdo (v := .int .i64 (IntKind.i64.wrap (((m1 : Nat) : Int) + ((m2 : Nat) : Int)))) A (does_bin rfl rfl (ar_add rfl)) λa A↦?_
  rcases tf ((IntKind.i64.wrap (((m1 : Nat) : Int) + ((m2 : Nat) : Int)) == 0)) with hb5 | hb5
  ·
   have hb5' := eq_of_beq hb5
   refine sdo (v := .bool true) A (does_bin rfl rfl (fun w => (bin_eql w).trans (by rw [hb5]))) λa A↦?_
   refine sdk (v := .bool true) A λa A↦?_
   refine sda A λa A↦?_
   refine seq_end (hK4 _ _ (wp_ret (hret _ _ (en1 A rfl (res_tmp rfl) ?_))))
   subst hr
   have e9 := wrap_sum h1 h2
   try rw [e9] at hb5
   exact ⟨by unfold nowB; simp_all; try omega, M.bel⟩
  ·
   have hb5' := ne_of_beq_false hb5
   refine sdo (v := .bool false) A (does_bin rfl rfl (fun w => (bin_eql w).trans (by rw [hb5]))) λa A↦?_
   refine sdk (v := .bool false) A λa A↦?_
   refine sda A λa A↦?_
   refine seq_end (hK4 _ _ (wp_ret (hret _ _ (en1 A rfl (res_tmp rfl) ?_))))
   subst hr
   have e9 := wrap_sum h1 h2
   try rw [e9] at hb5
   exact ⟨by unfold nowB; simp_all; try omega, M.bel⟩
 ·
  refine sdo (v := .bool false) A (does_un rfl un_not) λa A↦?_
  refine sdm A λa A↦?_
  iterate 8 refine seq_skip A rfl rfl rfl λa A↦?_
  refine sdk (v := .bool false) A λa A↦?_
  refine sda A λa A↦?_
  refine seq_end (hK4 _ _ (wp_ret (hret _ _ (en1 A rfl (res_tmp rfl) ?_))))
  subst hr
  have e9 := wrap_sum h1 h2
  exact ⟨by unfold nowB; simp_all; try omega, M.bel⟩
theorem bare_any {w : World} {k n : Int} {b1 b2 : Bool} {o1 o2 o3 o4 ro lo : Option Addr} {m1 m2 m3 m4 mr ml c1 c2 c3 c4 rc lc : Nat} {s : ByteArray} (h1 : m1 ≤ 9223372036854775807) (h2 : m2 ≤ 9223372036854775807) (h3 : m3 ≤ 9223372036854775807) (h4 : m4 ≤ 9223372036854775807) {r : Bool} (hr : bareB n b1 m1 m2 b2 m3 m4 s mr ml = r) : Calls Tryz.prog 68 #[.agg #[.int .i64 k, .int .i64 n, .bool b1, .slice o1 m1 c1, .slice o2 m2 c2, .bool b2, .slice o3 m3 c3, .slice o4 m4 c4, .string s, .slice ro mr rc, .slice lo ml lc]] w fun e w' => e = .returned (.bool r) ∧ Below w.heap.size w w' := by
 have M : Mg w w ([]) := Mg.start w
 refine walk_of (l := [(0, .agg #[.int .i64 k, .int .i64 n, .bool b1, .slice o1 m1 c1, .slice o2 m2 c2, .bool b2, .slice o3 m3 c3, .slice o4 m4 c4, .string s, .slice ro mr rc, .slice lo ml lc])]) Tryz.func68 rfl Tryz.ntmps68 rfl rfl ?_
 intro Q hret hnorm hP a A
 refine wsk fun K1 hK1 => wrl (s_new (vs := [.int .i64 k, .int .i64 n, .bool b1, .slice o1 m1 c1, .slice o2 m2 c2, .bool b2, .slice o3 m3 c3, .slice o4 m4 c4, .string s, .slice ro mr rc, .slice lo ml lc]) (t := 30) A M rfl rfl rfl pg (does_box rfl rfl) (by decide) ?_)
 intro g2 w3 M a A
 refine sda A λa A↦?_
 refine seq_end (hK1 _ _ (wsk fun K4 hK4 => wrl (sdo (v := .pointer (some ⟨g2, 1, none⟩)) A (does_field TrB_fld_30_1 rfl rfl) λa A↦?_)))
 refine sdo A (m_load1 M TrB_is1_3 rfl 0 rfl rfl) λa A↦?_
 rcases tf ((n == 0)) with hb5 | hb5
 ·
  have hb5' := eq_of_beq hb5
  refine sdo (v := .bool true) A (does_bin rfl rfl (fun w => (bin_eql w).trans (by rw [hb5]))) λa A↦?_
  refine sdm A λa A↦?_
  refine sdo (v := .pointer (some ⟨g2, 2, none⟩)) A (does_field TrB_fld_30_2 rfl rfl) λa A↦?_
  refine sdo (v := .pointer (some ⟨g2, 2, none⟩)) A (does_field TrB_fld_26_0 rfl rfl) λa A↦?_
  refine sdo A (m_loadS M TrB_isS_24 rfl 0 rfl (cs := [.bool b1, .slice o1 m1 c1, .slice o2 m2 c2]) rfl rfl) λa A↦?_
  rcases tf (nowB b1 m1 m2) with hb6 | hb6
  ·
   refine seq_call A rfl rfl rfl (enters_func rfl rfl (fun w => by kernel_rfl)) (wordless_any h1 h2 hb6) ?_
   rintro _ w8 ⟨rfl, hb7⟩
   replace M := M.call hb7
   refine ⟨_, rfl, ?_⟩
   intro a A
   refine sdk (v := .bool true) A λa A↦?_
   refine sdm A λa A↦?_
   refine sdo (v := .pointer (some ⟨g2, 2, none⟩)) A (does_field TrB_fld_30_2 rfl rfl) λa A↦?_
   refine sdo (v := .pointer (some ⟨g2, 5, none⟩)) A (does_field TrB_fld_26_1 rfl rfl) λa A↦?_
   refine sdo A (m_loadS M TrB_isS_24 rfl 0 rfl (cs := [.bool b2, .slice o3 m3 c3, .slice o4 m4 c4]) rfl rfl) λa A↦?_
   rcases tf (nowB b2 m3 m4) with hb9 | hb9
   ·
    refine seq_call A rfl rfl rfl (enters_func rfl rfl (fun w => by kernel_rfl)) (wordless_any h3 h4 hb9) ?_
    rintro _ w11 ⟨rfl, hb10⟩
    replace M := M.call hb10
    refine ⟨_, rfl, ?_⟩
    intro a A
    refine sdk (v := .bool true) A λa A↦?_
    refine sdm A λa A↦?_
    refine sdo (v := .pointer (some ⟨g2, 8, none⟩)) A (does_field TrB_fld_30_3 rfl rfl) λa A↦?_
    refine sdo A (m_load1 M TrB_is1_9 rfl 0 rfl rfl) λa A↦?_
    rcases tf (decide (s = ⟨#[]⟩)) with hb12 | hb12
    ·
     have hb12' := of_decide_eq_true hb12
     refine sdo (v := .bool true) A (does_bin rfl rfl (fun w => (bin_eqlS Tryz.underlying9 w).trans (by rw [hb12] <;> rfl))) λa A↦?_
     refine sdk (v := .bool true) A λa A↦?_
     refine sdm A λa A↦?_
     refine sdo (v := .pointer (some ⟨g2, 9, none⟩)) A (does_field TrB_fld_30_4 rfl rfl) λa A↦?_
     refine sdo A (m_load1 M TrB_is1_27 rfl 0 rfl rfl) λa A↦?_
     refine sdo A (does_len Tryz.underlying27 rfl) λa A↦?_
     rcases tf ((((mr : Nat) : Int) == 0)) with hb13 | hb13
     ·
      have hb13' := eq_of_beq hb13
      refine sdo (v := .bool true) A (does_bin rfl rfl (fun w => (bin_eql w).trans (by rw [hb13]))) λa A↦?_
      refine sdk (v := .bool true) A λa A↦?_
      refine sdm A λa A↦?_
      refine sdo (v := .pointer (some ⟨g2, 10, none⟩)) A (does_field TrB_fld_30_5 rfl rfl) λa A↦?_
      refine sdo A (m_load1 M TrB_is1_28 rfl 0 rfl rfl) λa A↦?_
      refine sdo A (does_len Tryz.underlying28 rfl) λa A↦?_
      rcases tf ((((ml : Nat) : Int) == 0)) with hb14 | hb14
      ·
       have hb14' := eq_of_beq hb14
       refine sdo (v := .bool true) A (does_bin rfl rfl (fun w => (bin_eql w).trans (by rw [hb14]))) λa A↦?_
       refine sdk (v := .bool true) A λa A↦?_
       refine sda A λa A↦?_
       refine seq_end (hK4 _ _ (wp_ret (hret _ _ (en1 A rfl (res_tmp rfl) ?_))))
       subst hr
       exact ⟨by unfold bareB; simp_all, M.bel⟩
      ·
       have hb14' := ne_of_beq_false hb14
       refine sdo (v := .bool false) A (does_bin rfl rfl (fun w => (bin_eql w).trans (by rw [hb14]))) λa A↦?_
       refine sdk (v := .bool false) A λa A↦?_
       refine sda A λa A↦?_
       refine seq_end (hK4 _ _ (wp_ret (hret _ _ (en1 A rfl (res_tmp rfl) ?_))))
       subst hr
       exact ⟨by unfold bareB; simp_all, M.bel⟩
     ·
      have hb13' := ne_of_beq_false hb13
      refine sdo (v := .bool false) A (does_bin rfl rfl (fun w => (bin_eql w).trans (by rw [hb13]))) λa A↦?_
      refine sdk (v := .bool false) A λa A↦?_
      refine sdm A λa A↦?_
      iterate 4 refine seq_skip A rfl rfl rfl λa A↦?_
      refine sdk (v := .bool false) A λa A↦?_
      refine sda A λa A↦?_
      refine seq_end (hK4 _ _ (wp_ret (hret _ _ (en1 A rfl (res_tmp rfl) ?_))))
      subst hr
      exact ⟨by unfold bareB; simp_all, M.bel⟩
    ·
     have hb12' := of_decide_eq_false hb12
     refine sdo (v := .bool false) A (does_bin rfl rfl (fun w => (bin_eqlS Tryz.underlying9 w).trans (by rw [hb12] <;> rfl))) λa A↦?_
     refine sdk (v := .bool false) A λa A↦?_
     refine sdm A λa A↦?_
     iterate 4 refine seq_skip A rfl rfl rfl λa A↦?_
     refine sdk (v := .bool false) A λa A↦?_
     refine sdm A λa A↦?_
     iterate 4 refine seq_skip A rfl rfl rfl λa A↦?_
     refine sdk (v := .bool false) A λa A↦?_
     refine sda A λa A↦?_
     refine seq_end (hK4 _ _ (wp_ret (hret _ _ (en1 A rfl (res_tmp rfl) ?_))))
     subst hr
     exact ⟨by unfold bareB; simp_all, M.bel⟩
   ·
    refine seq_call A rfl rfl rfl (enters_func rfl rfl (fun w => by kernel_rfl)) (wordless_any h3 h4 hb9) ?_
    rintro _ w16 ⟨rfl, hb15⟩
    replace M := M.call hb15
    refine ⟨_, rfl, ?_⟩
    intro a A
    refine sdk (v := .bool false) A λa A↦?_
    refine sdm A λa A↦?_
    iterate 3 refine seq_skip A rfl rfl rfl λa A↦?_
    refine sdk (v := .bool false) A λa A↦?_
    refine sdm A λa A↦?_
    iterate 4 refine seq_skip A rfl rfl rfl λa A↦?_
    refine sdk (v := .bool false) A λa A↦?_
    refine sdm A λa A↦?_
    iterate 4 refine seq_skip A rfl rfl rfl λa A↦?_
    refine sdk (v := .bool false) A λa A↦?_
    refine sda A λa A↦?_
    refine seq_end (hK4 _ _ (wp_ret (hret _ _ (en1 A rfl (res_tmp rfl) ?_))))
    subst hr
    exact ⟨by unfold bareB; simp_all, M.bel⟩
  ·
   refine seq_call A rfl rfl rfl (enters_func rfl rfl (fun w => by kernel_rfl)) (wordless_any h1 h2 hb6) ?_
   rintro _ w18 ⟨rfl, hb17⟩
   replace M := M.call hb17
   refine ⟨_, rfl, ?_⟩
   intro a A
   refine sdk (v := .bool false) A λa A↦?_
   refine sdm A λa A↦?_
   iterate 4 refine seq_skip A rfl rfl rfl λa A↦?_
   refine sdk (v := .bool false) A λa A↦?_
   refine sdm A λa A↦?_
   iterate 3 refine seq_skip A rfl rfl rfl λa A↦?_
   refine sdk (v := .bool false) A λa A↦?_
   refine sdm A λa A↦?_
   iterate 4 refine seq_skip A rfl rfl rfl λa A↦?_
   refine sdk (v := .bool false) A λa A↦?_
   refine sdm A λa A↦?_
   iterate 4 refine seq_skip A rfl rfl rfl λa A↦?_
   refine sdk (v := .bool false) A λa A↦?_
   refine sda A λa A↦?_
   refine seq_end (hK4 _ _ (wp_ret (hret _ _ (en1 A rfl (res_tmp rfl) ?_))))
   subst hr
   exact ⟨by unfold bareB; simp_all, M.bel⟩
 ·
  have hb5' := ne_of_beq_false hb5
  refine sdo (v := .bool false) A (does_bin rfl rfl (fun w => (bin_eql w).trans (by rw [hb5]))) λa A↦?_
  refine sdm A λa A↦?_
  iterate 4 refine seq_skip A rfl rfl rfl λa A↦?_
  refine sdk (v := .bool false) A λa A↦?_
  refine sdm A λa A↦?_
  iterate 4 refine seq_skip A rfl rfl rfl λa A↦?_
  refine sdk (v := .bool false) A λa A↦?_
  refine sdm A λa A↦?_
  iterate 3 refine seq_skip A rfl rfl rfl λa A↦?_
  refine sdk (v := .bool false) A λa A↦?_
  refine sdm A λa A↦?_
  iterate 4 refine seq_skip A rfl rfl rfl λa A↦?_
  refine sdk (v := .bool false) A λa A↦?_
  refine sdm A λa A↦?_
  iterate 4 refine seq_skip A rfl rfl rfl λa A↦?_
  refine sdk (v := .bool false) A λa A↦?_
  refine sda A λa A↦?_
  refine seq_end (hK4 _ _ (wp_ret (hret _ _ (en1 A rfl (res_tmp rfl) ?_))))
  subst hr
  exact ⟨by unfold bareB; simp_all, M.bel⟩
theorem byKind_any {w : World} {d : Nd} {ts : List Dt} (hok : NdOk w d) (hT : Tabs8 w) : Calls Tryz.prog 51 #[.agg (d.cells ts.length).toArray] w fun e w' => e = .returned (.bool (shapeB d.k d.n d.y.q d.s d.rl.length ts.length)) ∧ Below w.heap.size w w' := by
 have hq1 := hok.len.l1
 have hq2 := hok.len.l2
 have hq3 := hok.len.l3
 have hq4 := hok.len.l4
 have M : Mg w w ([]) := Mg.start w
 refine walk_of (l := [(0, .agg (d.cells ts.length).toArray)]) Tryz.func51 rfl Tryz.ntmps51 rfl rfl ?_
 intro Q hret hnorm hP a A
 refine wsk fun K1 hK1 => wrl (s_new (vs := [.int .i64 d.k, .int .i64 d.n, .bool d.y.q.b1, .slice d.y.o1 d.y.q.t1.length d.y.c1, .slice d.y.o2 d.y.q.q1.length d.y.c2, .bool d.y.q.b2, .slice d.y.o3 d.y.q.t2.length d.y.c3, .slice d.y.o4 d.y.q.q2.length d.y.c4, .string d.s, .slice d.ro d.rl.length d.rc, .slice d.lo ts.length d.lc]) (t := 30) A M rfl rfl rfl pg (does_box rfl rfl) (by decide) ?_)
 intro g2 w3 M a A
 refine sda A λa A↦?_
 refine seq_end (hK1 _ _ (wsk fun K4 hK4 => wrl (sda A λa A↦?_)))
 refine seq_end (hK4 _ _ (wsk fun K5 hK5 => wsk fun K6 hK6 => wrl (sdo (v := .pointer (some ⟨g2, 0, none⟩)) A (does_field TrB_fld_30_0 rfl rfl) λa A↦?_)))
 refine sdo A (m_load1 M TrB_is1_3 rfl 0 rfl rfl) λa A↦?_
 refine seq_end (hK6 _ _ (wp_block (wsk fun K7 hK7 => wsk fun K8 hK8 => wrl ?_)))
 rcases tf ((d.k == 1)) with hb9 | hb9
 ·
  have hb9' := eq_of_beq hb9
  refine sdo (v := .bool true) A (does_bin rfl rfl (fun w => (bin_eql w).trans (by rw [hb9]))) λa A↦?_
  refine sda A λa A↦?_
  refine seq_end (hK8 _ _ (wp_cond_true (A.ev rfl) ?_))
  refine wp_skip (hK7 _ _ (wp_cond_true (A.ev rfl) ?_))
  refine wp_skip (hK5 _ _ (wsk fun K10 hK10 => wrl ?_))
  iterate 2 refine sdm A λa A↦?_
  refine sdo A (m_loadS M TrB_isS_30 rfl 0 rfl (cs := [.int .i64 d.k, .int .i64 d.n, .bool d.y.q.b1, .slice d.y.o1 d.y.q.t1.length d.y.c1, .slice d.y.o2 d.y.q.q1.length d.y.c2, .bool d.y.q.b2, .slice d.y.o3 d.y.q.t2.length d.y.c3, .slice d.y.o4 d.y.q.q2.length d.y.c4, .string d.s, .slice d.ro d.rl.length d.rc, .slice d.lo ts.length d.lc]) rfl rfl) λa A↦?_
  refine seq_call A rfl rfl rfl (enters_func rfl rfl (fun w => by kernel_rfl)) (bare_any (by first | exact hq1 | omega) (by first | exact hq2 | omega) (by first | exact hq3 | omega) (by first | exact hq4 | omega) rfl) ?_
  rintro _ w12 ⟨rfl, hb11⟩
  replace M := M.call hb11
  refine ⟨_, rfl, ?_⟩
  intro a A
  refine sdo (v := .bool (bareB d.n d.y.q.b1 d.y.q.t1.length d.y.q.q1.length d.y.q.b2 d.y.q.t2.length d.y.q.q2.length d.s d.rl.length ts.length)) A (does_pick rfl rfl rfl rfl) λa A↦?_
  refine sda A λa A↦?_
  refine seq_end (hK10 _ _ (wp_ret (hret _ _ (en1 A rfl (res_tmp rfl) ?_))))
  exact ⟨by rw [show shapeB d.k d.n d.y.q d.s d.rl.length ts.length = bareB d.n d.y.q.b1 d.y.q.t1.length d.y.q.q1.length d.y.q.b2 d.y.q.t2.length d.y.q.q2.length d.s d.rl.length ts.length from by
   unfold shapeB
   repeat (first | rw [if_pos (by omega)] | rw [if_neg (by omega)])
   try simp_all
   try omega], M.bel⟩
 ·
  have hb9' := ne_of_beq_false hb9
  refine sdo (v := .bool false) A (does_bin rfl rfl (fun w => (bin_eql w).trans (by rw [hb9]))) λa A↦?_
  refine sda A λa A↦?_
  refine seq_end (hK8 _ _ (wp_cond_false (A.ev rfl) ?_))
  refine wrl ?_
  rcases tf ((d.k == 10)) with hb13 | hb13
  ·
   have hb13' := eq_of_beq hb13
   refine sdo (v := .bool true) A (does_bin rfl rfl (fun w => (bin_eql w).trans (by rw [hb13]))) λa A↦?_
   refine sda A λa A↦?_
   refine seq_end (hK7 _ _ (wp_cond_true (A.ev rfl) ?_))
   refine wp_skip (hK5 _ _ (wsk fun K14 hK14 => wrl ?_))
   iterate 2 refine sdm A λa A↦?_
   refine sdo A (m_loadS M TrB_isS_30 rfl 0 rfl (cs := [.int .i64 d.k, .int .i64 d.n, .bool d.y.q.b1, .slice d.y.o1 d.y.q.t1.length d.y.c1, .slice d.y.o2 d.y.q.q1.length d.y.c2, .bool d.y.q.b2, .slice d.y.o3 d.y.q.t2.length d.y.c3, .slice d.y.o4 d.y.q.q2.length d.y.c4, .string d.s, .slice d.ro d.rl.length d.rc, .slice d.lo ts.length d.lc]) rfl rfl) λa A↦?_
   refine seq_call A rfl rfl rfl (enters_func rfl rfl (fun w => by kernel_rfl)) (bare_any (by first | exact hq1 | omega) (by first | exact hq2 | omega) (by first | exact hq3 | omega) (by first | exact hq4 | omega) rfl) ?_
   rintro _ w16 ⟨rfl, hb15⟩
   replace M := M.call hb15
   refine ⟨_, rfl, ?_⟩
   intro a A
   refine sdo (v := .bool (bareB d.n d.y.q.b1 d.y.q.t1.length d.y.q.q1.length d.y.q.b2 d.y.q.t2.length d.y.q.q2.length d.s d.rl.length ts.length)) A (does_pick rfl rfl rfl rfl) λa A↦?_
   refine sda A λa A↦?_
   refine seq_end (hK14 _ _ (wp_ret (hret _ _ (en1 A rfl (res_tmp rfl) ?_))))
   exact ⟨by rw [show shapeB d.k d.n d.y.q d.s d.rl.length ts.length = bareB d.n d.y.q.b1 d.y.q.t1.length d.y.q.q1.length d.y.q.b2 d.y.q.t2.length d.y.q.q2.length d.s d.rl.length ts.length from by
    unfold shapeB
    repeat (first | rw [if_pos (by omega)] | rw [if_neg (by omega)])
    try simp_all
    try omega], M.bel⟩
  ·
   have hb13' := ne_of_beq_false hb13
   refine sdo (v := .bool false) A (does_bin rfl rfl (fun w => (bin_eql w).trans (by rw [hb13]))) λa A↦?_
   refine sda A λa A↦?_
   refine seq_end (hK7 _ _ (wp_cond_false (A.ev rfl) ?_))
   refine wsk fun K17 hK17 => wrl ?_
   rcases tf ((d.k == 2)) with hb18 | hb18
   ·
    have hb18' := eq_of_beq hb18
    refine sdo (v := .bool true) A (does_bin rfl rfl (fun w => (bin_eql w).trans (by rw [hb18]))) λa A↦?_
    refine sda A λa A↦?_
    refine seq_end (hK17 _ _ (wp_cond_true (A.ev rfl) ?_))
    refine wrl (sdo (v := .pointer (some ⟨g2, 1, none⟩)) A (does_field TrB_fld_30_1 rfl rfl) λa A↦?_)
    refine sdo A (m_load1 M TrB_is1_3 rfl 0 rfl rfl) λa A↦?_
    rcases tf ((d.n == 0)) with hb19 | hb19
    ·
     have hb19' := eq_of_beq hb19
     refine sdo (v := .bool true) A (does_bin rfl rfl (fun w => (bin_eql w).trans (by rw [hb19]))) λa A↦?_
     refine sdm A λa A↦?_
     iterate 3 refine seq_skip A rfl rfl rfl λa A↦?_
     refine sdk (v := .bool true) A λa A↦?_
     refine sda A λa A↦?_
     refine sdo (v := .pointer (some ⟨g2, 1, none⟩)) A (does_field TrB_fld_30_1 rfl rfl) λa A↦?_
     refine s_store (us := [.int .i64 d.k, .int .i64 0, .bool d.y.q.b1, .slice d.y.o1 d.y.q.t1.length d.y.c1, .slice d.y.o2 d.y.q.q1.length d.y.c2, .bool d.y.q.b2, .slice d.y.o3 d.y.q.t2.length d.y.c3, .slice d.y.o4 d.y.q.q2.length d.y.c4, .string d.s, .slice d.ro d.rl.length d.rc, .slice d.lo ts.length d.lc]) (L' := (.obj g2 (.cells #[.int .i64 d.k, .int .i64 0, .bool d.y.q.b1, .slice d.y.o1 d.y.q.t1.length d.y.c1, .slice d.y.o2 d.y.q.q1.length d.y.c2, .bool d.y.q.b2, .slice d.y.o3 d.y.q.t2.length d.y.c3, .slice d.y.o4 d.y.q.q2.length d.y.c4, .string d.s, .slice d.ro d.rl.length d.rc, .slice d.lo ts.length d.lc] 30) :: [])) A M rfl rfl (m_store rfl rfl rfl (by kernel_rfl) M 0 rfl rfl rfl) 0 rfl rfl rfl ?_
     intro w20 M
     refine seq_end (hK5 _ _ (wsk fun K21 hK21 => wrl ?_))
     iterate 2 refine sdm A λa A↦?_
     refine sdo A (m_loadS M TrB_isS_30 rfl 0 rfl (cs := [.int .i64 d.k, .int .i64 0, .bool d.y.q.b1, .slice d.y.o1 d.y.q.t1.length d.y.c1, .slice d.y.o2 d.y.q.q1.length d.y.c2, .bool d.y.q.b2, .slice d.y.o3 d.y.q.t2.length d.y.c3, .slice d.y.o4 d.y.q.q2.length d.y.c4, .string d.s, .slice d.ro d.rl.length d.rc, .slice d.lo ts.length d.lc]) rfl rfl) λa A↦?_
     refine seq_call A rfl rfl rfl (enters_func rfl rfl (fun w => by kernel_rfl)) (bare_any (by first | exact hq1 | omega) (by first | exact hq2 | omega) (by first | exact hq3 | omega) (by first | exact hq4 | omega) rfl) ?_
     rintro _ w23 ⟨rfl, hb22⟩
     replace M := M.call hb22
     refine ⟨_, rfl, ?_⟩
     intro a A
     refine sdo (v := .bool (bareB 0 d.y.q.b1 d.y.q.t1.length d.y.q.q1.length d.y.q.b2 d.y.q.t2.length d.y.q.q2.length d.s d.rl.length ts.length)) A (does_pick rfl rfl rfl rfl) λa A↦?_
     refine sda A λa A↦?_
     refine seq_end (hK21 _ _ (wp_ret (hret _ _ (en1 A rfl (res_tmp rfl) ?_))))
     exact ⟨by rw [show shapeB d.k d.n d.y.q d.s d.rl.length ts.length = bareB 0 d.y.q.b1 d.y.q.t1.length d.y.q.q1.length d.y.q.b2 d.y.q.t2.length d.y.q.q2.length d.s d.rl.length ts.length from by
      unfold shapeB
      repeat (first | rw [if_pos (by omega)] | rw [if_neg (by omega)])
      try simp_all
      try omega], M.bel⟩
    ·
     have hb19' := ne_of_beq_false hb19
     refine sdo (v := .bool false) A (does_bin rfl rfl (fun w => (bin_eql w).trans (by rw [hb19]))) λa A↦?_
     refine sdm A λa A↦?_
     refine sdo (v := .pointer (some ⟨g2, 1, none⟩)) A (does_field TrB_fld_30_1 rfl rfl) λa A↦?_
     refine sdo A (m_load1 M TrB_is1_3 rfl 0 rfl rfl) λa A↦?_
     rcases tf ((d.n == 1)) with hb24 | hb24
     ·
      have hb24' := eq_of_beq hb24
      refine sdo (v := .bool true) A (does_bin rfl rfl (fun w => (bin_eql w).trans (by rw [hb24]))) λa A↦?_
      refine sdk (v := .bool true) A λa A↦?_
      refine sda A λa A↦?_
      refine sdo (v := .pointer (some ⟨g2, 1, none⟩)) A (does_field TrB_fld_30_1 rfl rfl) λa A↦?_
      refine s_store (us := [.int .i64 d.k, .int .i64 0, .bool d.y.q.b1, .slice d.y.o1 d.y.q.t1.length d.y.c1, .slice d.y.o2 d.y.q.q1.length d.y.c2, .bool d.y.q.b2, .slice d.y.o3 d.y.q.t2.length d.y.c3, .slice d.y.o4 d.y.q.q2.length d.y.c4, .string d.s, .slice d.ro d.rl.length d.rc, .slice d.lo ts.length d.lc]) (L' := (.obj g2 (.cells #[.int .i64 d.k, .int .i64 0, .bool d.y.q.b1, .slice d.y.o1 d.y.q.t1.length d.y.c1, .slice d.y.o2 d.y.q.q1.length d.y.c2, .bool d.y.q.b2, .slice d.y.o3 d.y.q.t2.length d.y.c3, .slice d.y.o4 d.y.q.q2.length d.y.c4, .string d.s, .slice d.ro d.rl.length d.rc, .slice d.lo ts.length d.lc] 30) :: [])) A M rfl rfl (m_store rfl rfl rfl (by kernel_rfl) M 0 rfl rfl rfl) 0 rfl rfl rfl ?_
      intro w25 M
      refine seq_end (hK5 _ _ (wsk fun K26 hK26 => wrl ?_))
      iterate 2 refine sdm A λa A↦?_
      refine sdo A (m_loadS M TrB_isS_30 rfl 0 rfl (cs := [.int .i64 d.k, .int .i64 0, .bool d.y.q.b1, .slice d.y.o1 d.y.q.t1.length d.y.c1, .slice d.y.o2 d.y.q.q1.length d.y.c2, .bool d.y.q.b2, .slice d.y.o3 d.y.q.t2.length d.y.c3, .slice d.y.o4 d.y.q.q2.length d.y.c4, .string d.s, .slice d.ro d.rl.length d.rc, .slice d.lo ts.length d.lc]) rfl rfl) λa A↦?_
      refine seq_call A rfl rfl rfl (enters_func rfl rfl (fun w => by kernel_rfl)) (bare_any (by first | exact hq1 | omega) (by first | exact hq2 | omega) (by first | exact hq3 | omega) (by first | exact hq4 | omega) rfl) ?_
      rintro _ w28 ⟨rfl, hb27⟩
      replace M := M.call hb27
      refine ⟨_, rfl, ?_⟩
      intro a A
      refine sdo (v := .bool (bareB 0 d.y.q.b1 d.y.q.t1.length d.y.q.q1.length d.y.q.b2 d.y.q.t2.length d.y.q.q2.length d.s d.rl.length ts.length)) A (does_pick rfl rfl rfl rfl) λa A↦?_
      refine sda A λa A↦?_
      refine seq_end (hK26 _ _ (wp_ret (hret _ _ (en1 A rfl (res_tmp rfl) ?_))))
      exact ⟨by rw [show shapeB d.k d.n d.y.q d.s d.rl.length ts.length = bareB 0 d.y.q.b1 d.y.q.t1.length d.y.q.q1.length d.y.q.b2 d.y.q.t2.length d.y.q.q2.length d.s d.rl.length ts.length from by
       unfold shapeB
       repeat (first | rw [if_pos (by omega)] | rw [if_neg (by omega)])
       try simp_all
       try omega], M.bel⟩
     ·
      have hb24' := ne_of_beq_false hb24
      refine sdo (v := .bool false) A (does_bin rfl rfl (fun w => (bin_eql w).trans (by rw [hb24]))) λa A↦?_
      refine sdk (v := .bool false) A λa A↦?_
      refine sda A λa A↦?_
      refine sdo (v := .pointer (some ⟨g2, 1, none⟩)) A (does_field TrB_fld_30_1 rfl rfl) λa A↦?_
      refine s_store (us := [.int .i64 d.k, .int .i64 0, .bool d.y.q.b1, .slice d.y.o1 d.y.q.t1.length d.y.c1, .slice d.y.o2 d.y.q.q1.length d.y.c2, .bool d.y.q.b2, .slice d.y.o3 d.y.q.t2.length d.y.c3, .slice d.y.o4 d.y.q.q2.length d.y.c4, .string d.s, .slice d.ro d.rl.length d.rc, .slice d.lo ts.length d.lc]) (L' := (.obj g2 (.cells #[.int .i64 d.k, .int .i64 0, .bool d.y.q.b1, .slice d.y.o1 d.y.q.t1.length d.y.c1, .slice d.y.o2 d.y.q.q1.length d.y.c2, .bool d.y.q.b2, .slice d.y.o3 d.y.q.t2.length d.y.c3, .slice d.y.o4 d.y.q.q2.length d.y.c4, .string d.s, .slice d.ro d.rl.length d.rc, .slice d.lo ts.length d.lc] 30) :: [])) A M rfl rfl (m_store rfl rfl rfl (by kernel_rfl) M 0 rfl rfl rfl) 0 rfl rfl rfl ?_
      intro w29 M
      refine seq_end (hK5 _ _ (wsk fun K30 hK30 => wrl ?_))
      iterate 2 refine sdm A λa A↦?_
      iterate 2 refine seq_skip A rfl rfl rfl λa A↦?_
      refine sdk (v := .bool false) A λa A↦?_
      refine sda A λa A↦?_
      refine seq_end (hK30 _ _ (wp_ret (hret _ _ (en1 A rfl (res_tmp rfl) ?_))))
      exact ⟨by rw [show shapeB d.k d.n d.y.q d.s d.rl.length ts.length = false from by
       unfold shapeB
       repeat (first | rw [if_pos (by omega)] | rw [if_neg (by omega)])
       try simp_all
       try omega], M.bel⟩
   ·
    have hb18' := ne_of_beq_false hb18
    refine sdo (v := .bool false) A (does_bin rfl rfl (fun w => (bin_eql w).trans (by rw [hb18]))) λa A↦?_
    refine sda A λa A↦?_
    refine seq_end (hK17 _ _ (wp_cond_false (A.ev rfl) ?_))
    refine wsk fun K31 hK31 => wrl ?_
    rcases tf ((d.k == 3)) with hb32 | hb32
    ·
     have hb32' := eq_of_beq hb32
     refine sdo (v := .bool true) A (does_bin rfl rfl (fun w => (bin_eql w).trans (by rw [hb32]))) λa A↦?_
     refine sda A λa A↦?_
     refine seq_end (hK31 _ _ (wp_cond_true (A.ev rfl) ?_))
     refine wrl (sdo (v := .pointer (some ⟨g2, 2, none⟩)) A (does_field TrB_fld_30_2 rfl rfl) λa A↦?_)
     refine sdo A (m_loadS M TrB_isS_26 rfl 0 rfl (cs := [.bool d.y.q.b1, .slice d.y.o1 d.y.q.t1.length d.y.c1, .slice d.y.o2 d.y.q.q1.length d.y.c2, .bool d.y.q.b2, .slice d.y.o3 d.y.q.t2.length d.y.c3, .slice d.y.o4 d.y.q.q2.length d.y.c4]) rfl rfl) λa A↦?_
     rcases tf (soundQ d.y.q) with hb33 | hb33
     ·
      refine seq_call A rfl rfl rfl (enters_func rfl rfl (fun w => by kernel_rfl)) (soundQ_any (Nu.below hok.num M.bel) hok.len hb33) ?_
      rintro _ w35 ⟨rfl, hb34⟩
      replace M := M.call hb34
      refine ⟨_, rfl, ?_⟩
      intro a A
      refine sdo (v := .agg #[.bool false, .slice none 0 0, .slice none 0 0, .bool false, .slice none 0 0, .slice none 0 0]) A (does_build rfl (fun w => by kernel_rfl)) λa A↦?_
      refine sda A λa A↦?_
      refine sdo (v := .pointer (some ⟨g2, 2, none⟩)) A (does_field TrB_fld_30_2 rfl rfl) λa A↦?_
      refine s_store (us := [.int .i64 d.k, .int .i64 d.n, .bool false, .slice none 0 0, .slice none 0 0, .bool false, .slice none 0 0, .slice none 0 0, .string d.s, .slice d.ro d.rl.length d.rc, .slice d.lo ts.length d.lc]) (L' := (.obj g2 (.cells #[.int .i64 d.k, .int .i64 d.n, .bool false, .slice none 0 0, .slice none 0 0, .bool false, .slice none 0 0, .slice none 0 0, .string d.s, .slice d.ro d.rl.length d.rc, .slice d.lo ts.length d.lc] 30) :: [])) A M rfl rfl (m_store rfl rfl rfl (by kernel_rfl) M 0 rfl rfl rfl) 0 rfl rfl rfl ?_
      intro w36 M
      refine seq_end (hK5 _ _ (wsk fun K37 hK37 => wrl ?_))
      iterate 2 refine sdm A λa A↦?_
      refine sdo A (m_loadS M TrB_isS_30 rfl 0 rfl (cs := [.int .i64 d.k, .int .i64 d.n, .bool false, .slice none 0 0, .slice none 0 0, .bool false, .slice none 0 0, .slice none 0 0, .string d.s, .slice d.ro d.rl.length d.rc, .slice d.lo ts.length d.lc]) rfl rfl) λa A↦?_
      refine seq_call A rfl rfl rfl (enters_func rfl rfl (fun w => by kernel_rfl)) (bare_any (by first | exact hq1 | omega) (by first | exact hq2 | omega) (by first | exact hq3 | omega) (by first | exact hq4 | omega) rfl) ?_
      rintro _ w39 ⟨rfl, hb38⟩
      replace M := M.call hb38
      refine ⟨_, rfl, ?_⟩
      intro a A
      refine sdo (v := .bool (bareB d.n false 0 0 false 0 0 d.s d.rl.length ts.length)) A (does_pick rfl rfl rfl rfl) λa A↦?_
      refine sda A λa A↦?_
      refine seq_end (hK37 _ _ (wp_ret (hret _ _ (en1 A rfl (res_tmp rfl) ?_))))
      exact ⟨by rw [show shapeB d.k d.n d.y.q d.s d.rl.length ts.length = bareB d.n false 0 0 false 0 0 d.s d.rl.length ts.length from by
       unfold shapeB
       repeat (first | rw [if_pos (by omega)] | rw [if_neg (by omega)])
       try simp_all
       try omega], M.bel⟩
     ·
      refine seq_call A rfl rfl rfl (enters_func rfl rfl (fun w => by kernel_rfl)) (soundQ_any (Nu.below hok.num M.bel) hok.len hb33) ?_
      rintro _ w41 ⟨rfl, hb40⟩
      replace M := M.call hb40
      refine ⟨_, rfl, ?_⟩
      intro a A
      refine sdo (v := .agg #[.bool false, .slice none 0 0, .slice none 0 0, .bool false, .slice none 0 0, .slice none 0 0]) A (does_build rfl (fun w => by kernel_rfl)) λa A↦?_
      refine sda A λa A↦?_
      refine sdo (v := .pointer (some ⟨g2, 2, none⟩)) A (does_field TrB_fld_30_2 rfl rfl) λa A↦?_
      refine s_store (us := [.int .i64 d.k, .int .i64 d.n, .bool false, .slice none 0 0, .slice none 0 0, .bool false, .slice none 0 0, .slice none 0 0, .string d.s, .slice d.ro d.rl.length d.rc, .slice d.lo ts.length d.lc]) (L' := (.obj g2 (.cells #[.int .i64 d.k, .int .i64 d.n, .bool false, .slice none 0 0, .slice none 0 0, .bool false, .slice none 0 0, .slice none 0 0, .string d.s, .slice d.ro d.rl.length d.rc, .slice d.lo ts.length d.lc] 30) :: [])) A M rfl rfl (m_store rfl rfl rfl (by kernel_rfl) M 0 rfl rfl rfl) 0 rfl rfl rfl ?_
      intro w42 M
      refine seq_end (hK5 _ _ (wsk fun K43 hK43 => wrl ?_))
      iterate 2 refine sdm A λa A↦?_
      iterate 2 refine seq_skip A rfl rfl rfl λa A↦?_
      refine sdk (v := .bool false) A λa A↦?_
      refine sda A λa A↦?_
      refine seq_end (hK43 _ _ (wp_ret (hret _ _ (en1 A rfl (res_tmp rfl) ?_))))
      exact ⟨by rw [show shapeB d.k d.n d.y.q d.s d.rl.length ts.length = false from by
       unfold shapeB
       repeat (first | rw [if_pos (by omega)] | rw [if_neg (by omega)])
       try simp_all
       try omega], M.bel⟩
    ·
     have hb32' := ne_of_beq_false hb32
     refine sdo (v := .bool false) A (does_bin rfl rfl (fun w => (bin_eql w).trans (by rw [hb32]))) λa A↦?_
     refine sda A λa A↦?_
     refine seq_end (hK31 _ _ (wp_cond_false (A.ev rfl) ?_))
     refine wsk fun K44 hK44 => wrl ?_
     rcases tf ((d.k == 4)) with hb45 | hb45
     ·
      have hb45' := eq_of_beq hb45
      refine sdo (v := .bool true) A (does_bin rfl rfl (fun w => (bin_eql w).trans (by rw [hb45]))) λa A↦?_
      refine sda A λa A↦?_
      refine seq_end (hK44 _ _ (wp_cond_true (A.ev rfl) ?_))
      refine wrl (sdo (v := .pointer (some ⟨g2, 1, none⟩)) A (does_field TrB_fld_30_1 rfl rfl) λa A↦?_)
      refine sdo A (m_load1 M TrB_is1_3 rfl 0 rfl rfl) λa A↦?_
      rcases tf (isCh d.n) with hb46 | hb46
      ·
       refine seq_call A rfl rfl rfl (enters_func rfl rfl (fun w => by kernel_rfl)) ((hb46 ▸ isCh_any)) ?_
       rintro _ w48 ⟨rfl, hb47⟩
       replace M := M.call hb47
       refine ⟨_, rfl, ?_⟩
       intro a A
       refine sda A λa A↦?_
       refine sdo (v := .pointer (some ⟨g2, 1, none⟩)) A (does_field TrB_fld_30_1 rfl rfl) λa A↦?_
       refine s_store (us := [.int .i64 d.k, .int .i64 0, .bool d.y.q.b1, .slice d.y.o1 d.y.q.t1.length d.y.c1, .slice d.y.o2 d.y.q.q1.length d.y.c2, .bool d.y.q.b2, .slice d.y.o3 d.y.q.t2.length d.y.c3, .slice d.y.o4 d.y.q.q2.length d.y.c4, .string d.s, .slice d.ro d.rl.length d.rc, .slice d.lo ts.length d.lc]) (L' := (.obj g2 (.cells #[.int .i64 d.k, .int .i64 0, .bool d.y.q.b1, .slice d.y.o1 d.y.q.t1.length d.y.c1, .slice d.y.o2 d.y.q.q1.length d.y.c2, .bool d.y.q.b2, .slice d.y.o3 d.y.q.t2.length d.y.c3, .slice d.y.o4 d.y.q.q2.length d.y.c4, .string d.s, .slice d.ro d.rl.length d.rc, .slice d.lo ts.length d.lc] 30) :: [])) A M rfl rfl (m_store rfl rfl rfl (by kernel_rfl) M 0 rfl rfl rfl) 0 rfl rfl rfl ?_
       intro w49 M
       refine seq_end (hK5 _ _ (wsk fun K50 hK50 => wrl ?_))
       iterate 2 refine sdm A λa A↦?_
       refine sdo A (m_loadS M TrB_isS_30 rfl 0 rfl (cs := [.int .i64 d.k, .int .i64 0, .bool d.y.q.b1, .slice d.y.o1 d.y.q.t1.length d.y.c1, .slice d.y.o2 d.y.q.q1.length d.y.c2, .bool d.y.q.b2, .slice d.y.o3 d.y.q.t2.length d.y.c3, .slice d.y.o4 d.y.q.q2.length d.y.c4, .string d.s, .slice d.ro d.rl.length d.rc, .slice d.lo ts.length d.lc]) rfl rfl) λa A↦?_
       refine seq_call A rfl rfl rfl (enters_func rfl rfl (fun w => by kernel_rfl)) (bare_any (by first | exact hq1 | omega) (by first | exact hq2 | omega) (by first | exact hq3 | omega) (by first | exact hq4 | omega) rfl) ?_
       rintro _ w52 ⟨rfl, hb51⟩
       replace M := M.call hb51
       refine ⟨_, rfl, ?_⟩
       intro a A
       refine sdo (v := .bool (bareB 0 d.y.q.b1 d.y.q.t1.length d.y.q.q1.length d.y.q.b2 d.y.q.t2.length d.y.q.q2.length d.s d.rl.length ts.length)) A (does_pick rfl rfl rfl rfl) λa A↦?_
       refine sda A λa A↦?_
       refine seq_end (hK50 _ _ (wp_ret (hret _ _ (en1 A rfl (res_tmp rfl) ?_))))
       exact ⟨by rw [show shapeB d.k d.n d.y.q d.s d.rl.length ts.length = bareB 0 d.y.q.b1 d.y.q.t1.length d.y.q.q1.length d.y.q.b2 d.y.q.t2.length d.y.q.q2.length d.s d.rl.length ts.length from by
        unfold shapeB
        repeat (first | rw [if_pos (by omega)] | rw [if_neg (by omega)])
        try simp_all
        try omega], M.bel⟩
      ·
       refine seq_call A rfl rfl rfl (enters_func rfl rfl (fun w => by kernel_rfl)) ((hb46 ▸ isCh_any)) ?_
       rintro _ w54 ⟨rfl, hb53⟩
       replace M := M.call hb53
       refine ⟨_, rfl, ?_⟩
       intro a A
       refine sda A λa A↦?_
       refine sdo (v := .pointer (some ⟨g2, 1, none⟩)) A (does_field TrB_fld_30_1 rfl rfl) λa A↦?_
       refine s_store (us := [.int .i64 d.k, .int .i64 0, .bool d.y.q.b1, .slice d.y.o1 d.y.q.t1.length d.y.c1, .slice d.y.o2 d.y.q.q1.length d.y.c2, .bool d.y.q.b2, .slice d.y.o3 d.y.q.t2.length d.y.c3, .slice d.y.o4 d.y.q.q2.length d.y.c4, .string d.s, .slice d.ro d.rl.length d.rc, .slice d.lo ts.length d.lc]) (L' := (.obj g2 (.cells #[.int .i64 d.k, .int .i64 0, .bool d.y.q.b1, .slice d.y.o1 d.y.q.t1.length d.y.c1, .slice d.y.o2 d.y.q.q1.length d.y.c2, .bool d.y.q.b2, .slice d.y.o3 d.y.q.t2.length d.y.c3, .slice d.y.o4 d.y.q.q2.length d.y.c4, .string d.s, .slice d.ro d.rl.length d.rc, .slice d.lo ts.length d.lc] 30) :: [])) A M rfl rfl (m_store rfl rfl rfl (by kernel_rfl) M 0 rfl rfl rfl) 0 rfl rfl rfl ?_
       intro w55 M
       refine seq_end (hK5 _ _ (wsk fun K56 hK56 => wrl ?_))
       iterate 2 refine sdm A λa A↦?_
       iterate 2 refine seq_skip A rfl rfl rfl λa A↦?_
       refine sdk (v := .bool false) A λa A↦?_
       refine sda A λa A↦?_
       refine seq_end (hK56 _ _ (wp_ret (hret _ _ (en1 A rfl (res_tmp rfl) ?_))))
       exact ⟨by rw [show shapeB d.k d.n d.y.q d.s d.rl.length ts.length = false from by
        unfold shapeB
        repeat (first | rw [if_pos (by omega)] | rw [if_neg (by omega)])
        try simp_all
        try omega], M.bel⟩
     ·
      have hb45' := ne_of_beq_false hb45
      refine sdo (v := .bool false) A (does_bin rfl rfl (fun w => (bin_eql w).trans (by rw [hb45]))) λa A↦?_
      refine sda A λa A↦?_
      refine seq_end (hK44 _ _ (wp_cond_false (A.ev rfl) ?_))
      refine wsk fun K57 hK57 => wsk fun K58 hK58 => wrl ?_
      rcases tf ((d.k == 5)) with hb59 | hb59
      ·
       have hb59' := eq_of_beq hb59
       refine sdo (v := .bool true) A (does_bin rfl rfl (fun w => (bin_eql w).trans (by rw [hb59]))) λa A↦?_
       refine sda A λa A↦?_
       refine seq_end (hK58 _ _ (wp_cond_true (A.ev rfl) ?_))
       refine wp_skip (hK57 _ _ (wp_cond_true (A.ev rfl) ?_))
       refine wrl (sdo (v := .pointer (some ⟨g2, 8, none⟩)) A (does_field TrB_fld_30_3 rfl rfl) λa A↦?_)
       refine sdo A (m_load1 M TrB_is1_9 rfl 0 rfl rfl) λa A↦?_
       rcases tf (okS d.s) with hb60 | hb60
       ·
        refine seq_call A rfl rfl rfl (enters_func rfl rfl (fun w => by kernel_rfl)) (valid_any hok.smax (hT.below M.bel) hb60) ?_
        rintro _ w62 ⟨rfl, hb61⟩
        replace M := M.call hb61
        refine ⟨_, rfl, ?_⟩
        intro a A
        refine sda A λa A↦?_
        refine sdo (v := .pointer (some ⟨g2, 8, none⟩)) A (does_field TrB_fld_30_3 rfl rfl) λa A↦?_
        refine s_store (us := [.int .i64 d.k, .int .i64 d.n, .bool d.y.q.b1, .slice d.y.o1 d.y.q.t1.length d.y.c1, .slice d.y.o2 d.y.q.q1.length d.y.c2, .bool d.y.q.b2, .slice d.y.o3 d.y.q.t2.length d.y.c3, .slice d.y.o4 d.y.q.q2.length d.y.c4, .string (⟨#[]⟩), .slice d.ro d.rl.length d.rc, .slice d.lo ts.length d.lc]) (L' := (.obj g2 (.cells #[.int .i64 d.k, .int .i64 d.n, .bool d.y.q.b1, .slice d.y.o1 d.y.q.t1.length d.y.c1, .slice d.y.o2 d.y.q.q1.length d.y.c2, .bool d.y.q.b2, .slice d.y.o3 d.y.q.t2.length d.y.c3, .slice d.y.o4 d.y.q.q2.length d.y.c4, .string (⟨#[]⟩), .slice d.ro d.rl.length d.rc, .slice d.lo ts.length d.lc] 30) :: [])) A M rfl rfl (m_store rfl rfl rfl (by kernel_rfl) M 0 rfl rfl rfl) 0 rfl rfl rfl ?_
        intro w63 M
        refine seq_end (hK5 _ _ (wsk fun K64 hK64 => wrl ?_))
        iterate 2 refine sdm A λa A↦?_
        refine sdo A (m_loadS M TrB_isS_30 rfl 0 rfl (cs := [.int .i64 d.k, .int .i64 d.n, .bool d.y.q.b1, .slice d.y.o1 d.y.q.t1.length d.y.c1, .slice d.y.o2 d.y.q.q1.length d.y.c2, .bool d.y.q.b2, .slice d.y.o3 d.y.q.t2.length d.y.c3, .slice d.y.o4 d.y.q.q2.length d.y.c4, .string (⟨#[]⟩), .slice d.ro d.rl.length d.rc, .slice d.lo ts.length d.lc]) rfl rfl) λa A↦?_
        refine seq_call A rfl rfl rfl (enters_func rfl rfl (fun w => by kernel_rfl)) (bare_any (by first | exact hq1 | omega) (by first | exact hq2 | omega) (by first | exact hq3 | omega) (by first | exact hq4 | omega) rfl) ?_
        rintro _ w66 ⟨rfl, hb65⟩
        replace M := M.call hb65
        refine ⟨_, rfl, ?_⟩
        intro a A
        refine sdo (v := .bool (bareB d.n d.y.q.b1 d.y.q.t1.length d.y.q.q1.length d.y.q.b2 d.y.q.t2.length d.y.q.q2.length (⟨#[]⟩) d.rl.length ts.length)) A (does_pick rfl rfl rfl rfl) λa A↦?_
        refine sda A λa A↦?_
        refine seq_end (hK64 _ _ (wp_ret (hret _ _ (en1 A rfl (res_tmp rfl) ?_))))
        exact ⟨by rw [show shapeB d.k d.n d.y.q d.s d.rl.length ts.length = bareB d.n d.y.q.b1 d.y.q.t1.length d.y.q.q1.length d.y.q.b2 d.y.q.t2.length d.y.q.q2.length (⟨#[]⟩) d.rl.length ts.length from by
         unfold shapeB
         repeat (first | rw [if_pos (by omega)] | rw [if_neg (by omega)])
         try simp_all
         try omega], M.bel⟩
       ·
        refine seq_call A rfl rfl rfl (enters_func rfl rfl (fun w => by kernel_rfl)) (valid_any hok.smax (hT.below M.bel) hb60) ?_
        rintro _ w68 ⟨rfl, hb67⟩
        replace M := M.call hb67
        refine ⟨_, rfl, ?_⟩
        intro a A
        refine sda A λa A↦?_
        refine sdo (v := .pointer (some ⟨g2, 8, none⟩)) A (does_field TrB_fld_30_3 rfl rfl) λa A↦?_
        refine s_store (us := [.int .i64 d.k, .int .i64 d.n, .bool d.y.q.b1, .slice d.y.o1 d.y.q.t1.length d.y.c1, .slice d.y.o2 d.y.q.q1.length d.y.c2, .bool d.y.q.b2, .slice d.y.o3 d.y.q.t2.length d.y.c3, .slice d.y.o4 d.y.q.q2.length d.y.c4, .string (⟨#[]⟩), .slice d.ro d.rl.length d.rc, .slice d.lo ts.length d.lc]) (L' := (.obj g2 (.cells #[.int .i64 d.k, .int .i64 d.n, .bool d.y.q.b1, .slice d.y.o1 d.y.q.t1.length d.y.c1, .slice d.y.o2 d.y.q.q1.length d.y.c2, .bool d.y.q.b2, .slice d.y.o3 d.y.q.t2.length d.y.c3, .slice d.y.o4 d.y.q.q2.length d.y.c4, .string (⟨#[]⟩), .slice d.ro d.rl.length d.rc, .slice d.lo ts.length d.lc] 30) :: [])) A M rfl rfl (m_store rfl rfl rfl (by kernel_rfl) M 0 rfl rfl rfl) 0 rfl rfl rfl ?_
        intro w69 M
        refine seq_end (hK5 _ _ (wsk fun K70 hK70 => wrl ?_))
        iterate 2 refine sdm A λa A↦?_
        iterate 2 refine seq_skip A rfl rfl rfl λa A↦?_
        refine sdk (v := .bool false) A λa A↦?_
        refine sda A λa A↦?_
        refine seq_end (hK70 _ _ (wp_ret (hret _ _ (en1 A rfl (res_tmp rfl) ?_))))
        exact ⟨by rw [show shapeB d.k d.n d.y.q d.s d.rl.length ts.length = false from by
         unfold shapeB
         repeat (first | rw [if_pos (by omega)] | rw [if_neg (by omega)])
         try simp_all
         try omega], M.bel⟩
      ·
       have hb59' := ne_of_beq_false hb59
       refine sdo (v := .bool false) A (does_bin rfl rfl (fun w => (bin_eql w).trans (by rw [hb59]))) λa A↦?_
       refine sda A λa A↦?_
       refine seq_end (hK58 _ _ (wp_cond_false (A.ev rfl) ?_))
       refine wsk fun K71 hK71 => wrl ?_
       rcases tf ((d.k == 6)) with hb72 | hb72
       ·
        have hb72' := eq_of_beq hb72
        refine sdo (v := .bool true) A (does_bin rfl rfl (fun w => (bin_eql w).trans (by rw [hb72]))) λa A↦?_
        refine sda A λa A↦?_
        refine seq_end (hK71 _ _ (wp_cond_true (A.ev rfl) ?_))
        refine wp_skip (hK57 _ _ (wp_cond_true (A.ev rfl) ?_))
        refine wrl (sdo (v := .pointer (some ⟨g2, 8, none⟩)) A (does_field TrB_fld_30_3 rfl rfl) λa A↦?_)
        refine sdo A (m_load1 M TrB_is1_9 rfl 0 rfl rfl) λa A↦?_
        rcases tf (okS d.s) with hb73 | hb73
        ·
         refine seq_call A rfl rfl rfl (enters_func rfl rfl (fun w => by kernel_rfl)) (valid_any hok.smax (hT.below M.bel) hb73) ?_
         rintro _ w75 ⟨rfl, hb74⟩
         replace M := M.call hb74
         refine ⟨_, rfl, ?_⟩
         intro a A
         refine sda A λa A↦?_
         refine sdo (v := .pointer (some ⟨g2, 8, none⟩)) A (does_field TrB_fld_30_3 rfl rfl) λa A↦?_
         refine s_store (us := [.int .i64 d.k, .int .i64 d.n, .bool d.y.q.b1, .slice d.y.o1 d.y.q.t1.length d.y.c1, .slice d.y.o2 d.y.q.q1.length d.y.c2, .bool d.y.q.b2, .slice d.y.o3 d.y.q.t2.length d.y.c3, .slice d.y.o4 d.y.q.q2.length d.y.c4, .string (⟨#[]⟩), .slice d.ro d.rl.length d.rc, .slice d.lo ts.length d.lc]) (L' := (.obj g2 (.cells #[.int .i64 d.k, .int .i64 d.n, .bool d.y.q.b1, .slice d.y.o1 d.y.q.t1.length d.y.c1, .slice d.y.o2 d.y.q.q1.length d.y.c2, .bool d.y.q.b2, .slice d.y.o3 d.y.q.t2.length d.y.c3, .slice d.y.o4 d.y.q.q2.length d.y.c4, .string (⟨#[]⟩), .slice d.ro d.rl.length d.rc, .slice d.lo ts.length d.lc] 30) :: [])) A M rfl rfl (m_store rfl rfl rfl (by kernel_rfl) M 0 rfl rfl rfl) 0 rfl rfl rfl ?_
         intro w76 M
         refine seq_end (hK5 _ _ (wsk fun K77 hK77 => wrl ?_))
         iterate 2 refine sdm A λa A↦?_
         refine sdo A (m_loadS M TrB_isS_30 rfl 0 rfl (cs := [.int .i64 d.k, .int .i64 d.n, .bool d.y.q.b1, .slice d.y.o1 d.y.q.t1.length d.y.c1, .slice d.y.o2 d.y.q.q1.length d.y.c2, .bool d.y.q.b2, .slice d.y.o3 d.y.q.t2.length d.y.c3, .slice d.y.o4 d.y.q.q2.length d.y.c4, .string (⟨#[]⟩), .slice d.ro d.rl.length d.rc, .slice d.lo ts.length d.lc]) rfl rfl) λa A↦?_
         refine seq_call A rfl rfl rfl (enters_func rfl rfl (fun w => by kernel_rfl)) (bare_any (by first | exact hq1 | omega) (by first | exact hq2 | omega) (by first | exact hq3 | omega) (by first | exact hq4 | omega) rfl) ?_
         rintro _ w79 ⟨rfl, hb78⟩
         replace M := M.call hb78
         refine ⟨_, rfl, ?_⟩
         intro a A
         refine sdo (v := .bool (bareB d.n d.y.q.b1 d.y.q.t1.length d.y.q.q1.length d.y.q.b2 d.y.q.t2.length d.y.q.q2.length (⟨#[]⟩) d.rl.length ts.length)) A (does_pick rfl rfl rfl rfl) λa A↦?_
         refine sda A λa A↦?_
         refine seq_end (hK77 _ _ (wp_ret (hret _ _ (en1 A rfl (res_tmp rfl) ?_))))
         exact ⟨by rw [show shapeB d.k d.n d.y.q d.s d.rl.length ts.length = bareB d.n d.y.q.b1 d.y.q.t1.length d.y.q.q1.length d.y.q.b2 d.y.q.t2.length d.y.q.q2.length (⟨#[]⟩) d.rl.length ts.length from by
          unfold shapeB
          repeat (first | rw [if_pos (by omega)] | rw [if_neg (by omega)])
          try simp_all
          try omega], M.bel⟩
        ·
         refine seq_call A rfl rfl rfl (enters_func rfl rfl (fun w => by kernel_rfl)) (valid_any hok.smax (hT.below M.bel) hb73) ?_
         rintro _ w81 ⟨rfl, hb80⟩
         replace M := M.call hb80
         refine ⟨_, rfl, ?_⟩
         intro a A
         refine sda A λa A↦?_
         refine sdo (v := .pointer (some ⟨g2, 8, none⟩)) A (does_field TrB_fld_30_3 rfl rfl) λa A↦?_
         refine s_store (us := [.int .i64 d.k, .int .i64 d.n, .bool d.y.q.b1, .slice d.y.o1 d.y.q.t1.length d.y.c1, .slice d.y.o2 d.y.q.q1.length d.y.c2, .bool d.y.q.b2, .slice d.y.o3 d.y.q.t2.length d.y.c3, .slice d.y.o4 d.y.q.q2.length d.y.c4, .string (⟨#[]⟩), .slice d.ro d.rl.length d.rc, .slice d.lo ts.length d.lc]) (L' := (.obj g2 (.cells #[.int .i64 d.k, .int .i64 d.n, .bool d.y.q.b1, .slice d.y.o1 d.y.q.t1.length d.y.c1, .slice d.y.o2 d.y.q.q1.length d.y.c2, .bool d.y.q.b2, .slice d.y.o3 d.y.q.t2.length d.y.c3, .slice d.y.o4 d.y.q.q2.length d.y.c4, .string (⟨#[]⟩), .slice d.ro d.rl.length d.rc, .slice d.lo ts.length d.lc] 30) :: [])) A M rfl rfl (m_store rfl rfl rfl (by kernel_rfl) M 0 rfl rfl rfl) 0 rfl rfl rfl ?_
         intro w82 M
         refine seq_end (hK5 _ _ (wsk fun K83 hK83 => wrl ?_))
         iterate 2 refine sdm A λa A↦?_
         iterate 2 refine seq_skip A rfl rfl rfl λa A↦?_
         refine sdk (v := .bool false) A λa A↦?_
         refine sda A λa A↦?_
         refine seq_end (hK83 _ _ (wp_ret (hret _ _ (en1 A rfl (res_tmp rfl) ?_))))
         exact ⟨by rw [show shapeB d.k d.n d.y.q d.s d.rl.length ts.length = false from by
          unfold shapeB
          repeat (first | rw [if_pos (by omega)] | rw [if_neg (by omega)])
          try simp_all
          try omega], M.bel⟩
       ·
        have hb72' := ne_of_beq_false hb72
        refine sdo (v := .bool false) A (does_bin rfl rfl (fun w => (bin_eql w).trans (by rw [hb72]))) λa A↦?_
        refine sda A λa A↦?_
        refine seq_end (hK71 _ _ (wp_cond_false (A.ev rfl) ?_))
        refine wrl ?_
        rcases tf ((d.k == 11)) with hb84 | hb84
        ·
         have hb84' := eq_of_beq hb84
         refine sdo (v := .bool true) A (does_bin rfl rfl (fun w => (bin_eql w).trans (by rw [hb84]))) λa A↦?_
         refine sda A λa A↦?_
         refine seq_end (hK57 _ _ (wp_cond_true (A.ev rfl) ?_))
         refine wrl (sdo (v := .pointer (some ⟨g2, 8, none⟩)) A (does_field TrB_fld_30_3 rfl rfl) λa A↦?_)
         refine sdo A (m_load1 M TrB_is1_9 rfl 0 rfl rfl) λa A↦?_
         rcases tf (okS d.s) with hb85 | hb85
         ·
          refine seq_call A rfl rfl rfl (enters_func rfl rfl (fun w => by kernel_rfl)) (valid_any hok.smax (hT.below M.bel) hb85) ?_
          rintro _ w87 ⟨rfl, hb86⟩
          replace M := M.call hb86
          refine ⟨_, rfl, ?_⟩
          intro a A
          refine sda A λa A↦?_
          refine sdo (v := .pointer (some ⟨g2, 8, none⟩)) A (does_field TrB_fld_30_3 rfl rfl) λa A↦?_
          refine s_store (us := [.int .i64 d.k, .int .i64 d.n, .bool d.y.q.b1, .slice d.y.o1 d.y.q.t1.length d.y.c1, .slice d.y.o2 d.y.q.q1.length d.y.c2, .bool d.y.q.b2, .slice d.y.o3 d.y.q.t2.length d.y.c3, .slice d.y.o4 d.y.q.q2.length d.y.c4, .string (⟨#[]⟩), .slice d.ro d.rl.length d.rc, .slice d.lo ts.length d.lc]) (L' := (.obj g2 (.cells #[.int .i64 d.k, .int .i64 d.n, .bool d.y.q.b1, .slice d.y.o1 d.y.q.t1.length d.y.c1, .slice d.y.o2 d.y.q.q1.length d.y.c2, .bool d.y.q.b2, .slice d.y.o3 d.y.q.t2.length d.y.c3, .slice d.y.o4 d.y.q.q2.length d.y.c4, .string (⟨#[]⟩), .slice d.ro d.rl.length d.rc, .slice d.lo ts.length d.lc] 30) :: [])) A M rfl rfl (m_store rfl rfl rfl (by kernel_rfl) M 0 rfl rfl rfl) 0 rfl rfl rfl ?_
          intro w88 M
          refine seq_end (hK5 _ _ (wsk fun K89 hK89 => wrl ?_))
          iterate 2 refine sdm A λa A↦?_
          refine sdo A (m_loadS M TrB_isS_30 rfl 0 rfl (cs := [.int .i64 d.k, .int .i64 d.n, .bool d.y.q.b1, .slice d.y.o1 d.y.q.t1.length d.y.c1, .slice d.y.o2 d.y.q.q1.length d.y.c2, .bool d.y.q.b2, .slice d.y.o3 d.y.q.t2.length d.y.c3, .slice d.y.o4 d.y.q.q2.length d.y.c4, .string (⟨#[]⟩), .slice d.ro d.rl.length d.rc, .slice d.lo ts.length d.lc]) rfl rfl) λa A↦?_
          refine seq_call A rfl rfl rfl (enters_func rfl rfl (fun w => by kernel_rfl)) (bare_any (by first | exact hq1 | omega) (by first | exact hq2 | omega) (by first | exact hq3 | omega) (by first | exact hq4 | omega) rfl) ?_
          rintro _ w91 ⟨rfl, hb90⟩
          replace M := M.call hb90
          refine ⟨_, rfl, ?_⟩
          intro a A
          refine sdo (v := .bool (bareB d.n d.y.q.b1 d.y.q.t1.length d.y.q.q1.length d.y.q.b2 d.y.q.t2.length d.y.q.q2.length (⟨#[]⟩) d.rl.length ts.length)) A (does_pick rfl rfl rfl rfl) λa A↦?_
          refine sda A λa A↦?_
          refine seq_end (hK89 _ _ (wp_ret (hret _ _ (en1 A rfl (res_tmp rfl) ?_))))
          exact ⟨by rw [show shapeB d.k d.n d.y.q d.s d.rl.length ts.length = bareB d.n d.y.q.b1 d.y.q.t1.length d.y.q.q1.length d.y.q.b2 d.y.q.t2.length d.y.q.q2.length (⟨#[]⟩) d.rl.length ts.length from by
           unfold shapeB
           repeat (first | rw [if_pos (by omega)] | rw [if_neg (by omega)])
           try simp_all
           try omega], M.bel⟩
         ·
          refine seq_call A rfl rfl rfl (enters_func rfl rfl (fun w => by kernel_rfl)) (valid_any hok.smax (hT.below M.bel) hb85) ?_
          rintro _ w93 ⟨rfl, hb92⟩
          replace M := M.call hb92
          refine ⟨_, rfl, ?_⟩
          intro a A
          refine sda A λa A↦?_
          refine sdo (v := .pointer (some ⟨g2, 8, none⟩)) A (does_field TrB_fld_30_3 rfl rfl) λa A↦?_
          refine s_store (us := [.int .i64 d.k, .int .i64 d.n, .bool d.y.q.b1, .slice d.y.o1 d.y.q.t1.length d.y.c1, .slice d.y.o2 d.y.q.q1.length d.y.c2, .bool d.y.q.b2, .slice d.y.o3 d.y.q.t2.length d.y.c3, .slice d.y.o4 d.y.q.q2.length d.y.c4, .string (⟨#[]⟩), .slice d.ro d.rl.length d.rc, .slice d.lo ts.length d.lc]) (L' := (.obj g2 (.cells #[.int .i64 d.k, .int .i64 d.n, .bool d.y.q.b1, .slice d.y.o1 d.y.q.t1.length d.y.c1, .slice d.y.o2 d.y.q.q1.length d.y.c2, .bool d.y.q.b2, .slice d.y.o3 d.y.q.t2.length d.y.c3, .slice d.y.o4 d.y.q.q2.length d.y.c4, .string (⟨#[]⟩), .slice d.ro d.rl.length d.rc, .slice d.lo ts.length d.lc] 30) :: [])) A M rfl rfl (m_store rfl rfl rfl (by kernel_rfl) M 0 rfl rfl rfl) 0 rfl rfl rfl ?_
          intro w94 M
          refine seq_end (hK5 _ _ (wsk fun K95 hK95 => wrl ?_))
          iterate 2 refine sdm A λa A↦?_
          iterate 2 refine seq_skip A rfl rfl rfl λa A↦?_
          refine sdk (v := .bool false) A λa A↦?_
          refine sda A λa A↦?_
          refine seq_end (hK95 _ _ (wp_ret (hret _ _ (en1 A rfl (res_tmp rfl) ?_))))
          exact ⟨by rw [show shapeB d.k d.n d.y.q d.s d.rl.length ts.length = false from by
           unfold shapeB
           repeat (first | rw [if_pos (by omega)] | rw [if_neg (by omega)])
           try simp_all
           try omega], M.bel⟩
        ·
         have hb84' := ne_of_beq_false hb84
         refine sdo (v := .bool false) A (does_bin rfl rfl (fun w => (bin_eql w).trans (by rw [hb84]))) λa A↦?_
         refine sda A λa A↦?_
         refine seq_end (hK57 _ _ (wp_cond_false (A.ev rfl) ?_))
         refine wsk fun K96 hK96 => wrl ?_
         rcases tf ((d.k == 7)) with hb97 | hb97
         ·
          have hb97' := eq_of_beq hb97
          refine sdo (v := .bool true) A (does_bin rfl rfl (fun w => (bin_eql w).trans (by rw [hb97]))) λa A↦?_
          refine sda A λa A↦?_
          refine seq_end (hK96 _ _ (wp_cond_true (A.ev rfl) ?_))
          refine wrl (sdo (v := .pointer (some ⟨g2, 9, none⟩)) A (does_field TrB_fld_30_4 rfl rfl) λa A↦?_)
          refine s_store (us := [.int .i64 d.k, .int .i64 d.n, .bool d.y.q.b1, .slice d.y.o1 d.y.q.t1.length d.y.c1, .slice d.y.o2 d.y.q.q1.length d.y.c2, .bool d.y.q.b2, .slice d.y.o3 d.y.q.t2.length d.y.c3, .slice d.y.o4 d.y.q.q2.length d.y.c4, .string d.s, .slice none 0 0, .slice d.lo ts.length d.lc]) (L' := (.obj g2 (.cells #[.int .i64 d.k, .int .i64 d.n, .bool d.y.q.b1, .slice d.y.o1 d.y.q.t1.length d.y.c1, .slice d.y.o2 d.y.q.q1.length d.y.c2, .bool d.y.q.b2, .slice d.y.o3 d.y.q.t2.length d.y.c3, .slice d.y.o4 d.y.q.q2.length d.y.c4, .string d.s, .slice none 0 0, .slice d.lo ts.length d.lc] 30) :: [])) A M rfl rfl (m_store rfl rfl rfl (by kernel_rfl) M 0 rfl rfl rfl) 0 rfl rfl rfl ?_
          intro w98 M
          refine seq_end (hK5 _ _ (wsk fun K99 hK99 => wrl ?_))
          iterate 2 refine sdm A λa A↦?_
          refine sdo A (m_loadS M TrB_isS_30 rfl 0 rfl (cs := [.int .i64 d.k, .int .i64 d.n, .bool d.y.q.b1, .slice d.y.o1 d.y.q.t1.length d.y.c1, .slice d.y.o2 d.y.q.q1.length d.y.c2, .bool d.y.q.b2, .slice d.y.o3 d.y.q.t2.length d.y.c3, .slice d.y.o4 d.y.q.q2.length d.y.c4, .string d.s, .slice none 0 0, .slice d.lo ts.length d.lc]) rfl rfl) λa A↦?_
          refine seq_call A rfl rfl rfl (enters_func rfl rfl (fun w => by kernel_rfl)) (bare_any (by first | exact hq1 | omega) (by first | exact hq2 | omega) (by first | exact hq3 | omega) (by first | exact hq4 | omega) rfl) ?_
          rintro _ w101 ⟨rfl, hb100⟩
          replace M := M.call hb100
          refine ⟨_, rfl, ?_⟩
          intro a A
          refine sdo (v := .bool (bareB d.n d.y.q.b1 d.y.q.t1.length d.y.q.q1.length d.y.q.b2 d.y.q.t2.length d.y.q.q2.length d.s 0 ts.length)) A (does_pick rfl rfl rfl rfl) λa A↦?_
          refine sda A λa A↦?_
          refine seq_end (hK99 _ _ (wp_ret (hret _ _ (en1 A rfl (res_tmp rfl) ?_))))
          exact ⟨by rw [show shapeB d.k d.n d.y.q d.s d.rl.length ts.length = bareB d.n d.y.q.b1 d.y.q.t1.length d.y.q.q1.length d.y.q.b2 d.y.q.t2.length d.y.q.q2.length d.s 0 ts.length from by
           unfold shapeB
           repeat (first | rw [if_pos (by omega)] | rw [if_neg (by omega)])
           try simp_all
           try omega], M.bel⟩
         ·
          have hb97' := ne_of_beq_false hb97
          refine sdo (v := .bool false) A (does_bin rfl rfl (fun w => (bin_eql w).trans (by rw [hb97]))) λa A↦?_
          refine sda A λa A↦?_
          refine seq_end (hK96 _ _ (wp_cond_false (A.ev rfl) ?_))
          refine wsk fun K102 hK102 => wrl ?_
          rcases tf ((d.k == 8)) with hb103 | hb103
          ·
           have hb103' := eq_of_beq hb103
           refine sdo (v := .bool true) A (does_bin rfl rfl (fun w => (bin_eql w).trans (by rw [hb103]))) λa A↦?_
           refine sda A λa A↦?_
           refine seq_end (hK102 _ _ (wp_cond_true (A.ev rfl) ?_))
           refine wrl (sdo (v := .pointer (some ⟨g2, 10, none⟩)) A (does_field TrB_fld_30_5 rfl rfl) λa A↦?_)
           refine sdo A (m_load1 M TrB_is1_28 rfl 0 rfl rfl) λa A↦?_
           refine sdo A (does_len Tryz.underlying28 rfl) λa A↦?_
           rcases tf ((((ts.length : Nat) : Int) == 2)) with hb104 | hb104
           ·
            have hb104' := eq_of_beq hb104
            refine sdo (v := .bool true) A (does_bin rfl rfl (fun w => (bin_eql w).trans (by rw [hb104]))) λa A↦?_
            refine sda A λa A↦?_
            refine sdo (v := .pointer (some ⟨g2, 10, none⟩)) A (does_field TrB_fld_30_5 rfl rfl) λa A↦?_
            refine s_store (us := [.int .i64 d.k, .int .i64 d.n, .bool d.y.q.b1, .slice d.y.o1 d.y.q.t1.length d.y.c1, .slice d.y.o2 d.y.q.q1.length d.y.c2, .bool d.y.q.b2, .slice d.y.o3 d.y.q.t2.length d.y.c3, .slice d.y.o4 d.y.q.q2.length d.y.c4, .string d.s, .slice d.ro d.rl.length d.rc, .slice none 0 0]) (L' := (.obj g2 (.cells #[.int .i64 d.k, .int .i64 d.n, .bool d.y.q.b1, .slice d.y.o1 d.y.q.t1.length d.y.c1, .slice d.y.o2 d.y.q.q1.length d.y.c2, .bool d.y.q.b2, .slice d.y.o3 d.y.q.t2.length d.y.c3, .slice d.y.o4 d.y.q.q2.length d.y.c4, .string d.s, .slice d.ro d.rl.length d.rc, .slice none 0 0] 30) :: [])) A M rfl rfl (m_store rfl rfl rfl (by kernel_rfl) M 0 rfl rfl rfl) 0 rfl rfl rfl ?_
            intro w105 M
            refine seq_end (hK5 _ _ (wsk fun K106 hK106 => wrl ?_))
            iterate 2 refine sdm A λa A↦?_
            refine sdo A (m_loadS M TrB_isS_30 rfl 0 rfl (cs := [.int .i64 d.k, .int .i64 d.n, .bool d.y.q.b1, .slice d.y.o1 d.y.q.t1.length d.y.c1, .slice d.y.o2 d.y.q.q1.length d.y.c2, .bool d.y.q.b2, .slice d.y.o3 d.y.q.t2.length d.y.c3, .slice d.y.o4 d.y.q.q2.length d.y.c4, .string d.s, .slice d.ro d.rl.length d.rc, .slice none 0 0]) rfl rfl) λa A↦?_
            refine seq_call A rfl rfl rfl (enters_func rfl rfl (fun w => by kernel_rfl)) (bare_any (by first | exact hq1 | omega) (by first | exact hq2 | omega) (by first | exact hq3 | omega) (by first | exact hq4 | omega) rfl) ?_
            rintro _ w108 ⟨rfl, hb107⟩
            replace M := M.call hb107
            refine ⟨_, rfl, ?_⟩
            intro a A
            refine sdo (v := .bool (bareB d.n d.y.q.b1 d.y.q.t1.length d.y.q.q1.length d.y.q.b2 d.y.q.t2.length d.y.q.q2.length d.s d.rl.length 0)) A (does_pick rfl rfl rfl rfl) λa A↦?_
            refine sda A λa A↦?_
            refine seq_end (hK106 _ _ (wp_ret (hret _ _ (en1 A rfl (res_tmp rfl) ?_))))
            exact ⟨by rw [show shapeB d.k d.n d.y.q d.s d.rl.length ts.length = bareB d.n d.y.q.b1 d.y.q.t1.length d.y.q.q1.length d.y.q.b2 d.y.q.t2.length d.y.q.q2.length d.s d.rl.length 0 from by
             unfold shapeB
             repeat (first | rw [if_pos (by omega)] | rw [if_neg (by omega)])
             try simp_all
             try omega], M.bel⟩
           ·
            have hb104' := ne_of_beq_false hb104
            refine sdo (v := .bool false) A (does_bin rfl rfl (fun w => (bin_eql w).trans (by rw [hb104]))) λa A↦?_
            refine sda A λa A↦?_
            refine sdo (v := .pointer (some ⟨g2, 10, none⟩)) A (does_field TrB_fld_30_5 rfl rfl) λa A↦?_
            refine s_store (us := [.int .i64 d.k, .int .i64 d.n, .bool d.y.q.b1, .slice d.y.o1 d.y.q.t1.length d.y.c1, .slice d.y.o2 d.y.q.q1.length d.y.c2, .bool d.y.q.b2, .slice d.y.o3 d.y.q.t2.length d.y.c3, .slice d.y.o4 d.y.q.q2.length d.y.c4, .string d.s, .slice d.ro d.rl.length d.rc, .slice none 0 0]) (L' := (.obj g2 (.cells #[.int .i64 d.k, .int .i64 d.n, .bool d.y.q.b1, .slice d.y.o1 d.y.q.t1.length d.y.c1, .slice d.y.o2 d.y.q.q1.length d.y.c2, .bool d.y.q.b2, .slice d.y.o3 d.y.q.t2.length d.y.c3, .slice d.y.o4 d.y.q.q2.length d.y.c4, .string d.s, .slice d.ro d.rl.length d.rc, .slice none 0 0] 30) :: [])) A M rfl rfl (m_store rfl rfl rfl (by kernel_rfl) M 0 rfl rfl rfl) 0 rfl rfl rfl ?_
            intro w109 M
            refine seq_end (hK5 _ _ (wsk fun K110 hK110 => wrl ?_))
            iterate 2 refine sdm A λa A↦?_
            iterate 2 refine seq_skip A rfl rfl rfl λa A↦?_
            refine sdk (v := .bool false) A λa A↦?_
            refine sda A λa A↦?_
            refine seq_end (hK110 _ _ (wp_ret (hret _ _ (en1 A rfl (res_tmp rfl) ?_))))
            exact ⟨by rw [show shapeB d.k d.n d.y.q d.s d.rl.length ts.length = false from by
             unfold shapeB
             repeat (first | rw [if_pos (by omega)] | rw [if_neg (by omega)])
             try simp_all
             try omega], M.bel⟩
          ·
           have hb103' := ne_of_beq_false hb103
           refine sdo (v := .bool false) A (does_bin rfl rfl (fun w => (bin_eql w).trans (by rw [hb103]))) λa A↦?_
           refine sda A λa A↦?_
           refine seq_end (hK102 _ _ (wp_cond_false (A.ev rfl) ?_))
           refine wsk fun K111 hK111 => wrl ?_
           rcases tf ((d.k == 9)) with hb112 | hb112
           ·
            have hb112' := eq_of_beq hb112
            refine sdo (v := .bool true) A (does_bin rfl rfl (fun w => (bin_eql w).trans (by rw [hb112]))) λa A↦?_
            refine sda A λa A↦?_
            refine seq_end (hK111 _ _ (wp_cond_true (A.ev rfl) ?_))
            refine wrl (sdo (v := .pointer (some ⟨g2, 10, none⟩)) A (does_field TrB_fld_30_5 rfl rfl) λa A↦?_)
            refine s_store (us := [.int .i64 d.k, .int .i64 d.n, .bool d.y.q.b1, .slice d.y.o1 d.y.q.t1.length d.y.c1, .slice d.y.o2 d.y.q.q1.length d.y.c2, .bool d.y.q.b2, .slice d.y.o3 d.y.q.t2.length d.y.c3, .slice d.y.o4 d.y.q.q2.length d.y.c4, .string d.s, .slice d.ro d.rl.length d.rc, .slice none 0 0]) (L' := (.obj g2 (.cells #[.int .i64 d.k, .int .i64 d.n, .bool d.y.q.b1, .slice d.y.o1 d.y.q.t1.length d.y.c1, .slice d.y.o2 d.y.q.q1.length d.y.c2, .bool d.y.q.b2, .slice d.y.o3 d.y.q.t2.length d.y.c3, .slice d.y.o4 d.y.q.q2.length d.y.c4, .string d.s, .slice d.ro d.rl.length d.rc, .slice none 0 0] 30) :: [])) A M rfl rfl (m_store rfl rfl rfl (by kernel_rfl) M 0 rfl rfl rfl) 0 rfl rfl rfl ?_
            intro w113 M
            refine seq_end (hK5 _ _ (wsk fun K114 hK114 => wrl ?_))
            iterate 2 refine sdm A λa A↦?_
            refine sdo A (m_loadS M TrB_isS_30 rfl 0 rfl (cs := [.int .i64 d.k, .int .i64 d.n, .bool d.y.q.b1, .slice d.y.o1 d.y.q.t1.length d.y.c1, .slice d.y.o2 d.y.q.q1.length d.y.c2, .bool d.y.q.b2, .slice d.y.o3 d.y.q.t2.length d.y.c3, .slice d.y.o4 d.y.q.q2.length d.y.c4, .string d.s, .slice d.ro d.rl.length d.rc, .slice none 0 0]) rfl rfl) λa A↦?_
            refine seq_call A rfl rfl rfl (enters_func rfl rfl (fun w => by kernel_rfl)) (bare_any (by first | exact hq1 | omega) (by first | exact hq2 | omega) (by first | exact hq3 | omega) (by first | exact hq4 | omega) rfl) ?_
            rintro _ w116 ⟨rfl, hb115⟩
            replace M := M.call hb115
            refine ⟨_, rfl, ?_⟩
            intro a A
            refine sdo (v := .bool (bareB d.n d.y.q.b1 d.y.q.t1.length d.y.q.q1.length d.y.q.b2 d.y.q.t2.length d.y.q.q2.length d.s d.rl.length 0)) A (does_pick rfl rfl rfl rfl) λa A↦?_
            refine sda A λa A↦?_
            refine seq_end (hK114 _ _ (wp_ret (hret _ _ (en1 A rfl (res_tmp rfl) ?_))))
            exact ⟨by rw [show shapeB d.k d.n d.y.q d.s d.rl.length ts.length = bareB d.n d.y.q.b1 d.y.q.t1.length d.y.q.q1.length d.y.q.b2 d.y.q.t2.length d.y.q.q2.length d.s d.rl.length 0 from by
             unfold shapeB
             repeat (first | rw [if_pos (by omega)] | rw [if_neg (by omega)])
             try simp_all
             try omega], M.bel⟩
           ·
            have hb112' := ne_of_beq_false hb112
            refine sdo (v := .bool false) A (does_bin rfl rfl (fun w => (bin_eql w).trans (by rw [hb112]))) λa A↦?_
            refine sda A λa A↦?_
            refine seq_end (hK111 _ _ (wp_cond_false (A.ev rfl) ?_))
            refine wrl (sda A λa A↦?_)
            refine seq_end (hK5 _ _ (wsk fun K117 hK117 => wrl ?_))
            iterate 2 refine sdm A λa A↦?_
            iterate 2 refine seq_skip A rfl rfl rfl λa A↦?_
            refine sdk (v := .bool false) A λa A↦?_
            refine sda A λa A↦?_
            refine seq_end (hK117 _ _ (wp_ret (hret _ _ (en1 A rfl (res_tmp rfl) ?_))))
            exact ⟨by rw [show shapeB d.k d.n d.y.q d.s d.rl.length ts.length = false from by
             unfold shapeB
             repeat (first | rw [if_pos (by omega)] | rw [if_neg (by omega)])
             try simp_all
             try omega], M.bel⟩
theorem TrV_is1_27 : Is1 Tryz.prog 27 := ⟨⟨_, Tryz.underlying27, rfl⟩, by kernel_rfl⟩
theorem TrV_is1_28 : Is1 Tryz.prog 28 := ⟨⟨_, Tryz.underlying28, rfl⟩, by kernel_rfl⟩
theorem TrV_is1_3 : Is1 Tryz.prog 3 := ⟨⟨_, Tryz.underlying3, rfl⟩, by kernel_rfl⟩
theorem TrV_is1_4 : Is1 Tryz.prog 4 := ⟨⟨_, Tryz.underlying4, rfl⟩, by kernel_rfl⟩
theorem TrV_is1_9 : Is1 Tryz.prog 9 := ⟨⟨_, Tryz.underlying9, rfl⟩, by kernel_rfl⟩
theorem TrV_fld_26_0 : FieldAt Tryz.prog 26 0 0 := ⟨_, _, Tryz.underlying26, rfl, rfl, by kernel_rfl⟩
theorem TrV_fld_26_1 : FieldAt Tryz.prog 26 1 3 := ⟨_, _, Tryz.underlying26, rfl, rfl, by kernel_rfl⟩
theorem TrV_fld_30_0 : FieldAt Tryz.prog 30 0 0 := ⟨_, _, Tryz.underlying30, rfl, rfl, by kernel_rfl⟩
theorem TrV_fld_30_1 : FieldAt Tryz.prog 30 1 1 := ⟨_, _, Tryz.underlying30, rfl, rfl, by kernel_rfl⟩
theorem TrV_fld_30_2 : FieldAt Tryz.prog 30 2 2 := ⟨_, _, Tryz.underlying30, rfl, rfl, by kernel_rfl⟩
theorem TrV_fld_30_3 : FieldAt Tryz.prog 30 3 8 := ⟨_, _, Tryz.underlying30, rfl, rfl, by kernel_rfl⟩
theorem TrV_fld_30_4 : FieldAt Tryz.prog 30 4 9 := ⟨_, _, Tryz.underlying30, rfl, rfl, by kernel_rfl⟩
theorem TrV_fld_30_5 : FieldAt Tryz.prog 30 5 10 := ⟨_, _, Tryz.underlying30, rfl, rfl, by kernel_rfl⟩
theorem TrV_fld_80_1 : FieldAt Tryz.prog 80 1 1 := ⟨_, _, Tryz.underlying80, rfl, rfl, by kernel_rfl⟩
theorem TrV_isS_24 : IsS Tryz.prog 24 3 := ⟨⟨_, Tryz.underlying24⟩, by kernel_rfl⟩
theorem TrV_isS_26 : IsS Tryz.prog 26 6 := ⟨⟨_, Tryz.underlying26⟩, by kernel_rfl⟩
theorem runits1_any {w : World} {so : Option Addr} {cap : Nat} {l : List UInt8} (hb : Rb w so l) (hlen : l.length ≤ 2000000) : Calls Tryz.prog 63 #[.int .i64 1, .slice so l.length cap] w fun e w' => ∃ v, e = .returned v ∧ Mg w w' [.row 80 3 v (unitsU l).length (unitV (unitsU l))] := by
 have M : Mg w w ([]) := Mg.start w
 refine walk_of (l := [(0, .int .i64 1), (1, .slice so l.length cap)]) Tryz.func63 rfl Tryz.ntmps63 rfl rfl ?_
 intro Q hret hnorm hP a A
 refine wsk fun K1 hK1 => wrl (sda A λa A↦?_)
 refine seq_end (hK1 _ _ (wsk fun K2 hK2 => wsk fun K3 hK3 => wrl (sdm A λa A↦?_)))
 refine sdo (v := .bool true) A (does_bin rfl rfl (fun w => by kernel_rfl)) λa A↦?_
 refine seq_end (hK3 _ _ (wp_cond_true (A.ev rfl) ?_))
 refine wsk fun K4 hK4 => wrl (sdm A λa A↦?_)
 refine seq_call A rfl rfl rfl (enters_func rfl rfl (fun w => by kernel_rfl)) (rutf8_any (hb.below M.bel) hlen) ?_
 rintro _ w5 ⟨v9, rfl, hM9⟩
 replace M : Mg w w5 (.row 80 3 (v9) ((unitsU l).length) ((unitV (unitsU l))) :: []) := (M.both hM9 (noBld_quiet quietL_nil) (noBld_cons (by simp) (noBld_quiet quietL_nil)))
 refine ⟨_, rfl, ?_⟩
 intro a A
 refine sda A λa A↦?_
 refine seq_end (hK4 _ _ (wp_ret (hret _ _ (en1 A rfl (res_tmp rfl) ?_))))
 exact ⟨_, rfl, M⟩
theorem rvalid_any {w : World} {s : ByteArray} (hs : s.size ≤ 2000000) {r : Bool} (hr : okS s = r) : Calls Tryz.prog 46 #[.string s] w fun e w' => e = .returned (.bool r) ∧ Below w.heap.size w w' := by
 have hul : (unitsU s.data.toList).length ≤ s.data.toList.length := units_lenF _ _ _
 have hsl : s.data.toList.length ≤ 2000000 := by rw [size_toList]; exact hs
 have M : Mg w w ([]) := Mg.start w
 refine walk_of (l := [(0, .string s)]) Tryz.func46 rfl Tryz.ntmps46 rfl rfl ?_
 intro Q hret hnorm hP a A
 refine wsk fun K1 hK1 => wrl (sda A λa A↦?_)
 refine seq_end (hK1 _ _ (wsk fun K2 hK2 => wrl (sdm A λa A↦?_)))
 refine s_bytes A M rfl Tryz.underlying9 Tryz.underlying27 Tryz.underlying5 rfl rfl rfl rfl ?_
 intro so3 ca4 w5 hrb6 M a A
 refine seq_call A rfl rfl rfl (enters_func rfl rfl (fun w => by kernel_rfl)) (runits1_any hrb6 (by rw [size_toList]; exact hs)) ?_
 rintro _ w10 ⟨v9, rfl, hM7⟩
 obtain ⟨so8, ca9, rfl⟩ := owns_sliceE (hM7.has 0 rfl)
 replace M : Mg w w10 (.row 80 3 (.slice so8 ((unitsU s.data.toList).length) ca9) ((unitsU s.data.toList).length) ((unitV (unitsU s.data.toList))) :: []) := (M.both hM7 (noBld_quiet quietL_nil) (noBld_cons (by simp) (noBld_quiet quietL_nil)))
 refine ⟨_, rfl, ?_⟩
 intro a A
 refine sda A λa A↦?_
 refine seq_end (hK2 _ _ (wsk fun K11 hK11 => wsk fun K12 hK12 => wrl (sda A λa A↦?_)))
 refine seq_end (hK12 _ _ (wp_block (wp_loop_n (fun m_ a w1 => ∃ (i : Nat), m_ = 1 + ((unitsU s.data.toList).length - i) ∧ (i ≤ (unitsU s.data.toList).length ∧ ∀ j ua ur, j < i → (unitsU s.data.toList)[j]? = some (ua, ur) → ur ≠ -1) ∧ Sl a 19 [(0, .string s), (3, .slice so8 ((unitsU s.data.toList).length) ca9), (4, .int .i64 (((i : Nat) : Int))), (5, .string s), (6, .slice so3 s.data.toList.length ca4), (7, .slice so8 ((unitsU s.data.toList).length) ca9)] ∧ Mg w w1 (.row 80 3 (.slice so8 ((unitsU s.data.toList).length) ca9) ((unitsU s.data.toList).length) ((unitV (unitsU s.data.toList))) :: [])) _ ⟨0, rfl, ⟨Nat.zero_le _, fun j ua ur hj => absurd hj (Nat.not_lt_zero _)⟩, A.keep _ ⟨rfl, rfl, rfl, rfl, rfl, rfl, trivial⟩, M⟩ ?_)))
 clear M A
 rintro m_ a w13 ⟨i, rfl, hinv15, A, M⟩ K14 hK14
 obtain ⟨hi0, hin9⟩ := hinv15
 refine wsk fun K16 hK16 => wsk fun K17 hK17 => wrl ?_
 iterate 2 refine sdm A λa A↦?_
 refine sdo A (does_len Tryz.underlying77 rfl) λa A↦?_
 rcases tf (decide (((i : Nat) : Int) < (((unitsU s.data.toList).length : Nat) : Int))) with hb18 | hb18
 ·
  have hb18' := of_decide_eq_true hb18
  refine sdo (v := .bool true) A (does_bin rfl rfl (fun w => (bin_lss w).trans (by rw [hb18]))) λa A↦?_
  refine seq_end (hK17 _ _ (wp_cond_true (A.ev rfl) ?_))
  refine wp_skip (hK16 _ _ (wsk fun K19 hK19 => wp_block (wsk fun K20 hK20 => wrl ?_)))
  iterate 2 refine sdm A λa A↦?_
  obtain ⟨gu, hgu⟩ := row_addr M 0 rfl (by omega)
  obtain ⟨ua, ur, hu⟩ := unit_get (us := unitsU s.data.toList) (i := i) (by omega)
  refine sdo (v := .pointer (some ⟨gu, i * 3, none⟩)) A (does_indexX Tryz.underlying77 (by kernel_rfl) rfl rfl rfl hgu (show i < (unitsU s.data.toList).length by omega)) λa A↦?_
  refine sdo (v := .pointer (some ⟨gu, i * 3 + 1, none⟩)) A (does_field TrV_fld_80_1 rfl rfl) λa A↦?_
  by_cases hf : ur = -1
  ·
   refine sdo (v := .bool true) A (m_loadX M 0 rfl hgu ((unitV_at _ i 1 _ hu (by decide)).trans (by rw [if_pos hf]; rfl)) TrV_is1_4 rfl) λa A↦?_
   refine seq_end (hK20 _ _ (wp_cond_true (A.ev rfl) ?_))
   refine wsk fun K21 hK21 => wrl (sda A λa A↦?_)
   refine seq_end (hK21 _ _ (wp_ret (hret _ _ (en1 A rfl (res_tmp rfl) ?_))))
   subst hr
   exact ⟨by rw [okS_bad hu hf], M.bel⟩
  ·
   refine sdo (v := .bool false) A (m_loadX M 0 rfl hgu ((unitV_at _ i 1 _ hu (by decide)).trans (by rw [if_neg hf]; rfl)) TrV_is1_4 rfl) λa A↦?_
   refine seq_end (hK20 _ _ (wp_cond_false (A.ev rfl) ?_))
   refine wp_skip (hK19 _ _ (wrl (sdm A λa A↦?_)))
   refine sdo (v := .int .i64 (((i + 1 : Nat) : Int))) A (does_bin rfl rfl (fun w => (bin_add (i64In (by omega) (by omega)) w).trans (by rw [show (((i : Nat) : Int) + 1 : Int) = ((i + 1 : Nat) : Int) from by omega]))) λa A↦?_
   refine sda A λa A↦?_
   refine seq_end ?_
   refine hK14 _ _ _ (by omega) ⟨i + 1, rfl, ⟨by omega, fun j va vr hj hv => if h9 : j < i then hin9 j va vr h9 hv else by have h8 : j = i := (by omega); subst h8; rw [hu] at hv; injection hv with h7; injection h7 with _ h6; rw [← h6]; exact hf⟩, A.keep _ ⟨rfl, rfl, rfl, rfl, rfl, rfl, trivial⟩, M⟩
 ·
  have hb18' := of_decide_eq_false hb18
  refine sdo (v := .bool false) A (does_bin rfl rfl (fun w => (bin_lss w).trans (by rw [hb18]))) λa A↦?_
  refine seq_end (hK17 _ _ (wp_cond_false (A.ev rfl) ?_))
  refine wp_exit (hK11 _ _ (wsk fun K22 hK22 => wrl (sda A λa A↦?_)))
  refine seq_end (hK22 _ _ (wp_ret (hret _ _ (en1 A rfl (res_tmp rfl) ?_))))
  subst hr
  exact ⟨by rw [okS_good (fun j ua ur hj => hin9 j ua ur (by have := (List.getElem?_eq_some_iff.1 hj).1; omega) hj)], M.bel⟩
theorem risCh_any {w : World} {n : Int} {r : Bool} (hr : isCh n = r) : Calls Tryz.prog 49 #[.int .i64 n] w fun e w' => e = .returned (.bool r) ∧ Below w.heap.size w w' := by
 have M : Mg w w ([]) := Mg.start w
 refine walk_of (l := [(0, .int .i64 n)]) Tryz.func49 rfl Tryz.ntmps49 rfl rfl ?_
 intro Q hret hnorm hP a A
 refine wsk fun K1 hK1 => wrl (sda A λa A↦?_)
 refine seq_end (hK1 _ _ (wsk fun K2 hK2 => wrl (sdm A λa A↦?_)))
 rcases tf (decide (0 ≤ n)) with hb3 | hb3
 ·
  have hb3' := of_decide_eq_true hb3
  refine sdo (v := .bool true) A (does_bin rfl rfl (fun w => (bin_geq w).trans (by rw [hb3]))) λa A↦?_
  iterate 2 refine sdm A λa A↦?_
  rcases tf (decide (n ≤ 1114111)) with hb4 | hb4
  ·
   have hb4' := of_decide_eq_true hb4
   refine sdo (v := .bool true) A (does_bin rfl rfl (fun w => (bin_leq w).trans (by rw [hb4]))) λa A↦?_
   refine sdk (v := .bool true) A λa A↦?_
   iterate 2 refine sdm A λa A↦?_
   rcases tf (decide (n < 55296)) with hb5 | hb5
   ·
    have hb5' := of_decide_eq_true hb5
    refine sdo (v := .bool true) A (does_bin rfl rfl (fun w => (bin_lss w).trans (by rw [hb5]))) λa A↦?_
    refine sdm A λa A↦?_
    iterate 2 refine seq_skip A rfl rfl rfl λa A↦?_
    iterate 2 refine sdk (v := .bool true) A λa A↦?_
    refine sda A λa A↦?_
    refine seq_end (hK2 _ _ (wp_ret (hret _ _ (en1 A rfl (res_tmp rfl) ?_))))
    subst hr
    exact ⟨by rw [show isCh n = true from by unfold isCh; apply decide_eq_true; omega], M.bel⟩
   ·
    have hb5' := of_decide_eq_false hb5
    refine sdo (v := .bool false) A (does_bin rfl rfl (fun w => (bin_lss w).trans (by rw [hb5]))) λa A↦?_
    iterate 2 refine sdm A λa A↦?_
    rcases tf (decide (57343 < n)) with hb6 | hb6
    ·
     have hb6' := of_decide_eq_true hb6
     refine sdo (v := .bool true) A (does_bin rfl rfl (fun w => (bin_gtr w).trans (by rw [hb6]))) λa A↦?_
     iterate 2 refine sdk (v := .bool true) A λa A↦?_
     refine sda A λa A↦?_
     refine seq_end (hK2 _ _ (wp_ret (hret _ _ (en1 A rfl (res_tmp rfl) ?_))))
     subst hr
     exact ⟨by rw [show isCh n = true from by unfold isCh; apply decide_eq_true; omega], M.bel⟩
    ·
     have hb6' := of_decide_eq_false hb6
     refine sdo (v := .bool false) A (does_bin rfl rfl (fun w => (bin_gtr w).trans (by rw [hb6]))) λa A↦?_
     iterate 2 refine sdk (v := .bool false) A λa A↦?_
     refine sda A λa A↦?_
     refine seq_end (hK2 _ _ (wp_ret (hret _ _ (en1 A rfl (res_tmp rfl) ?_))))
     subst hr
     exact ⟨by rw [show isCh n = false from by unfold isCh; apply decide_eq_false; omega], M.bel⟩
  ·
   have hb4' := of_decide_eq_false hb4
   refine sdo (v := .bool false) A (does_bin rfl rfl (fun w => (bin_leq w).trans (by rw [hb4]))) λa A↦?_
   refine sdk (v := .bool false) A λa A↦?_
   refine sdm A λa A↦?_
   iterate 3 refine seq_skip A rfl rfl rfl λa A↦?_
   iterate 2 refine seq_skipU A rfl rfl rfl λa A↦?_
   refine seq_skip A rfl rfl rfl λa A↦?_
   refine sdk (v := .bool false) A λa A↦?_
   refine sda A λa A↦?_
   refine seq_end (hK2 _ _ (wp_ret (hret _ _ (en1 A rfl (res_tmp rfl) ?_))))
   subst hr
   exact ⟨by rw [show isCh n = false from by unfold isCh; apply decide_eq_false; omega], M.bel⟩
 ·
  have hb3' := of_decide_eq_false hb3
  refine sdo (v := .bool false) A (does_bin rfl rfl (fun w => (bin_geq w).trans (by rw [hb3]))) λa A↦?_
  refine sdm A λa A↦?_
  iterate 2 refine seq_skip A rfl rfl rfl λa A↦?_
  refine sdk (v := .bool false) A λa A↦?_
  refine sdm A λa A↦?_
  iterate 3 refine seq_skip A rfl rfl rfl λa A↦?_
  iterate 2 refine seq_skipU A rfl rfl rfl λa A↦?_
  refine seq_skip A rfl rfl rfl λa A↦?_
  refine sdk (v := .bool false) A λa A↦?_
  refine sda A λa A↦?_
  refine seq_end (hK2 _ _ (wp_ret (hret _ _ (en1 A rfl (res_tmp rfl) ?_))))
  subst hr
  exact ⟨by rw [show isCh n = false from by unfold isCh; apply decide_eq_false; omega], M.bel⟩
/-- Sound by its kind, asked in the document's order. -/
def shapeR (k n : Int) (q : Q6) (s : ByteArray) (mr ml : Nat) : Bool :=
 if k < 1 ∨ 11 < k ∨ okS s = false then false
 else if k = 3 ∧ soundQ q = false then false
 else if k ≠ 3 ∧ (nowB q.b1 q.t1.length q.q1.length = false ∨ nowB q.b2 q.t2.length q.q2.length = false) then false
 else if s ≠ ⟨#[]⟩ ∧ k ≠ 5 ∧ k ≠ 6 ∧ k ≠ 11 then false
 else if 0 < mr ∧ k ≠ 7 then false
 else if k = 2 ∧ n ≠ 0 ∧ n ≠ 1 then false
 else if k = 4 ∧ isCh n = false then false
 else if k ≠ 2 ∧ k ≠ 4 ∧ n ≠ 0 then false
 else if k = 8 then decide (ml = 2)
 else decide (k = 9 ∨ ml = 0)
theorem okS_nil : okS ⟨#[]⟩ = true := by unfold okS; rfl
theorem shape_same (k n : Int) (q : Q6) (s : ByteArray) (mr ml : Nat) : shapeB k n q s mr ml = shapeR k n q s mr ml := by
 have hv : s = ⟨#[]⟩ → okS s = true := by rintro rfl; exact okS_nil
 have hn0 : nowB false 0 0 = true := rfl
 unfold shapeB shapeR
 by_cases hk : k < 1 ∨ 11 < k
 ·
  rw [if_pos (show k < 1 ∨ 11 < k ∨ okS s = false by omega)]
  repeat (rw [if_neg (by omega)])
 ·
  have h11 : k = 1 ∨ k = 2 ∨ k = 3 ∨ k = 4 ∨ k = 5 ∨ k = 6 ∨ k = 7 ∨ k = 8 ∨ k = 9 ∨ k = 10 ∨ k = 11 := by omega
  simp only [bareB, hn0]
  generalize nowB q.b1 q.t1.length q.q1.length = B1
  generalize nowB q.b2 q.t2.length q.q2.length = B2
  generalize soundQ q = S1
  generalize isCh n = S2
  by_cases hs : s = ⟨#[]⟩
  ·
   rw [hv hs]
   have hs2 : ¬ s ≠ ⟨#[]⟩ := fun h => h hs
   rcases h11 with h | h | h | h | h | h | h | h | h | h | h <;> subst h <;> cases B1 <;> cases B2 <;> cases S1 <;> cases S2 <;> simp [hs] <;> by_cases hm : mr = 0 <;> simp [hm] <;> by_cases hn : n = 0 <;> simp [hn] <;> first | omega | (by_cases hn1 : n = 1 <;> simp [hn1]) | skip
  ·
   cases hV : okS s <;> rcases h11 with h | h | h | h | h | h | h | h | h | h | h <;> subst h <;> cases B1 <;> cases B2 <;> cases S1 <;> cases S2 <;> simp [hs] <;> by_cases hm : mr = 0 <;> simp [hm] <;> by_cases hn : n = 0 <;> simp [hn] <;> first | omega | skip
section
variable {k n : Int} {q : Q6} {s : ByteArray} {mr ml : Nat}
def ShA (k : Int) (s : ByteArray) : Prop := 1 ≤ k ∧ k ≤ 11 ∧ okS s = true
def ShB (k : Int) (q : Q6) : Prop := (k = 3 → soundQ q = true) ∧ (k ≠ 3 → nowB q.b1 q.t1.length q.q1.length = true ∧ nowB q.b2 q.t2.length q.q2.length = true)
def ShC (k : Int) (s : ByteArray) : Prop := s = ⟨#[]⟩ ∨ k = 5 ∨ k = 6 ∨ k = 11
def ShD (k : Int) (mr : Nat) : Prop := mr = 0 ∨ k = 7
def ShE (k n : Int) : Prop := (k = 2 → n = 0 ∨ n = 1) ∧ (k = 4 → isCh n = true) ∧ (k ≠ 2 → k ≠ 4 → n = 0)
theorem sh1 (h : k < 1 ∨ 11 < k ∨ okS s = false) : shapeR k n q s mr ml = false := by unfold shapeR; rw [if_pos h]
theorem shA (a : ShA k s) : ¬ (k < 1 ∨ 11 < k ∨ okS s = false) := fun e => by
 rcases e with e | e | e
 ·
  have := a.1; omega
 ·
  have := a.2.1; omega
 ·
  rw [a.2.2] at e; cases e
theorem sh2 (a : ShA k s) (h : k = 3) (S : soundQ q = false) : shapeR k n q s mr ml = false := by unfold shapeR; rw [if_neg (shA a), if_pos ⟨h, S⟩]
theorem sh3 (a : ShA k s) (h : k ≠ 3) (S : nowB q.b1 q.t1.length q.q1.length = false ∨ nowB q.b2 q.t2.length q.q2.length = false) : shapeR k n q s mr ml = false := by unfold shapeR; rw [if_neg (shA a), if_neg (fun e => h e.1), if_pos ⟨h, S⟩]
theorem shB1 (b : ShB k q) : ¬ (k = 3 ∧ soundQ q = false) := fun e => by have := b.1 e.1; rw [e.2] at this; cases this
theorem shB2 (b : ShB k q) : ¬ (k ≠ 3 ∧ (nowB q.b1 q.t1.length q.q1.length = false ∨ nowB q.b2 q.t2.length q.q2.length = false)) := fun e => by
 have := b.2 e.1
 rcases e.2 with h | h
 ·
  rw [this.1] at h; cases h
 ·
  rw [this.2] at h; cases h
theorem sh4 (a : ShA k s) (b : ShB k q) (h : s ≠ ⟨#[]⟩ ∧ k ≠ 5 ∧ k ≠ 6 ∧ k ≠ 11) : shapeR k n q s mr ml = false := by unfold shapeR; rw [if_neg (shA a), if_neg (shB1 b), if_neg (shB2 b), if_pos h]
theorem shC (c : ShC k s) : ¬ (s ≠ ⟨#[]⟩ ∧ k ≠ 5 ∧ k ≠ 6 ∧ k ≠ 11) := fun e => by rcases c with h | h | h | h <;> first | exact e.1 h | exact e.2.1 h | exact e.2.2.1 h | exact e.2.2.2 h
theorem sh5 (a : ShA k s) (b : ShB k q) (c : ShC k s) (h : 0 < mr ∧ k ≠ 7) : shapeR k n q s mr ml = false := by unfold shapeR; rw [if_neg (shA a), if_neg (shB1 b), if_neg (shB2 b), if_neg (shC c), if_pos h]
theorem shD (d : ShD k mr) : ¬ (0 < mr ∧ k ≠ 7) := fun e => by rcases d with h | h <;> omega
theorem sh6 (a : ShA k s) (b : ShB k q) (c : ShC k s) (d : ShD k mr) (h : (k = 2 ∧ n ≠ 0 ∧ n ≠ 1) ∨ (k = 4 ∧ isCh n = false) ∨ (k ≠ 2 ∧ k ≠ 4 ∧ n ≠ 0)) : shapeR k n q s mr ml = false := by
 unfold shapeR
 rw [if_neg (shA a), if_neg (shB1 b), if_neg (shB2 b), if_neg (shC c), if_neg (shD d)]
 rcases h with h | h | h
 ·
  rw [if_pos h]
 ·
  rw [if_neg (by omega), if_pos h]
 ·
  rw [if_neg (by omega), if_neg (fun e => h.2.1 e.1), if_pos h]
theorem sh9 (a : ShA k s) (b : ShB k q) (c : ShC k s) (d : ShD k mr) (e : ShE k n) : shapeR k n q s mr ml = if k = 8 then decide (ml = 2) else decide (k = 9 ∨ ml = 0) := by
 unfold shapeR
 have e1 := e.1
 have e3 := e.2.2
 rw [if_neg (shA a), if_neg (shB1 b), if_neg (shB2 b), if_neg (shC c), if_neg (shD d), if_neg (fun h => by have := e1 h.1; omega), if_neg (fun h => by have := e.2.1 h.1; rw [h.2] at this; cases this), if_neg (fun h => by have := e3 h.1 h.2.1; omega)]
end
theorem rshape_any {w : World} {d : Nd} {ts : List Dt} (hok : NdOk w d) (hs2 : d.s.size ≤ 2000000) (hlen : ts.length ≤ 9223372036854775807) {r : Bool} (hr : shapeB d.k d.n d.y.q d.s d.rl.length ts.length = r) : Calls Tryz.prog 31 #[.agg (d.cells ts.length).toArray] w fun e w' => e = .returned (.bool r) ∧ Below w.heap.size w w' := by
 have hrl : d.rl.length ≤ 9223372036854775807 := Nat.le_trans hok.rcap hok.rmax
 have M : Mg w w ([]) := Mg.start w
 refine walk_of (l := [(0, .agg (d.cells ts.length).toArray)]) Tryz.func31 rfl Tryz.ntmps31 rfl rfl ?_
 intro Q hret hnorm hP a A
 refine wsk fun K1 hK1 => wrl (s_new (vs := [.int .i64 d.k, .int .i64 d.n, .bool d.y.q.b1, .slice d.y.o1 d.y.q.t1.length d.y.c1, .slice d.y.o2 d.y.q.q1.length d.y.c2, .bool d.y.q.b2, .slice d.y.o3 d.y.q.t2.length d.y.c3, .slice d.y.o4 d.y.q.q2.length d.y.c4, .string d.s, .slice d.ro d.rl.length d.rc, .slice d.lo ts.length d.lc]) (t := 30) A M rfl rfl rfl pg (does_box rfl rfl) (by decide) ?_)
 intro g2 w3 M a A
 refine sda A λa A↦?_
 refine seq_end (hK1 _ _ (wsk fun K4 hK4 => wsk fun K5 hK5 => wrl (sdo (v := .pointer (some ⟨g2, 0, none⟩)) A (does_field TrV_fld_30_0 rfl rfl) λa A↦?_)))
 refine sdo A (m_load1 M TrV_is1_3 rfl 0 rfl rfl) λa A↦?_
 rcases tf (decide (d.k < 1)) with hb6 | hb6
 ·
  have hb6' := of_decide_eq_true hb6
  refine sdo (v := .bool true) A (does_bin rfl rfl (fun w => (bin_lss w).trans (by rw [hb6]))) λa A↦?_
  refine sdm A λa A↦?_
  iterate 3 refine seq_skip A rfl rfl rfl λa A↦?_
  refine sdk (v := .bool true) A λa A↦?_
  refine sdm A λa A↦?_
  iterate 4 refine seq_skip A rfl rfl rfl λa A↦?_
  refine sdk (v := .bool true) A λa A↦?_
  refine seq_end (hK5 _ _ (wp_cond_true (A.ev rfl) ?_))
  refine wsk fun K7 hK7 => wrl (sda A λa A↦?_)
  refine seq_end (hK7 _ _ (wp_ret (hret _ _ (en1 A rfl (res_tmp rfl) ?_))))
  subst hr
  exact ⟨by rw [show shapeB d.k d.n d.y.q d.s d.rl.length ts.length = false from by rw [shape_same]; exact sh1 (by omega)], M.bel⟩
 ·
  have hb6' := of_decide_eq_false hb6
  refine sdo (v := .bool false) A (does_bin rfl rfl (fun w => (bin_lss w).trans (by rw [hb6]))) λa A↦?_
  refine sdm A λa A↦?_
  refine sdo (v := .pointer (some ⟨g2, 0, none⟩)) A (does_field TrV_fld_30_0 rfl rfl) λa A↦?_
  refine sdo A (m_load1 M TrV_is1_3 rfl 0 rfl rfl) λa A↦?_
  rcases tf (decide (11 < d.k)) with hb8 | hb8
  ·
   have hb8' := of_decide_eq_true hb8
   refine sdo (v := .bool true) A (does_bin rfl rfl (fun w => (bin_gtr w).trans (by rw [hb8]))) λa A↦?_
   refine sdk (v := .bool true) A λa A↦?_
   refine sdm A λa A↦?_
   iterate 4 refine seq_skip A rfl rfl rfl λa A↦?_
   refine sdk (v := .bool true) A λa A↦?_
   refine seq_end (hK5 _ _ (wp_cond_true (A.ev rfl) ?_))
   refine wsk fun K9 hK9 => wrl (sda A λa A↦?_)
   refine seq_end (hK9 _ _ (wp_ret (hret _ _ (en1 A rfl (res_tmp rfl) ?_))))
   subst hr
   exact ⟨by rw [show shapeB d.k d.n d.y.q d.s d.rl.length ts.length = false from by rw [shape_same]; exact sh1 (by omega)], M.bel⟩
  ·
   have hb8' := of_decide_eq_false hb8
   refine sdo (v := .bool false) A (does_bin rfl rfl (fun w => (bin_gtr w).trans (by rw [hb8]))) λa A↦?_
   refine sdk (v := .bool false) A λa A↦?_
   refine sdm A λa A↦?_
   refine sdo (v := .pointer (some ⟨g2, 8, none⟩)) A (does_field TrV_fld_30_3 rfl rfl) λa A↦?_
   refine sdo A (m_load1 M TrV_is1_9 rfl 0 rfl rfl) λa A↦?_
   rcases tf (okS d.s) with hb10 | hb10
   ·
    refine seq_call A rfl rfl rfl (enters_func rfl rfl (fun w => by kernel_rfl)) (rvalid_any hs2 hb10) ?_
    rintro _ w12 ⟨rfl, hb11⟩
    replace M := M.call hb11
    refine ⟨_, rfl, ?_⟩
    intro a A
    refine sdo (v := .bool false) A (does_un rfl un_not) λa A↦?_
    refine sdk (v := .bool false) A λa A↦?_
    refine seq_end (hK5 _ _ (wp_cond_false (A.ev rfl) ?_))
    refine wp_skip (hK4 _ _ (wsk fun K13 hK13 => wsk fun K14 hK14 => wrl (sdo (v := .pointer (some ⟨g2, 0, none⟩)) A (does_field TrV_fld_30_0 rfl rfl) λa A↦?_)))
    refine sdo A (m_load1 M TrV_is1_3 rfl 0 rfl rfl) λa A↦?_
    rcases tf ((d.k == 3)) with hb15 | hb15
    ·
     have hb15' := eq_of_beq hb15
     refine sdo (v := .bool true) A (does_bin rfl rfl (fun w => (bin_eql w).trans (by rw [hb15]))) λa A↦?_
     refine seq_end (hK14 _ _ (wp_cond_true (A.ev rfl) ?_))
     refine wsk fun K16 hK16 => wrl (sdo (v := .pointer (some ⟨g2, 2, none⟩)) A (does_field TrV_fld_30_2 rfl rfl) λa A↦?_)
     refine sdo A (m_loadS M TrV_isS_26 rfl 0 rfl (cs := [.bool d.y.q.b1, .slice d.y.o1 d.y.q.t1.length d.y.c1, .slice d.y.o2 d.y.q.q1.length d.y.c2, .bool d.y.q.b2, .slice d.y.o3 d.y.q.t2.length d.y.c3, .slice d.y.o4 d.y.q.q2.length d.y.c4]) rfl rfl) λa A↦?_
     rcases tf (soundQ d.y.q) with hb17 | hb17
     ·
      refine seq_call A rfl rfl rfl (enters_func rfl rfl (fun w => by kernel_rfl)) (rsoundQ_any (Nu.below hok.num M.bel) hok.len hb17) ?_
      rintro _ w19 ⟨rfl, hb18⟩
      replace M := M.call hb18
      refine ⟨_, rfl, ?_⟩
      intro a A
      refine sdo (v := .bool false) A (does_un rfl un_not) λa A↦?_
      refine seq_end (hK16 _ _ (wp_cond_false (A.ev rfl) ?_))
      refine wp_skip (hK13 _ _ (wsk fun K20 hK20 => wsk fun K21 hK21 => wrl (sdo (v := .pointer (some ⟨g2, 8, none⟩)) A (does_field TrV_fld_30_3 rfl rfl) λa A↦?_)))
      refine sdo A (m_load1 M TrV_is1_9 rfl 0 rfl rfl) λa A↦?_
      rcases tf (decide (d.s = ⟨#[]⟩)) with hb22 | hb22
      ·
       have hb22' := of_decide_eq_true hb22
       refine sdo (v := .bool false) A (does_bin rfl rfl (fun w => (bin_neqS Tryz.underlying9 w).trans (by rw [hb22] <;> rfl))) λa A↦?_
       refine sdm A λa A↦?_
       iterate 3 refine seq_skip A rfl rfl rfl λa A↦?_
       refine sdk (v := .bool false) A λa A↦?_
       refine sdm A λa A↦?_
       iterate 3 refine seq_skip A rfl rfl rfl λa A↦?_
       refine sdk (v := .bool false) A λa A↦?_
       refine sdm A λa A↦?_
       iterate 3 refine seq_skip A rfl rfl rfl λa A↦?_
       refine sdk (v := .bool false) A λa A↦?_
       refine seq_end (hK21 _ _ (wp_cond_false (A.ev rfl) ?_))
       refine wp_skip (hK20 _ _ (wsk fun K23 hK23 => wsk fun K24 hK24 => wrl (sdo (v := .pointer (some ⟨g2, 9, none⟩)) A (does_field TrV_fld_30_4 rfl rfl) λa A↦?_)))
       refine sdo A (m_load1 M TrV_is1_27 rfl 0 rfl rfl) λa A↦?_
       refine sdo A (does_len Tryz.underlying27 rfl) λa A↦?_
       rcases tf (decide (0 < ((d.rl.length : Nat) : Int))) with hb25 | hb25
       ·
        have hb25' := of_decide_eq_true hb25
        refine sdo (v := .bool true) A (does_bin rfl rfl (fun w => (bin_gtr w).trans (by rw [hb25]))) λa A↦?_
        refine sdm A λa A↦?_
        refine sdo (v := .pointer (some ⟨g2, 0, none⟩)) A (does_field TrV_fld_30_0 rfl rfl) λa A↦?_
        refine sdo A (m_load1 M TrV_is1_3 rfl 0 rfl rfl) λa A↦?_
        refine sdo (v := .bool true) A (does_bin rfl rfl (fun w => (bin_neq w).trans (by rw [show ((d.k != 7)) = true from (bne_iff_ne.2 (by omega))]))) λa A↦?_
        refine sdk (v := .bool true) A λa A↦?_
        refine seq_end (hK24 _ _ (wp_cond_true (A.ev rfl) ?_))
        refine wsk fun K26 hK26 => wrl (sda A λa A↦?_)
        refine seq_end (hK26 _ _ (wp_ret (hret _ _ (en1 A rfl (res_tmp rfl) ?_))))
        subst hr
        exact ⟨by rw [show shapeB d.k d.n d.y.q d.s d.rl.length ts.length = false from by rw [shape_same]; exact sh5 ⟨by omega, by omega, hb10⟩ ⟨fun _ => hb17, fun h => absurd (show d.k = 3 by omega) h⟩ (.inl hb22') ⟨by omega, by omega⟩], M.bel⟩
       ·
        have hb25' := of_decide_eq_false hb25
        refine sdo (v := .bool false) A (does_bin rfl rfl (fun w => (bin_gtr w).trans (by rw [hb25]))) λa A↦?_
        refine sdm A λa A↦?_
        iterate 3 refine seq_skip A rfl rfl rfl λa A↦?_
        refine sdk (v := .bool false) A λa A↦?_
        refine seq_end (hK24 _ _ (wp_cond_false (A.ev rfl) ?_))
        refine wp_skip (hK23 _ _ (wsk fun K27 hK27 => wsk fun K28 hK28 => wrl (sdo (v := .pointer (some ⟨g2, 0, none⟩)) A (does_field TrV_fld_30_0 rfl rfl) λa A↦?_)))
        refine sdo A (m_load1 M TrV_is1_3 rfl 0 rfl rfl) λa A↦?_
        refine seq_end (hK28 _ _ (wp_block (wsk fun K29 hK29 => wrl (sdo (v := .bool false) A (does_bin rfl rfl (fun w => (bin_eql w).trans (by rw [show ((d.k == 2)) = false from (beq_eq_false_iff_ne.2 (by omega))]))) λa A↦?_))))
        refine sda A λa A↦?_
        refine seq_end (hK29 _ _ (wp_cond_false (A.ev rfl) ?_))
        refine wsk fun K30 hK30 => wrl (sdo (v := .bool false) A (does_bin rfl rfl (fun w => (bin_eql w).trans (by rw [show ((d.k == 4)) = false from (beq_eq_false_iff_ne.2 (by omega))]))) λa A↦?_)
        refine sda A λa A↦?_
        refine seq_end (hK30 _ _ (wp_cond_false (A.ev rfl) ?_))
        refine wsk fun K31 hK31 => wrl (sdo (v := .pointer (some ⟨g2, 1, none⟩)) A (does_field TrV_fld_30_1 rfl rfl) λa A↦?_)
        refine sdo A (m_load1 M TrV_is1_3 rfl 0 rfl rfl) λa A↦?_
        rcases tf ((d.n != 0)) with hb32 | hb32
        ·
         have hb32' := bne_iff_ne.1 hb32
         refine sdo (v := .bool true) A (does_bin rfl rfl (fun w => (bin_neq w).trans (by rw [hb32]))) λa A↦?_
         refine seq_end (hK31 _ _ (wp_cond_true (A.ev rfl) ?_))
         refine wsk fun K33 hK33 => wrl (sda A λa A↦?_)
         refine seq_end (hK33 _ _ (wp_ret (hret _ _ (en1 A rfl (res_tmp rfl) ?_))))
         subst hr
         exact ⟨by rw [show shapeB d.k d.n d.y.q d.s d.rl.length ts.length = false from by rw [shape_same]; exact sh6 ⟨by omega, by omega, hb10⟩ ⟨fun _ => hb17, fun h => absurd (show d.k = 3 by omega) h⟩ (.inl hb22') (.inl (by omega)) (.inr (.inr ⟨by omega, by omega, by omega⟩))], M.bel⟩
        ·
         have hb32' := bne_eq_false_iff_eq.1 hb32
         refine sdo (v := .bool false) A (does_bin rfl rfl (fun w => (bin_neq w).trans (by rw [hb32]))) λa A↦?_
         refine seq_end (hK31 _ _ (wp_cond_false (A.ev rfl) ?_))
         refine wp_skip (hK27 _ _ (wsk fun K34 hK34 => wsk fun K35 hK35 => wrl (sdo (v := .pointer (some ⟨g2, 0, none⟩)) A (does_field TrV_fld_30_0 rfl rfl) λa A↦?_)))
         refine sdo A (m_load1 M TrV_is1_3 rfl 0 rfl rfl) λa A↦?_
         refine sdo (v := .bool false) A (does_bin rfl rfl (fun w => (bin_eql w).trans (by rw [show ((d.k == 8)) = false from (beq_eq_false_iff_ne.2 (by omega))]))) λa A↦?_
         refine seq_end (hK35 _ _ (wp_cond_false (A.ev rfl) ?_))
         refine wp_skip (hK34 _ _ (wsk fun K36 hK36 => wrl (sdo (v := .pointer (some ⟨g2, 0, none⟩)) A (does_field TrV_fld_30_0 rfl rfl) λa A↦?_)))
         refine sdo A (m_load1 M TrV_is1_3 rfl 0 rfl rfl) λa A↦?_
         refine sdo (v := .bool false) A (does_bin rfl rfl (fun w => (bin_eql w).trans (by rw [show ((d.k == 9)) = false from (beq_eq_false_iff_ne.2 (by omega))]))) λa A↦?_
         refine sdm A λa A↦?_
         refine sdo (v := .pointer (some ⟨g2, 10, none⟩)) A (does_field TrV_fld_30_5 rfl rfl) λa A↦?_
         refine sdo A (m_load1 M TrV_is1_28 rfl 0 rfl rfl) λa A↦?_
         refine sdo A (does_len Tryz.underlying28 rfl) λa A↦?_
         rcases tf ((((ts.length : Nat) : Int) == 0)) with hb37 | hb37
         ·
          have hb37' := eq_of_beq hb37
          refine sdo (v := .bool true) A (does_bin rfl rfl (fun w => (bin_eql w).trans (by rw [hb37]))) λa A↦?_
          refine sdk (v := .bool true) A λa A↦?_
          refine sda A λa A↦?_
          refine seq_end (hK36 _ _ (wp_ret (hret _ _ (en1 A rfl (res_tmp rfl) ?_))))
          subst hr
          exact ⟨by rw [show shapeB d.k d.n d.y.q d.s d.rl.length ts.length = true from by
           rw [shape_same, sh9 ⟨by omega, by omega, hb10⟩ ⟨fun _ => hb17, fun h => absurd (show d.k = 3 by omega) h⟩ (.inl hb22') (.inl (by omega)) ⟨fun h => by omega, fun h => absurd h (by omega), fun h h2 => by omega⟩]
           rw [if_neg (by omega)]
           exact decide_eq_true (by omega)], M.bel⟩
         ·
          have hb37' := ne_of_beq_false hb37
          refine sdo (v := .bool false) A (does_bin rfl rfl (fun w => (bin_eql w).trans (by rw [hb37]))) λa A↦?_
          refine sdk (v := .bool false) A λa A↦?_
          refine sda A λa A↦?_
          refine seq_end (hK36 _ _ (wp_ret (hret _ _ (en1 A rfl (res_tmp rfl) ?_))))
          subst hr
          exact ⟨by rw [show shapeB d.k d.n d.y.q d.s d.rl.length ts.length = false from by
           rw [shape_same, sh9 ⟨by omega, by omega, hb10⟩ ⟨fun _ => hb17, fun h => absurd (show d.k = 3 by omega) h⟩ (.inl hb22') (.inl (by omega)) ⟨fun h => by omega, fun h => absurd h (by omega), fun h h2 => by omega⟩]
           rw [if_neg (by omega)]
           exact decide_eq_false (by omega)], M.bel⟩
      ·
       have hb22' := of_decide_eq_false hb22
       refine sdo (v := .bool true) A (does_bin rfl rfl (fun w => (bin_neqS Tryz.underlying9 w).trans (by rw [hb22] <;> rfl))) λa A↦?_
       refine sdm A λa A↦?_
       refine sdo (v := .pointer (some ⟨g2, 0, none⟩)) A (does_field TrV_fld_30_0 rfl rfl) λa A↦?_
       refine sdo A (m_load1 M TrV_is1_3 rfl 0 rfl rfl) λa A↦?_
       refine sdo (v := .bool true) A (does_bin rfl rfl (fun w => (bin_neq w).trans (by rw [show ((d.k != 5)) = true from (bne_iff_ne.2 (by omega))]))) λa A↦?_
       refine sdk (v := .bool true) A λa A↦?_
       refine sdm A λa A↦?_
       refine sdo (v := .pointer (some ⟨g2, 0, none⟩)) A (does_field TrV_fld_30_0 rfl rfl) λa A↦?_
       refine sdo A (m_load1 M TrV_is1_3 rfl 0 rfl rfl) λa A↦?_
       refine sdo (v := .bool true) A (does_bin rfl rfl (fun w => (bin_neq w).trans (by rw [show ((d.k != 6)) = true from (bne_iff_ne.2 (by omega))]))) λa A↦?_
       refine sdk (v := .bool true) A λa A↦?_
       refine sdm A λa A↦?_
       refine sdo (v := .pointer (some ⟨g2, 0, none⟩)) A (does_field TrV_fld_30_0 rfl rfl) λa A↦?_
       refine sdo A (m_load1 M TrV_is1_3 rfl 0 rfl rfl) λa A↦?_
       refine sdo (v := .bool true) A (does_bin rfl rfl (fun w => (bin_neq w).trans (by rw [show ((d.k != 11)) = true from (bne_iff_ne.2 (by omega))]))) λa A↦?_
       refine sdk (v := .bool true) A λa A↦?_
       refine seq_end (hK21 _ _ (wp_cond_true (A.ev rfl) ?_))
       refine wsk fun K38 hK38 => wrl (sda A λa A↦?_)
       refine seq_end (hK38 _ _ (wp_ret (hret _ _ (en1 A rfl (res_tmp rfl) ?_))))
       subst hr
       exact ⟨by rw [show shapeB d.k d.n d.y.q d.s d.rl.length ts.length = false from by rw [shape_same]; exact sh4 ⟨by omega, by omega, hb10⟩ ⟨fun _ => hb17, fun h => absurd (show d.k = 3 by omega) h⟩ ⟨hb22', by omega, by omega, by omega⟩], M.bel⟩
     ·
      refine seq_call A rfl rfl rfl (enters_func rfl rfl (fun w => by kernel_rfl)) (rsoundQ_any (Nu.below hok.num M.bel) hok.len hb17) ?_
      rintro _ w40 ⟨rfl, hb39⟩
      replace M := M.call hb39
      refine ⟨_, rfl, ?_⟩
      intro a A
      refine sdo (v := .bool true) A (does_un rfl un_not) λa A↦?_
      refine seq_end (hK16 _ _ (wp_cond_true (A.ev rfl) ?_))
      refine wsk fun K41 hK41 => wrl (sda A λa A↦?_)
      refine seq_end (hK41 _ _ (wp_ret (hret _ _ (en1 A rfl (res_tmp rfl) ?_))))
      subst hr
      exact ⟨by rw [show shapeB d.k d.n d.y.q d.s d.rl.length ts.length = false from by rw [shape_same]; exact sh2 ⟨by omega, by omega, hb10⟩ (by omega) hb17], M.bel⟩
    ·
     have hb15' := ne_of_beq_false hb15
     refine sdo (v := .bool false) A (does_bin rfl rfl (fun w => (bin_eql w).trans (by rw [hb15]))) λa A↦?_
     refine seq_end (hK14 _ _ (wp_cond_false (A.ev rfl) ?_))
     refine wsk fun K42 hK42 => wrl (sdo (v := .pointer (some ⟨g2, 2, none⟩)) A (does_field TrV_fld_30_2 rfl rfl) λa A↦?_)
     refine sdo (v := .pointer (some ⟨g2, 2, none⟩)) A (does_field TrV_fld_26_0 rfl rfl) λa A↦?_
     refine sdo A (m_loadS M TrV_isS_24 rfl 0 rfl (cs := [.bool d.y.q.b1, .slice d.y.o1 d.y.q.t1.length d.y.c1, .slice d.y.o2 d.y.q.q1.length d.y.c2]) rfl rfl) λa A↦?_
     rcases tf (nowB d.y.q.b1 d.y.q.t1.length d.y.q.q1.length) with hb43 | hb43
     ·
      refine seq_call A rfl rfl rfl (enters_func rfl rfl (fun w => by kernel_rfl)) (noRat_any hok.len.l1 hok.len.l2 hb43) ?_
      rintro _ w45 ⟨rfl, hb44⟩
      replace M := M.call hb44
      refine ⟨_, rfl, ?_⟩
      intro a A
      refine sdo (v := .bool false) A (does_un rfl un_not) λa A↦?_
      refine sdm A λa A↦?_
      refine sdo (v := .pointer (some ⟨g2, 2, none⟩)) A (does_field TrV_fld_30_2 rfl rfl) λa A↦?_
      refine sdo (v := .pointer (some ⟨g2, 5, none⟩)) A (does_field TrV_fld_26_1 rfl rfl) λa A↦?_
      refine sdo A (m_loadS M TrV_isS_24 rfl 0 rfl (cs := [.bool d.y.q.b2, .slice d.y.o3 d.y.q.t2.length d.y.c3, .slice d.y.o4 d.y.q.q2.length d.y.c4]) rfl rfl) λa A↦?_
      rcases tf (nowB d.y.q.b2 d.y.q.t2.length d.y.q.q2.length) with hb46 | hb46
      ·
       refine seq_call A rfl rfl rfl (enters_func rfl rfl (fun w => by kernel_rfl)) (noRat_any hok.len.l3 hok.len.l4 hb46) ?_
       rintro _ w48 ⟨rfl, hb47⟩
       replace M := M.call hb47
       refine ⟨_, rfl, ?_⟩
       intro a A
       refine sdo (v := .bool false) A (does_un rfl un_not) λa A↦?_
       refine sdk (v := .bool false) A λa A↦?_
       refine seq_end (hK42 _ _ (wp_cond_false (A.ev rfl) ?_))
       refine wp_skip (hK13 _ _ (wsk fun K49 hK49 => wsk fun K50 hK50 => wrl (sdo (v := .pointer (some ⟨g2, 8, none⟩)) A (does_field TrV_fld_30_3 rfl rfl) λa A↦?_)))
       refine sdo A (m_load1 M TrV_is1_9 rfl 0 rfl rfl) λa A↦?_
       rcases tf (decide (d.s = ⟨#[]⟩)) with hb51 | hb51
       ·
        have hb51' := of_decide_eq_true hb51
        refine sdo (v := .bool false) A (does_bin rfl rfl (fun w => (bin_neqS Tryz.underlying9 w).trans (by rw [hb51] <;> rfl))) λa A↦?_
        refine sdm A λa A↦?_
        iterate 3 refine seq_skip A rfl rfl rfl λa A↦?_
        refine sdk (v := .bool false) A λa A↦?_
        refine sdm A λa A↦?_
        iterate 3 refine seq_skip A rfl rfl rfl λa A↦?_
        refine sdk (v := .bool false) A λa A↦?_
        refine sdm A λa A↦?_
        iterate 3 refine seq_skip A rfl rfl rfl λa A↦?_
        refine sdk (v := .bool false) A λa A↦?_
        refine seq_end (hK50 _ _ (wp_cond_false (A.ev rfl) ?_))
        refine wp_skip (hK49 _ _ (wsk fun K52 hK52 => wsk fun K53 hK53 => wrl (sdo (v := .pointer (some ⟨g2, 9, none⟩)) A (does_field TrV_fld_30_4 rfl rfl) λa A↦?_)))
        refine sdo A (m_load1 M TrV_is1_27 rfl 0 rfl rfl) λa A↦?_
        refine sdo A (does_len Tryz.underlying27 rfl) λa A↦?_
        rcases tf (decide (0 < ((d.rl.length : Nat) : Int))) with hb54 | hb54
        ·
         have hb54' := of_decide_eq_true hb54
         refine sdo (v := .bool true) A (does_bin rfl rfl (fun w => (bin_gtr w).trans (by rw [hb54]))) λa A↦?_
         refine sdm A λa A↦?_
         refine sdo (v := .pointer (some ⟨g2, 0, none⟩)) A (does_field TrV_fld_30_0 rfl rfl) λa A↦?_
         refine sdo A (m_load1 M TrV_is1_3 rfl 0 rfl rfl) λa A↦?_
         rcases tf ((d.k != 7)) with hb55 | hb55
         ·
          have hb55' := bne_iff_ne.1 hb55
          refine sdo (v := .bool true) A (does_bin rfl rfl (fun w => (bin_neq w).trans (by rw [hb55]))) λa A↦?_
          refine sdk (v := .bool true) A λa A↦?_
          refine seq_end (hK53 _ _ (wp_cond_true (A.ev rfl) ?_))
          refine wsk fun K56 hK56 => wrl (sda A λa A↦?_)
          refine seq_end (hK56 _ _ (wp_ret (hret _ _ (en1 A rfl (res_tmp rfl) ?_))))
          subst hr
          exact ⟨by rw [show shapeB d.k d.n d.y.q d.s d.rl.length ts.length = false from by rw [shape_same]; exact sh5 ⟨by omega, by omega, hb10⟩ ⟨fun h => absurd h (by omega), fun _ => ⟨hb43, hb46⟩⟩ (.inl hb51') ⟨by omega, by omega⟩], M.bel⟩
         ·
          have hb55' := bne_eq_false_iff_eq.1 hb55
          refine sdo (v := .bool false) A (does_bin rfl rfl (fun w => (bin_neq w).trans (by rw [hb55]))) λa A↦?_
          refine sdk (v := .bool false) A λa A↦?_
          refine seq_end (hK53 _ _ (wp_cond_false (A.ev rfl) ?_))
          refine wp_skip (hK52 _ _ (wsk fun K57 hK57 => wsk fun K58 hK58 => wrl (sdo (v := .pointer (some ⟨g2, 0, none⟩)) A (does_field TrV_fld_30_0 rfl rfl) λa A↦?_)))
          refine sdo A (m_load1 M TrV_is1_3 rfl 0 rfl rfl) λa A↦?_
          refine seq_end (hK58 _ _ (wp_block (wsk fun K59 hK59 => wrl (sdo (v := .bool false) A (does_bin rfl rfl (fun w => (bin_eql w).trans (by rw [show ((d.k == 2)) = false from (beq_eq_false_iff_ne.2 (by omega))]))) λa A↦?_))))
          refine sda A λa A↦?_
          refine seq_end (hK59 _ _ (wp_cond_false (A.ev rfl) ?_))
          refine wsk fun K60 hK60 => wrl (sdo (v := .bool false) A (does_bin rfl rfl (fun w => (bin_eql w).trans (by rw [show ((d.k == 4)) = false from (beq_eq_false_iff_ne.2 (by omega))]))) λa A↦?_)
          refine sda A λa A↦?_
          refine seq_end (hK60 _ _ (wp_cond_false (A.ev rfl) ?_))
          refine wsk fun K61 hK61 => wrl (sdo (v := .pointer (some ⟨g2, 1, none⟩)) A (does_field TrV_fld_30_1 rfl rfl) λa A↦?_)
          refine sdo A (m_load1 M TrV_is1_3 rfl 0 rfl rfl) λa A↦?_
          rcases tf ((d.n != 0)) with hb62 | hb62
          ·
           have hb62' := bne_iff_ne.1 hb62
           refine sdo (v := .bool true) A (does_bin rfl rfl (fun w => (bin_neq w).trans (by rw [hb62]))) λa A↦?_
           refine seq_end (hK61 _ _ (wp_cond_true (A.ev rfl) ?_))
           refine wsk fun K63 hK63 => wrl (sda A λa A↦?_)
           refine seq_end (hK63 _ _ (wp_ret (hret _ _ (en1 A rfl (res_tmp rfl) ?_))))
           subst hr
           exact ⟨by rw [show shapeB d.k d.n d.y.q d.s d.rl.length ts.length = false from by rw [shape_same]; exact sh6 ⟨by omega, by omega, hb10⟩ ⟨fun h => absurd h (by omega), fun _ => ⟨hb43, hb46⟩⟩ (.inl hb51') (.inr (by omega)) (.inr (.inr ⟨by omega, by omega, by omega⟩))], M.bel⟩
          ·
           have hb62' := bne_eq_false_iff_eq.1 hb62
           refine sdo (v := .bool false) A (does_bin rfl rfl (fun w => (bin_neq w).trans (by rw [hb62]))) λa A↦?_
           refine seq_end (hK61 _ _ (wp_cond_false (A.ev rfl) ?_))
           refine wp_skip (hK57 _ _ (wsk fun K64 hK64 => wsk fun K65 hK65 => wrl (sdo (v := .pointer (some ⟨g2, 0, none⟩)) A (does_field TrV_fld_30_0 rfl rfl) λa A↦?_)))
           refine sdo A (m_load1 M TrV_is1_3 rfl 0 rfl rfl) λa A↦?_
           refine sdo (v := .bool false) A (does_bin rfl rfl (fun w => (bin_eql w).trans (by rw [show ((d.k == 8)) = false from (beq_eq_false_iff_ne.2 (by omega))]))) λa A↦?_
           refine seq_end (hK65 _ _ (wp_cond_false (A.ev rfl) ?_))
           refine wp_skip (hK64 _ _ (wsk fun K66 hK66 => wrl (sdo (v := .pointer (some ⟨g2, 0, none⟩)) A (does_field TrV_fld_30_0 rfl rfl) λa A↦?_)))
           refine sdo A (m_load1 M TrV_is1_3 rfl 0 rfl rfl) λa A↦?_
           refine sdo (v := .bool false) A (does_bin rfl rfl (fun w => (bin_eql w).trans (by rw [show ((d.k == 9)) = false from (beq_eq_false_iff_ne.2 (by omega))]))) λa A↦?_
           refine sdm A λa A↦?_
           refine sdo (v := .pointer (some ⟨g2, 10, none⟩)) A (does_field TrV_fld_30_5 rfl rfl) λa A↦?_
           refine sdo A (m_load1 M TrV_is1_28 rfl 0 rfl rfl) λa A↦?_
           refine sdo A (does_len Tryz.underlying28 rfl) λa A↦?_
           rcases tf ((((ts.length : Nat) : Int) == 0)) with hb67 | hb67
           ·
            have hb67' := eq_of_beq hb67
            refine sdo (v := .bool true) A (does_bin rfl rfl (fun w => (bin_eql w).trans (by rw [hb67]))) λa A↦?_
            refine sdk (v := .bool true) A λa A↦?_
            refine sda A λa A↦?_
            refine seq_end (hK66 _ _ (wp_ret (hret _ _ (en1 A rfl (res_tmp rfl) ?_))))
            subst hr
            exact ⟨by rw [show shapeB d.k d.n d.y.q d.s d.rl.length ts.length = true from by
             rw [shape_same, sh9 ⟨by omega, by omega, hb10⟩ ⟨fun h => absurd h (by omega), fun _ => ⟨hb43, hb46⟩⟩ (.inl hb51') (.inr (by omega)) ⟨fun h => by omega, fun h => absurd h (by omega), fun h h2 => by omega⟩]
             rw [if_neg (by omega)]
             exact decide_eq_true (by omega)], M.bel⟩
           ·
            have hb67' := ne_of_beq_false hb67
            refine sdo (v := .bool false) A (does_bin rfl rfl (fun w => (bin_eql w).trans (by rw [hb67]))) λa A↦?_
            refine sdk (v := .bool false) A λa A↦?_
            refine sda A λa A↦?_
            refine seq_end (hK66 _ _ (wp_ret (hret _ _ (en1 A rfl (res_tmp rfl) ?_))))
            subst hr
            exact ⟨by rw [show shapeB d.k d.n d.y.q d.s d.rl.length ts.length = false from by
             rw [shape_same, sh9 ⟨by omega, by omega, hb10⟩ ⟨fun h => absurd h (by omega), fun _ => ⟨hb43, hb46⟩⟩ (.inl hb51') (.inr (by omega)) ⟨fun h => by omega, fun h => absurd h (by omega), fun h h2 => by omega⟩]
             rw [if_neg (by omega)]
             exact decide_eq_false (by omega)], M.bel⟩
        ·
         have hb54' := of_decide_eq_false hb54
         refine sdo (v := .bool false) A (does_bin rfl rfl (fun w => (bin_gtr w).trans (by rw [hb54]))) λa A↦?_
         refine sdm A λa A↦?_
         iterate 3 refine seq_skip A rfl rfl rfl λa A↦?_
         refine sdk (v := .bool false) A λa A↦?_
         refine seq_end (hK53 _ _ (wp_cond_false (A.ev rfl) ?_))
         refine wp_skip (hK52 _ _ (wsk fun K68 hK68 => wsk fun K69 hK69 => wrl (sdo (v := .pointer (some ⟨g2, 0, none⟩)) A (does_field TrV_fld_30_0 rfl rfl) λa A↦?_)))
         refine sdo A (m_load1 M TrV_is1_3 rfl 0 rfl rfl) λa A↦?_
         refine seq_end (hK69 _ _ (wp_block (wsk fun K70 hK70 => wrl ?_)))
         rcases tf ((d.k == 2)) with hb71 | hb71
         ·
          have hb71' := eq_of_beq hb71
          refine sdo (v := .bool true) A (does_bin rfl rfl (fun w => (bin_eql w).trans (by rw [hb71]))) λa A↦?_
          refine sda A λa A↦?_
          refine seq_end (hK70 _ _ (wp_cond_true (A.ev rfl) ?_))
          refine wsk fun K72 hK72 => wrl (sdo (v := .pointer (some ⟨g2, 1, none⟩)) A (does_field TrV_fld_30_1 rfl rfl) λa A↦?_)
          refine sdo A (m_load1 M TrV_is1_3 rfl 0 rfl rfl) λa A↦?_
          rcases tf ((d.n != 0)) with hb73 | hb73
          ·
           have hb73' := bne_iff_ne.1 hb73
           refine sdo (v := .bool true) A (does_bin rfl rfl (fun w => (bin_neq w).trans (by rw [hb73]))) λa A↦?_
           refine sdm A λa A↦?_
           refine sdo (v := .pointer (some ⟨g2, 1, none⟩)) A (does_field TrV_fld_30_1 rfl rfl) λa A↦?_
           refine sdo A (m_load1 M TrV_is1_3 rfl 0 rfl rfl) λa A↦?_
           rcases tf ((d.n != 1)) with hb74 | hb74
           ·
            have hb74' := bne_iff_ne.1 hb74
            refine sdo (v := .bool true) A (does_bin rfl rfl (fun w => (bin_neq w).trans (by rw [hb74]))) λa A↦?_
            refine sdk (v := .bool true) A λa A↦?_
            refine seq_end (hK72 _ _ (wp_cond_true (A.ev rfl) ?_))
            refine wsk fun K75 hK75 => wrl (sda A λa A↦?_)
            refine seq_end (hK75 _ _ (wp_ret (hret _ _ (en1 A rfl (res_tmp rfl) ?_))))
            subst hr
            exact ⟨by rw [show shapeB d.k d.n d.y.q d.s d.rl.length ts.length = false from by rw [shape_same]; exact sh6 ⟨by omega, by omega, hb10⟩ ⟨fun h => absurd h (by omega), fun _ => ⟨hb43, hb46⟩⟩ (.inl hb51') (.inl (by omega)) (.inl ⟨by omega, by omega, by omega⟩)], M.bel⟩
           ·
            have hb74' := bne_eq_false_iff_eq.1 hb74
            refine sdo (v := .bool false) A (does_bin rfl rfl (fun w => (bin_neq w).trans (by rw [hb74]))) λa A↦?_
            refine sdk (v := .bool false) A λa A↦?_
            refine seq_end (hK72 _ _ (wp_cond_false (A.ev rfl) ?_))
            refine wp_skip (hK68 _ _ (wsk fun K76 hK76 => wsk fun K77 hK77 => wrl (sdo (v := .pointer (some ⟨g2, 0, none⟩)) A (does_field TrV_fld_30_0 rfl rfl) λa A↦?_)))
            refine sdo A (m_load1 M TrV_is1_3 rfl 0 rfl rfl) λa A↦?_
            refine sdo (v := .bool false) A (does_bin rfl rfl (fun w => (bin_eql w).trans (by rw [show ((d.k == 8)) = false from (beq_eq_false_iff_ne.2 (by omega))]))) λa A↦?_
            refine seq_end (hK77 _ _ (wp_cond_false (A.ev rfl) ?_))
            refine wp_skip (hK76 _ _ (wsk fun K78 hK78 => wrl (sdo (v := .pointer (some ⟨g2, 0, none⟩)) A (does_field TrV_fld_30_0 rfl rfl) λa A↦?_)))
            refine sdo A (m_load1 M TrV_is1_3 rfl 0 rfl rfl) λa A↦?_
            refine sdo (v := .bool false) A (does_bin rfl rfl (fun w => (bin_eql w).trans (by rw [show ((d.k == 9)) = false from (beq_eq_false_iff_ne.2 (by omega))]))) λa A↦?_
            refine sdm A λa A↦?_
            refine sdo (v := .pointer (some ⟨g2, 10, none⟩)) A (does_field TrV_fld_30_5 rfl rfl) λa A↦?_
            refine sdo A (m_load1 M TrV_is1_28 rfl 0 rfl rfl) λa A↦?_
            refine sdo A (does_len Tryz.underlying28 rfl) λa A↦?_
            rcases tf ((((ts.length : Nat) : Int) == 0)) with hb79 | hb79
            ·
             have hb79' := eq_of_beq hb79
             refine sdo (v := .bool true) A (does_bin rfl rfl (fun w => (bin_eql w).trans (by rw [hb79]))) λa A↦?_
             refine sdk (v := .bool true) A λa A↦?_
             refine sda A λa A↦?_
             refine seq_end (hK78 _ _ (wp_ret (hret _ _ (en1 A rfl (res_tmp rfl) ?_))))
             subst hr
             exact ⟨by rw [show shapeB d.k d.n d.y.q d.s d.rl.length ts.length = true from by
              rw [shape_same, sh9 ⟨by omega, by omega, hb10⟩ ⟨fun h => absurd h (by omega), fun _ => ⟨hb43, hb46⟩⟩ (.inl hb51') (.inl (by omega)) ⟨fun h => by omega, fun h => absurd h (by omega), fun h h2 => by omega⟩]
              rw [if_neg (by omega)]
              exact decide_eq_true (by omega)], M.bel⟩
            ·
             have hb79' := ne_of_beq_false hb79
             refine sdo (v := .bool false) A (does_bin rfl rfl (fun w => (bin_eql w).trans (by rw [hb79]))) λa A↦?_
             refine sdk (v := .bool false) A λa A↦?_
             refine sda A λa A↦?_
             refine seq_end (hK78 _ _ (wp_ret (hret _ _ (en1 A rfl (res_tmp rfl) ?_))))
             subst hr
             exact ⟨by rw [show shapeB d.k d.n d.y.q d.s d.rl.length ts.length = false from by
              rw [shape_same, sh9 ⟨by omega, by omega, hb10⟩ ⟨fun h => absurd h (by omega), fun _ => ⟨hb43, hb46⟩⟩ (.inl hb51') (.inl (by omega)) ⟨fun h => by omega, fun h => absurd h (by omega), fun h h2 => by omega⟩]
              rw [if_neg (by omega)]
              exact decide_eq_false (by omega)], M.bel⟩
          ·
           have hb73' := bne_eq_false_iff_eq.1 hb73
           refine sdo (v := .bool false) A (does_bin rfl rfl (fun w => (bin_neq w).trans (by rw [hb73]))) λa A↦?_
           refine sdm A λa A↦?_
           iterate 3 refine seq_skip A rfl rfl rfl λa A↦?_
           refine sdk (v := .bool false) A λa A↦?_
           refine seq_end (hK72 _ _ (wp_cond_false (A.ev rfl) ?_))
           refine wp_skip (hK68 _ _ (wsk fun K80 hK80 => wsk fun K81 hK81 => wrl (sdo (v := .pointer (some ⟨g2, 0, none⟩)) A (does_field TrV_fld_30_0 rfl rfl) λa A↦?_)))
           refine sdo A (m_load1 M TrV_is1_3 rfl 0 rfl rfl) λa A↦?_
           refine sdo (v := .bool false) A (does_bin rfl rfl (fun w => (bin_eql w).trans (by rw [show ((d.k == 8)) = false from (beq_eq_false_iff_ne.2 (by omega))]))) λa A↦?_
           refine seq_end (hK81 _ _ (wp_cond_false (A.ev rfl) ?_))
           refine wp_skip (hK80 _ _ (wsk fun K82 hK82 => wrl (sdo (v := .pointer (some ⟨g2, 0, none⟩)) A (does_field TrV_fld_30_0 rfl rfl) λa A↦?_)))
           refine sdo A (m_load1 M TrV_is1_3 rfl 0 rfl rfl) λa A↦?_
           refine sdo (v := .bool false) A (does_bin rfl rfl (fun w => (bin_eql w).trans (by rw [show ((d.k == 9)) = false from (beq_eq_false_iff_ne.2 (by omega))]))) λa A↦?_
           refine sdm A λa A↦?_
           refine sdo (v := .pointer (some ⟨g2, 10, none⟩)) A (does_field TrV_fld_30_5 rfl rfl) λa A↦?_
           refine sdo A (m_load1 M TrV_is1_28 rfl 0 rfl rfl) λa A↦?_
           refine sdo A (does_len Tryz.underlying28 rfl) λa A↦?_
           rcases tf ((((ts.length : Nat) : Int) == 0)) with hb83 | hb83
           ·
            have hb83' := eq_of_beq hb83
            refine sdo (v := .bool true) A (does_bin rfl rfl (fun w => (bin_eql w).trans (by rw [hb83]))) λa A↦?_
            refine sdk (v := .bool true) A λa A↦?_
            refine sda A λa A↦?_
            refine seq_end (hK82 _ _ (wp_ret (hret _ _ (en1 A rfl (res_tmp rfl) ?_))))
            subst hr
            exact ⟨by rw [show shapeB d.k d.n d.y.q d.s d.rl.length ts.length = true from by
             rw [shape_same, sh9 ⟨by omega, by omega, hb10⟩ ⟨fun h => absurd h (by omega), fun _ => ⟨hb43, hb46⟩⟩ (.inl hb51') (.inl (by omega)) ⟨fun h => by omega, fun h => absurd h (by omega), fun h h2 => by omega⟩]
             rw [if_neg (by omega)]
             exact decide_eq_true (by omega)], M.bel⟩
           ·
            have hb83' := ne_of_beq_false hb83
            refine sdo (v := .bool false) A (does_bin rfl rfl (fun w => (bin_eql w).trans (by rw [hb83]))) λa A↦?_
            refine sdk (v := .bool false) A λa A↦?_
            refine sda A λa A↦?_
            refine seq_end (hK82 _ _ (wp_ret (hret _ _ (en1 A rfl (res_tmp rfl) ?_))))
            subst hr
            exact ⟨by rw [show shapeB d.k d.n d.y.q d.s d.rl.length ts.length = false from by
             rw [shape_same, sh9 ⟨by omega, by omega, hb10⟩ ⟨fun h => absurd h (by omega), fun _ => ⟨hb43, hb46⟩⟩ (.inl hb51') (.inl (by omega)) ⟨fun h => by omega, fun h => absurd h (by omega), fun h h2 => by omega⟩]
             rw [if_neg (by omega)]
             exact decide_eq_false (by omega)], M.bel⟩
         ·
          have hb71' := ne_of_beq_false hb71
          refine sdo (v := .bool false) A (does_bin rfl rfl (fun w => (bin_eql w).trans (by rw [hb71]))) λa A↦?_
          refine sda A λa A↦?_
          refine seq_end (hK70 _ _ (wp_cond_false (A.ev rfl) ?_))
          refine wsk fun K84 hK84 => wrl ?_
          rcases tf ((d.k == 4)) with hb85 | hb85
          ·
           have hb85' := eq_of_beq hb85
           refine sdo (v := .bool true) A (does_bin rfl rfl (fun w => (bin_eql w).trans (by rw [hb85]))) λa A↦?_
           refine sda A λa A↦?_
           refine seq_end (hK84 _ _ (wp_cond_true (A.ev rfl) ?_))
           refine wsk fun K86 hK86 => wrl (sdo (v := .pointer (some ⟨g2, 1, none⟩)) A (does_field TrV_fld_30_1 rfl rfl) λa A↦?_)
           refine sdo A (m_load1 M TrV_is1_3 rfl 0 rfl rfl) λa A↦?_
           rcases tf (isCh d.n) with hb87 | hb87
           ·
            refine seq_call A rfl rfl rfl (enters_func rfl rfl (fun w => by kernel_rfl)) (risCh_any hb87) ?_
            rintro _ w89 ⟨rfl, hb88⟩
            replace M := M.call hb88
            refine ⟨_, rfl, ?_⟩
            intro a A
            refine sdo (v := .bool false) A (does_un rfl un_not) λa A↦?_
            refine seq_end (hK86 _ _ (wp_cond_false (A.ev rfl) ?_))
            refine wp_skip (hK68 _ _ (wsk fun K90 hK90 => wsk fun K91 hK91 => wrl (sdo (v := .pointer (some ⟨g2, 0, none⟩)) A (does_field TrV_fld_30_0 rfl rfl) λa A↦?_)))
            refine sdo A (m_load1 M TrV_is1_3 rfl 0 rfl rfl) λa A↦?_
            refine sdo (v := .bool false) A (does_bin rfl rfl (fun w => (bin_eql w).trans (by rw [show ((d.k == 8)) = false from (beq_eq_false_iff_ne.2 (by omega))]))) λa A↦?_
            refine seq_end (hK91 _ _ (wp_cond_false (A.ev rfl) ?_))
            refine wp_skip (hK90 _ _ (wsk fun K92 hK92 => wrl (sdo (v := .pointer (some ⟨g2, 0, none⟩)) A (does_field TrV_fld_30_0 rfl rfl) λa A↦?_)))
            refine sdo A (m_load1 M TrV_is1_3 rfl 0 rfl rfl) λa A↦?_
            refine sdo (v := .bool false) A (does_bin rfl rfl (fun w => (bin_eql w).trans (by rw [show ((d.k == 9)) = false from (beq_eq_false_iff_ne.2 (by omega))]))) λa A↦?_
            refine sdm A λa A↦?_
            refine sdo (v := .pointer (some ⟨g2, 10, none⟩)) A (does_field TrV_fld_30_5 rfl rfl) λa A↦?_
            refine sdo A (m_load1 M TrV_is1_28 rfl 0 rfl rfl) λa A↦?_
            refine sdo A (does_len Tryz.underlying28 rfl) λa A↦?_
            rcases tf ((((ts.length : Nat) : Int) == 0)) with hb93 | hb93
            ·
             have hb93' := eq_of_beq hb93
             refine sdo (v := .bool true) A (does_bin rfl rfl (fun w => (bin_eql w).trans (by rw [hb93]))) λa A↦?_
             refine sdk (v := .bool true) A λa A↦?_
             refine sda A λa A↦?_
             refine seq_end (hK92 _ _ (wp_ret (hret _ _ (en1 A rfl (res_tmp rfl) ?_))))
             subst hr
             exact ⟨by rw [show shapeB d.k d.n d.y.q d.s d.rl.length ts.length = true from by
              rw [shape_same, sh9 ⟨by omega, by omega, hb10⟩ ⟨fun h => absurd h (by omega), fun _ => ⟨hb43, hb46⟩⟩ (.inl hb51') (.inl (by omega)) ⟨fun h => by omega, fun h => hb87, fun h h2 => by omega⟩]
              rw [if_neg (by omega)]
              exact decide_eq_true (by omega)], M.bel⟩
            ·
             have hb93' := ne_of_beq_false hb93
             refine sdo (v := .bool false) A (does_bin rfl rfl (fun w => (bin_eql w).trans (by rw [hb93]))) λa A↦?_
             refine sdk (v := .bool false) A λa A↦?_
             refine sda A λa A↦?_
             refine seq_end (hK92 _ _ (wp_ret (hret _ _ (en1 A rfl (res_tmp rfl) ?_))))
             subst hr
             exact ⟨by rw [show shapeB d.k d.n d.y.q d.s d.rl.length ts.length = false from by
              rw [shape_same, sh9 ⟨by omega, by omega, hb10⟩ ⟨fun h => absurd h (by omega), fun _ => ⟨hb43, hb46⟩⟩ (.inl hb51') (.inl (by omega)) ⟨fun h => by omega, fun h => hb87, fun h h2 => by omega⟩]
              rw [if_neg (by omega)]
              exact decide_eq_false (by omega)], M.bel⟩
           ·
            refine seq_call A rfl rfl rfl (enters_func rfl rfl (fun w => by kernel_rfl)) (risCh_any hb87) ?_
            rintro _ w95 ⟨rfl, hb94⟩
            replace M := M.call hb94
            refine ⟨_, rfl, ?_⟩
            intro a A
            refine sdo (v := .bool true) A (does_un rfl un_not) λa A↦?_
            refine seq_end (hK86 _ _ (wp_cond_true (A.ev rfl) ?_))
            refine wsk fun K96 hK96 => wrl (sda A λa A↦?_)
            refine seq_end (hK96 _ _ (wp_ret (hret _ _ (en1 A rfl (res_tmp rfl) ?_))))
            subst hr
            exact ⟨by rw [show shapeB d.k d.n d.y.q d.s d.rl.length ts.length = false from by rw [shape_same]; exact sh6 ⟨by omega, by omega, hb10⟩ ⟨fun h => absurd h (by omega), fun _ => ⟨hb43, hb46⟩⟩ (.inl hb51') (.inl (by omega)) (.inr (.inl ⟨by omega, hb87⟩))], M.bel⟩
          ·
           have hb85' := ne_of_beq_false hb85
           refine sdo (v := .bool false) A (does_bin rfl rfl (fun w => (bin_eql w).trans (by rw [hb85]))) λa A↦?_
           refine sda A λa A↦?_
           refine seq_end (hK84 _ _ (wp_cond_false (A.ev rfl) ?_))
           refine wsk fun K97 hK97 => wrl (sdo (v := .pointer (some ⟨g2, 1, none⟩)) A (does_field TrV_fld_30_1 rfl rfl) λa A↦?_)
           refine sdo A (m_load1 M TrV_is1_3 rfl 0 rfl rfl) λa A↦?_
           rcases tf ((d.n != 0)) with hb98 | hb98
           ·
            have hb98' := bne_iff_ne.1 hb98
            refine sdo (v := .bool true) A (does_bin rfl rfl (fun w => (bin_neq w).trans (by rw [hb98]))) λa A↦?_
            refine seq_end (hK97 _ _ (wp_cond_true (A.ev rfl) ?_))
            refine wsk fun K99 hK99 => wrl (sda A λa A↦?_)
            refine seq_end (hK99 _ _ (wp_ret (hret _ _ (en1 A rfl (res_tmp rfl) ?_))))
            subst hr
            exact ⟨by rw [show shapeB d.k d.n d.y.q d.s d.rl.length ts.length = false from by rw [shape_same]; exact sh6 ⟨by omega, by omega, hb10⟩ ⟨fun h => absurd h (by omega), fun _ => ⟨hb43, hb46⟩⟩ (.inl hb51') (.inl (by omega)) (.inr (.inr ⟨by omega, by omega, by omega⟩))], M.bel⟩
           ·
            have hb98' := bne_eq_false_iff_eq.1 hb98
            refine sdo (v := .bool false) A (does_bin rfl rfl (fun w => (bin_neq w).trans (by rw [hb98]))) λa A↦?_
            refine seq_end (hK97 _ _ (wp_cond_false (A.ev rfl) ?_))
            refine wp_skip (hK68 _ _ (wsk fun K100 hK100 => wsk fun K101 hK101 => wrl (sdo (v := .pointer (some ⟨g2, 0, none⟩)) A (does_field TrV_fld_30_0 rfl rfl) λa A↦?_)))
            refine sdo A (m_load1 M TrV_is1_3 rfl 0 rfl rfl) λa A↦?_
            rcases tf ((d.k == 8)) with hb102 | hb102
            ·
             have hb102' := eq_of_beq hb102
             refine sdo (v := .bool true) A (does_bin rfl rfl (fun w => (bin_eql w).trans (by rw [hb102]))) λa A↦?_
             refine seq_end (hK101 _ _ (wp_cond_true (A.ev rfl) ?_))
             refine wsk fun K103 hK103 => wrl (sdo (v := .pointer (some ⟨g2, 10, none⟩)) A (does_field TrV_fld_30_5 rfl rfl) λa A↦?_)
             refine sdo A (m_load1 M TrV_is1_28 rfl 0 rfl rfl) λa A↦?_
             refine sdo A (does_len Tryz.underlying28 rfl) λa A↦?_
             rcases tf ((((ts.length : Nat) : Int) == 2)) with hb104 | hb104
             ·
              have hb104' := eq_of_beq hb104
              refine sdo (v := .bool true) A (does_bin rfl rfl (fun w => (bin_eql w).trans (by rw [hb104]))) λa A↦?_
              refine sda A λa A↦?_
              refine seq_end (hK103 _ _ (wp_ret (hret _ _ (en1 A rfl (res_tmp rfl) ?_))))
              subst hr
              exact ⟨by rw [show shapeB d.k d.n d.y.q d.s d.rl.length ts.length = true from by
               rw [shape_same, sh9 ⟨by omega, by omega, hb10⟩ ⟨fun h => absurd h (by omega), fun _ => ⟨hb43, hb46⟩⟩ (.inl hb51') (.inl (by omega)) ⟨fun h => by omega, fun h => absurd h (by omega), fun h h2 => by omega⟩]
               rw [if_pos (by omega)]
               exact decide_eq_true (by omega)], M.bel⟩
             ·
              have hb104' := ne_of_beq_false hb104
              refine sdo (v := .bool false) A (does_bin rfl rfl (fun w => (bin_eql w).trans (by rw [hb104]))) λa A↦?_
              refine sda A λa A↦?_
              refine seq_end (hK103 _ _ (wp_ret (hret _ _ (en1 A rfl (res_tmp rfl) ?_))))
              subst hr
              exact ⟨by rw [show shapeB d.k d.n d.y.q d.s d.rl.length ts.length = false from by
               rw [shape_same, sh9 ⟨by omega, by omega, hb10⟩ ⟨fun h => absurd h (by omega), fun _ => ⟨hb43, hb46⟩⟩ (.inl hb51') (.inl (by omega)) ⟨fun h => by omega, fun h => absurd h (by omega), fun h h2 => by omega⟩]
               rw [if_pos (by omega)]
               exact decide_eq_false (by omega)], M.bel⟩
            ·
             have hb102' := ne_of_beq_false hb102
             refine sdo (v := .bool false) A (does_bin rfl rfl (fun w => (bin_eql w).trans (by rw [hb102]))) λa A↦?_
             refine seq_end (hK101 _ _ (wp_cond_false (A.ev rfl) ?_))
             refine wp_skip (hK100 _ _ (wsk fun K105 hK105 => wrl (sdo (v := .pointer (some ⟨g2, 0, none⟩)) A (does_field TrV_fld_30_0 rfl rfl) λa A↦?_)))
             refine sdo A (m_load1 M TrV_is1_3 rfl 0 rfl rfl) λa A↦?_
             rcases tf ((d.k == 9)) with hb106 | hb106
             ·
              have hb106' := eq_of_beq hb106
              refine sdo (v := .bool true) A (does_bin rfl rfl (fun w => (bin_eql w).trans (by rw [hb106]))) λa A↦?_
              refine sdm A λa A↦?_
              iterate 4 refine seq_skip A rfl rfl rfl λa A↦?_
              refine sdk (v := .bool true) A λa A↦?_
              refine sda A λa A↦?_
              refine seq_end (hK105 _ _ (wp_ret (hret _ _ (en1 A rfl (res_tmp rfl) ?_))))
              subst hr
              exact ⟨by rw [show shapeB d.k d.n d.y.q d.s d.rl.length ts.length = true from by
               rw [shape_same, sh9 ⟨by omega, by omega, hb10⟩ ⟨fun h => absurd h (by omega), fun _ => ⟨hb43, hb46⟩⟩ (.inl hb51') (.inl (by omega)) ⟨fun h => by omega, fun h => absurd h (by omega), fun h h2 => by omega⟩]
               rw [if_neg (by omega)]
               exact decide_eq_true (by omega)], M.bel⟩
             ·
              have hb106' := ne_of_beq_false hb106
              refine sdo (v := .bool false) A (does_bin rfl rfl (fun w => (bin_eql w).trans (by rw [hb106]))) λa A↦?_
              refine sdm A λa A↦?_
              refine sdo (v := .pointer (some ⟨g2, 10, none⟩)) A (does_field TrV_fld_30_5 rfl rfl) λa A↦?_
              refine sdo A (m_load1 M TrV_is1_28 rfl 0 rfl rfl) λa A↦?_
              refine sdo A (does_len Tryz.underlying28 rfl) λa A↦?_
              rcases tf ((((ts.length : Nat) : Int) == 0)) with hb107 | hb107
              ·
               have hb107' := eq_of_beq hb107
               refine sdo (v := .bool true) A (does_bin rfl rfl (fun w => (bin_eql w).trans (by rw [hb107]))) λa A↦?_
               refine sdk (v := .bool true) A λa A↦?_
               refine sda A λa A↦?_
               refine seq_end (hK105 _ _ (wp_ret (hret _ _ (en1 A rfl (res_tmp rfl) ?_))))
               subst hr
               exact ⟨by rw [show shapeB d.k d.n d.y.q d.s d.rl.length ts.length = true from by
                rw [shape_same, sh9 ⟨by omega, by omega, hb10⟩ ⟨fun h => absurd h (by omega), fun _ => ⟨hb43, hb46⟩⟩ (.inl hb51') (.inl (by omega)) ⟨fun h => by omega, fun h => absurd h (by omega), fun h h2 => by omega⟩]
                rw [if_neg (by omega)]
                exact decide_eq_true (by omega)], M.bel⟩
              ·
               have hb107' := ne_of_beq_false hb107
               refine sdo (v := .bool false) A (does_bin rfl rfl (fun w => (bin_eql w).trans (by rw [hb107]))) λa A↦?_
               refine sdk (v := .bool false) A λa A↦?_
               refine sda A λa A↦?_
               refine seq_end (hK105 _ _ (wp_ret (hret _ _ (en1 A rfl (res_tmp rfl) ?_))))
               subst hr
               exact ⟨by rw [show shapeB d.k d.n d.y.q d.s d.rl.length ts.length = false from by
                rw [shape_same, sh9 ⟨by omega, by omega, hb10⟩ ⟨fun h => absurd h (by omega), fun _ => ⟨hb43, hb46⟩⟩ (.inl hb51') (.inl (by omega)) ⟨fun h => by omega, fun h => absurd h (by omega), fun h h2 => by omega⟩]
                rw [if_neg (by omega)]
                exact decide_eq_false (by omega)], M.bel⟩
       ·
        have hb51' := of_decide_eq_false hb51
        refine sdo (v := .bool true) A (does_bin rfl rfl (fun w => (bin_neqS Tryz.underlying9 w).trans (by rw [hb51] <;> rfl))) λa A↦?_
        refine sdm A λa A↦?_
        refine sdo (v := .pointer (some ⟨g2, 0, none⟩)) A (does_field TrV_fld_30_0 rfl rfl) λa A↦?_
        refine sdo A (m_load1 M TrV_is1_3 rfl 0 rfl rfl) λa A↦?_
        rcases tf ((d.k != 5)) with hb108 | hb108
        ·
         have hb108' := bne_iff_ne.1 hb108
         refine sdo (v := .bool true) A (does_bin rfl rfl (fun w => (bin_neq w).trans (by rw [hb108]))) λa A↦?_
         refine sdk (v := .bool true) A λa A↦?_
         refine sdm A λa A↦?_
         refine sdo (v := .pointer (some ⟨g2, 0, none⟩)) A (does_field TrV_fld_30_0 rfl rfl) λa A↦?_
         refine sdo A (m_load1 M TrV_is1_3 rfl 0 rfl rfl) λa A↦?_
         rcases tf ((d.k != 6)) with hb109 | hb109
         ·
          have hb109' := bne_iff_ne.1 hb109
          refine sdo (v := .bool true) A (does_bin rfl rfl (fun w => (bin_neq w).trans (by rw [hb109]))) λa A↦?_
          refine sdk (v := .bool true) A λa A↦?_
          refine sdm A λa A↦?_
          refine sdo (v := .pointer (some ⟨g2, 0, none⟩)) A (does_field TrV_fld_30_0 rfl rfl) λa A↦?_
          refine sdo A (m_load1 M TrV_is1_3 rfl 0 rfl rfl) λa A↦?_
          rcases tf ((d.k != 11)) with hb110 | hb110
          ·
           have hb110' := bne_iff_ne.1 hb110
           refine sdo (v := .bool true) A (does_bin rfl rfl (fun w => (bin_neq w).trans (by rw [hb110]))) λa A↦?_
           refine sdk (v := .bool true) A λa A↦?_
           refine seq_end (hK50 _ _ (wp_cond_true (A.ev rfl) ?_))
           refine wsk fun K111 hK111 => wrl (sda A λa A↦?_)
           refine seq_end (hK111 _ _ (wp_ret (hret _ _ (en1 A rfl (res_tmp rfl) ?_))))
           subst hr
           exact ⟨by rw [show shapeB d.k d.n d.y.q d.s d.rl.length ts.length = false from by rw [shape_same]; exact sh4 ⟨by omega, by omega, hb10⟩ ⟨fun h => absurd h (by omega), fun _ => ⟨hb43, hb46⟩⟩ ⟨hb51', by omega, by omega, by omega⟩], M.bel⟩
          ·
           have hb110' := bne_eq_false_iff_eq.1 hb110
           refine sdo (v := .bool false) A (does_bin rfl rfl (fun w => (bin_neq w).trans (by rw [hb110]))) λa A↦?_
           refine sdk (v := .bool false) A λa A↦?_
           refine seq_end (hK50 _ _ (wp_cond_false (A.ev rfl) ?_))
           refine wp_skip (hK49 _ _ (wsk fun K112 hK112 => wsk fun K113 hK113 => wrl (sdo (v := .pointer (some ⟨g2, 9, none⟩)) A (does_field TrV_fld_30_4 rfl rfl) λa A↦?_)))
           refine sdo A (m_load1 M TrV_is1_27 rfl 0 rfl rfl) λa A↦?_
           refine sdo A (does_len Tryz.underlying27 rfl) λa A↦?_
           rcases tf (decide (0 < ((d.rl.length : Nat) : Int))) with hb114 | hb114
           ·
            have hb114' := of_decide_eq_true hb114
            refine sdo (v := .bool true) A (does_bin rfl rfl (fun w => (bin_gtr w).trans (by rw [hb114]))) λa A↦?_
            refine sdm A λa A↦?_
            refine sdo (v := .pointer (some ⟨g2, 0, none⟩)) A (does_field TrV_fld_30_0 rfl rfl) λa A↦?_
            refine sdo A (m_load1 M TrV_is1_3 rfl 0 rfl rfl) λa A↦?_
            refine sdo (v := .bool true) A (does_bin rfl rfl (fun w => (bin_neq w).trans (by rw [show ((d.k != 7)) = true from (bne_iff_ne.2 (by omega))]))) λa A↦?_
            refine sdk (v := .bool true) A λa A↦?_
            refine seq_end (hK113 _ _ (wp_cond_true (A.ev rfl) ?_))
            refine wsk fun K115 hK115 => wrl (sda A λa A↦?_)
            refine seq_end (hK115 _ _ (wp_ret (hret _ _ (en1 A rfl (res_tmp rfl) ?_))))
            subst hr
            exact ⟨by rw [show shapeB d.k d.n d.y.q d.s d.rl.length ts.length = false from by rw [shape_same]; exact sh5 ⟨by omega, by omega, hb10⟩ ⟨fun h => absurd h (by omega), fun _ => ⟨hb43, hb46⟩⟩ (.inr (by omega)) ⟨by omega, by omega⟩], M.bel⟩
           ·
            have hb114' := of_decide_eq_false hb114
            refine sdo (v := .bool false) A (does_bin rfl rfl (fun w => (bin_gtr w).trans (by rw [hb114]))) λa A↦?_
            refine sdm A λa A↦?_
            iterate 3 refine seq_skip A rfl rfl rfl λa A↦?_
            refine sdk (v := .bool false) A λa A↦?_
            refine seq_end (hK113 _ _ (wp_cond_false (A.ev rfl) ?_))
            refine wp_skip (hK112 _ _ (wsk fun K116 hK116 => wsk fun K117 hK117 => wrl (sdo (v := .pointer (some ⟨g2, 0, none⟩)) A (does_field TrV_fld_30_0 rfl rfl) λa A↦?_)))
            refine sdo A (m_load1 M TrV_is1_3 rfl 0 rfl rfl) λa A↦?_
            refine seq_end (hK117 _ _ (wp_block (wsk fun K118 hK118 => wrl (sdo (v := .bool false) A (does_bin rfl rfl (fun w => (bin_eql w).trans (by rw [show ((d.k == 2)) = false from (beq_eq_false_iff_ne.2 (by omega))]))) λa A↦?_))))
            refine sda A λa A↦?_
            refine seq_end (hK118 _ _ (wp_cond_false (A.ev rfl) ?_))
            refine wsk fun K119 hK119 => wrl (sdo (v := .bool false) A (does_bin rfl rfl (fun w => (bin_eql w).trans (by rw [show ((d.k == 4)) = false from (beq_eq_false_iff_ne.2 (by omega))]))) λa A↦?_)
            refine sda A λa A↦?_
            refine seq_end (hK119 _ _ (wp_cond_false (A.ev rfl) ?_))
            refine wsk fun K120 hK120 => wrl (sdo (v := .pointer (some ⟨g2, 1, none⟩)) A (does_field TrV_fld_30_1 rfl rfl) λa A↦?_)
            refine sdo A (m_load1 M TrV_is1_3 rfl 0 rfl rfl) λa A↦?_
            rcases tf ((d.n != 0)) with hb121 | hb121
            ·
             have hb121' := bne_iff_ne.1 hb121
             refine sdo (v := .bool true) A (does_bin rfl rfl (fun w => (bin_neq w).trans (by rw [hb121]))) λa A↦?_
             refine seq_end (hK120 _ _ (wp_cond_true (A.ev rfl) ?_))
             refine wsk fun K122 hK122 => wrl (sda A λa A↦?_)
             refine seq_end (hK122 _ _ (wp_ret (hret _ _ (en1 A rfl (res_tmp rfl) ?_))))
             subst hr
             exact ⟨by rw [show shapeB d.k d.n d.y.q d.s d.rl.length ts.length = false from by rw [shape_same]; exact sh6 ⟨by omega, by omega, hb10⟩ ⟨fun h => absurd h (by omega), fun _ => ⟨hb43, hb46⟩⟩ (.inr (by omega)) (.inl (by omega)) (.inr (.inr ⟨by omega, by omega, by omega⟩))], M.bel⟩
            ·
             have hb121' := bne_eq_false_iff_eq.1 hb121
             refine sdo (v := .bool false) A (does_bin rfl rfl (fun w => (bin_neq w).trans (by rw [hb121]))) λa A↦?_
             refine seq_end (hK120 _ _ (wp_cond_false (A.ev rfl) ?_))
             refine wp_skip (hK116 _ _ (wsk fun K123 hK123 => wsk fun K124 hK124 => wrl (sdo (v := .pointer (some ⟨g2, 0, none⟩)) A (does_field TrV_fld_30_0 rfl rfl) λa A↦?_)))
             refine sdo A (m_load1 M TrV_is1_3 rfl 0 rfl rfl) λa A↦?_
             refine sdo (v := .bool false) A (does_bin rfl rfl (fun w => (bin_eql w).trans (by rw [show ((d.k == 8)) = false from (beq_eq_false_iff_ne.2 (by omega))]))) λa A↦?_
             refine seq_end (hK124 _ _ (wp_cond_false (A.ev rfl) ?_))
             refine wp_skip (hK123 _ _ (wsk fun K125 hK125 => wrl (sdo (v := .pointer (some ⟨g2, 0, none⟩)) A (does_field TrV_fld_30_0 rfl rfl) λa A↦?_)))
             refine sdo A (m_load1 M TrV_is1_3 rfl 0 rfl rfl) λa A↦?_
             refine sdo (v := .bool false) A (does_bin rfl rfl (fun w => (bin_eql w).trans (by rw [show ((d.k == 9)) = false from (beq_eq_false_iff_ne.2 (by omega))]))) λa A↦?_
             refine sdm A λa A↦?_
             refine sdo (v := .pointer (some ⟨g2, 10, none⟩)) A (does_field TrV_fld_30_5 rfl rfl) λa A↦?_
             refine sdo A (m_load1 M TrV_is1_28 rfl 0 rfl rfl) λa A↦?_
             refine sdo A (does_len Tryz.underlying28 rfl) λa A↦?_
             rcases tf ((((ts.length : Nat) : Int) == 0)) with hb126 | hb126
             ·
              have hb126' := eq_of_beq hb126
              refine sdo (v := .bool true) A (does_bin rfl rfl (fun w => (bin_eql w).trans (by rw [hb126]))) λa A↦?_
              refine sdk (v := .bool true) A λa A↦?_
              refine sda A λa A↦?_
              refine seq_end (hK125 _ _ (wp_ret (hret _ _ (en1 A rfl (res_tmp rfl) ?_))))
              subst hr
              exact ⟨by rw [show shapeB d.k d.n d.y.q d.s d.rl.length ts.length = true from by
               rw [shape_same, sh9 ⟨by omega, by omega, hb10⟩ ⟨fun h => absurd h (by omega), fun _ => ⟨hb43, hb46⟩⟩ (.inr (by omega)) (.inl (by omega)) ⟨fun h => by omega, fun h => absurd h (by omega), fun h h2 => by omega⟩]
               rw [if_neg (by omega)]
               exact decide_eq_true (by omega)], M.bel⟩
             ·
              have hb126' := ne_of_beq_false hb126
              refine sdo (v := .bool false) A (does_bin rfl rfl (fun w => (bin_eql w).trans (by rw [hb126]))) λa A↦?_
              refine sdk (v := .bool false) A λa A↦?_
              refine sda A λa A↦?_
              refine seq_end (hK125 _ _ (wp_ret (hret _ _ (en1 A rfl (res_tmp rfl) ?_))))
              subst hr
              exact ⟨by rw [show shapeB d.k d.n d.y.q d.s d.rl.length ts.length = false from by
               rw [shape_same, sh9 ⟨by omega, by omega, hb10⟩ ⟨fun h => absurd h (by omega), fun _ => ⟨hb43, hb46⟩⟩ (.inr (by omega)) (.inl (by omega)) ⟨fun h => by omega, fun h => absurd h (by omega), fun h h2 => by omega⟩]
               rw [if_neg (by omega)]
               exact decide_eq_false (by omega)], M.bel⟩
         ·
          have hb109' := bne_eq_false_iff_eq.1 hb109
          refine sdo (v := .bool false) A (does_bin rfl rfl (fun w => (bin_neq w).trans (by rw [hb109]))) λa A↦?_
          refine sdk (v := .bool false) A λa A↦?_
          refine sdm A λa A↦?_
          iterate 3 refine seq_skip A rfl rfl rfl λa A↦?_
          refine sdk (v := .bool false) A λa A↦?_
          refine seq_end (hK50 _ _ (wp_cond_false (A.ev rfl) ?_))
          refine wp_skip (hK49 _ _ (wsk fun K127 hK127 => wsk fun K128 hK128 => wrl (sdo (v := .pointer (some ⟨g2, 9, none⟩)) A (does_field TrV_fld_30_4 rfl rfl) λa A↦?_)))
          refine sdo A (m_load1 M TrV_is1_27 rfl 0 rfl rfl) λa A↦?_
          refine sdo A (does_len Tryz.underlying27 rfl) λa A↦?_
          rcases tf (decide (0 < ((d.rl.length : Nat) : Int))) with hb129 | hb129
          ·
           have hb129' := of_decide_eq_true hb129
           refine sdo (v := .bool true) A (does_bin rfl rfl (fun w => (bin_gtr w).trans (by rw [hb129]))) λa A↦?_
           refine sdm A λa A↦?_
           refine sdo (v := .pointer (some ⟨g2, 0, none⟩)) A (does_field TrV_fld_30_0 rfl rfl) λa A↦?_
           refine sdo A (m_load1 M TrV_is1_3 rfl 0 rfl rfl) λa A↦?_
           refine sdo (v := .bool true) A (does_bin rfl rfl (fun w => (bin_neq w).trans (by rw [show ((d.k != 7)) = true from (bne_iff_ne.2 (by omega))]))) λa A↦?_
           refine sdk (v := .bool true) A λa A↦?_
           refine seq_end (hK128 _ _ (wp_cond_true (A.ev rfl) ?_))
           refine wsk fun K130 hK130 => wrl (sda A λa A↦?_)
           refine seq_end (hK130 _ _ (wp_ret (hret _ _ (en1 A rfl (res_tmp rfl) ?_))))
           subst hr
           exact ⟨by rw [show shapeB d.k d.n d.y.q d.s d.rl.length ts.length = false from by rw [shape_same]; exact sh5 ⟨by omega, by omega, hb10⟩ ⟨fun h => absurd h (by omega), fun _ => ⟨hb43, hb46⟩⟩ (.inr (by omega)) ⟨by omega, by omega⟩], M.bel⟩
          ·
           have hb129' := of_decide_eq_false hb129
           refine sdo (v := .bool false) A (does_bin rfl rfl (fun w => (bin_gtr w).trans (by rw [hb129]))) λa A↦?_
           refine sdm A λa A↦?_
           iterate 3 refine seq_skip A rfl rfl rfl λa A↦?_
           refine sdk (v := .bool false) A λa A↦?_
           refine seq_end (hK128 _ _ (wp_cond_false (A.ev rfl) ?_))
           refine wp_skip (hK127 _ _ (wsk fun K131 hK131 => wsk fun K132 hK132 => wrl (sdo (v := .pointer (some ⟨g2, 0, none⟩)) A (does_field TrV_fld_30_0 rfl rfl) λa A↦?_)))
           refine sdo A (m_load1 M TrV_is1_3 rfl 0 rfl rfl) λa A↦?_
           refine seq_end (hK132 _ _ (wp_block (wsk fun K133 hK133 => wrl (sdo (v := .bool false) A (does_bin rfl rfl (fun w => (bin_eql w).trans (by rw [show ((d.k == 2)) = false from (beq_eq_false_iff_ne.2 (by omega))]))) λa A↦?_))))
           refine sda A λa A↦?_
           refine seq_end (hK133 _ _ (wp_cond_false (A.ev rfl) ?_))
           refine wsk fun K134 hK134 => wrl (sdo (v := .bool false) A (does_bin rfl rfl (fun w => (bin_eql w).trans (by rw [show ((d.k == 4)) = false from (beq_eq_false_iff_ne.2 (by omega))]))) λa A↦?_)
           refine sda A λa A↦?_
           refine seq_end (hK134 _ _ (wp_cond_false (A.ev rfl) ?_))
           refine wsk fun K135 hK135 => wrl (sdo (v := .pointer (some ⟨g2, 1, none⟩)) A (does_field TrV_fld_30_1 rfl rfl) λa A↦?_)
           refine sdo A (m_load1 M TrV_is1_3 rfl 0 rfl rfl) λa A↦?_
           rcases tf ((d.n != 0)) with hb136 | hb136
           ·
            have hb136' := bne_iff_ne.1 hb136
            refine sdo (v := .bool true) A (does_bin rfl rfl (fun w => (bin_neq w).trans (by rw [hb136]))) λa A↦?_
            refine seq_end (hK135 _ _ (wp_cond_true (A.ev rfl) ?_))
            refine wsk fun K137 hK137 => wrl (sda A λa A↦?_)
            refine seq_end (hK137 _ _ (wp_ret (hret _ _ (en1 A rfl (res_tmp rfl) ?_))))
            subst hr
            exact ⟨by rw [show shapeB d.k d.n d.y.q d.s d.rl.length ts.length = false from by rw [shape_same]; exact sh6 ⟨by omega, by omega, hb10⟩ ⟨fun h => absurd h (by omega), fun _ => ⟨hb43, hb46⟩⟩ (.inr (by omega)) (.inl (by omega)) (.inr (.inr ⟨by omega, by omega, by omega⟩))], M.bel⟩
           ·
            have hb136' := bne_eq_false_iff_eq.1 hb136
            refine sdo (v := .bool false) A (does_bin rfl rfl (fun w => (bin_neq w).trans (by rw [hb136]))) λa A↦?_
            refine seq_end (hK135 _ _ (wp_cond_false (A.ev rfl) ?_))
            refine wp_skip (hK131 _ _ (wsk fun K138 hK138 => wsk fun K139 hK139 => wrl (sdo (v := .pointer (some ⟨g2, 0, none⟩)) A (does_field TrV_fld_30_0 rfl rfl) λa A↦?_)))
            refine sdo A (m_load1 M TrV_is1_3 rfl 0 rfl rfl) λa A↦?_
            refine sdo (v := .bool false) A (does_bin rfl rfl (fun w => (bin_eql w).trans (by rw [show ((d.k == 8)) = false from (beq_eq_false_iff_ne.2 (by omega))]))) λa A↦?_
            refine seq_end (hK139 _ _ (wp_cond_false (A.ev rfl) ?_))
            refine wp_skip (hK138 _ _ (wsk fun K140 hK140 => wrl (sdo (v := .pointer (some ⟨g2, 0, none⟩)) A (does_field TrV_fld_30_0 rfl rfl) λa A↦?_)))
            refine sdo A (m_load1 M TrV_is1_3 rfl 0 rfl rfl) λa A↦?_
            refine sdo (v := .bool false) A (does_bin rfl rfl (fun w => (bin_eql w).trans (by rw [show ((d.k == 9)) = false from (beq_eq_false_iff_ne.2 (by omega))]))) λa A↦?_
            refine sdm A λa A↦?_
            refine sdo (v := .pointer (some ⟨g2, 10, none⟩)) A (does_field TrV_fld_30_5 rfl rfl) λa A↦?_
            refine sdo A (m_load1 M TrV_is1_28 rfl 0 rfl rfl) λa A↦?_
            refine sdo A (does_len Tryz.underlying28 rfl) λa A↦?_
            rcases tf ((((ts.length : Nat) : Int) == 0)) with hb141 | hb141
            ·
             have hb141' := eq_of_beq hb141
             refine sdo (v := .bool true) A (does_bin rfl rfl (fun w => (bin_eql w).trans (by rw [hb141]))) λa A↦?_
             refine sdk (v := .bool true) A λa A↦?_
             refine sda A λa A↦?_
             refine seq_end (hK140 _ _ (wp_ret (hret _ _ (en1 A rfl (res_tmp rfl) ?_))))
             subst hr
             exact ⟨by rw [show shapeB d.k d.n d.y.q d.s d.rl.length ts.length = true from by
              rw [shape_same, sh9 ⟨by omega, by omega, hb10⟩ ⟨fun h => absurd h (by omega), fun _ => ⟨hb43, hb46⟩⟩ (.inr (by omega)) (.inl (by omega)) ⟨fun h => by omega, fun h => absurd h (by omega), fun h h2 => by omega⟩]
              rw [if_neg (by omega)]
              exact decide_eq_true (by omega)], M.bel⟩
            ·
             have hb141' := ne_of_beq_false hb141
             refine sdo (v := .bool false) A (does_bin rfl rfl (fun w => (bin_eql w).trans (by rw [hb141]))) λa A↦?_
             refine sdk (v := .bool false) A λa A↦?_
             refine sda A λa A↦?_
             refine seq_end (hK140 _ _ (wp_ret (hret _ _ (en1 A rfl (res_tmp rfl) ?_))))
             subst hr
             exact ⟨by rw [show shapeB d.k d.n d.y.q d.s d.rl.length ts.length = false from by
              rw [shape_same, sh9 ⟨by omega, by omega, hb10⟩ ⟨fun h => absurd h (by omega), fun _ => ⟨hb43, hb46⟩⟩ (.inr (by omega)) (.inl (by omega)) ⟨fun h => by omega, fun h => absurd h (by omega), fun h h2 => by omega⟩]
              rw [if_neg (by omega)]
              exact decide_eq_false (by omega)], M.bel⟩
        ·
         have hb108' := bne_eq_false_iff_eq.1 hb108
         refine sdo (v := .bool false) A (does_bin rfl rfl (fun w => (bin_neq w).trans (by rw [hb108]))) λa A↦?_
         refine sdk (v := .bool false) A λa A↦?_
         refine sdm A λa A↦?_
         iterate 3 refine seq_skip A rfl rfl rfl λa A↦?_
         refine sdk (v := .bool false) A λa A↦?_
         refine sdm A λa A↦?_
         iterate 3 refine seq_skip A rfl rfl rfl λa A↦?_
         refine sdk (v := .bool false) A λa A↦?_
         refine seq_end (hK50 _ _ (wp_cond_false (A.ev rfl) ?_))
         refine wp_skip (hK49 _ _ (wsk fun K142 hK142 => wsk fun K143 hK143 => wrl (sdo (v := .pointer (some ⟨g2, 9, none⟩)) A (does_field TrV_fld_30_4 rfl rfl) λa A↦?_)))
         refine sdo A (m_load1 M TrV_is1_27 rfl 0 rfl rfl) λa A↦?_
         refine sdo A (does_len Tryz.underlying27 rfl) λa A↦?_
         rcases tf (decide (0 < ((d.rl.length : Nat) : Int))) with hb144 | hb144
         ·
          have hb144' := of_decide_eq_true hb144
          refine sdo (v := .bool true) A (does_bin rfl rfl (fun w => (bin_gtr w).trans (by rw [hb144]))) λa A↦?_
          refine sdm A λa A↦?_
          refine sdo (v := .pointer (some ⟨g2, 0, none⟩)) A (does_field TrV_fld_30_0 rfl rfl) λa A↦?_
          refine sdo A (m_load1 M TrV_is1_3 rfl 0 rfl rfl) λa A↦?_
          refine sdo (v := .bool true) A (does_bin rfl rfl (fun w => (bin_neq w).trans (by rw [show ((d.k != 7)) = true from (bne_iff_ne.2 (by omega))]))) λa A↦?_
          refine sdk (v := .bool true) A λa A↦?_
          refine seq_end (hK143 _ _ (wp_cond_true (A.ev rfl) ?_))
          refine wsk fun K145 hK145 => wrl (sda A λa A↦?_)
          refine seq_end (hK145 _ _ (wp_ret (hret _ _ (en1 A rfl (res_tmp rfl) ?_))))
          subst hr
          exact ⟨by rw [show shapeB d.k d.n d.y.q d.s d.rl.length ts.length = false from by rw [shape_same]; exact sh5 ⟨by omega, by omega, hb10⟩ ⟨fun h => absurd h (by omega), fun _ => ⟨hb43, hb46⟩⟩ (.inr (by omega)) ⟨by omega, by omega⟩], M.bel⟩
         ·
          have hb144' := of_decide_eq_false hb144
          refine sdo (v := .bool false) A (does_bin rfl rfl (fun w => (bin_gtr w).trans (by rw [hb144]))) λa A↦?_
          refine sdm A λa A↦?_
          iterate 3 refine seq_skip A rfl rfl rfl λa A↦?_
          refine sdk (v := .bool false) A λa A↦?_
          refine seq_end (hK143 _ _ (wp_cond_false (A.ev rfl) ?_))
          refine wp_skip (hK142 _ _ (wsk fun K146 hK146 => wsk fun K147 hK147 => wrl (sdo (v := .pointer (some ⟨g2, 0, none⟩)) A (does_field TrV_fld_30_0 rfl rfl) λa A↦?_)))
          refine sdo A (m_load1 M TrV_is1_3 rfl 0 rfl rfl) λa A↦?_
          refine seq_end (hK147 _ _ (wp_block (wsk fun K148 hK148 => wrl (sdo (v := .bool false) A (does_bin rfl rfl (fun w => (bin_eql w).trans (by rw [show ((d.k == 2)) = false from (beq_eq_false_iff_ne.2 (by omega))]))) λa A↦?_))))
          refine sda A λa A↦?_
          refine seq_end (hK148 _ _ (wp_cond_false (A.ev rfl) ?_))
          refine wsk fun K149 hK149 => wrl (sdo (v := .bool false) A (does_bin rfl rfl (fun w => (bin_eql w).trans (by rw [show ((d.k == 4)) = false from (beq_eq_false_iff_ne.2 (by omega))]))) λa A↦?_)
          refine sda A λa A↦?_
          refine seq_end (hK149 _ _ (wp_cond_false (A.ev rfl) ?_))
          refine wsk fun K150 hK150 => wrl (sdo (v := .pointer (some ⟨g2, 1, none⟩)) A (does_field TrV_fld_30_1 rfl rfl) λa A↦?_)
          refine sdo A (m_load1 M TrV_is1_3 rfl 0 rfl rfl) λa A↦?_
          rcases tf ((d.n != 0)) with hb151 | hb151
          ·
           have hb151' := bne_iff_ne.1 hb151
           refine sdo (v := .bool true) A (does_bin rfl rfl (fun w => (bin_neq w).trans (by rw [hb151]))) λa A↦?_
           refine seq_end (hK150 _ _ (wp_cond_true (A.ev rfl) ?_))
           refine wsk fun K152 hK152 => wrl (sda A λa A↦?_)
           refine seq_end (hK152 _ _ (wp_ret (hret _ _ (en1 A rfl (res_tmp rfl) ?_))))
           subst hr
           exact ⟨by rw [show shapeB d.k d.n d.y.q d.s d.rl.length ts.length = false from by rw [shape_same]; exact sh6 ⟨by omega, by omega, hb10⟩ ⟨fun h => absurd h (by omega), fun _ => ⟨hb43, hb46⟩⟩ (.inr (by omega)) (.inl (by omega)) (.inr (.inr ⟨by omega, by omega, by omega⟩))], M.bel⟩
          ·
           have hb151' := bne_eq_false_iff_eq.1 hb151
           refine sdo (v := .bool false) A (does_bin rfl rfl (fun w => (bin_neq w).trans (by rw [hb151]))) λa A↦?_
           refine seq_end (hK150 _ _ (wp_cond_false (A.ev rfl) ?_))
           refine wp_skip (hK146 _ _ (wsk fun K153 hK153 => wsk fun K154 hK154 => wrl (sdo (v := .pointer (some ⟨g2, 0, none⟩)) A (does_field TrV_fld_30_0 rfl rfl) λa A↦?_)))
           refine sdo A (m_load1 M TrV_is1_3 rfl 0 rfl rfl) λa A↦?_
           refine sdo (v := .bool false) A (does_bin rfl rfl (fun w => (bin_eql w).trans (by rw [show ((d.k == 8)) = false from (beq_eq_false_iff_ne.2 (by omega))]))) λa A↦?_
           refine seq_end (hK154 _ _ (wp_cond_false (A.ev rfl) ?_))
           refine wp_skip (hK153 _ _ (wsk fun K155 hK155 => wrl (sdo (v := .pointer (some ⟨g2, 0, none⟩)) A (does_field TrV_fld_30_0 rfl rfl) λa A↦?_)))
           refine sdo A (m_load1 M TrV_is1_3 rfl 0 rfl rfl) λa A↦?_
           refine sdo (v := .bool false) A (does_bin rfl rfl (fun w => (bin_eql w).trans (by rw [show ((d.k == 9)) = false from (beq_eq_false_iff_ne.2 (by omega))]))) λa A↦?_
           refine sdm A λa A↦?_
           refine sdo (v := .pointer (some ⟨g2, 10, none⟩)) A (does_field TrV_fld_30_5 rfl rfl) λa A↦?_
           refine sdo A (m_load1 M TrV_is1_28 rfl 0 rfl rfl) λa A↦?_
           refine sdo A (does_len Tryz.underlying28 rfl) λa A↦?_
           rcases tf ((((ts.length : Nat) : Int) == 0)) with hb156 | hb156
           ·
            have hb156' := eq_of_beq hb156
            refine sdo (v := .bool true) A (does_bin rfl rfl (fun w => (bin_eql w).trans (by rw [hb156]))) λa A↦?_
            refine sdk (v := .bool true) A λa A↦?_
            refine sda A λa A↦?_
            refine seq_end (hK155 _ _ (wp_ret (hret _ _ (en1 A rfl (res_tmp rfl) ?_))))
            subst hr
            exact ⟨by rw [show shapeB d.k d.n d.y.q d.s d.rl.length ts.length = true from by
             rw [shape_same, sh9 ⟨by omega, by omega, hb10⟩ ⟨fun h => absurd h (by omega), fun _ => ⟨hb43, hb46⟩⟩ (.inr (by omega)) (.inl (by omega)) ⟨fun h => by omega, fun h => absurd h (by omega), fun h h2 => by omega⟩]
             rw [if_neg (by omega)]
             exact decide_eq_true (by omega)], M.bel⟩
           ·
            have hb156' := ne_of_beq_false hb156
            refine sdo (v := .bool false) A (does_bin rfl rfl (fun w => (bin_eql w).trans (by rw [hb156]))) λa A↦?_
            refine sdk (v := .bool false) A λa A↦?_
            refine sda A λa A↦?_
            refine seq_end (hK155 _ _ (wp_ret (hret _ _ (en1 A rfl (res_tmp rfl) ?_))))
            subst hr
            exact ⟨by rw [show shapeB d.k d.n d.y.q d.s d.rl.length ts.length = false from by
             rw [shape_same, sh9 ⟨by omega, by omega, hb10⟩ ⟨fun h => absurd h (by omega), fun _ => ⟨hb43, hb46⟩⟩ (.inr (by omega)) (.inl (by omega)) ⟨fun h => by omega, fun h => absurd h (by omega), fun h h2 => by omega⟩]
             rw [if_neg (by omega)]
             exact decide_eq_false (by omega)], M.bel⟩
      ·
       refine seq_call A rfl rfl rfl (enters_func rfl rfl (fun w => by kernel_rfl)) (noRat_any hok.len.l3 hok.len.l4 hb46) ?_
       rintro _ w158 ⟨rfl, hb157⟩
       replace M := M.call hb157
       refine ⟨_, rfl, ?_⟩
       intro a A
       refine sdo (v := .bool true) A (does_un rfl un_not) λa A↦?_
       refine sdk (v := .bool true) A λa A↦?_
       refine seq_end (hK42 _ _ (wp_cond_true (A.ev rfl) ?_))
       refine wsk fun K159 hK159 => wrl (sda A λa A↦?_)
       refine seq_end (hK159 _ _ (wp_ret (hret _ _ (en1 A rfl (res_tmp rfl) ?_))))
       subst hr
       exact ⟨by rw [show shapeB d.k d.n d.y.q d.s d.rl.length ts.length = false from by rw [shape_same]; exact sh3 ⟨by omega, by omega, hb10⟩ (by omega) (.inr hb46)], M.bel⟩
     ·
      refine seq_call A rfl rfl rfl (enters_func rfl rfl (fun w => by kernel_rfl)) (noRat_any hok.len.l1 hok.len.l2 hb43) ?_
      rintro _ w161 ⟨rfl, hb160⟩
      replace M := M.call hb160
      refine ⟨_, rfl, ?_⟩
      intro a A
      refine sdo (v := .bool true) A (does_un rfl un_not) λa A↦?_
      refine sdm A λa A↦?_
      iterate 5 refine seq_skip A rfl rfl rfl λa A↦?_
      refine sdk (v := .bool true) A λa A↦?_
      refine seq_end (hK42 _ _ (wp_cond_true (A.ev rfl) ?_))
      refine wsk fun K162 hK162 => wrl (sda A λa A↦?_)
      refine seq_end (hK162 _ _ (wp_ret (hret _ _ (en1 A rfl (res_tmp rfl) ?_))))
      subst hr
      exact ⟨by rw [show shapeB d.k d.n d.y.q d.s d.rl.length ts.length = false from by rw [shape_same]; exact sh3 ⟨by omega, by omega, hb10⟩ (by omega) (.inl hb43)], M.bel⟩
   ·
    refine seq_call A rfl rfl rfl (enters_func rfl rfl (fun w => by kernel_rfl)) (rvalid_any hs2 hb10) ?_
    rintro _ w164 ⟨rfl, hb163⟩
    replace M := M.call hb163
    refine ⟨_, rfl, ?_⟩
    intro a A
    refine sdo (v := .bool true) A (does_un rfl un_not) λa A↦?_
    refine sdk (v := .bool true) A λa A↦?_
    refine seq_end (hK5 _ _ (wp_cond_true (A.ev rfl) ?_))
    refine wsk fun K165 hK165 => wrl (sda A λa A↦?_)
    refine seq_end (hK165 _ _ (wp_ret (hret _ _ (en1 A rfl (res_tmp rfl) ?_))))
    subst hr
    exact ⟨by rw [show shapeB d.k d.n d.y.q d.s d.rl.length ts.length = false from by rw [shape_same]; exact sh1 (.inr (.inr hb10))], M.bel⟩
theorem TrC_is1_28 : Is1 Tryz.prog 28 := ⟨⟨_, Tryz.underlying28, rfl⟩, by kernel_rfl⟩
theorem TrC_fld_30_5 : FieldAt Tryz.prog 30 5 10 := ⟨_, _, Tryz.underlying30, rfl, rfl, by kernel_rfl⟩
theorem TrC_isS_30 : IsS Tryz.prog 30 11 := ⟨⟨_, Tryz.underlying30⟩, by kernel_rfl⟩
theorem Mg.here {w0 w : World} {L : List Ck} (h : Mg w0 w L) (k : Nat) {g : Nat} {cs : List Value} {t : TypeId} (hk : L[k]? = some (.obj g (.cells cs.toArray t))) : Here w g 0 cs := ⟨(Array.getElem?_eq_some_iff.1 (h.obj k hk)).1, fun j v hj => by rw [Nat.zero_add]; exact h.cell k hk j hj⟩
def Through (t : Dt) : Prop := ∀ {w : World}, t.rd w → Tabs8 w → Calls Tryz.prog 33 #[.agg t.cells.toArray] w fun e w' => e = .returned (.bool (allT shapeT t.tr)) ∧ Below w.heap.size w w'
theorem through_all : ∀ t : Dt, Through t := Dt.indT fun d ts ih => by
 intro w hrd hT
 have hok := (Dt.rd_iff.1 hrd)
 have hlen : ts.length ≤ 9223372036854775807 := Nat.le_trans hok.2.1 hok.2.2.1
 have M : Mg w w ([]) := Mg.start w
 refine walk_of (l := [(0, .agg (d.cells ts.length).toArray)]) Tryz.func33 rfl Tryz.ntmps33 rfl rfl ?_
 intro Q hret hnorm hP a A
 refine wsk fun K1 hK1 => wrl (s_new (vs := [.int .i64 d.k, .int .i64 d.n, .bool d.y.q.b1, .slice d.y.o1 d.y.q.t1.length d.y.c1, .slice d.y.o2 d.y.q.q1.length d.y.c2, .bool d.y.q.b2, .slice d.y.o3 d.y.q.t2.length d.y.c3, .slice d.y.o4 d.y.q.q2.length d.y.c4, .string d.s, .slice d.ro d.rl.length d.rc, .slice d.lo ts.length d.lc]) (t := 30) A M rfl rfl rfl pg (does_box rfl rfl) (by decide) ?_)
 intro g2 w3 M a A
 refine sda A λa A↦?_
 refine seq_end (hK1 _ _ (wsk fun K4 hK4 => wsk fun K5 hK5 => wrl (sdo A (m_loadS M TrC_isS_30 rfl 0 rfl (cs := [.int .i64 d.k, .int .i64 d.n, .bool d.y.q.b1, .slice d.y.o1 d.y.q.t1.length d.y.c1, .slice d.y.o2 d.y.q.q1.length d.y.c2, .bool d.y.q.b2, .slice d.y.o3 d.y.q.t2.length d.y.c3, .slice d.y.o4 d.y.q.q2.length d.y.c4, .string d.s, .slice d.ro d.rl.length d.rc, .slice d.lo ts.length d.lc]) rfl rfl) λa A↦?_)))
 rcases tf (shapeB d.k d.n d.y.q d.s d.rl.length ts.length) with hb6 | hb6
 ·
  refine seq_call A rfl rfl rfl (enters_func rfl rfl (fun w => by kernel_rfl)) ((hb6 ▸ byKind_any (ts := ts) (hok.1.below M.bel) (hT.below M.bel))) ?_
  rintro _ w8 ⟨rfl, hb7⟩
  replace M := M.call hb7
  refine ⟨_, rfl, ?_⟩
  intro a A
  refine sdo (v := .bool false) A (does_un rfl un_not) λa A↦?_
  refine seq_end (hK5 _ _ (wp_cond_false (A.ev rfl) ?_))
  refine wp_skip (hK4 _ _ (wsk fun K9 hK9 => wsk fun K10 hK10 => wrl (sdo (v := .pointer (some ⟨g2, 10, none⟩)) A (does_field TrC_fld_30_5 rfl rfl) λa A↦?_)))
  refine sdo A (m_load1 M TrC_is1_28 rfl 0 rfl rfl) λa A↦?_
  refine sdo A (does_len Tryz.underlying28 rfl) λa A↦?_
  refine sdm A λa A↦?_
  refine seq_end (hK10 _ _ (wp_block (wp_loop_n (fun m_ a w1 => ∃ (i : Nat), m_ = 1 + (ts.length - i) ∧ (i ≤ ts.length ∧ allL shapeT ((ts.map Dt.tr).drop 0) = allL shapeT ((ts.map Dt.tr).drop i)) ∧ Sl a 19 [(0, .agg (d.cells ts.length).toArray), (1, .pointer (some ⟨g2, 0, none⟩)), (5, .agg (d.cells ts.length).toArray), (6, .bool true), (7, .bool false), (8, .pointer (some ⟨g2, 10, none⟩)), (9, .slice d.lo ts.length d.lc), (10, .int .i64 (((ts.length : Nat) : Int))), (11, .int .i64 (((i : Nat) : Int)))] ∧ Mg w w1 (.obj g2 (.cells (d.cells ts.length).toArray 30) :: [])) _ ⟨0, rfl, ⟨Nat.zero_le _, rfl⟩, A.keep _ ⟨rfl, rfl, rfl, rfl, rfl, rfl, rfl, rfl, rfl, trivial⟩, M⟩ ?_)))
  clear M A
  rintro m_ a w11 ⟨i, rfl, hinv13, A, M⟩ K12 hK12
  obtain ⟨hi0, hin9⟩ := hinv13
  refine wsk fun K14 hK14 => wrl ?_
  rcases tf (decide (((i : Nat) : Int) < ((ts.length : Nat) : Int))) with hb15 | hb15
  ·
   have hb15' := of_decide_eq_true hb15
   refine sdo (v := .bool true) A (does_bin rfl rfl (fun w => (bin_lss w).trans (by rw [hb15]))) λa A↦?_
   refine seq_end (hK14 _ _ (wsk fun K16 hK16 => wp_cond_true (A.ev rfl) ?_))
   refine wp_skip (hK16 _ _ (wsk fun K17 hK17 => wp_block (wsk fun K18 hK18 => ?_)))
   obtain ⟨t1, b1, o1, hi1, hm1, hr1, hl1, hH1⟩ := kid hrd (i := i) (by omega)
   refine wrl (sdo (v := .pointer (some ⟨b1, o1 + i * 11, none⟩)) A (does_indexD (k := i) Tryz.underlying28 (by kernel_rfl) rfl rfl rfl hl1 (by omega)) λa A↦?_)
   refine sdo A (m_loadHS M hH1 TrC_isS_30 rfl rfl) λa A↦?_
   refine s_new (vs := [.int .i64 0, .int .i64 0, .bool false, .slice none 0 0, .slice none 0 0, .bool false, .slice none 0 0, .slice none 0 0, .string (⟨#[]⟩), .slice none 0 0, .slice none 0 0]) (t := 30) A M rfl rfl rfl pg (does_alloc (z := .agg #[.int .i64 0, .int .i64 0, .bool false, .slice none 0 0, .slice none 0 0, .bool false, .slice none 0 0, .slice none 0 0, .string (⟨#[]⟩), .slice none 0 0, .slice none 0 0]) (by kernel_rfl) rfl) (by decide) ?_
   intro g19 w20 M a A
   refine s_store (us := [.int .i64 t1.d.k, .int .i64 t1.d.n, .bool t1.d.y.q.b1, .slice t1.d.y.o1 t1.d.y.q.t1.length t1.d.y.c1, .slice t1.d.y.o2 t1.d.y.q.q1.length t1.d.y.c2, .bool t1.d.y.q.b2, .slice t1.d.y.o3 t1.d.y.q.t2.length t1.d.y.c3, .slice t1.d.y.o4 t1.d.y.q.q2.length t1.d.y.c4, .string t1.d.s, .slice t1.d.ro t1.d.rl.length t1.d.rc, .slice t1.d.lo t1.ts.length t1.d.lc]) (L' := (.obj g19 (.cells (t1.d.cells t1.ts.length).toArray 30) :: .obj g2 (.cells (d.cells ts.length).toArray 30) :: [])) A M rfl rfl (m_store rfl rfl rfl (by kernel_rfl) M 0 rfl rfl rfl) 0 rfl rfl rfl ?_
   intro w21 M
   refine seq_end (hK18 _ _ (wsk fun K22 hK22 => wrl (sdo A (m_loadS M TrC_isS_30 rfl 0 rfl (cs := [.int .i64 t1.d.k, .int .i64 t1.d.n, .bool t1.d.y.q.b1, .slice t1.d.y.o1 t1.d.y.q.t1.length t1.d.y.c1, .slice t1.d.y.o2 t1.d.y.q.q1.length t1.d.y.c2, .bool t1.d.y.q.b2, .slice t1.d.y.o3 t1.d.y.q.t2.length t1.d.y.c3, .slice t1.d.y.o4 t1.d.y.q.q2.length t1.d.y.c4, .string t1.d.s, .slice t1.d.ro t1.d.rl.length t1.d.rc, .slice t1.d.lo t1.ts.length t1.d.lc]) rfl rfl) λa A↦?_)))
   rcases tf (allT shapeT t1.tr) with hb23 | hb23
   ·
    refine seq_call A rfl rfl rfl (enters_func rfl rfl (fun w => by kernel_rfl)) ((hb23 ▸ ih t1 hm1 (Dt.keep M.bel _ hr1) (hT.below M.bel))) ?_
    rintro _ w25 ⟨rfl, hb24⟩
    replace M := M.call hb24
    refine ⟨_, rfl, ?_⟩
    intro a A
    refine sdo (v := .bool false) A (does_un rfl un_not) λa A↦?_
    refine seq_end (hK22 _ _ (wp_cond_false (A.ev rfl) ?_))
    refine wp_skip (hK17 _ _ (wrl (sdo (v := .int .i64 (((i + 1 : Nat) : Int))) A (does_bin rfl rfl (fun w => (bin_add (i64In (by omega) (by omega)) w).trans (by rw [show (((i : Nat) : Int) + 1 : Int) = ((i + 1 : Nat) : Int) from by omega]))) λa A↦?_)))
    refine sdm A λa A↦?_
    refine seq_end ?_
    replace M : Mg w w25 (.obj g2 (.cells (d.cells ts.length).toArray 30) :: []) := by
     have h9 := M.sub (.cons _ (.cons_cons _ (.refl _)))
     exact h9
    refine hK12 _ _ _ (by omega) ⟨i + 1, rfl, ⟨by omega, by rw [hin9, allL_go hi1, hb23, Bool.true_and]⟩, A.keep _ ⟨rfl, rfl, rfl, rfl, rfl, rfl, rfl, rfl, rfl, trivial⟩, M⟩
   ·
    refine seq_call A rfl rfl rfl (enters_func rfl rfl (fun w => by kernel_rfl)) ((hb23 ▸ ih t1 hm1 (Dt.keep M.bel _ hr1) (hT.below M.bel))) ?_
    rintro _ w27 ⟨rfl, hb26⟩
    replace M := M.call hb26
    refine ⟨_, rfl, ?_⟩
    intro a A
    refine sdo (v := .bool true) A (does_un rfl un_not) λa A↦?_
    refine seq_end (hK22 _ _ (wp_cond_true (A.ev rfl) ?_))
    refine wsk fun K28 hK28 => wrl (sda A λa A↦?_)
    refine seq_end (hK28 _ _ (wp_ret (hret _ _ (en1 A rfl (res_tmp rfl) ?_))))
    rw [show allT shapeT (Dt.mk d ts).tr = false from by rw [allT_mk, shapeT_mk, hb6, Bool.true_and, hin9, allL_go hi1, hb23, Bool.false_and]]
    exact ⟨rfl, M.bel⟩
  ·
   have hb15' := of_decide_eq_false hb15
   refine sdo (v := .bool false) A (does_bin rfl rfl (fun w => (bin_lss w).trans (by rw [hb15]))) λa A↦?_
   refine seq_end (hK14 _ _ (wsk fun K29 hK29 => wp_cond_false (A.ev rfl) ?_))
   refine wp_exit (hK9 _ _ (wsk fun K30 hK30 => wrl (sda A λa A↦?_)))
   refine seq_end (hK30 _ _ (wp_ret (hret _ _ (en1 A rfl (res_tmp rfl) ?_))))
   rw [show allT shapeT (Dt.mk d ts).tr = true from by rw [allT_mk, shapeT_mk, hb6, Bool.true_and, hin9, drop_kids (by omega), allL]]
   exact ⟨rfl, M.bel⟩
 ·
  refine seq_call A rfl rfl rfl (enters_func rfl rfl (fun w => by kernel_rfl)) ((hb6 ▸ byKind_any (ts := ts) (hok.1.below M.bel) (hT.below M.bel))) ?_
  rintro _ w32 ⟨rfl, hb31⟩
  replace M := M.call hb31
  refine ⟨_, rfl, ?_⟩
  intro a A
  refine sdo (v := .bool true) A (does_un rfl un_not) λa A↦?_
  refine seq_end (hK5 _ _ (wp_cond_true (A.ev rfl) ?_))
  refine wsk fun K33 hK33 => wrl (sda A λa A↦?_)
  refine seq_end (hK33 _ _ (wp_ret (hret _ _ (en1 A rfl (res_tmp rfl) ?_))))
  rw [show allT shapeT (Dt.mk d ts).tr = false from by rw [allT_mk, shapeT_mk, hb6, Bool.false_and]]
  exact ⟨rfl, M.bel⟩
theorem fits_any {w : World} {d : Nd} {ts : List Dt} (hrd : (Dt.mk d ts).rd w) : Calls Tryz.prog 32 #[.agg (d.cells ts.length).toArray] w fun e w' => e = .returned (.bool (fitT 1 20000 (Dt.mk d ts).tr).1) ∧ Below w.heap.size w w' := by
 have M : Mg w w ([]) := Mg.start w
 refine walk_of (l := [(0, .agg (d.cells ts.length).toArray)]) Tryz.func32 rfl Tryz.ntmps32 rfl rfl ?_
 intro Q hret hnorm hP a A
 refine wsk fun K1 hK1 => wrl (s_new (vs := [.int .i64 d.k, .int .i64 d.n, .bool d.y.q.b1, .slice d.y.o1 d.y.q.t1.length d.y.c1, .slice d.y.o2 d.y.q.q1.length d.y.c2, .bool d.y.q.b2, .slice d.y.o3 d.y.q.t2.length d.y.c3, .slice d.y.o4 d.y.q.q2.length d.y.c4, .string d.s, .slice d.ro d.rl.length d.rc, .slice d.lo ts.length d.lc]) (t := 30) A M rfl rfl rfl pg (does_box rfl rfl) (by decide) ?_)
 intro g2 w3 M a A
 refine sda A λa A↦?_
 refine seq_end (hK1 _ _ (wsk fun K4 hK4 => ?_))
 have hB1 := M.bel
 have hH1 := M.here 0 (cs := d.cells ts.length) rfl
 replace M : Mg w3 w3 [] := Mg.start w3
 refine wrl (s_new (vs := [.int .i64 0]) (t := 3) A M rfl rfl rfl pg (does_alloc (z := .int .i64 0) (by kernel_rfl) rfl) (by decide) ?_)
 intro g5 w6 M a A
 refine s_store (us := [.int .i64 20000]) (L' := (.obj g5 (.cells #[.int .i64 20000] 3) :: [])) A M rfl rfl (m_store rfl rfl rfl (by kernel_rfl) M 0 rfl rfl rfl) 0 rfl rfl rfl ?_
 intro w7 M
 refine seq_end (hK4 _ _ (wsk fun K8 hK8 => wrl (seq_call A rfl rfl rfl (enters_func rfl rfl (fun w => by kernel_rfl)) (fitsAt_all (Dt.mk d ts) (Dt.keep hB1 _ hrd) hH1 M (by omega) (by omega) (by omega) (by omega)) ?_)))
 rintro _ w10 ⟨rfl, hM9⟩
 replace M : Mg w3 w10 (.obj g5 (.cells #[.int .i64 ((fitT 1 20000 (Dt.mk d ts).tr).2)] 3) :: []) := hM9
 refine ⟨_, rfl, ?_⟩
 intro a A
 refine sda A λa A↦?_
 refine seq_end (hK8 _ _ (wp_ret (hret _ _ (en1 A rfl (res_tmp rfl) ?_))))
 exact ⟨rfl, hB1.trans (M.bel.mono hB1.size)⟩
theorem sound_mk {w : World} {d : Nd} {ts : List Dt} (hrd : (Dt.mk d ts).rd w) (hT : Tabs8 w) : Calls Tryz.prog 18 #[.agg (d.cells ts.length).toArray] w fun e w' => e = .returned (.bool (soundT shapeT (Dt.mk d ts).tr)) ∧ Below w.heap.size w w' := by
 have M : Mg w w ([]) := Mg.start w
 refine walk_of (l := [(0, .agg (d.cells ts.length).toArray)]) Tryz.func18 rfl Tryz.ntmps18 rfl rfl ?_
 intro Q hret hnorm hP a A
 refine wsk fun K1 hK1 => wrl (s_new (vs := [.int .i64 d.k, .int .i64 d.n, .bool d.y.q.b1, .slice d.y.o1 d.y.q.t1.length d.y.c1, .slice d.y.o2 d.y.q.q1.length d.y.c2, .bool d.y.q.b2, .slice d.y.o3 d.y.q.t2.length d.y.c3, .slice d.y.o4 d.y.q.q2.length d.y.c4, .string d.s, .slice d.ro d.rl.length d.rc, .slice d.lo ts.length d.lc]) (t := 30) A M rfl rfl rfl pg (does_box rfl rfl) (by decide) ?_)
 intro g2 w3 M a A
 refine sda A λa A↦?_
 refine seq_end (hK1 _ _ (wsk fun K4 hK4 => wrl (sdo A (m_loadS M TrC_isS_30 rfl 0 rfl (cs := [.int .i64 d.k, .int .i64 d.n, .bool d.y.q.b1, .slice d.y.o1 d.y.q.t1.length d.y.c1, .slice d.y.o2 d.y.q.q1.length d.y.c2, .bool d.y.q.b2, .slice d.y.o3 d.y.q.t2.length d.y.c3, .slice d.y.o4 d.y.q.q2.length d.y.c4, .string d.s, .slice d.ro d.rl.length d.rc, .slice d.lo ts.length d.lc]) rfl rfl) λa A↦?_)))
 rcases tf ((fitT 1 20000 (Dt.mk d ts).tr).1) with hb5 | hb5
 ·
  refine seq_call A rfl rfl rfl (enters_func rfl rfl (fun w => by kernel_rfl)) ((hb5 ▸ fits_any (Dt.keep M.bel _ hrd))) ?_
  rintro _ w7 ⟨rfl, hb6⟩
  replace M := M.call hb6
  refine ⟨_, rfl, ?_⟩
  intro a A
  refine sdm A λa A↦?_
  refine sdo A (m_loadS M TrC_isS_30 rfl 0 rfl (cs := [.int .i64 d.k, .int .i64 d.n, .bool d.y.q.b1, .slice d.y.o1 d.y.q.t1.length d.y.c1, .slice d.y.o2 d.y.q.q1.length d.y.c2, .bool d.y.q.b2, .slice d.y.o3 d.y.q.t2.length d.y.c3, .slice d.y.o4 d.y.q.q2.length d.y.c4, .string d.s, .slice d.ro d.rl.length d.rc, .slice d.lo ts.length d.lc]) rfl rfl) λa A↦?_
  rcases tf (allT shapeT (Dt.mk d ts).tr) with hb8 | hb8
  ·
   refine seq_call A rfl rfl rfl (enters_func rfl rfl (fun w => by kernel_rfl)) ((hb8 ▸ through_all (Dt.mk d ts) (Dt.keep M.bel _ hrd) (hT.below M.bel))) ?_
   rintro _ w10 ⟨rfl, hb9⟩
   replace M := M.call hb9
   refine ⟨_, rfl, ?_⟩
   intro a A
   refine sdk (v := .bool true) A λa A↦?_
   refine sda A λa A↦?_
   refine seq_end (hK4 _ _ (wp_ret (hret _ _ (en1 A rfl (res_tmp rfl) ?_))))
   exact ⟨by unfold soundT; simp_all, M.bel⟩
  ·
   refine seq_call A rfl rfl rfl (enters_func rfl rfl (fun w => by kernel_rfl)) ((hb8 ▸ through_all (Dt.mk d ts) (Dt.keep M.bel _ hrd) (hT.below M.bel))) ?_
   rintro _ w12 ⟨rfl, hb11⟩
   replace M := M.call hb11
   refine ⟨_, rfl, ?_⟩
   intro a A
   refine sdk (v := .bool false) A λa A↦?_
   refine sda A λa A↦?_
   refine seq_end (hK4 _ _ (wp_ret (hret _ _ (en1 A rfl (res_tmp rfl) ?_))))
   exact ⟨by unfold soundT; simp_all, M.bel⟩
 ·
  refine seq_call A rfl rfl rfl (enters_func rfl rfl (fun w => by kernel_rfl)) ((hb5 ▸ fits_any (Dt.keep M.bel _ hrd))) ?_
  rintro _ w14 ⟨rfl, hb13⟩
  replace M := M.call hb13
  refine ⟨_, rfl, ?_⟩
  intro a A
  refine sdm A λa A↦?_
  iterate 2 refine seq_skip A rfl rfl rfl λa A↦?_
  refine sdk (v := .bool false) A λa A↦?_
  refine sda A λa A↦?_
  refine seq_end (hK4 _ _ (wp_ret (hret _ _ (en1 A rfl (res_tmp rfl) ?_))))
  exact ⟨by unfold soundT; simp_all, M.bel⟩
theorem sound_any {w : World} {t : Dt} (hrd : t.rd w) (hT : Tabs8 w) : Calls Tryz.prog 18 #[.agg t.cells.toArray] w fun e w' => e = .returned (.bool (soundT shapeT t.tr)) ∧ Below w.heap.size w w' := by
 obtain ⟨d, ts⟩ := t
 exact sound_mk hrd hT
theorem TrW_is1_28 : Is1 Tryz.prog 28 := ⟨⟨_, Tryz.underlying28, rfl⟩, by kernel_rfl⟩
theorem TrW_is1_3 : Is1 Tryz.prog 3 := ⟨⟨_, Tryz.underlying3, rfl⟩, by kernel_rfl⟩
theorem TrW_fld_30_0 : FieldAt Tryz.prog 30 0 0 := ⟨_, _, Tryz.underlying30, rfl, rfl, by kernel_rfl⟩
theorem TrW_fld_30_5 : FieldAt Tryz.prog 30 5 10 := ⟨_, _, Tryz.underlying30, rfl, rfl, by kernel_rfl⟩
theorem TrW_isS_30 : IsS Tryz.prog 30 11 := ⟨⟨_, Tryz.underlying30⟩, by kernel_rfl⟩
def Counts (t : Dt) : Prop := ∀ {w : World} {dp left : Int}, t.rd w → t.tr.bulk ≤ 2000000 → 0 ≤ left → left ≤ 20000 → 0 ≤ dp → dp ≤ 201 → Calls Tryz.prog 17 #[.agg t.cells.toArray, .int .i64 dp, .int .i64 left] w fun e w' => e = .returned (.int .i64 (cntT shapeT dp left t.tr)) ∧ Below w.heap.size w w'
theorem count_all : ∀ t : Dt, Counts t := Dt.indT fun d ts ih => by
 intro w dp left hrd hbk hl0 hl1 hd0 hd1
 have hok := (Dt.rd_iff.1 hrd)
 have hlen : ts.length ≤ 9223372036854775807 := Nat.le_trans hok.2.1 hok.2.2.1
 have M : Mg w w ([]) := Mg.start w
 refine walk_of (l := [(0, .agg (d.cells ts.length).toArray), (1, .int .i64 dp), (2, .int .i64 left)]) Tryz.func17 rfl Tryz.ntmps17 rfl rfl ?_
 intro Q hret hnorm hP a A
 refine wsk fun K1 hK1 => wrl (s_new (vs := [.int .i64 d.k, .int .i64 d.n, .bool d.y.q.b1, .slice d.y.o1 d.y.q.t1.length d.y.c1, .slice d.y.o2 d.y.q.q1.length d.y.c2, .bool d.y.q.b2, .slice d.y.o3 d.y.q.t2.length d.y.c3, .slice d.y.o4 d.y.q.q2.length d.y.c4, .string d.s, .slice d.ro d.rl.length d.rc, .slice d.lo ts.length d.lc]) (t := 30) A M rfl rfl rfl pg (does_box rfl rfl) (by decide) ?_)
 intro g2 w3 M a A
 refine sda A λa A↦?_
 refine seq_end (hK1 _ _ (wsk fun K4 hK4 => wsk fun K5 hK5 => wrl (sdm A λa A↦?_)))
 rcases tf (decide (200 < dp)) with hb6 | hb6
 ·
  have hb6' := of_decide_eq_true hb6
  refine sdo (v := .bool true) A (does_bin rfl rfl (fun w => (bin_gtr w).trans (by rw [hb6]))) λa A↦?_
  refine sdm A λa A↦?_
  iterate 2 refine seq_skip A rfl rfl rfl λa A↦?_
  refine sdk (v := .bool true) A λa A↦?_
  refine sdm A λa A↦?_
  iterate 3 refine seq_skip A rfl rfl rfl λa A↦?_
  refine sdk (v := .bool true) A λa A↦?_
  refine seq_end (hK5 _ _ (wp_cond_true (A.ev rfl) ?_))
  refine wsk fun K7 hK7 => wrl (sda A λa A↦?_)
  refine seq_end (hK7 _ _ (wp_ret (hret _ _ (en1 A rfl (res_tmp rfl) ?_))))
  rw [cntT_no (by omega)]
  exact ⟨rfl, M.bel⟩
 ·
  have hb6' := of_decide_eq_false hb6
  refine sdo (v := .bool false) A (does_bin rfl rfl (fun w => (bin_gtr w).trans (by rw [hb6]))) λa A↦?_
  iterate 2 refine sdm A λa A↦?_
  rcases tf (decide (left ≤ 0)) with hb8 | hb8
  ·
   have hb8' := of_decide_eq_true hb8
   refine sdo (v := .bool true) A (does_bin rfl rfl (fun w => (bin_leq w).trans (by rw [hb8]))) λa A↦?_
   refine sdk (v := .bool true) A λa A↦?_
   refine sdm A λa A↦?_
   iterate 3 refine seq_skip A rfl rfl rfl λa A↦?_
   refine sdk (v := .bool true) A λa A↦?_
   refine seq_end (hK5 _ _ (wp_cond_true (A.ev rfl) ?_))
   refine wsk fun K9 hK9 => wrl (sda A λa A↦?_)
   refine seq_end (hK9 _ _ (wp_ret (hret _ _ (en1 A rfl (res_tmp rfl) ?_))))
   rw [cntT_no (by omega)]
   exact ⟨rfl, M.bel⟩
  ·
   have hb8' := of_decide_eq_false hb8
   refine sdo (v := .bool false) A (does_bin rfl rfl (fun w => (bin_leq w).trans (by rw [hb8]))) λa A↦?_
   refine sdk (v := .bool false) A λa A↦?_
   refine sdm A λa A↦?_
   refine sdo A (m_loadS M TrW_isS_30 rfl 0 rfl (cs := [.int .i64 d.k, .int .i64 d.n, .bool d.y.q.b1, .slice d.y.o1 d.y.q.t1.length d.y.c1, .slice d.y.o2 d.y.q.q1.length d.y.c2, .bool d.y.q.b2, .slice d.y.o3 d.y.q.t2.length d.y.c3, .slice d.y.o4 d.y.q.q2.length d.y.c4, .string d.s, .slice d.ro d.rl.length d.rc, .slice d.lo ts.length d.lc]) rfl rfl) λa A↦?_
   rcases tf (shapeB d.k d.n d.y.q d.s d.rl.length ts.length) with hb10 | hb10
   ·
    refine seq_call A rfl rfl rfl (enters_func rfl rfl (fun w => by kernel_rfl)) (rshape_any (hok.1.below M.bel) (Nat.le_trans bulk_text hbk) hlen hb10) ?_
    rintro _ w12 ⟨rfl, hb11⟩
    replace M := M.call hb11
    refine ⟨_, rfl, ?_⟩
    intro a A
    refine sdo (v := .bool false) A (does_un rfl un_not) λa A↦?_
    refine sdk (v := .bool false) A λa A↦?_
    refine seq_end (hK5 _ _ (wp_cond_false (A.ev rfl) ?_))
    refine wp_skip (hK4 _ _ (wsk fun K13 hK13 => wrl (sdm A λa A↦?_)))
    refine sdo (v := .int .i64 (left - 1)) A (does_bin rfl rfl (bin_sub (i64In (by omega) (by omega)))) λa A↦?_
    refine sda A λa A↦?_
    refine seq_end (hK13 _ _ (wsk fun K14 hK14 => wsk fun K15 hK15 => wrl (sda A λa A↦?_)))
    refine seq_end (hK15 _ _ (wp_block (wp_loop_n (fun m_ a w1 => ∃ (i : Nat) (m : Int), m_ = 1 + (ts.length - i) ∧ (i ≤ ts.length ∧ cntL shapeT dp (decide (d.k = 8)) 0 (left - 1) ((ts.map Dt.tr).drop 0) = cntL shapeT dp (decide (d.k = 8)) i m ((ts.map Dt.tr).drop i) ∧ -1 ≤ m ∧ m ≤ 20000) ∧ Sl a 52 [(0, .agg (d.cells ts.length).toArray), (1, .int .i64 dp), (2, .int .i64 m), (3, .pointer (some ⟨g2, 0, none⟩)), (6, .int .i64 0), (7, .int .i64 (((i : Nat) : Int))), (9, .int .i64 dp), (10, .bool false), (11, .bool false), (12, .int .i64 left), (13, .bool false), (14, .bool false), (15, .bool false), (16, .agg (d.cells ts.length).toArray), (17, .bool true), (18, .bool false), (19, .bool false), (20, .int .i64 left), (21, .int .i64 (left - 1))] ∧ Mg w w1 (.obj g2 (.cells (d.cells ts.length).toArray 30) :: [])) _ ⟨0, left - 1, rfl, ⟨Nat.zero_le _, rfl, by omega, by omega⟩, A.keep _ ⟨rfl, rfl, rfl, rfl, rfl, rfl, rfl, rfl, rfl, rfl, rfl, rfl, rfl, rfl, rfl, rfl, rfl, rfl, rfl, trivial⟩, M⟩ ?_)))
    clear M A
    rintro m_ a w16 ⟨i, m, rfl, hinv18, A, M⟩ K17 hK17
    obtain ⟨hi0, hin9, hm0, hm1_⟩ := hinv18
    refine wsk fun K19 hK19 => wsk fun K20 hK20 => wrl (sdm A λa A↦?_)
    refine sdo (v := .pointer (some ⟨g2, 10, none⟩)) A (does_field TrW_fld_30_5 rfl rfl) λa A↦?_
    refine sdo A (m_load1 M TrW_is1_28 rfl 0 rfl rfl) λa A↦?_
    refine sdo A (does_len Tryz.underlying28 rfl) λa A↦?_
    rcases tf (decide (((i : Nat) : Int) < ((ts.length : Nat) : Int))) with hb21 | hb21
    ·
     have hb21' := of_decide_eq_true hb21
     refine sdo (v := .bool true) A (does_bin rfl rfl (fun w => (bin_lss w).trans (by rw [hb21]))) λa A↦?_
     iterate 2 refine sdm A λa A↦?_
     rcases tf (decide (0 ≤ m)) with hb22 | hb22
     ·
      have hb22' := of_decide_eq_true hb22
      refine sdo (v := .bool true) A (does_bin rfl rfl (fun w => (bin_geq w).trans (by rw [hb22]))) λa A↦?_
      refine sdk (v := .bool true) A λa A↦?_
      refine seq_end (hK20 _ _ (wp_cond_true (A.ev rfl) ?_))
      refine wp_skip (hK19 _ _ (wsk fun K23 hK23 => wp_block (wsk fun K24 hK24 => wrl (sdm A λa A↦?_))))
      refine sdo (v := .int .i64 (dp + 1)) A (does_bin rfl rfl (bin_add (i64In (by omega) (by omega)))) λa A↦?_
      refine sda A λa A↦?_
      refine seq_end (hK24 _ _ (wsk fun K25 hK25 => wsk fun K26 hK26 => wrl (sdo (v := .pointer (some ⟨g2, 0, none⟩)) A (does_field TrW_fld_30_0 rfl rfl) λa A↦?_)))
      refine sdo A (m_load1 M TrW_is1_3 rfl 0 rfl rfl) λa A↦?_
      rcases tf ((d.k == 8)) with hb27 | hb27
      ·
       have hb27' := eq_of_beq hb27
       refine sdo (v := .bool true) A (does_bin rfl rfl (fun w => (bin_eql w).trans (by rw [hb27]))) λa A↦?_
       iterate 2 refine sdm A λa A↦?_
       rcases tf ((((i : Nat) : Int) == 1)) with hb28 | hb28
       ·
        have hb28' := eq_of_beq hb28
        refine sdo (v := .bool true) A (does_bin rfl rfl (fun w => (bin_eql w).trans (by rw [hb28]))) λa A↦?_
        refine sdk (v := .bool true) A λa A↦?_
        refine seq_end (hK26 _ _ (wp_cond_true (A.ev rfl) ?_))
        refine wrl (sdm A λa A↦?_)
        refine sda A λa A↦?_
        refine seq_end (hK25 _ _ ?_)
        obtain ⟨t1, b1, o1, hi1, hm1, hr1, hl1, hH1⟩ := kid hrd (i := i) (by omega)
        have hD : (if decide (d.k = 8) = true ∧ i = 1 then dp else dp + 1) = dp := if_pos ⟨decide_eq_true hb27', by omega⟩
        refine wrl (sdo (v := .pointer (some ⟨g2, 10, none⟩)) A (does_field TrW_fld_30_5 rfl rfl) λa A↦?_)
        refine sdo A (m_load1 M TrW_is1_28 rfl 0 rfl rfl) λa A↦?_
        refine sdm A λa A↦?_
        refine sdo (v := .pointer (some ⟨b1, o1 + i * 11, none⟩)) A (does_indexD (k := i) Tryz.underlying28 (by kernel_rfl) rfl rfl rfl hl1 (by omega)) λa A↦?_
        refine sdo A (m_loadHS M hH1 TrW_isS_30 rfl rfl) λa A↦?_
        iterate 2 refine sdm A λa A↦?_
        refine seq_call A rfl rfl rfl (enters_func rfl rfl (fun w => by kernel_rfl)) (ih t1 hm1 (Dt.keep M.bel _ hr1) (by have := bulk_kid (d := d) hm1; omega) (by omega) (by omega) (by omega) (by omega)) ?_
        rintro _ w30 ⟨rfl, hb29⟩
        replace M := M.call hb29
        refine ⟨_, rfl, ?_⟩
        intro a A
        refine sda A λa A↦?_
        refine seq_end (hK23 _ _ (wrl (sdm A λa A↦?_)))
        refine sdo (v := .int .i64 (((i + 1 : Nat) : Int))) A (does_bin rfl rfl (fun w => (bin_add (i64In (by omega) (by omega)) w).trans (by rw [show (((i : Nat) : Int) + 1 : Int) = ((i + 1 : Nat) : Int) from by omega]))) λa A↦?_
        refine sda A λa A↦?_
        refine seq_end ?_
        have hc9 := cnt_le shapeT t1.tr (dp) m (by omega)
        refine hK17 _ _ _ (by omega) ⟨i + 1, cntT shapeT (dp) m t1.tr, rfl, ⟨by omega, by rw [hin9, cntL_go hi1 (by omega) hD], by omega, by omega⟩, A.keep _ ⟨rfl, rfl, rfl, rfl, rfl, rfl, rfl, rfl, rfl, rfl, rfl, rfl, rfl, rfl, rfl, rfl, rfl, rfl, rfl, trivial⟩, M⟩
       ·
        have hb28' := ne_of_beq_false hb28
        refine sdo (v := .bool false) A (does_bin rfl rfl (fun w => (bin_eql w).trans (by rw [hb28]))) λa A↦?_
        refine sdk (v := .bool false) A λa A↦?_
        refine seq_end (hK26 _ _ (wp_cond_false (A.ev rfl) ?_))
        refine wp_skip (hK25 _ _ ?_)
        obtain ⟨t1, b1, o1, hi1, hm1, hr1, hl1, hH1⟩ := kid hrd (i := i) (by omega)
        have hD : (if decide (d.k = 8) = true ∧ i = 1 then dp else dp + 1) = dp + 1 := if_neg (fun e => by omega)
        refine wrl (sdo (v := .pointer (some ⟨g2, 10, none⟩)) A (does_field TrW_fld_30_5 rfl rfl) λa A↦?_)
        refine sdo A (m_load1 M TrW_is1_28 rfl 0 rfl rfl) λa A↦?_
        refine sdm A λa A↦?_
        refine sdo (v := .pointer (some ⟨b1, o1 + i * 11, none⟩)) A (does_indexD (k := i) Tryz.underlying28 (by kernel_rfl) rfl rfl rfl hl1 (by omega)) λa A↦?_
        refine sdo A (m_loadHS M hH1 TrW_isS_30 rfl rfl) λa A↦?_
        iterate 2 refine sdm A λa A↦?_
        refine seq_call A rfl rfl rfl (enters_func rfl rfl (fun w => by kernel_rfl)) (ih t1 hm1 (Dt.keep M.bel _ hr1) (by have := bulk_kid (d := d) hm1; omega) (by omega) (by omega) (by omega) (by omega)) ?_
        rintro _ w32 ⟨rfl, hb31⟩
        replace M := M.call hb31
        refine ⟨_, rfl, ?_⟩
        intro a A
        refine sda A λa A↦?_
        refine seq_end (hK23 _ _ (wrl (sdm A λa A↦?_)))
        refine sdo (v := .int .i64 (((i + 1 : Nat) : Int))) A (does_bin rfl rfl (fun w => (bin_add (i64In (by omega) (by omega)) w).trans (by rw [show (((i : Nat) : Int) + 1 : Int) = ((i + 1 : Nat) : Int) from by omega]))) λa A↦?_
        refine sda A λa A↦?_
        refine seq_end ?_
        have hc9 := cnt_le shapeT t1.tr (dp + 1) m (by omega)
        refine hK17 _ _ _ (by omega) ⟨i + 1, cntT shapeT (dp + 1) m t1.tr, rfl, ⟨by omega, by rw [hin9, cntL_go hi1 (by omega) hD], by omega, by omega⟩, A.keep _ ⟨rfl, rfl, rfl, rfl, rfl, rfl, rfl, rfl, rfl, rfl, rfl, rfl, rfl, rfl, rfl, rfl, rfl, rfl, rfl, trivial⟩, M⟩
      ·
       have hb27' := ne_of_beq_false hb27
       refine sdo (v := .bool false) A (does_bin rfl rfl (fun w => (bin_eql w).trans (by rw [hb27]))) λa A↦?_
       refine sdm A λa A↦?_
       iterate 2 refine seq_skip A rfl rfl rfl λa A↦?_
       refine sdk (v := .bool false) A λa A↦?_
       refine seq_end (hK26 _ _ (wp_cond_false (A.ev rfl) ?_))
       refine wp_skip (hK25 _ _ ?_)
       obtain ⟨t1, b1, o1, hi1, hm1, hr1, hl1, hH1⟩ := kid hrd (i := i) (by omega)
       have hD : (if decide (d.k = 8) = true ∧ i = 1 then dp else dp + 1) = dp + 1 := if_neg (fun e => hb27' (of_decide_eq_true e.1))
       refine wrl (sdo (v := .pointer (some ⟨g2, 10, none⟩)) A (does_field TrW_fld_30_5 rfl rfl) λa A↦?_)
       refine sdo A (m_load1 M TrW_is1_28 rfl 0 rfl rfl) λa A↦?_
       refine sdm A λa A↦?_
       refine sdo (v := .pointer (some ⟨b1, o1 + i * 11, none⟩)) A (does_indexD (k := i) Tryz.underlying28 (by kernel_rfl) rfl rfl rfl hl1 (by omega)) λa A↦?_
       refine sdo A (m_loadHS M hH1 TrW_isS_30 rfl rfl) λa A↦?_
       iterate 2 refine sdm A λa A↦?_
       refine seq_call A rfl rfl rfl (enters_func rfl rfl (fun w => by kernel_rfl)) (ih t1 hm1 (Dt.keep M.bel _ hr1) (by have := bulk_kid (d := d) hm1; omega) (by omega) (by omega) (by omega) (by omega)) ?_
       rintro _ w34 ⟨rfl, hb33⟩
       replace M := M.call hb33
       refine ⟨_, rfl, ?_⟩
       intro a A
       refine sda A λa A↦?_
       refine seq_end (hK23 _ _ (wrl (sdm A λa A↦?_)))
       refine sdo (v := .int .i64 (((i + 1 : Nat) : Int))) A (does_bin rfl rfl (fun w => (bin_add (i64In (by omega) (by omega)) w).trans (by rw [show (((i : Nat) : Int) + 1 : Int) = ((i + 1 : Nat) : Int) from by omega]))) λa A↦?_
       refine sda A λa A↦?_
       refine seq_end ?_
       have hc9 := cnt_le shapeT t1.tr (dp + 1) m (by omega)
       refine hK17 _ _ _ (by omega) ⟨i + 1, cntT shapeT (dp + 1) m t1.tr, rfl, ⟨by omega, by rw [hin9, cntL_go hi1 (by omega) hD], by omega, by omega⟩, A.keep _ ⟨rfl, rfl, rfl, rfl, rfl, rfl, rfl, rfl, rfl, rfl, rfl, rfl, rfl, rfl, rfl, rfl, rfl, rfl, rfl, trivial⟩, M⟩
     ·
      have hb22' := of_decide_eq_false hb22
      refine sdo (v := .bool false) A (does_bin rfl rfl (fun w => (bin_geq w).trans (by rw [hb22]))) λa A↦?_
      refine sdk (v := .bool false) A λa A↦?_
      refine seq_end (hK20 _ _ (wp_cond_false (A.ev rfl) ?_))
      refine wp_exit (hK14 _ _ (wsk fun K35 hK35 => wrl (sdm A λa A↦?_)))
      refine sda A λa A↦?_
      refine seq_end (hK35 _ _ (wp_ret (hret _ _ (en1 A rfl (res_tmp rfl) ?_))))
      rw [cntT_mk (by omega) (by omega) (by rw [shapeT_mk]; exact hb10), hin9, cntL_neg (by omega)]
      exact ⟨rfl, M.bel⟩
    ·
     have hb21' := of_decide_eq_false hb21
     refine sdo (v := .bool false) A (does_bin rfl rfl (fun w => (bin_lss w).trans (by rw [hb21]))) λa A↦?_
     refine sdm A λa A↦?_
     iterate 2 refine seq_skip A rfl rfl rfl λa A↦?_
     refine sdk (v := .bool false) A λa A↦?_
     refine seq_end (hK20 _ _ (wp_cond_false (A.ev rfl) ?_))
     refine wp_exit (hK14 _ _ (wsk fun K36 hK36 => wrl (sdm A λa A↦?_)))
     refine sda A λa A↦?_
     refine seq_end (hK36 _ _ (wp_ret (hret _ _ (en1 A rfl (res_tmp rfl) ?_))))
     rw [cntT_mk (by omega) (by omega) (by rw [shapeT_mk]; exact hb10), hin9, drop_kids (by omega), cntL]
     exact ⟨rfl, M.bel⟩
   ·
    refine seq_call A rfl rfl rfl (enters_func rfl rfl (fun w => by kernel_rfl)) (rshape_any (hok.1.below M.bel) (Nat.le_trans bulk_text hbk) hlen hb10) ?_
    rintro _ w38 ⟨rfl, hb37⟩
    replace M := M.call hb37
    refine ⟨_, rfl, ?_⟩
    intro a A
    refine sdo (v := .bool true) A (does_un rfl un_not) λa A↦?_
    refine sdk (v := .bool true) A λa A↦?_
    refine seq_end (hK5 _ _ (wp_cond_true (A.ev rfl) ?_))
    refine wsk fun K39 hK39 => wrl (sda A λa A↦?_)
    refine seq_end (hK39 _ _ (wp_ret (hret _ _ (en1 A rfl (res_tmp rfl) ?_))))
    rw [cntT_no (.inr (.inr (by rw [shapeT_mk]; exact hb10)))]
    exact ⟨rfl, M.bel⟩
theorem rsound_mk {w : World} {d : Nd} {ts : List Dt} (hrd : (Dt.mk d ts).rd w) (hbk : (Dt.mk d ts).tr.bulk ≤ 2000000) : Calls Tryz.prog 11 #[.agg (d.cells ts.length).toArray] w fun e w' => e = .returned (.bool (soundT shapeT (Dt.mk d ts).tr)) ∧ Below w.heap.size w w' := by
 have M : Mg w w ([]) := Mg.start w
 refine walk_of (l := [(0, .agg (d.cells ts.length).toArray)]) Tryz.func11 rfl Tryz.ntmps11 rfl rfl ?_
 intro Q hret hnorm hP a A
 refine wsk fun K1 hK1 => wrl (s_new (vs := [.int .i64 d.k, .int .i64 d.n, .bool d.y.q.b1, .slice d.y.o1 d.y.q.t1.length d.y.c1, .slice d.y.o2 d.y.q.q1.length d.y.c2, .bool d.y.q.b2, .slice d.y.o3 d.y.q.t2.length d.y.c3, .slice d.y.o4 d.y.q.q2.length d.y.c4, .string d.s, .slice d.ro d.rl.length d.rc, .slice d.lo ts.length d.lc]) (t := 30) A M rfl rfl rfl pg (does_box rfl rfl) (by decide) ?_)
 intro g2 w3 M a A
 refine sda A λa A↦?_
 refine seq_end (hK1 _ _ (wsk fun K4 hK4 => wrl (sdo A (m_loadS M TrW_isS_30 rfl 0 rfl (cs := [.int .i64 d.k, .int .i64 d.n, .bool d.y.q.b1, .slice d.y.o1 d.y.q.t1.length d.y.c1, .slice d.y.o2 d.y.q.q1.length d.y.c2, .bool d.y.q.b2, .slice d.y.o3 d.y.q.t2.length d.y.c3, .slice d.y.o4 d.y.q.q2.length d.y.c4, .string d.s, .slice d.ro d.rl.length d.rc, .slice d.lo ts.length d.lc]) rfl rfl) λa A↦?_)))
 refine seq_call A rfl rfl rfl (enters_func rfl rfl (fun w => by kernel_rfl)) (count_all (Dt.mk d ts) (Dt.keep M.bel _ hrd) hbk (by omega) (by omega) (by omega) (by omega)) ?_
 rintro _ w5 ⟨rfl, hb9⟩
 replace M := M.call hb9
 refine ⟨_, rfl, ?_⟩
 intro a A
 refine sdo (v := .bool (decide (0 ≤ cntT shapeT 1 20000 (Dt.mk d ts).tr))) A (does_bin rfl rfl bin_geq) λa A↦?_
 refine sda A λa A↦?_
 refine seq_end (hK4 _ _ (wp_ret (hret _ _ (en1 A rfl (res_tmp rfl) ?_))))
 exact ⟨by rw [← count_sound], M.bel⟩
theorem rsound_any {w : World} {t : Dt} (hrd : t.rd w) (hbk : t.tr.bulk ≤ 2000000) : Calls Tryz.prog 11 #[.agg t.cells.toArray] w fun e w' => e = .returned (.bool (soundT shapeT t.tr)) ∧ Below w.heap.size w w' := by
 obtain ⟨d, ts⟩ := t
 exact rsound_mk hrd hbk
end Go.Proofs.YtabjlejolmmeeaaGreatDoor.G
namespace Go.Proofs.YtabjlejolmmeeaaGreatDoor
open Go.RowKit
set_option linter.unusedVariables false
set_option linter.unusedSimpArgs false
set_option maxRecDepth 100000
theorem EqN_is1_22 : Is1 Tryz.prog 22 := ⟨⟨_, Tryz.underlying22, rfl⟩, by kernel_rfl⟩
theorem EqN_is1_4 : Is1 Tryz.prog 4 := ⟨⟨_, Tryz.underlying4, rfl⟩, by kernel_rfl⟩
theorem EqN_fld_24_0 : FieldAt Tryz.prog 24 0 0 := ⟨_, _, Tryz.underlying24, rfl, rfl, by kernel_rfl⟩
theorem EqN_fld_24_1 : FieldAt Tryz.prog 24 1 1 := ⟨_, _, Tryz.underlying24, rfl, rfl, by kernel_rfl⟩
theorem EqN_fld_24_2 : FieldAt Tryz.prog 24 2 2 := ⟨_, _, Tryz.underlying24, rfl, rfl, by kernel_rfl⟩
theorem EqN_fld_26_0 : FieldAt Tryz.prog 26 0 0 := ⟨_, _, Tryz.underlying26, rfl, rfl, by kernel_rfl⟩
theorem EqN_fld_26_1 : FieldAt Tryz.prog 26 1 3 := ⟨_, _, Tryz.underlying26, rfl, rfl, by kernel_rfl⟩
theorem EqN_isS_24 : IsS Tryz.prog 24 3 := ⟨⟨_, Tryz.underlying24⟩, by kernel_rfl⟩
theorem EqN_isS_26 : IsS Tryz.prog 26 6 := ⟨⟨_, Tryz.underlying26⟩, by kernel_rfl⟩
theorem rat_real (u : Rat) : Q6.rat u 0 = ⟨rb u.num, words u.num.natAbs, words u.den, false, [], [1]⟩ := by
  unfold Q6.rat
  have h0 : words (0 : Rat).num.natAbs = [] := by show words 0 = []; exact words_zero
  have h1 : words (0 : Rat).den = [1] := by show words 1 = [1]; exact words_one
  rw [h0, h1]
  rfl
theorem real_cmp {u x : Rat} (hu : fitR u) (hx : fitR x) : cmpQ ⟨rb u.num, words u.num.natAbs, words u.den, false, [], [1]⟩ ⟨rb x.num, words x.num.natAbs, words x.den, false, [], [1]⟩ = (cmpR u x, 0) := by
  rw [← rat_real, ← rat_real, cmpQ_rat hu hx]
theorem fit_zero : fitR 0 := by
  refine ⟨?_, ?_⟩
  · show (words 0).length ≤ 512; rw [words_zero]; decide
  · show (words 1).length ≤ 512; rw [words_one]; decide
theorem real_len {u : Rat} (hu : fitR u) : LenQ ⟨rb u.num, words u.num.natAbs, words u.den, false, [], [1]⟩ := by rw [← rat_real]; exact lenQ_rat hu fit_zero
theorem sameF_rat {u x : Rat} (h : sameF (rb u.num) (words u.num.natAbs) (words u.den) (rb x.num) (words x.num.natAbs) (words x.den) = true) : cmpR u x = 0 := by
  unfold sameF at h
  simp only [Bool.and_eq_true, beq_iff_eq, decide_eq_true_eq] at h
  rw [rat_ext h.1 h.2.1 h.2.2]
  unfold cmpR
  rw [if_neg Rat.lt_irrefl, if_pos rfl]
theorem esameFr_any {w : World} {b b' : Bool} {t q t' q' : List Nat} {a1 a2 : Option Addr} {ac1 ac2 : Nat} (ha1 : Sc w a1 ac1 t) (ha2 : Sc w a2 ac2 q) {u1 u2 : Option Addr} {uc1 uc2 : Nat} (hu1 : Sc w u1 uc1 t') (hu2 : Sc w u2 uc2 q') (l1 : t.length ≤ 9223372036854775807) (l2 : q.length ≤ 9223372036854775807) (l3 : t'.length ≤ 9223372036854775807) (l4 : q'.length ≤ 9223372036854775807) {r : Bool} (hr : sameF b t q b' t' q' = r) :
    Calls Tryz.prog 53 #[.agg #[.bool b, .slice a1 t.length ac1, .slice a2 q.length ac2], .agg #[.bool b', .slice u1 t'.length uc1, .slice u2 q'.length uc2]] w fun e w' => e = .returned (.bool r) ∧ Below w.heap.size w w' := by
 have hS : St w w [] [(u2, q'), (u1, t'), (a2, q), (a1, t)] [] := ((((St.start w).addR ha1.rd).addR ha2.rd).addR hu1.rd).addR hu2.rd
 refine walk_of (l := [(0, .agg #[.bool b, .slice a1 t.length ac1, .slice a2 q.length ac2]), (1, .agg #[.bool b', .slice u1 t'.length uc1, .slice u2 q'.length uc2])]) Tryz.func53 rfl Tryz.ntmps53 rfl rfl ?_
 intro Q hret hnorm hP a hA
 refine wp_seq_k (fun K1 hK1 => ?_)
 refine wp_region_lit ?_
 refine seq_new hA hS rfl rfl rfl (fun g => .pointer (some ⟨g, 0, none⟩)) (does_box rfl rfl) rfl ?_
 intro g2 w3 hS a hA
 refine seq_new hA hS rfl rfl rfl (fun g => .pointer (some ⟨g, 0, none⟩)) (does_box rfl rfl) rfl ?_
 intro g4 w5 hS a hA
 refine seq_do hA rfl rfl rfl (does_assign rfl) ?_
 intro a hA
 refine seq_end ?_
 refine hK1 _ _ ?_
 refine wp_seq_k (fun K6 hK6 => ?_)
 refine wp_region_lit ?_
 refine seq_do (v := .pointer (some ⟨g2, 0, none⟩)) hA rfl rfl rfl (does_field EqN_fld_24_0 rfl rfl) ?_
 intro a hA
 refine seq_do hA rfl rfl rfl (does_load1 hS EqN_is1_4 rfl 1 rfl rfl) ?_
 intro a hA
 refine seq_do (v := .pointer (some ⟨g4, 0, none⟩)) hA rfl rfl rfl (does_field EqN_fld_24_0 rfl rfl) ?_
 intro a hA
 refine seq_do hA rfl rfl rfl (does_load1 hS EqN_is1_4 rfl 0 rfl rfl) ?_
 intro a hA
 rcases Bool.eq_false_or_eq_true ((b == b')) with hb7 | hb7
 · have hb7' := eq_of_beq hb7
   refine seq_do (v := .bool true) hA rfl rfl rfl (does_bin rfl rfl (fun w => ((bin_eqlB Tryz.underlying4) w).trans (by rw [hb7]))) ?_
   intro a hA
   refine seq_do hA rfl rfl rfl (does_move rfl) ?_
   intro a hA
   refine seq_do (v := .pointer (some ⟨g2, 1, none⟩)) hA rfl rfl rfl (does_field EqN_fld_24_1 rfl rfl) ?_
   intro a hA
   refine seq_do hA rfl rfl rfl (does_load1 hS EqN_is1_22 rfl 1 rfl rfl) ?_
   intro a hA
   refine seq_do (v := .pointer (some ⟨g4, 1, none⟩)) hA rfl rfl rfl (does_field EqN_fld_24_1 rfl rfl) ?_
   intro a hA
   refine seq_do hA rfl rfl rfl (does_load1 hS EqN_is1_22 rfl 0 rfl rfl) ?_
   intro a hA
   rcases Bool.eq_false_or_eq_true (decide (t = t')) with hb8 | hb8
   · have hb8' := of_decide_eq_true hb8
     refine seq_call hA rfl rfl rfl (enters_func  rfl rfl (fun w => by kernel_rfl)) (equalB_any _ _ (hS.rd 3 rfl) (hS.rd 1 rfl) l1 l3 hb8) ?_
     rintro _ w10 ⟨rfl, hb9⟩
     replace hS := hS.call hb9
     refine ⟨_, rfl, ?_⟩
     intro a hA
     refine seq_do (v := .bool true) hA rfl rfl rfl (does_pick rfl rfl rfl rfl) ?_
     intro a hA
     refine seq_do hA rfl rfl rfl (does_move rfl) ?_
     intro a hA
     refine seq_do (v := .pointer (some ⟨g2, 2, none⟩)) hA rfl rfl rfl (does_field EqN_fld_24_2 rfl rfl) ?_
     intro a hA
     refine seq_do hA rfl rfl rfl (does_load1 hS EqN_is1_22 rfl 1 rfl rfl) ?_
     intro a hA
     refine seq_do (v := .pointer (some ⟨g4, 2, none⟩)) hA rfl rfl rfl (does_field EqN_fld_24_2 rfl rfl) ?_
     intro a hA
     refine seq_do hA rfl rfl rfl (does_load1 hS EqN_is1_22 rfl 0 rfl rfl) ?_
     intro a hA
     rcases Bool.eq_false_or_eq_true (decide (q = q')) with hb11 | hb11
     · have hb11' := of_decide_eq_true hb11
       refine seq_call hA rfl rfl rfl (enters_func  rfl rfl (fun w => by kernel_rfl)) (equalB_any _ _ (hS.rd 2 rfl) (hS.rd 0 rfl) l2 l4 hb11) ?_
       rintro _ w13 ⟨rfl, hb12⟩
       replace hS := hS.call hb12
       refine ⟨_, rfl, ?_⟩
       intro a hA
       refine seq_do (v := .bool true) hA rfl rfl rfl (does_pick rfl rfl rfl rfl) ?_
       intro a hA
       refine seq_do hA rfl rfl rfl (does_assign rfl) ?_
       intro a hA
       refine seq_end ?_
       refine hK6 _ _ ?_
       refine wp_ret ?_
       refine hret _ _ ?_
       refine ends (v := .bool true) hA rfl (.cons (res_tmp rfl) .nil) rfl ?_
       subst hr
       exact ⟨by unfold sameF; rw [hb7, hb8, hb11]; try rfl, hS.bel⟩
     · have hb11' := of_decide_eq_false hb11
       refine seq_call hA rfl rfl rfl (enters_func  rfl rfl (fun w => by kernel_rfl)) (equalB_any _ _ (hS.rd 2 rfl) (hS.rd 0 rfl) l2 l4 hb11) ?_
       rintro _ w15 ⟨rfl, hb14⟩
       replace hS := hS.call hb14
       refine ⟨_, rfl, ?_⟩
       intro a hA
       refine seq_do (v := .bool false) hA rfl rfl rfl (does_pick rfl rfl rfl rfl) ?_
       intro a hA
       refine seq_do hA rfl rfl rfl (does_assign rfl) ?_
       intro a hA
       refine seq_end ?_
       refine hK6 _ _ ?_
       refine wp_ret ?_
       refine hret _ _ ?_
       refine ends (v := .bool false) hA rfl (.cons (res_tmp rfl) .nil) rfl ?_
       subst hr
       exact ⟨by unfold sameF; rw [hb7, hb8, hb11]; try rfl, hS.bel⟩
   · have hb8' := of_decide_eq_false hb8
     refine seq_call hA rfl rfl rfl (enters_func  rfl rfl (fun w => by kernel_rfl)) (equalB_any _ _ (hS.rd 3 rfl) (hS.rd 1 rfl) l1 l3 hb8) ?_
     rintro _ w17 ⟨rfl, hb16⟩
     replace hS := hS.call hb16
     refine ⟨_, rfl, ?_⟩
     intro a hA
     refine seq_do (v := .bool false) hA rfl rfl rfl (does_pick rfl rfl rfl rfl) ?_
     intro a hA
     refine seq_do hA rfl rfl rfl (does_move rfl) ?_
     intro a hA
     refine seq_skip hA rfl rfl rfl ?_
     intro a hA
     refine seq_skip hA rfl rfl rfl ?_
     intro a hA
     refine seq_skip hA rfl rfl rfl ?_
     intro a hA
     refine seq_skip hA rfl rfl rfl ?_
     intro a hA
     refine seq_skip hA rfl rfl rfl ?_
     intro a hA
     refine seq_do (v := .bool false) hA rfl rfl rfl (does_pick rfl rfl rfl rfl) ?_
     intro a hA
     refine seq_do hA rfl rfl rfl (does_assign rfl) ?_
     intro a hA
     refine seq_end ?_
     refine hK6 _ _ ?_
     refine wp_ret ?_
     refine hret _ _ ?_
     refine ends (v := .bool false) hA rfl (.cons (res_tmp rfl) .nil) rfl ?_
     subst hr
     exact ⟨by unfold sameF; rw [hb7, hb8]; try rfl, hS.bel⟩
 · have hb7' := ne_of_beq_false hb7
   refine seq_do (v := .bool false) hA rfl rfl rfl (does_bin rfl rfl (fun w => ((bin_eqlB Tryz.underlying4) w).trans (by rw [hb7]))) ?_
   intro a hA
   refine seq_do hA rfl rfl rfl (does_move rfl) ?_
   intro a hA
   refine seq_skip hA rfl rfl rfl ?_
   intro a hA
   refine seq_skip hA rfl rfl rfl ?_
   intro a hA
   refine seq_skip hA rfl rfl rfl ?_
   intro a hA
   refine seq_skip hA rfl rfl rfl ?_
   intro a hA
   refine seq_skip hA rfl rfl rfl ?_
   intro a hA
   refine seq_do (v := .bool false) hA rfl rfl rfl (does_pick rfl rfl rfl rfl) ?_
   intro a hA
   refine seq_do hA rfl rfl rfl (does_move rfl) ?_
   intro a hA
   refine seq_skip hA rfl rfl rfl ?_
   intro a hA
   refine seq_skip hA rfl rfl rfl ?_
   intro a hA
   refine seq_skip hA rfl rfl rfl ?_
   intro a hA
   refine seq_skip hA rfl rfl rfl ?_
   intro a hA
   refine seq_skip hA rfl rfl rfl ?_
   intro a hA
   refine seq_do (v := .bool false) hA rfl rfl rfl (does_pick rfl rfl rfl rfl) ?_
   intro a hA
   refine seq_do hA rfl rfl rfl (does_assign rfl) ?_
   intro a hA
   refine seq_end ?_
   refine hK6 _ _ ?_
   refine wp_ret ?_
   refine hret _ _ ?_
   refine ends (v := .bool false) hA rfl (.cons (res_tmp rfl) .nil) rfl ?_
   subst hr
   exact ⟨by unfold sameF; rw [hb7]; try rfl, hS.bel⟩
theorem realN_any {w : World} {b : Bool} {t q : List Nat} {a1 a2 : Option Addr} {ac1 ac2 : Nat} (ha1 : Sc w a1 ac1 t) (ha2 : Sc w a2 ac2 q) : Calls Tryz.prog 55 #[.agg #[.bool b, .slice a1 t.length ac1, .slice a2 q.length ac2]] w (AnsV w ⟨b, t, q, false, [], [1]⟩) := by
 have hS : St w w [] [(a2, q), (a1, t)] [] := ((St.start w).addR ha1.rd).addR ha2.rd
 refine walk_of (l := [(0, .agg #[.bool b, .slice a1 t.length ac1, .slice a2 q.length ac2])]) Tryz.func55 rfl Tryz.ntmps55 rfl rfl ?_
 intro Q hret hnorm hP a hA
 refine wp_seq_k (fun K1 hK1 => ?_)
 refine wp_region_lit ?_
 refine seq_new hA hS rfl rfl rfl (fun g => .pointer (some ⟨g, 0, none⟩)) (does_box rfl rfl) rfl ?_
 intro g2 w3 hS a hA
 refine seq_new (vs := [.bool false, .slice none 0 0, .slice none 0 0, .bool false, .slice none 0 0, .slice none 0 0]) (t := 26) hA hS rfl rfl rfl (fun g => .pointer (some ⟨g, 0, none⟩)) (does_alloc (z := .agg #[.bool false, .slice none 0 0, .slice none 0 0, .bool false, .slice none 0 0, .slice none 0 0]) (by kernel_rfl) rfl) rfl ?_
 intro g4 w5 hS a hA
 refine seq_end ?_
 refine hK1 _ _ ?_
 refine wp_seq_k (fun K6 hK6 => ?_)
 refine wp_draw (S := fun w1 => St w w1 [(g2, [.bool b, .slice a1 t.length ac1, .slice a2 q.length ac2])] [(a2, q), (a1, t)] []) (by kernel_rfl) ?_
 replace hS := hS.drew
 refine any_tk hA 0 rfl rfl rfl rfl hP (hS.partD (.cons _ (.cons_cons _ .slnil)) 0 rfl (.refl _)) (fun w1 hS => does_loadS hS EqN_isS_24 rfl 0 rfl (cs := [.bool b, .slice a1 t.length ac1, .slice a2 q.length ac2]) rfl rfl) ?_
 intro a hA
 refine any_one (by kernel_rfl) (op_call hA 1 rfl rfl rfl rfl (enters_func  rfl rfl (fun w => by kernel_rfl)) ((show Calls Tryz.prog 74 #[.int .i64 (0)] _ (AnsV _ (Q6.whole false 0)) from intP_any (k := 0) (by decide))) ?_)
 rintro _ w10 ⟨p7_1, p7_c1, p7_2, p7_c2, p7_3, p7_c3, p7_4, p7_c4, rfl, hn8, hb9⟩
 replace hS := hS.call hb9
 replace hS := hS.addR hn8.s1.rd
 replace hS := hS.addR hn8.s2.rd
 replace hS := hS.addR hn8.s3.rd
 replace hS := hS.addR hn8.s4.rd
 refine ⟨_, rfl, (hS.partD (.cons _ (.cons_cons _ .slnil)) 4 rfl (.refl _)), ?_⟩
 intro a hA
 refine any_tk (v := .agg #[.bool false, .slice p7_3 0 p7_c3, .slice p7_4 1 p7_c4]) hA 2 rfl rfl rfl rfl hP (hS.partD (.cons _ (.cons_cons _ .slnil)) 4 rfl (.refl _)) (fun w1 hS => does_fieldV rfl (fun w => by kernel_rfl)) ?_
 intro a hA
 refine any_tk (v := .agg #[.bool b, .slice a1 t.length ac1, .slice a2 q.length ac2, .bool false, .slice p7_3 0 p7_c3, .slice p7_4 1 p7_c4]) hA 3 rfl rfl rfl rfl hP (hS.partD (.cons _ (.cons_cons _ .slnil)) 4 rfl (.refl _)) (fun w1 hS => does_build rfl (fun w => by kernel_rfl)) ?_
 intro a hA
 refine any_one (by kernel_rfl) (op_store (us := [.bool b, .slice a1 t.length ac1, .slice a2 q.length ac2, .bool false, .slice p7_3 0 p7_c3, .slice p7_4 1 p7_c4]) hA hS 4 rfl rfl rfl (sets_store rfl rfl rfl (by kernel_rfl) hS 0 rfl rfl rfl) 0 rfl rfl rfl rfl ?_)
 intro w11 hS
 refine ⟨(hS.partD (.cons _ (.cons_cons _ .slnil)) 4 rfl (.refl _)), ?_⟩
 refine any_end (by kernel_rfl) ?_
 refine hK6 _ _ ?_
 refine wp_ret ?_
 refine hret _ _ ?_
 refine ends (v := .agg #[.bool b, .slice a1 t.length ac1, .slice a2 q.length ac2, .bool false, .slice p7_3 0 p7_c3, .slice p7_4 1 p7_c4]) hA rfl (.cons (res_cell hS EqN_isS_26 rfl 0 rfl (cs := [.bool b, .slice a1 t.length ac1, .slice a2 q.length ac2, .bool false, .slice p7_3 0 p7_c3, .slice p7_4 1 p7_c4]) rfl rfl) .nil) rfl ?_
 exact ⟨a1, ac1, a2, ac2, p7_3, p7_c3, p7_4, p7_c4, rfl, ⟨⟨(hS.rd 5 rfl), ha1.nil, ha1.cap⟩, ⟨(hS.rd 4 rfl), ha2.nil, ha2.cap⟩, ⟨(hS.rd 1 rfl), hn8.s3.nil, hn8.s3.cap⟩, ⟨(hS.rd 0 rfl), hn8.s4.nil, hn8.s4.cap⟩⟩, hS.bel⟩
theorem ordFr_any {w : World} {u x : Rat} (hu : fitR u) (hx : fitR x) {a1 a2 : Option Addr} {ac1 ac2 : Nat} (ha1 : Sc w a1 ac1 (words u.num.natAbs)) (ha2 : Sc w a2 ac2 (words u.den)) {e1 e2 : Option Addr} {ec1 ec2 : Nat} (he1 : Sc w e1 ec1 (words x.num.natAbs)) (he2 : Sc w e2 ec2 (words x.den)) : Calls Tryz.prog 39 #[.agg #[.bool ((rb u.num)), .slice a1 (words u.num.natAbs).length ac1, .slice a2 (words u.den).length ac2], .agg #[.bool ((rb x.num)), .slice e1 (words x.num.natAbs).length ec1, .slice e2 (words x.den).length ec2]] w fun e w' => e = .returned (.int .i64 (cmpR u x)) ∧ Below w.heap.size w w' := by
 have hS : St w w [] [(e2, words x.den), (e1, words x.num.natAbs), (a2, words u.den), (a1, words u.num.natAbs)] [] := ((((St.start w).addR ha1.rd).addR ha2.rd).addR he1.rd).addR he2.rd
 refine walk_of (l := [(0, .agg #[.bool ((rb u.num)), .slice a1 ((words u.num.natAbs).length) ac1, .slice a2 ((words u.den).length) ac2]), (1, .agg #[.bool ((rb x.num)), .slice e1 ((words x.num.natAbs).length) ec1, .slice e2 ((words x.den).length) ec2])]) Tryz.func39 rfl Tryz.ntmps39 rfl rfl ?_
 intro Q hret hnorm hP a hA
 refine wp_seq_k (fun K1 hK1 => ?_)
 refine wp_region_lit ?_
 refine seq_new hA hS rfl rfl rfl (fun g => .pointer (some ⟨g, 0, none⟩)) (does_box rfl rfl) rfl ?_
 intro g2 w3 hS a hA
 refine seq_new hA hS rfl rfl rfl (fun g => .pointer (some ⟨g, 0, none⟩)) (does_box rfl rfl) rfl ?_
 intro g4 w5 hS a hA
 refine seq_do hA rfl rfl rfl (does_assign rfl) ?_
 intro a hA
 refine seq_end ?_
 refine hK1 _ _ ?_
 refine wp_seq_k (fun K6 hK6 => ?_)
 refine wp_seq_k (fun K7 hK7 => ?_)
 refine wp_region_lit ?_
 refine seq_do hA rfl rfl rfl (does_loadS hS EqN_isS_24 rfl 1 rfl (cs := [.bool ((rb u.num)), .slice a1 ((words u.num.natAbs).length) ac1, .slice a2 ((words u.den).length) ac2]) rfl rfl) ?_
 intro a hA
 refine seq_do hA rfl rfl rfl (does_loadS hS EqN_isS_24 rfl 0 rfl (cs := [.bool ((rb x.num)), .slice e1 ((words x.num.natAbs).length) ec1, .slice e2 ((words x.den).length) ec2]) rfl rfl) ?_
 intro a hA
 rcases Bool.eq_false_or_eq_true (sameF (rb u.num) (words u.num.natAbs) (words u.den) (rb x.num) (words x.num.natAbs) (words x.den)) with hb8 | hb8
 · refine seq_call hA rfl rfl rfl (enters_func  rfl rfl (fun w => by kernel_rfl)) (esameFr_any ⟨(hS.rd 3 rfl), ha1.nil, ha1.cap⟩ ⟨(hS.rd 2 rfl), ha2.nil, ha2.cap⟩ ⟨(hS.rd 1 rfl), he1.nil, he1.cap⟩ ⟨(hS.rd 0 rfl), he2.nil, he2.cap⟩ (Nat.le_trans hu.1 (by decide)) (Nat.le_trans hu.2 (by decide)) (Nat.le_trans hx.1 (by decide)) (Nat.le_trans hx.2 (by decide)) hb8) ?_
   rintro _ w10 ⟨rfl, hb9⟩
   replace hS := hS.call hb9
   refine ⟨_, rfl, ?_⟩
   intro a hA
   refine seq_end ?_
   refine hK7 _ _ ?_
   refine wp_cond_true (hA.ev rfl) ?_
   refine wp_seq_k (fun K11 hK11 => ?_)
   refine wp_region_lit ?_
   refine seq_do hA rfl rfl rfl (does_assign rfl) ?_
   intro a hA
   refine seq_end ?_
   refine hK11 _ _ ?_
   refine wp_ret ?_
   refine hret _ _ ?_
   refine ends (v := .int .i64 0) hA rfl (.cons (res_tmp rfl) .nil) rfl ?_
   exact ⟨by rw [sameF_rat hb8], hS.bel⟩
 · refine seq_call hA rfl rfl rfl (enters_func  rfl rfl (fun w => by kernel_rfl)) (esameFr_any ⟨(hS.rd 3 rfl), ha1.nil, ha1.cap⟩ ⟨(hS.rd 2 rfl), ha2.nil, ha2.cap⟩ ⟨(hS.rd 1 rfl), he1.nil, he1.cap⟩ ⟨(hS.rd 0 rfl), he2.nil, he2.cap⟩ (Nat.le_trans hu.1 (by decide)) (Nat.le_trans hu.2 (by decide)) (Nat.le_trans hx.1 (by decide)) (Nat.le_trans hx.2 (by decide)) hb8) ?_
   rintro _ w13 ⟨rfl, hb12⟩
   replace hS := hS.call hb12
   refine ⟨_, rfl, ?_⟩
   intro a hA
   refine seq_end ?_
   refine hK7 _ _ ?_
   refine wp_cond_false (hA.ev rfl) ?_
   refine wp_skip ?_
   refine hK6 _ _ ?_
   refine wp_seq_k (fun K14 hK14 => ?_)
   refine wp_draw (S := fun w1 => St w w1 [(g4, [.bool ((rb x.num)), .slice e1 ((words x.num.natAbs).length) ec1, .slice e2 ((words x.den).length) ec2]), (g2, [.bool ((rb u.num)), .slice a1 ((words u.num.natAbs).length) ac1, .slice a2 ((words u.den).length) ac2])] [(e2, words x.den), (e1, words x.num.natAbs), (a2, words u.den), (a1, words u.num.natAbs)] []) (by kernel_rfl) ?_
   replace hS := hS.drew
   refine any_tk hA 0 rfl rfl rfl rfl hP hS (fun w1 hS => does_loadS hS EqN_isS_24 rfl 1 rfl (cs := [.bool ((rb u.num)), .slice a1 ((words u.num.natAbs).length) ac1, .slice a2 ((words u.den).length) ac2]) rfl rfl) ?_
   intro a hA
   refine any_tk hA 2 rfl rfl rfl rfl hP hS (fun w1 hS => does_loadS hS EqN_isS_24 rfl 0 rfl (cs := [.bool ((rb x.num)), .slice e1 ((words x.num.natAbs).length) ec1, .slice e2 ((words x.den).length) ec2]) rfl rfl) ?_
   intro a hA
   refine any_one (by kernel_rfl) (op_call hA 1 rfl rfl rfl rfl (enters_func  rfl rfl (fun w => by kernel_rfl)) (realN_any ⟨(hS.rd 3 rfl), ha1.nil, ha1.cap⟩ ⟨(hS.rd 2 rfl), ha2.nil, ha2.cap⟩) ?_)
   rintro _ w18 ⟨p15_1, p15_c1, p15_2, p15_c2, p15_3, p15_c3, p15_4, p15_c4, rfl, hn16, hb17⟩
   replace hS := hS.call hb17
   replace hS := hS.addR hn16.s1.rd
   replace hS := hS.addR hn16.s2.rd
   replace hS := hS.addR hn16.s3.rd
   replace hS := hS.addR hn16.s4.rd
   refine ⟨_, rfl, (hS.partD (.refl _) 4 rfl (.refl _)), ?_⟩
   intro a hA
   refine any_one (by kernel_rfl) (op_call hA 3 rfl rfl rfl rfl (enters_func  rfl rfl (fun w => by kernel_rfl)) (realN_any ⟨(hS.rd 5 rfl), he1.nil, he1.cap⟩ ⟨(hS.rd 4 rfl), he2.nil, he2.cap⟩) ?_)
   rintro _ w22 ⟨p19_1, p19_c1, p19_2, p19_c2, p19_3, p19_c3, p19_4, p19_c4, rfl, hn20, hb21⟩
   replace hS := hS.call hb21
   replace hS := hS.addR hn20.s1.rd
   replace hS := hS.addR hn20.s2.rd
   replace hS := hS.addR hn20.s3.rd
   replace hS := hS.addR hn20.s4.rd
   refine ⟨_, rfl, (hS.partD (.refl _) 8 rfl (.refl _)), ?_⟩
   intro a hA
   refine any_one (by kernel_rfl) (op_call hA 4 rfl rfl rfl rfl (enters_func  rfl rfl (fun w => by kernel_rfl)) (((real_cmp hu hx) ▸ cmpQ_any (show Nm _ ⟨rb u.num, words u.num.natAbs, words u.den, false, [], [1]⟩ p15_1 p15_c1 p15_2 p15_c2 p15_3 p15_c3 p15_4 p15_c4 from ⟨⟨(hS.rd 7 rfl), hn16.s1.nil, hn16.s1.cap⟩, ⟨(hS.rd 6 rfl), hn16.s2.nil, hn16.s2.cap⟩, ⟨(hS.rd 5 rfl), hn16.s3.nil, hn16.s3.cap⟩, ⟨(hS.rd 4 rfl), hn16.s4.nil, hn16.s4.cap⟩⟩) (real_len hu) (show Nm _ ⟨rb x.num, words x.num.natAbs, words x.den, false, [], [1]⟩ p19_1 p19_c1 p19_2 p19_c2 p19_3 p19_c3 p19_4 p19_c4 from ⟨⟨(hS.rd 3 rfl), hn20.s1.nil, hn20.s1.cap⟩, ⟨(hS.rd 2 rfl), hn20.s2.nil, hn20.s2.cap⟩, ⟨(hS.rd 1 rfl), hn20.s3.nil, hn20.s3.cap⟩, ⟨(hS.rd 0 rfl), hn20.s4.nil, hn20.s4.cap⟩⟩) (real_len hx))) ?_)
   rintro _ w24 ⟨rfl, hb23⟩
   replace hS := hS.call hb23
   refine ⟨_, rfl, (hS.partD (.refl _) 8 rfl (.refl _)), ?_⟩
   intro a hA
   refine any_tk hA 5 rfl rfl rfl rfl hP (hS.partD (.refl _) 8 rfl (.refl _)) (fun w1 hS => does_move rfl) ?_
   intro a hA
   refine any_tk (v := .int .i64 (cmpR u x)) hA 6 rfl rfl rfl rfl hP (hS.partD (.refl _) 8 rfl (.refl _)) (fun w1 hS => does_extract (vs := [.int .i64 (cmpR u x), .int .i64 0]) rfl rfl) ?_
   intro a hA
   refine any_tk (v := .int .i64 0) hA 7 rfl rfl rfl rfl hP (hS.partD (.refl _) 8 rfl (.refl _)) (fun w1 hS => does_extract (vs := [.int .i64 (cmpR u x), .int .i64 0]) rfl rfl) ?_
   intro a hA
   refine any_tk hA 8 rfl rfl rfl rfl hP (hS.partD (.refl _) 8 rfl (.refl _)) (fun w1 hS => does_assign rfl) ?_
   intro a hA
   refine any_tk hA 9 rfl rfl rfl rfl hP (hS.partD (.refl _) 8 rfl (.refl _)) (fun w1 hS => does_assign rfl) ?_
   intro a hA
   refine any_end (by kernel_rfl) ?_
   refine hK14 _ _ ?_
   refine wp_seq_k (fun K25 hK25 => ?_)
   refine wp_region_lit ?_
   refine seq_do hA rfl rfl rfl (does_move rfl) ?_
   intro a hA
   refine seq_do hA rfl rfl rfl (does_assign rfl) ?_
   intro a hA
   refine seq_end ?_
   refine hK25 _ _ ?_
   refine wp_ret ?_
   refine hret _ _ ?_
   refine ends (v := .int .i64 (cmpR u x)) hA rfl (.cons (res_tmp rfl) .nil) rfl ?_
   exact ⟨rfl, hS.bel⟩
theorem ordNum_any {w : World} {u v x y : Rat} {a1 a2 a3 a4 : Option Addr} {ac1 ac2 ac3 ac4 : Nat} (ha : Nm w (Q6.rat u v) a1 ac1 a2 ac2 a3 ac3 a4 ac4) {u1 u2 u3 u4 : Option Addr} {uc1 uc2 uc3 uc4 : Nat} (hb : Nm w (Q6.rat x y) u1 uc1 u2 uc2 u3 uc3 u4 uc4) (hu : fitR u) (hv : fitR v) (hx : fitR x) (hy : fitR y) : Calls Tryz.prog 21 #[numV (Q6.rat u v) a1 ac1 a2 ac2 a3 ac3 a4 ac4, numV (Q6.rat x y) u1 uc1 u2 uc2 u3 uc3 u4 uc4] w fun e w' => e = .returned (.int .i64 (if cmpR u x = 0 then cmpR v y else cmpR u x)) ∧ Below w.heap.size w w' := by
 have hS : St w w [] [(u4, words y.den), (u3, words y.num.natAbs), (u2, words x.den), (u1, words x.num.natAbs), (a4, words v.den), (a3, words v.num.natAbs), (a2, words u.den), (a1, words u.num.natAbs)] [] := ((((((((St.start w).addR ha.s1.rd).addR ha.s2.rd).addR ha.s3.rd).addR ha.s4.rd).addR hb.s1.rd).addR hb.s2.rd).addR hb.s3.rd).addR hb.s4.rd
 refine walk_of (l := [(0, .agg #[.bool (rb u.num), .slice a1 ((words u.num.natAbs).length) ac1, .slice a2 ((words u.den).length) ac2, .bool (rb v.num), .slice a3 ((words v.num.natAbs).length) ac3, .slice a4 ((words v.den).length) ac4]), (1, .agg #[.bool (rb x.num), .slice u1 ((words x.num.natAbs).length) uc1, .slice u2 ((words x.den).length) uc2, .bool (rb y.num), .slice u3 ((words y.num.natAbs).length) uc3, .slice u4 ((words y.den).length) uc4])]) Tryz.func21 rfl Tryz.ntmps21 rfl rfl ?_
 intro Q hret hnorm hP a hA
 refine wp_seq_k (fun K1 hK1 => ?_)
 refine wp_region_lit ?_
 refine seq_new hA hS rfl rfl rfl (fun g => .pointer (some ⟨g, 0, none⟩)) (does_box rfl rfl) rfl ?_
 intro g2 w3 hS a hA
 refine seq_new hA hS rfl rfl rfl (fun g => .pointer (some ⟨g, 0, none⟩)) (does_box rfl rfl) rfl ?_
 intro g4 w5 hS a hA
 refine seq_do hA rfl rfl rfl (does_assign rfl) ?_
 intro a hA
 refine seq_end ?_
 refine hK1 _ _ ?_
 refine wp_seq_k (fun K6 hK6 => ?_)
 refine wp_seq_k (fun K7 hK7 => ?_)
 refine wp_region_lit ?_
 refine seq_do (v := .pointer (some ⟨g2, 0, none⟩)) hA rfl rfl rfl (does_field EqN_fld_26_0 rfl rfl) ?_
 intro a hA
 refine seq_do hA rfl rfl rfl (does_loadS hS EqN_isS_24 rfl 1 rfl (cs := [.bool (rb u.num), .slice a1 ((words u.num.natAbs).length) ac1, .slice a2 ((words u.den).length) ac2]) rfl rfl) ?_
 intro a hA
 refine seq_do (v := .pointer (some ⟨g4, 0, none⟩)) hA rfl rfl rfl (does_field EqN_fld_26_0 rfl rfl) ?_
 intro a hA
 refine seq_do hA rfl rfl rfl (does_loadS hS EqN_isS_24 rfl 0 rfl (cs := [.bool (rb x.num), .slice u1 ((words x.num.natAbs).length) uc1, .slice u2 ((words x.den).length) uc2]) rfl rfl) ?_
 intro a hA
 refine seq_call hA rfl rfl rfl (enters_func  rfl rfl (fun w => by kernel_rfl)) (ordFr_any hu hx ⟨(hS.rd 7 rfl), ha.s1.nil, ha.s1.cap⟩ ⟨(hS.rd 6 rfl), ha.s2.nil, ha.s2.cap⟩ ⟨(hS.rd 3 rfl), hb.s1.nil, hb.s1.cap⟩ ⟨(hS.rd 2 rfl), hb.s2.nil, hb.s2.cap⟩) ?_
 rintro _ w9 ⟨rfl, hb8⟩
 replace hS := hS.call hb8
 refine ⟨_, rfl, ?_⟩
 intro a hA
 refine seq_do hA rfl rfl rfl (does_assign rfl) ?_
 intro a hA
 refine seq_end ?_
 refine hK7 _ _ ?_
 refine wp_seq_k (fun K10 hK10 => ?_)
 refine wp_region_lit ?_
 refine seq_do hA rfl rfl rfl (does_move rfl) ?_
 intro a hA
 rcases Bool.eq_false_or_eq_true ((cmpR u x != 0)) with hb11 | hb11
 · have hb11' := bne_iff_ne.1 hb11
   refine seq_do (v := .bool true) hA rfl rfl rfl (does_bin rfl rfl (fun w => (bin_neq w).trans (by rw [hb11]))) ?_
   intro a hA
   refine seq_end ?_
   refine hK10 _ _ ?_
   refine wp_cond_true (hA.ev rfl) ?_
   refine wp_seq_k (fun K12 hK12 => ?_)
   refine wp_region_lit ?_
   refine seq_do hA rfl rfl rfl (does_move rfl) ?_
   intro a hA
   refine seq_do hA rfl rfl rfl (does_assign rfl) ?_
   intro a hA
   refine seq_end ?_
   refine hK12 _ _ ?_
   refine wp_ret ?_
   refine hret _ _ ?_
   refine ends (v := .int .i64 (cmpR u x)) hA rfl (.cons (res_tmp rfl) .nil) rfl ?_
   exact ⟨by rw [if_neg hb11'], hS.bel⟩
 · have hb11' := bne_eq_false_iff_eq.1 hb11
   refine seq_do (v := .bool false) hA rfl rfl rfl (does_bin rfl rfl (fun w => (bin_neq w).trans (by rw [hb11]))) ?_
   intro a hA
   refine seq_end ?_
   refine hK10 _ _ ?_
   refine wp_cond_false (hA.ev rfl) ?_
   refine wp_skip ?_
   refine hK6 _ _ ?_
   refine wp_seq_k (fun K13 hK13 => ?_)
   refine wp_region_lit ?_
   refine seq_do (v := .pointer (some ⟨g2, 3, none⟩)) hA rfl rfl rfl (does_field EqN_fld_26_1 rfl rfl) ?_
   intro a hA
   refine seq_do hA rfl rfl rfl (does_loadS hS EqN_isS_24 rfl 1 rfl (cs := [.bool (rb v.num), .slice a3 ((words v.num.natAbs).length) ac3, .slice a4 ((words v.den).length) ac4]) rfl rfl) ?_
   intro a hA
   refine seq_do (v := .pointer (some ⟨g4, 3, none⟩)) hA rfl rfl rfl (does_field EqN_fld_26_1 rfl rfl) ?_
   intro a hA
   refine seq_do hA rfl rfl rfl (does_loadS hS EqN_isS_24 rfl 0 rfl (cs := [.bool (rb y.num), .slice u3 ((words y.num.natAbs).length) uc3, .slice u4 ((words y.den).length) uc4]) rfl rfl) ?_
   intro a hA
   refine seq_call hA rfl rfl rfl (enters_func  rfl rfl (fun w => by kernel_rfl)) (ordFr_any hv hy ⟨(hS.rd 5 rfl), ha.s3.nil, ha.s3.cap⟩ ⟨(hS.rd 4 rfl), ha.s4.nil, ha.s4.cap⟩ ⟨(hS.rd 1 rfl), hb.s3.nil, hb.s3.cap⟩ ⟨(hS.rd 0 rfl), hb.s4.nil, hb.s4.cap⟩) ?_
   rintro _ w15 ⟨rfl, hb14⟩
   replace hS := hS.call hb14
   refine ⟨_, rfl, ?_⟩
   intro a hA
   refine seq_do hA rfl rfl rfl (does_assign rfl) ?_
   intro a hA
   refine seq_end ?_
   refine hK13 _ _ ?_
   refine wp_ret ?_
   refine hret _ _ ?_
   refine ends (v := .int .i64 (cmpR v y)) hA rfl (.cons (res_tmp rfl) .nil) rfl ?_
   exact ⟨by rw [if_pos hb11'], hS.bel⟩
end Go.Proofs.YtabjlejolmmeeaaGreatDoor
namespace Go.Proofs.YtabjlejolmmeeaaGreatDoor.G
open Go.RowKit
set_option linter.unusedVariables false
set_option linter.unusedSimpArgs false
set_option maxRecDepth 100000
theorem nan_any {w : World} {n : Int} : Calls Tryz.prog 38 #[.int .i64 n] w fun e w' => e = .returned (.bool false) ∧ Below w.heap.size w w' := by
 have hM : Mg w w ([]) := Mg.start w
 refine walk_of (l := [(0, .int .i64 n)]) Tryz.func38 rfl Tryz.ntmps38 rfl rfl ?_
 intro Q hret hnorm hP a hA
 refine wp_seq_k (fun K1 hK1 => ?_)
 refine wp_region_lit ?_
 refine seq_do hA rfl rfl rfl (does_assign rfl) ?_
 intro a hA
 refine seq_end ?_
 refine hK1 _ _ ?_
 refine wp_seq_k (fun K2 hK2 => ?_)
 refine wp_region_lit ?_
 refine seq_do hA rfl rfl rfl (does_move rfl) ?_
 intro a hA
 refine seq_do hA rfl rfl rfl (does_move rfl) ?_
 intro a hA
 refine seq_do (v := .bool false) hA rfl rfl rfl (does_bin rfl rfl (fun w => (bin_neq w).trans (by rw [show ((n != n)) = false from (bne_self_eq_false n)]))) ?_
 intro a hA
 refine seq_do hA rfl rfl rfl (does_assign rfl) ?_
 intro a hA
 refine seq_end ?_
 refine hK2 _ _ ?_
 refine wp_ret ?_
 refine hret _ _ ?_
 refine ends (v := .bool false) hA rfl (.cons (res_tmp rfl) .nil) rfl ?_
 exact ⟨rfl, hM.bel⟩
theorem cmpi_any {w : World} {m n : Int} : Calls Tryz.prog 20 #[.int .i64 m, .int .i64 n] w fun e w' => e = .returned (.int .i64 (cmpI m n)) ∧ Below w.heap.size w w' := by
 have hM : Mg w w ([]) := Mg.start w
 refine walk_of (l := [(0, .int .i64 m), (1, .int .i64 n)]) Tryz.func20 rfl Tryz.ntmps20 rfl rfl ?_
 intro Q hret hnorm hP a hA
 refine wp_seq_k (fun K1 hK1 => ?_)
 refine wp_region_lit ?_
 refine seq_do hA rfl rfl rfl (does_assign rfl) ?_
 intro a hA
 refine seq_end ?_
 refine hK1 _ _ ?_
 refine wp_seq_k (fun K2 hK2 => ?_)
 refine wp_region_lit ?_
 refine seq_do hA rfl rfl rfl (does_move rfl) ?_
 intro a hA
 refine seq_call hA rfl rfl rfl (enters_func rfl rfl (fun w => by kernel_rfl)) (nan_any) ?_
 rintro _ w4 ⟨rfl, hb3⟩
 replace hM := hM.call hb3
 refine ⟨_, rfl, ?_⟩
 intro a hA
 refine seq_do hA rfl rfl rfl (does_assign rfl) ?_
 intro a hA
 refine seq_end ?_
 refine hK2 _ _ ?_
 refine wp_seq_k (fun K5 hK5 => ?_)
 refine wp_region_lit ?_
 refine seq_do hA rfl rfl rfl (does_move rfl) ?_
 intro a hA
 refine seq_call hA rfl rfl rfl (enters_func rfl rfl (fun w => by kernel_rfl)) (nan_any) ?_
 rintro _ w7 ⟨rfl, hb6⟩
 replace hM := hM.call hb6
 refine ⟨_, rfl, ?_⟩
 intro a hA
 refine seq_do hA rfl rfl rfl (does_assign rfl) ?_
 intro a hA
 refine seq_end ?_
 refine hK5 _ _ ?_
 refine wp_seq_k (fun K8 hK8 => ?_)
 refine wp_seq_k (fun K9 hK9 => ?_)
 refine wp_region_lit ?_
 refine seq_do hA rfl rfl rfl (does_move rfl) ?_
 intro a hA
 refine seq_end ?_
 refine hK9 _ _ ?_
 refine wp_cond_false (hA.ev rfl) ?_
 refine wp_skip ?_
 refine hK8 _ _ ?_
 refine wp_seq_k (fun K10 hK10 => ?_)
 refine wp_seq_k (fun K11 hK11 => ?_)
 refine wp_region_lit ?_
 refine seq_do hA rfl rfl rfl (does_move rfl) ?_
 intro a hA
 refine seq_end ?_
 refine hK11 _ _ ?_
 refine wp_cond_false (hA.ev rfl) ?_
 refine wp_skip ?_
 refine hK10 _ _ ?_
 refine wp_seq_k (fun K12 hK12 => ?_)
 refine wp_seq_k (fun K13 hK13 => ?_)
 refine wp_region_lit ?_
 refine seq_do hA rfl rfl rfl (does_move rfl) ?_
 intro a hA
 refine seq_do hA rfl rfl rfl (does_move rfl) ?_
 intro a hA
 rcases Bool.eq_false_or_eq_true (decide (m < n)) with hb14 | hb14
 · have hb14' := of_decide_eq_true hb14
   refine seq_do (v := .bool true) hA rfl rfl rfl (does_bin rfl rfl (fun w => (bin_lss w).trans (by rw [hb14]))) ?_
   intro a hA
   refine seq_end ?_
   refine hK13 _ _ ?_
   refine wp_cond_true (hA.ev rfl) ?_
   refine wp_seq_k (fun K15 hK15 => ?_)
   refine wp_region_lit ?_
   refine seq_do hA rfl rfl rfl (does_assign rfl) ?_
   intro a hA
   refine seq_end ?_
   refine hK15 _ _ ?_
   refine wp_ret ?_
   refine hret _ _ ?_
   refine ends (v := .int .i64 (-1)) hA rfl (.cons (res_tmp rfl) .nil) rfl ?_
   exact ⟨by rw [show cmpI m n = -1 from by unfold cmpI; (repeat' split) <;> omega], hM.bel⟩
 · have hb14' := of_decide_eq_false hb14
   refine seq_do (v := .bool false) hA rfl rfl rfl (does_bin rfl rfl (fun w => (bin_lss w).trans (by rw [hb14]))) ?_
   intro a hA
   refine seq_end ?_
   refine hK13 _ _ ?_
   refine wp_cond_false (hA.ev rfl) ?_
   refine wp_skip ?_
   refine hK12 _ _ ?_
   refine wp_seq_k (fun K16 hK16 => ?_)
   refine wp_seq_k (fun K17 hK17 => ?_)
   refine wp_region_lit ?_
   refine seq_do hA rfl rfl rfl (does_move rfl) ?_
   intro a hA
   refine seq_do hA rfl rfl rfl (does_move rfl) ?_
   intro a hA
   rcases Bool.eq_false_or_eq_true (decide (n < m)) with hb18 | hb18
   · have hb18' := of_decide_eq_true hb18
     refine seq_do (v := .bool true) hA rfl rfl rfl (does_bin rfl rfl (fun w => (bin_gtr w).trans (by rw [hb18]))) ?_
     intro a hA
     refine seq_end ?_
     refine hK17 _ _ ?_
     refine wp_cond_true (hA.ev rfl) ?_
     refine wp_seq_k (fun K19 hK19 => ?_)
     refine wp_region_lit ?_
     refine seq_do hA rfl rfl rfl (does_assign rfl) ?_
     intro a hA
     refine seq_end ?_
     refine hK19 _ _ ?_
     refine wp_ret ?_
     refine hret _ _ ?_
     refine ends (v := .int .i64 1) hA rfl (.cons (res_tmp rfl) .nil) rfl ?_
     exact ⟨by rw [show cmpI m n = 1 from by unfold cmpI; (repeat' split) <;> omega], hM.bel⟩
   · have hb18' := of_decide_eq_false hb18
     refine seq_do (v := .bool false) hA rfl rfl rfl (does_bin rfl rfl (fun w => (bin_gtr w).trans (by rw [hb18]))) ?_
     intro a hA
     refine seq_end ?_
     refine hK17 _ _ ?_
     refine wp_cond_false (hA.ev rfl) ?_
     refine wp_skip ?_
     refine hK16 _ _ ?_
     refine wp_seq_k (fun K20 hK20 => ?_)
     refine wp_region_lit ?_
     refine seq_do hA rfl rfl rfl (does_assign rfl) ?_
     intro a hA
     refine seq_end ?_
     refine hK20 _ _ ?_
     refine wp_ret ?_
     refine hret _ _ ?_
     refine ends (v := .int .i64 0) hA rfl (.cons (res_tmp rfl) .nil) rfl ?_
     exact ⟨by rw [show cmpI m n = 0 from by unfold cmpI; (repeat' split) <;> omega], hM.bel⟩
theorem ordQ_any {w : World} {y z : Nu} (hy : y.nm w) (hz : z.nm w) (h1 : ratQ y.q) (h2 : ratQ z.q) : Calls Tryz.prog 21 #[y.val, z.val] w fun e w' => e = .returned (.int .i64 (ordN y.q z.q)) ∧ Below w.heap.size w w' := by
  obtain ⟨q, o1, c1, o2, c2, o3, c3, o4, c4⟩ := y
  obtain ⟨q', p1, d1, p2, d2, p3, d3, p4, d4⟩ := z
  obtain ⟨u, v, rfl, hu, hv⟩ := h1
  obtain ⟨x, y, rfl, hx, hy'⟩ := h2
  refine (ordNum_any hy hz hu hv hx hy').mono fun e w' ⟨h, b⟩ => ⟨h.trans ?_, b⟩
  unfold ordN lex
  rw [reQ_rat, reQ_rat, imQ_rat, imQ_rat]
theorem EqB_is1_27 : Is1 Tryz.prog 27 := ⟨⟨_, Tryz.underlying27, rfl⟩, by kernel_rfl⟩
theorem EqB_is1_28 : Is1 Tryz.prog 28 := ⟨⟨_, Tryz.underlying28, rfl⟩, by kernel_rfl⟩
theorem EqB_is1_3 : Is1 Tryz.prog 3 := ⟨⟨_, Tryz.underlying3, rfl⟩, by kernel_rfl⟩
theorem EqB_is1_9 : Is1 Tryz.prog 9 := ⟨⟨_, Tryz.underlying9, rfl⟩, by kernel_rfl⟩
theorem EqB_fld_30_0 : FieldAt Tryz.prog 30 0 0 := ⟨_, _, Tryz.underlying30, rfl, rfl, by kernel_rfl⟩
theorem EqB_fld_30_1 : FieldAt Tryz.prog 30 1 1 := ⟨_, _, Tryz.underlying30, rfl, rfl, by kernel_rfl⟩
theorem EqB_fld_30_2 : FieldAt Tryz.prog 30 2 2 := ⟨_, _, Tryz.underlying30, rfl, rfl, by kernel_rfl⟩
theorem EqB_fld_30_3 : FieldAt Tryz.prog 30 3 8 := ⟨_, _, Tryz.underlying30, rfl, rfl, by kernel_rfl⟩
theorem EqB_fld_30_4 : FieldAt Tryz.prog 30 4 9 := ⟨_, _, Tryz.underlying30, rfl, rfl, by kernel_rfl⟩
theorem EqB_fld_30_5 : FieldAt Tryz.prog 30 5 10 := ⟨_, _, Tryz.underlying30, rfl, rfl, by kernel_rfl⟩
theorem EqB_isS_26 : IsS Tryz.prog 26 6 := ⟨⟨_, Tryz.underlying26⟩, by kernel_rfl⟩
theorem EqB_isS_30 : IsS Tryz.prog 30 11 := ⟨⟨_, Tryz.underlying30⟩, by kernel_rfl⟩
def Orders (n : Nat) : Prop := ∀ {w : World} {t u : Dt}, t.tr.bulk < n → t.rd w → u.rd w → t.tr.good → u.tr.good → Calls Tryz.prog 14 #[.agg (t.d.cells t.ts.length).toArray, .agg (u.d.cells u.ts.length).toArray] w fun e w' => e = .returned (.int .i64 (ordT t.tr u.tr)) ∧ Below w.heap.size w w'
theorem cmpF_any {n : Nat} (ih : Orders n) {w : World} {t u : Dt} (ht : t.rd w) (hu : u.rd w) (gt : t.tr.good) (gu : u.tr.good) (hb : t.tr.bulk ≤ n) (hlen : t.ts.length = u.ts.length) : Calls Tryz.prog 42 #[.slice t.d.lo t.ts.length t.d.lc, .slice u.d.lo u.ts.length u.d.lc, .func (.func 14) #[] #[]] w fun e w' => e = .returned (.int .i64 (ordL (t.ts.map Dt.tr) (u.ts.map Dt.tr))) ∧ Below w.heap.size w w' := by
 have hlt := (Dt.okT ht).2
 have hM : Mg w w ([]) := Mg.start w
 refine walk_of (l := [(0, .slice t.d.lo t.ts.length t.d.lc), (1, .slice u.d.lo u.ts.length u.d.lc), (2, .func (.func 14) #[] #[])]) Tryz.func42 rfl Tryz.ntmps42 rfl rfl ?_
 intro Q hret hnorm hP a hA
 refine wp_seq_k (fun K1 hK1 => ?_)
 refine wp_region_lit ?_
 refine seq_do hA rfl rfl rfl (does_assign rfl) ?_
 intro a hA
 refine seq_end ?_
 refine hK1 _ _ ?_
 refine wp_seq_k (fun K2 hK2 => ?_)
 refine wp_seq_k (fun K3 hK3 => ?_)
 refine wp_region_lit ?_
 refine seq_do hA rfl rfl rfl (does_move rfl) ?_
 intro a hA
 refine seq_do (v := .int .i64 (((t.ts.length : Nat) : Int))) hA rfl rfl rfl (does_len Tryz.underlying28 rfl) ?_
 intro a hA
 refine seq_do hA rfl rfl rfl (does_move rfl) ?_
 intro a hA
 refine seq_end ?_
 refine hK3 _ _ ?_
 refine wp_block ?_
 refine wp_loop_n (fun m_ a w1 => ∃ (i : Nat), m_ = 1 + (t.ts.length - i) ∧ (i ≤ t.ts.length ∧ ordL (t.ts.map Dt.tr) (u.ts.map Dt.tr) = ordL ((t.ts.map Dt.tr).drop i) ((u.ts.map Dt.tr).drop i)) ∧ Sl a 39 [(0, .slice t.d.lo t.ts.length t.d.lc), (1, .slice u.d.lo u.ts.length u.d.lc), (2, .func (.func 14) #[] #[]), (11, .slice t.d.lo t.ts.length t.d.lc), (12, .int .i64 (((t.ts.length : Nat) : Int))), (13, .int .i64 (((i : Nat) : Int)))] ∧ Mg w w1 ([])) _ ⟨0, rfl, ⟨Nat.zero_le _, rfl⟩, hA.keep _ ⟨rfl, rfl, rfl, rfl, rfl, rfl, trivial⟩, hM⟩ ?_
 clear hM hA
 rintro m_ a w4 ⟨i, rfl, hinv6, hA, hM⟩ K5 hK5
 obtain ⟨hi0, hin9⟩ := hinv6
 refine wp_seq_k (fun K7 hK7 => ?_)
 refine wp_region_lit ?_
 rcases Bool.eq_false_or_eq_true (decide (((i : Nat) : Int) < ((t.ts.length : Nat) : Int))) with hb8 | hb8
 · have hb8' := of_decide_eq_true hb8
   refine seq_do (v := .bool true) hA rfl rfl rfl (does_bin rfl rfl (fun w => (bin_lss w).trans (by rw [hb8]))) ?_
   intro a hA
   refine seq_end ?_
   refine hK7 _ _ ?_
   refine wp_seq_k (fun K9 hK9 => ?_)
   refine wp_cond_true (hA.ev rfl) ?_
   refine wp_skip ?_
   refine hK9 _ _ ?_
   refine wp_seq_k (fun K10 hK10 => ?_)
   refine wp_block ?_
   refine wp_seq_k (fun K11 hK11 => ?_)
   obtain ⟨t1, bt1, ot1, it1, mt1, rt1_, lt1, Ht1⟩ := kidT ht (i := i) (by omega)
   obtain ⟨u1, bu1, ou1, iu1, mu1, ru1_, lu1, Hu1⟩ := kidT hu (i := i) (by omega)
   refine wp_region_lit ?_
   refine seq_do hA rfl rfl rfl (does_move rfl) ?_
   intro a hA
   refine seq_do (v := .pointer (some ⟨bt1, ot1 + i * 11, none⟩)) hA rfl rfl rfl (does_indexD (k := i) Tryz.underlying28 (by kernel_rfl) rfl rfl rfl lt1 (by omega)) ?_
   intro a hA
   refine seq_do hA rfl rfl rfl (m_loadHS hM Ht1 EqB_isS_30 rfl rfl) ?_
   intro a hA
   refine s_new (vs := [.int .i64 0, .int .i64 0, .bool false, .slice none 0 0, .slice none 0 0, .bool false, .slice none 0 0, .slice none 0 0, .string (⟨#[]⟩), .slice none 0 0, .slice none 0 0]) (t := 30) hA hM rfl rfl rfl (fun g => .pointer (some ⟨g, 0, none⟩)) (does_alloc (z := .agg #[.int .i64 0, .int .i64 0, .bool false, .slice none 0 0, .slice none 0 0, .bool false, .slice none 0 0, .slice none 0 0, .string (⟨#[]⟩), .slice none 0 0, .slice none 0 0]) (by kernel_rfl) rfl) (by decide) ?_
   intro g12 w13 hM a hA
   refine seq_do hA rfl rfl rfl (does_assign rfl) ?_
   intro a hA
   refine s_store (us := [.int .i64 t1.d.k, .int .i64 t1.d.n, .bool t1.d.y.q.b1, .slice t1.d.y.o1 t1.d.y.q.t1.length t1.d.y.c1, .slice t1.d.y.o2 t1.d.y.q.q1.length t1.d.y.c2, .bool t1.d.y.q.b2, .slice t1.d.y.o3 t1.d.y.q.t2.length t1.d.y.c3, .slice t1.d.y.o4 t1.d.y.q.q2.length t1.d.y.c4, .string t1.d.s, .slice t1.d.ro t1.d.rl.length t1.d.rc, .slice t1.d.lo t1.ts.length t1.d.lc]) (L' := (.obj g12 (.cells (t1.d.cells t1.ts.length).toArray 30) :: [])) hA hM rfl rfl (m_store rfl rfl rfl (by kernel_rfl) hM 0 rfl rfl rfl) 0 rfl rfl rfl ?_
   intro w14 hM
   refine seq_end ?_
   refine hK11 _ _ ?_
   refine wp_seq_k (fun K15 hK15 => ?_)
   refine wp_seq_k (fun K16 hK16 => ?_)
   refine wp_region_lit ?_
   refine seq_do hA rfl rfl rfl (does_move rfl) ?_
   intro a hA
   refine seq_do hA rfl rfl rfl (does_move rfl) ?_
   intro a hA
   refine seq_do (v := .int .i64 (((u.ts.length : Nat) : Int))) hA rfl rfl rfl (does_len Tryz.underlying28 rfl) ?_
   intro a hA
   refine seq_do (v := .bool false) hA rfl rfl rfl (does_bin rfl rfl (fun w => (bin_geq w).trans (by rw [show (decide (((u.ts.length : Nat) : Int) ≤ ((i : Nat) : Int))) = false from (decide_eq_false (by omega))]))) ?_
   intro a hA
   refine seq_end ?_
   refine hK16 _ _ ?_
   refine wp_cond_false (hA.ev rfl) ?_
   refine wp_skip ?_
   refine hK15 _ _ ?_
   refine wp_seq_k (fun K17 hK17 => ?_)
   refine wp_region_lit ?_
   refine seq_do hA rfl rfl rfl (does_move rfl) ?_
   intro a hA
   refine seq_do hA rfl rfl rfl (does_move rfl) ?_
   intro a hA
   refine seq_do (v := .pointer (some ⟨bu1, ou1 + i * 11, none⟩)) hA rfl rfl rfl (does_indexD (k := i) Tryz.underlying28 (by kernel_rfl) rfl rfl rfl lu1 (by omega)) ?_
   intro a hA
   refine seq_do hA rfl rfl rfl (m_loadHS hM Hu1 EqB_isS_30 rfl rfl) ?_
   intro a hA
   refine s_new (vs := [.int .i64 0, .int .i64 0, .bool false, .slice none 0 0, .slice none 0 0, .bool false, .slice none 0 0, .slice none 0 0, .string (⟨#[]⟩), .slice none 0 0, .slice none 0 0]) (t := 30) hA hM rfl rfl rfl (fun g => .pointer (some ⟨g, 0, none⟩)) (does_alloc (z := .agg #[.int .i64 0, .int .i64 0, .bool false, .slice none 0 0, .slice none 0 0, .bool false, .slice none 0 0, .slice none 0 0, .string (⟨#[]⟩), .slice none 0 0, .slice none 0 0]) (by kernel_rfl) rfl) (by decide) ?_
   intro g18 w19 hM a hA
   refine s_store (us := [.int .i64 u1.d.k, .int .i64 u1.d.n, .bool u1.d.y.q.b1, .slice u1.d.y.o1 u1.d.y.q.t1.length u1.d.y.c1, .slice u1.d.y.o2 u1.d.y.q.q1.length u1.d.y.c2, .bool u1.d.y.q.b2, .slice u1.d.y.o3 u1.d.y.q.t2.length u1.d.y.c3, .slice u1.d.y.o4 u1.d.y.q.q2.length u1.d.y.c4, .string u1.d.s, .slice u1.d.ro u1.d.rl.length u1.d.rc, .slice u1.d.lo u1.ts.length u1.d.lc]) (L' := (.obj g18 (.cells (u1.d.cells u1.ts.length).toArray 30) :: .obj g12 (.cells (t1.d.cells t1.ts.length).toArray 30) :: [])) hA hM rfl rfl (m_store rfl rfl rfl (by kernel_rfl) hM 0 rfl rfl rfl) 0 rfl rfl rfl ?_
   intro w20 hM
   refine seq_end ?_
   refine hK17 _ _ ?_
   refine wp_seq_k (fun K21 hK21 => ?_)
   refine wp_region_lit ?_
   refine seq_do hA rfl rfl rfl (does_move rfl) ?_
   intro a hA
   refine seq_do hA rfl rfl rfl (m_loadS hM EqB_isS_30 rfl 1 rfl (cs := [.int .i64 t1.d.k, .int .i64 t1.d.n, .bool t1.d.y.q.b1, .slice t1.d.y.o1 t1.d.y.q.t1.length t1.d.y.c1, .slice t1.d.y.o2 t1.d.y.q.q1.length t1.d.y.c2, .bool t1.d.y.q.b2, .slice t1.d.y.o3 t1.d.y.q.t2.length t1.d.y.c3, .slice t1.d.y.o4 t1.d.y.q.q2.length t1.d.y.c4, .string t1.d.s, .slice t1.d.ro t1.d.rl.length t1.d.rc, .slice t1.d.lo t1.ts.length t1.d.lc]) rfl rfl) ?_
   intro a hA
   refine seq_do hA rfl rfl rfl (m_loadS hM EqB_isS_30 rfl 0 rfl (cs := [.int .i64 u1.d.k, .int .i64 u1.d.n, .bool u1.d.y.q.b1, .slice u1.d.y.o1 u1.d.y.q.t1.length u1.d.y.c1, .slice u1.d.y.o2 u1.d.y.q.q1.length u1.d.y.c2, .bool u1.d.y.q.b2, .slice u1.d.y.o3 u1.d.y.q.t2.length u1.d.y.c3, .slice u1.d.y.o4 u1.d.y.q.q2.length u1.d.y.c4, .string u1.d.s, .slice u1.d.ro u1.d.rl.length u1.d.rc, .slice u1.d.lo u1.ts.length u1.d.lc]) rfl rfl) ?_
   intro a hA
   refine seq_call hA rfl rfl rfl (enters_func rfl rfl (fun w => by kernel_rfl)) (ih (by have := bulkT mt1; omega) (Dt.keep hM.bel _ rt1_) (Dt.keep hM.bel _ ru1_) ((good_at gt).2.2 _ mt1) ((good_at gu).2.2 _ mu1)) ?_
   rintro _ w23 ⟨rfl, hb22⟩
   replace hM := hM.call hb22
   refine ⟨_, rfl, ?_⟩
   intro a hA
   refine seq_do hA rfl rfl rfl (does_assign rfl) ?_
   intro a hA
   refine seq_end ?_
   refine hK21 _ _ ?_
   refine wp_seq_k (fun K24 hK24 => ?_)
   refine wp_region_lit ?_
   refine seq_do hA rfl rfl rfl (does_move rfl) ?_
   intro a hA
   rcases Bool.eq_false_or_eq_true ((ordT t1.tr u1.tr != 0)) with hb25 | hb25
   · have hb25' := bne_iff_ne.1 hb25
     refine seq_do (v := .bool true) hA rfl rfl rfl (does_bin rfl rfl (fun w => (bin_neq w).trans (by rw [hb25]))) ?_
     intro a hA
     refine seq_end ?_
     refine hK24 _ _ ?_
     refine wp_cond_true (hA.ev rfl) ?_
     refine wp_seq_k (fun K26 hK26 => ?_)
     refine wp_region_lit ?_
     refine seq_do hA rfl rfl rfl (does_move rfl) ?_
     intro a hA
     refine seq_do hA rfl rfl rfl (does_assign rfl) ?_
     intro a hA
     refine seq_end ?_
     refine hK26 _ _ ?_
     refine wp_ret ?_
     refine hret _ _ ?_
     refine ends (v := .int .i64 (ordT t1.tr u1.tr)) hA rfl (.cons (res_tmp rfl) .nil) rfl ?_
     exact ⟨by rw [hin9, ordL_go it1 iu1, lex_n hb25'], hM.bel⟩
   · have hb25' := bne_eq_false_iff_eq.1 hb25
     refine seq_do (v := .bool false) hA rfl rfl rfl (does_bin rfl rfl (fun w => (bin_neq w).trans (by rw [hb25]))) ?_
     intro a hA
     refine seq_end ?_
     refine hK24 _ _ ?_
     refine wp_cond_false (hA.ev rfl) ?_
     refine wp_skip ?_
     refine hK10 _ _ ?_
     refine wp_region_lit ?_
     refine seq_do (v := .int .i64 (((i + 1 : Nat) : Int))) hA rfl rfl rfl (does_bin rfl rfl (fun w => (bin_add (i64In (by omega) (by omega)) w).trans (by rw [show (((i : Nat) : Int) + 1 : Int) = ((i + 1 : Nat) : Int) from by omega]))) ?_
     intro a hA
     refine seq_do hA rfl rfl rfl (does_move rfl) ?_
     intro a hA
     refine seq_end ?_
     replace hM : Mg w w23 ([]) := by
       have h9 := hM.sub (.cons _ (.cons _ (.refl _)))
       exact h9
     refine hK5 _ _ _ (by omega) ⟨i + 1, rfl, ⟨by omega, by rw [hin9, ordL_go it1 iu1, hb25', lex_0]⟩, hA.keep _ ⟨rfl, rfl, rfl, rfl, rfl, rfl, trivial⟩, hM⟩
 · have hb8' := of_decide_eq_false hb8
   refine seq_do (v := .bool false) hA rfl rfl rfl (does_bin rfl rfl (fun w => (bin_lss w).trans (by rw [hb8]))) ?_
   intro a hA
   refine seq_end ?_
   refine hK7 _ _ ?_
   refine wp_seq_k (fun K27 hK27 => ?_)
   refine wp_cond_false (hA.ev rfl) ?_
   refine wp_exit ?_
   refine hK2 _ _ ?_
   refine wp_seq_k (fun K28 hK28 => ?_)
   refine wp_seq_k (fun K29 hK29 => ?_)
   refine wp_region_lit ?_
   refine seq_do hA rfl rfl rfl (does_move rfl) ?_
   intro a hA
   refine seq_do (v := .int .i64 (((t.ts.length : Nat) : Int))) hA rfl rfl rfl (does_len Tryz.underlying28 rfl) ?_
   intro a hA
   refine seq_do hA rfl rfl rfl (does_move rfl) ?_
   intro a hA
   refine seq_do (v := .int .i64 (((u.ts.length : Nat) : Int))) hA rfl rfl rfl (does_len Tryz.underlying28 rfl) ?_
   intro a hA
   refine seq_do (v := .bool false) hA rfl rfl rfl (does_bin rfl rfl (fun w => (bin_lss w).trans (by rw [show (decide (((t.ts.length : Nat) : Int) < ((u.ts.length : Nat) : Int))) = false from (decide_eq_false (by omega))]))) ?_
   intro a hA
   refine seq_end ?_
   refine hK29 _ _ ?_
   refine wp_cond_false (hA.ev rfl) ?_
   refine wp_skip ?_
   refine hK28 _ _ ?_
   refine wp_seq_k (fun K30 hK30 => ?_)
   refine wp_region_lit ?_
   refine seq_do hA rfl rfl rfl (does_assign rfl) ?_
   intro a hA
   refine seq_end ?_
   refine hK30 _ _ ?_
   refine wp_ret ?_
   refine hret _ _ ?_
   refine ends (v := .int .i64 0) hA rfl (.cons (res_tmp rfl) .nil) rfl ?_
   exact ⟨by rw [hin9, ordL_end (by omega)], hM.bel⟩
theorem vec_any {n : Nat} (ih : Orders n) {w : World} {t u : Dt} (ht : t.rd w) (hu : u.rd w) (gt : t.tr.good) (gu : u.tr.good) (hb : t.tr.bulk ≤ n) : Calls Tryz.prog 24 #[.slice t.d.lo t.ts.length t.d.lc, .slice u.d.lo u.ts.length u.d.lc] w fun e w' => e = .returned (.int .i64 (lex (cmpI (t.ts.length : Int) (u.ts.length : Int)) (ordL (t.ts.map Dt.tr) (u.ts.map Dt.tr)))) ∧ Below w.heap.size w w' := by
 have hM : Mg w w ([]) := Mg.start w
 refine walk_of (l := [(0, .slice t.d.lo t.ts.length t.d.lc), (1, .slice u.d.lo u.ts.length u.d.lc)]) Tryz.func24 rfl Tryz.ntmps24 rfl rfl ?_
 intro Q hret hnorm hP a hA
 refine wp_seq_k (fun K1 hK1 => ?_)
 refine wp_region_lit ?_
 refine seq_do hA rfl rfl rfl (does_assign rfl) ?_
 intro a hA
 refine seq_end ?_
 refine hK1 _ _ ?_
 refine wp_seq_k (fun K2 hK2 => ?_)
 refine wp_seq_k (fun K3 hK3 => ?_)
 refine wp_region_lit ?_
 refine seq_do hA rfl rfl rfl (does_move rfl) ?_
 intro a hA
 refine seq_do (v := .int .i64 (((t.ts.length : Nat) : Int))) hA rfl rfl rfl (does_len Tryz.underlying28 rfl) ?_
 intro a hA
 refine seq_do hA rfl rfl rfl (does_move rfl) ?_
 intro a hA
 refine seq_do (v := .int .i64 (((u.ts.length : Nat) : Int))) hA rfl rfl rfl (does_len Tryz.underlying28 rfl) ?_
 intro a hA
 rcases Bool.eq_false_or_eq_true ((((t.ts.length : Nat) : Int) != ((u.ts.length : Nat) : Int))) with hb4 | hb4
 · have hb4' := bne_iff_ne.1 hb4
   refine seq_do (v := .bool true) hA rfl rfl rfl (does_bin rfl rfl (fun w => (bin_neq w).trans (by rw [hb4]))) ?_
   intro a hA
   refine seq_end ?_
   refine hK3 _ _ ?_
   refine wp_cond_true (hA.ev rfl) ?_
   refine wp_seq_k (fun K5 hK5 => ?_)
   refine wp_region_lit ?_
   refine seq_do hA rfl rfl rfl (does_move rfl) ?_
   intro a hA
   refine seq_do (v := .int .i64 (((t.ts.length : Nat) : Int))) hA rfl rfl rfl (does_len Tryz.underlying28 rfl) ?_
   intro a hA
   refine seq_do hA rfl rfl rfl (does_move rfl) ?_
   intro a hA
   refine seq_do (v := .int .i64 (((u.ts.length : Nat) : Int))) hA rfl rfl rfl (does_len Tryz.underlying28 rfl) ?_
   intro a hA
   refine seq_call hA rfl rfl rfl (enters_func rfl rfl (fun w => by kernel_rfl)) (cmpi_any) ?_
   rintro _ w7 ⟨rfl, hb6⟩
   replace hM := hM.call hb6
   refine ⟨_, rfl, ?_⟩
   intro a hA
   refine seq_do hA rfl rfl rfl (does_assign rfl) ?_
   intro a hA
   refine seq_end ?_
   refine hK5 _ _ ?_
   refine wp_ret ?_
   refine hret _ _ ?_
   refine ends (v := .int .i64 (cmpI (((t.ts.length : Nat) : Int)) (((u.ts.length : Nat) : Int)))) hA rfl (.cons (res_tmp rfl) .nil) rfl ?_
   exact ⟨by rw [lex_n (fun e => hb4' (cmpI_zero e))], hM.bel⟩
 · have hb4' := bne_eq_false_iff_eq.1 hb4
   refine seq_do (v := .bool false) hA rfl rfl rfl (does_bin rfl rfl (fun w => (bin_neq w).trans (by rw [hb4]))) ?_
   intro a hA
   refine seq_end ?_
   refine hK3 _ _ ?_
   refine wp_cond_false (hA.ev rfl) ?_
   refine wp_skip ?_
   refine hK2 _ _ ?_
   refine wp_seq_k (fun K8 hK8 => ?_)
   refine wp_region_lit ?_
   refine seq_do hA rfl rfl rfl (does_move rfl) ?_
   intro a hA
   refine seq_do hA rfl rfl rfl (does_move rfl) ?_
   intro a hA
   refine seq_call hA rfl rfl rfl (enters_func rfl rfl (fun w => by kernel_rfl)) (cmpF_any ih (Dt.keep hM.bel _ ht) (Dt.keep hM.bel _ hu) gt gu hb (by omega)) ?_
   rintro _ w9 ⟨rfl, hbv⟩
   replace hM := hM.call hbv
   refine ⟨_, rfl, ?_⟩
   intro a hA
   refine seq_do hA rfl rfl rfl (does_assign rfl) ?_
   intro a hA
   refine seq_end ?_
   refine hK8 _ _ ?_
   refine wp_ret ?_
   refine hret _ _ ?_
   refine ends (v := .int .i64 (ordL (t.ts.map Dt.tr) (u.ts.map Dt.tr))) hA rfl (.cons (res_tmp rfl) .nil) rfl ?_
   exact ⟨by rw [hb4', cmpI_self, lex_0], hM.bel⟩
theorem orders_step {n : Nat} (ih : Orders n) : Orders (n + 1) := by
 intro w t u hn ht hu gt gu
 have hM : Mg w w ([]) := Mg.start w
 refine walk_of (l := [(0, .agg (t.d.cells t.ts.length).toArray), (1, .agg (u.d.cells u.ts.length).toArray)]) Tryz.func14 rfl Tryz.ntmps14 rfl rfl ?_
 intro Q hret hnorm hP a hA
 refine wp_seq_k (fun K1 hK1 => ?_)
 refine wp_region_lit ?_
 refine s_new (vs := [.int .i64 t.d.k, .int .i64 t.d.n, .bool t.d.y.q.b1, .slice t.d.y.o1 t.d.y.q.t1.length t.d.y.c1, .slice t.d.y.o2 t.d.y.q.q1.length t.d.y.c2, .bool t.d.y.q.b2, .slice t.d.y.o3 t.d.y.q.t2.length t.d.y.c3, .slice t.d.y.o4 t.d.y.q.q2.length t.d.y.c4, .string t.d.s, .slice t.d.ro t.d.rl.length t.d.rc, .slice t.d.lo t.ts.length t.d.lc]) (t := 30) hA hM rfl rfl rfl (fun g => .pointer (some ⟨g, 0, none⟩)) (does_box rfl rfl) (by decide) ?_
 intro g2 w3 hM a hA
 refine s_new (vs := [.int .i64 u.d.k, .int .i64 u.d.n, .bool u.d.y.q.b1, .slice u.d.y.o1 u.d.y.q.t1.length u.d.y.c1, .slice u.d.y.o2 u.d.y.q.q1.length u.d.y.c2, .bool u.d.y.q.b2, .slice u.d.y.o3 u.d.y.q.t2.length u.d.y.c3, .slice u.d.y.o4 u.d.y.q.q2.length u.d.y.c4, .string u.d.s, .slice u.d.ro u.d.rl.length u.d.rc, .slice u.d.lo u.ts.length u.d.lc]) (t := 30) hA hM rfl rfl rfl (fun g => .pointer (some ⟨g, 0, none⟩)) (does_box rfl rfl) (by decide) ?_
 intro g4 w5 hM a hA
 refine seq_do hA rfl rfl rfl (does_assign rfl) ?_
 intro a hA
 refine seq_end ?_
 refine hK1 _ _ ?_
 refine wp_seq_k (fun K6 hK6 => ?_)
 refine wp_block ?_
 refine wp_loop_n (fun m_ a w1 => ∃ (p : Dt) (r : Dt), m_ = 1 + p.tr.bulk ∧ (p.rd w ∧ r.rd w ∧ p.tr.good ∧ r.tr.good ∧ p.tr.bulk ≤ t.tr.bulk ∧ ordT t.tr u.tr = ordT p.tr r.tr) ∧ Sl a 84 [(0, .agg (t.d.cells t.ts.length).toArray), (1, .agg (u.d.cells u.ts.length).toArray), (2, .pointer (some ⟨g2, 0, none⟩)), (3, .pointer (some ⟨g4, 0, none⟩))] ∧ Mg w w1 (.obj g4 (.cells (r.d.cells r.ts.length).toArray 30) :: .obj g2 (.cells (p.d.cells p.ts.length).toArray 30) :: [])) _ ⟨t, u, rfl, ⟨ht, hu, gt, gu, Nat.le_refl _, rfl⟩, hA.keep _ ⟨rfl, rfl, rfl, rfl, trivial⟩, hM⟩ ?_
 clear hM hA
 rintro m_ a w7 ⟨p, r, rfl, hinv9, hA, hM⟩ K8 hK8
 obtain ⟨hp, hr, gp, gr, hbk, hin9⟩ := hinv9
 refine wp_seq_k (fun K10 hK10 => ?_)
 refine wp_seq_k (fun K11 hK11 => ?_)
 refine wp_region_lit ?_
 refine seq_do (v := .pointer (some ⟨g2, 0, none⟩)) hA rfl rfl rfl (does_field EqB_fld_30_0 rfl rfl) ?_
 intro a hA
 refine seq_do hA rfl rfl rfl (m_load1 hM EqB_is1_3 rfl 1 rfl rfl) ?_
 intro a hA
 rcases Bool.eq_false_or_eq_true ((p.d.k == 8)) with hb12 | hb12
 · have hb12' := eq_of_beq hb12
   refine seq_do (v := .bool true) hA rfl rfl rfl (does_bin rfl rfl (fun w => (bin_eql w).trans (by rw [hb12]))) ?_
   intro a hA
   refine seq_do hA rfl rfl rfl (does_move rfl) ?_
   intro a hA
   refine seq_do (v := .pointer (some ⟨g4, 0, none⟩)) hA rfl rfl rfl (does_field EqB_fld_30_0 rfl rfl) ?_
   intro a hA
   refine seq_do hA rfl rfl rfl (m_load1 hM EqB_is1_3 rfl 0 rfl rfl) ?_
   intro a hA
   rcases Bool.eq_false_or_eq_true ((r.d.k == 8)) with hb13 | hb13
   · have hb13' := eq_of_beq hb13
     refine seq_do (v := .bool true) hA rfl rfl rfl (does_bin rfl rfl (fun w => (bin_eql w).trans (by rw [hb13]))) ?_
     intro a hA
     refine seq_do (v := .bool true) hA rfl rfl rfl (does_pick rfl rfl rfl rfl) ?_
     intro a hA
     refine seq_end ?_
     refine hK11 _ _ ?_
     refine wp_cond_true (hA.ev rfl) ?_
     refine wp_skip ?_
     refine hK10 _ _ ?_
     refine wp_block ?_
     refine wp_seq_k (fun K14 hK14 => ?_)
     refine wp_seq_k (fun K15 hK15 => ?_)
     have l2p := (good_at gp).1.h8 hb12'
     have l2r := (good_at gr).1.h8 hb13'
     obtain ⟨p0, bp0, op0, ip0, mp0, rp0_, lp0, Hp0⟩ := kidT hp (i := 0) (by omega)
     obtain ⟨p1, bp1, op1, ip1, mp1, rp1_, lp1, Hp1⟩ := kidT hp (i := 1) (by omega)
     obtain ⟨r0, br0, or0, ir0, mr0, rr0_, lr0, Hr0⟩ := kidT hr (i := 0) (by omega)
     obtain ⟨r1, br1, or1, ir1, mr1, rr1_, lr1, Hr1⟩ := kidT hr (i := 1) (by omega)
     have hpq := ord_pair hb12' hb13' l2p l2r ip0 ip1 ir0 ir1
     refine wp_draw (S := fun w1 => Mg w w1 (.obj g4 (.cells (r.d.cells r.ts.length).toArray 30) :: .obj g2 (.cells (p.d.cells p.ts.length).toArray 30) :: [])) (by kernel_rfl) ?_
     replace hM := hM.drew
     refine any_tk (v := .pointer (some ⟨g2, 10, none⟩)) hA 0 rfl rfl rfl rfl hP (hM.sub (.cons_cons _ (.cons_cons _ (List.nil_sublist _)))) (fun w1 hM => does_field EqB_fld_30_5 rfl rfl) ?_
     intro a hA
     refine any_tk hA 1 rfl rfl rfl rfl hP (hM.sub (.cons_cons _ (.cons_cons _ (List.nil_sublist _)))) (fun w1 hM => m_load1 hM EqB_is1_28 rfl 1 rfl rfl) ?_
     intro a hA
     refine any_tk (v := .pointer (some ⟨bp0, op0 + 0 * 11, none⟩)) hA 2 rfl rfl rfl rfl hP (hM.sub (.cons_cons _ (.cons_cons _ (List.nil_sublist _)))) (fun w1 hM => does_indexD (k := 0) Tryz.underlying28 (by kernel_rfl) rfl rfl rfl lp0 (by omega)) ?_
     intro a hA
     refine any_tk hA 3 rfl rfl rfl rfl hP (hM.sub (.cons_cons _ (.cons_cons _ (List.nil_sublist _)))) (fun w1 hM => m_loadHS hM Hp0 EqB_isS_30 rfl rfl) ?_
     intro a hA
     refine any_tk (v := .pointer (some ⟨g4, 10, none⟩)) hA 4 rfl rfl rfl rfl hP (hM.sub (.cons_cons _ (.cons_cons _ (List.nil_sublist _)))) (fun w1 hM => does_field EqB_fld_30_5 rfl rfl) ?_
     intro a hA
     refine any_tk hA 5 rfl rfl rfl rfl hP (hM.sub (.cons_cons _ (.cons_cons _ (List.nil_sublist _)))) (fun w1 hM => m_load1 hM EqB_is1_28 rfl 0 rfl rfl) ?_
     intro a hA
     refine any_tk (v := .pointer (some ⟨br0, or0 + 0 * 11, none⟩)) hA 6 rfl rfl rfl rfl hP (hM.sub (.cons_cons _ (.cons_cons _ (List.nil_sublist _)))) (fun w1 hM => does_indexD (k := 0) Tryz.underlying28 (by kernel_rfl) rfl rfl rfl lr0 (by omega)) ?_
     intro a hA
     refine any_tk hA 7 rfl rfl rfl rfl hP (hM.sub (.cons_cons _ (.cons_cons _ (List.nil_sublist _)))) (fun w1 hM => m_loadHS hM Hr0 EqB_isS_30 rfl rfl) ?_
     intro a hA
     refine any_one (by kernel_rfl) (op_call hA 8 rfl rfl rfl rfl (enters_func rfl rfl (fun w => by kernel_rfl)) (ih (by have := bulkT mp0; omega) (Dt.keep hM.bel _ rp0_) (Dt.keep hM.bel _ rr0_) ((good_at gp).2.2 _ mp0) ((good_at gr).2.2 _ mr0)) ?_)
     rintro _ w17 ⟨rfl, hb16⟩
     replace hM := hM.call hb16
     refine ⟨_, rfl, (hM.sub (.cons_cons _ (.cons_cons _ (List.nil_sublist _)))), ?_⟩
     intro a hA
     refine any_tk hA 9 rfl rfl rfl rfl hP (hM.sub (.cons_cons _ (.cons_cons _ (List.nil_sublist _)))) (fun w1 hM => does_assign rfl) ?_
     intro a hA
     refine any_end (by kernel_rfl) ?_
     refine hK15 _ _ ?_
     refine wp_seq_k (fun K18 hK18 => ?_)
     refine wp_region_lit ?_
     refine seq_do hA rfl rfl rfl (does_move rfl) ?_
     intro a hA
     rcases Bool.eq_false_or_eq_true ((ordT p0.tr r0.tr != 0)) with hb19 | hb19
     · have hb19' := bne_iff_ne.1 hb19
       refine seq_do (v := .bool true) hA rfl rfl rfl (does_bin rfl rfl (fun w => (bin_neq w).trans (by rw [hb19]))) ?_
       intro a hA
       refine seq_end ?_
       refine hK18 _ _ ?_
       refine wp_cond_true (hA.ev rfl) ?_
       refine wp_seq_k (fun K20 hK20 => ?_)
       refine wp_region_lit ?_
       refine seq_do hA rfl rfl rfl (does_move rfl) ?_
       intro a hA
       refine seq_do hA rfl rfl rfl (does_assign rfl) ?_
       intro a hA
       refine seq_end ?_
       refine hK20 _ _ ?_
       refine wp_ret ?_
       refine hret _ _ ?_
       refine ends (v := .int .i64 (ordT p0.tr r0.tr)) hA rfl (.cons (res_tmp rfl) .nil) rfl ?_
       exact ⟨by rw [hin9, hpq, lex_n hb19'], hM.bel⟩
     · have hb19' := bne_eq_false_iff_eq.1 hb19
       refine seq_do (v := .bool false) hA rfl rfl rfl (does_bin rfl rfl (fun w => (bin_neq w).trans (by rw [hb19]))) ?_
       intro a hA
       refine seq_end ?_
       refine hK18 _ _ ?_
       refine wp_cond_false (hA.ev rfl) ?_
       refine wp_skip ?_
       refine hK14 _ _ ?_
       have hJ21 : ∀ a w1, (∃ (z_ : Unit), Sl a 84 [(0, .agg (t.d.cells t.ts.length).toArray), (1, .agg (u.d.cells u.ts.length).toArray), (2, .pointer (some ⟨g2, 0, none⟩)), (3, .pointer (some ⟨g4, 0, none⟩)), (5, .int .i64 (ordT p0.tr r0.tr)), (6, .pointer (some ⟨g2, 0, none⟩)), (7, .int .i64 p.d.k), (8, .bool true), (9, .bool true), (10, .pointer (some ⟨g4, 0, none⟩)), (11, .int .i64 r.d.k), (12, .bool true), (13, .bool true), (14, .pointer (some ⟨g2, 10, none⟩)), (15, .slice p.d.lo p.ts.length p.d.lc), (16, .pointer (some ⟨bp0, op0 + 0 * 11, none⟩)), (17, .agg (p0.d.cells p0.ts.length).toArray), (18, .pointer (some ⟨g4, 10, none⟩)), (19, .slice r.d.lo r.ts.length r.d.lc), (20, .pointer (some ⟨br0, or0 + 0 * 11, none⟩)), (21, .agg (r0.d.cells r0.ts.length).toArray), (22, .int .i64 (ordT p0.tr r0.tr)), (23, .int .i64 (ordT p0.tr r0.tr)), (24, .bool false)] ∧ Mg w w1 (.obj g4 (.cells (r1.d.cells r1.ts.length).toArray 30) :: .obj g2 (.cells (p1.d.cells p1.ts.length).toArray 30) :: [])) → K8 a w1 := by
         clear hA hM
         rintro a w22 ⟨z_, hA, hM⟩
         refine hK8 _ _ _ (by have := bulkT mp1; omega) ⟨p1, r1, rfl, ⟨rp1_, rr1_, (good_at gp).2.2 _ mp1, (good_at gr).2.2 _ mr1, by have := bulkT mp1; omega, by rw [hin9, hpq, hb19', lex_0]⟩, hA.keep _ ⟨rfl, rfl, rfl, rfl, trivial⟩, hM⟩
       refine wp_draw (S := fun w1 => Mg w w1 ([])) (by kernel_rfl) ?_
       replace hM := hM.drew
       refine any_tk (v := .pointer (some ⟨g2, 10, none⟩)) hA 0 rfl rfl rfl rfl hP (hM.sub (.cons _ (.cons _ (List.nil_sublist _)))) (fun w1 hM => does_field EqB_fld_30_5 rfl rfl) ?_
       intro a hA
       refine any_tk (v := .pointer (some ⟨g4, 10, none⟩)) hA 4 rfl rfl rfl rfl hP (hM.sub (.cons _ (.cons _ (List.nil_sublist _)))) (fun w1 hM => does_field EqB_fld_30_5 rfl rfl) ?_
       intro a hA
       refine any_many (rs := [1, 5]) (by kernel_rfl) (by simp) ⟨?_, ?_, trivial⟩
       · refine op_do hA 1 rfl rfl rfl rfl (m_load1 hM EqB_is1_28 rfl 1 rfl rfl) (hM.sub (.cons _ (.cons _ (List.nil_sublist _)))) ?_
         intro a hA
         refine any_tk (v := .pointer (some ⟨bp1, op1 + 1 * 11, none⟩)) hA 2 rfl rfl rfl rfl hP (hM.sub (.cons _ (.cons _ (List.nil_sublist _)))) (fun w1 hM => does_indexD (k := 1) Tryz.underlying28 (by kernel_rfl) rfl rfl rfl lp1 (by omega)) ?_
         intro a hA
         refine any_tk hA 3 rfl rfl rfl rfl hP (hM.sub (.cons _ (.cons _ (List.nil_sublist _)))) (fun w1 hM => m_loadHS hM Hp1 EqB_isS_30 rfl rfl) ?_
         intro a hA
         refine any_many (rs := [5, 8]) (by kernel_rfl) (by simp) ⟨?_, ?_, trivial⟩
         · refine op_do hA 5 rfl rfl rfl rfl (m_load1 hM EqB_is1_28 rfl 0 rfl rfl) (hM.sub (.cons _ (.cons _ (List.nil_sublist _)))) ?_
           intro a hA
           refine any_tk (v := .pointer (some ⟨br1, or1 + 1 * 11, none⟩)) hA 6 rfl rfl rfl rfl hP (hM.sub (.cons _ (.cons _ (List.nil_sublist _)))) (fun w1 hM => does_indexD (k := 1) Tryz.underlying28 (by kernel_rfl) rfl rfl rfl lr1 (by omega)) ?_
           intro a hA
           refine any_tk hA 7 rfl rfl rfl rfl hP (hM.sub (.cons _ (.cons _ (List.nil_sublist _)))) (fun w1 hM => m_loadHS hM Hr1 EqB_isS_30 rfl rfl) ?_
           intro a hA
           refine any_one (by kernel_rfl) (g_store (us := [.int .i64 p1.d.k, .int .i64 p1.d.n, .bool p1.d.y.q.b1, .slice p1.d.y.o1 p1.d.y.q.t1.length p1.d.y.c1, .slice p1.d.y.o2 p1.d.y.q.q1.length p1.d.y.c2, .bool p1.d.y.q.b2, .slice p1.d.y.o3 p1.d.y.q.t2.length p1.d.y.c3, .slice p1.d.y.o4 p1.d.y.q.q2.length p1.d.y.c4, .string p1.d.s, .slice p1.d.ro p1.d.rl.length p1.d.rc, .slice p1.d.lo p1.ts.length p1.d.lc]) (L' := (.obj g4 (.cells (r.d.cells r.ts.length).toArray 30) :: .obj g2 (.cells (p1.d.cells p1.ts.length).toArray 30) :: [])) hA hM 8 rfl rfl rfl (m_store rfl rfl rfl (by kernel_rfl) hM 1 rfl rfl rfl) 1 rfl rfl rfl ?_)
           intro w23 hM
           refine ⟨(hM.sub (.cons _ (.cons _ (List.nil_sublist _)))), ?_⟩
           refine any_one (by kernel_rfl) (g_store (us := [.int .i64 r1.d.k, .int .i64 r1.d.n, .bool r1.d.y.q.b1, .slice r1.d.y.o1 r1.d.y.q.t1.length r1.d.y.c1, .slice r1.d.y.o2 r1.d.y.q.q1.length r1.d.y.c2, .bool r1.d.y.q.b2, .slice r1.d.y.o3 r1.d.y.q.t2.length r1.d.y.c3, .slice r1.d.y.o4 r1.d.y.q.q2.length r1.d.y.c4, .string r1.d.s, .slice r1.d.ro r1.d.rl.length r1.d.rc, .slice r1.d.lo r1.ts.length r1.d.lc]) (L' := (.obj g4 (.cells (r1.d.cells r1.ts.length).toArray 30) :: .obj g2 (.cells (p1.d.cells p1.ts.length).toArray 30) :: [])) hA hM 9 rfl rfl rfl (m_store rfl rfl rfl (by kernel_rfl) hM 0 rfl rfl rfl) 0 rfl rfl rfl ?_)
           intro w24 hM
           refine ⟨(hM.sub (.cons _ (.cons _ (List.nil_sublist _)))), ?_⟩
           refine any_end (by kernel_rfl) ?_
           exact hJ21 _ _ ⟨(), hA.keep _ ⟨rfl, rfl, rfl, rfl, rfl, rfl, rfl, rfl, rfl, rfl, rfl, rfl, rfl, rfl, rfl, rfl, rfl, rfl, rfl, rfl, rfl, rfl, rfl, rfl, trivial⟩, hM⟩
         · refine g_store (us := [.int .i64 p1.d.k, .int .i64 p1.d.n, .bool p1.d.y.q.b1, .slice p1.d.y.o1 p1.d.y.q.t1.length p1.d.y.c1, .slice p1.d.y.o2 p1.d.y.q.q1.length p1.d.y.c2, .bool p1.d.y.q.b2, .slice p1.d.y.o3 p1.d.y.q.t2.length p1.d.y.c3, .slice p1.d.y.o4 p1.d.y.q.q2.length p1.d.y.c4, .string p1.d.s, .slice p1.d.ro p1.d.rl.length p1.d.rc, .slice p1.d.lo p1.ts.length p1.d.lc]) (L' := (.obj g4 (.cells (r.d.cells r.ts.length).toArray 30) :: .obj g2 (.cells (p1.d.cells p1.ts.length).toArray 30) :: [])) hA hM 8 rfl rfl rfl (m_store rfl rfl rfl (by kernel_rfl) hM 1 rfl rfl rfl) 1 rfl rfl rfl ?_
           intro w25 hM
           refine ⟨(hM.sub (.cons _ (.cons _ (List.nil_sublist _)))), ?_⟩
           refine any_one (by kernel_rfl) (op_do hA 5 rfl rfl rfl rfl (m_load1 hM EqB_is1_28 rfl 0 rfl rfl) (hM.sub (.cons _ (.cons _ (List.nil_sublist _)))) ?_)
           intro a hA
           refine any_tk (v := .pointer (some ⟨br1, or1 + 1 * 11, none⟩)) hA 6 rfl rfl rfl rfl hP (hM.sub (.cons _ (.cons _ (List.nil_sublist _)))) (fun w1 hM => does_indexD (k := 1) Tryz.underlying28 (by kernel_rfl) rfl rfl rfl lr1 (by omega)) ?_
           intro a hA
           refine any_tk hA 7 rfl rfl rfl rfl hP (hM.sub (.cons _ (.cons _ (List.nil_sublist _)))) (fun w1 hM => m_loadHS hM Hr1 EqB_isS_30 rfl rfl) ?_
           intro a hA
           refine any_one (by kernel_rfl) (g_store (us := [.int .i64 r1.d.k, .int .i64 r1.d.n, .bool r1.d.y.q.b1, .slice r1.d.y.o1 r1.d.y.q.t1.length r1.d.y.c1, .slice r1.d.y.o2 r1.d.y.q.q1.length r1.d.y.c2, .bool r1.d.y.q.b2, .slice r1.d.y.o3 r1.d.y.q.t2.length r1.d.y.c3, .slice r1.d.y.o4 r1.d.y.q.q2.length r1.d.y.c4, .string r1.d.s, .slice r1.d.ro r1.d.rl.length r1.d.rc, .slice r1.d.lo r1.ts.length r1.d.lc]) (L' := (.obj g4 (.cells (r1.d.cells r1.ts.length).toArray 30) :: .obj g2 (.cells (p1.d.cells p1.ts.length).toArray 30) :: [])) hA hM 9 rfl rfl rfl (m_store rfl rfl rfl (by kernel_rfl) hM 0 rfl rfl rfl) 0 rfl rfl rfl ?_)
           intro w26 hM
           refine ⟨(hM.sub (.cons _ (.cons _ (List.nil_sublist _)))), ?_⟩
           refine any_end (by kernel_rfl) ?_
           exact hJ21 _ _ ⟨(), hA.keep _ ⟨rfl, rfl, rfl, rfl, rfl, rfl, rfl, rfl, rfl, rfl, rfl, rfl, rfl, rfl, rfl, rfl, rfl, rfl, rfl, rfl, rfl, rfl, rfl, rfl, trivial⟩, hM⟩
       · refine op_do hA 5 rfl rfl rfl rfl (m_load1 hM EqB_is1_28 rfl 0 rfl rfl) (hM.sub (.cons _ (.cons _ (List.nil_sublist _)))) ?_
         intro a hA
         refine any_tk (v := .pointer (some ⟨br1, or1 + 1 * 11, none⟩)) hA 6 rfl rfl rfl rfl hP (hM.sub (.cons _ (.cons _ (List.nil_sublist _)))) (fun w1 hM => does_indexD (k := 1) Tryz.underlying28 (by kernel_rfl) rfl rfl rfl lr1 (by omega)) ?_
         intro a hA
         refine any_tk hA 7 rfl rfl rfl rfl hP (hM.sub (.cons _ (.cons _ (List.nil_sublist _)))) (fun w1 hM => m_loadHS hM Hr1 EqB_isS_30 rfl rfl) ?_
         intro a hA
         refine any_one (by kernel_rfl) (op_do hA 1 rfl rfl rfl rfl (m_load1 hM EqB_is1_28 rfl 1 rfl rfl) (hM.sub (.cons _ (.cons _ (List.nil_sublist _)))) ?_)
         intro a hA
         refine any_tk (v := .pointer (some ⟨bp1, op1 + 1 * 11, none⟩)) hA 2 rfl rfl rfl rfl hP (hM.sub (.cons _ (.cons _ (List.nil_sublist _)))) (fun w1 hM => does_indexD (k := 1) Tryz.underlying28 (by kernel_rfl) rfl rfl rfl lp1 (by omega)) ?_
         intro a hA
         refine any_tk hA 3 rfl rfl rfl rfl hP (hM.sub (.cons _ (.cons _ (List.nil_sublist _)))) (fun w1 hM => m_loadHS hM Hp1 EqB_isS_30 rfl rfl) ?_
         intro a hA
         refine any_one (by kernel_rfl) (g_store (us := [.int .i64 p1.d.k, .int .i64 p1.d.n, .bool p1.d.y.q.b1, .slice p1.d.y.o1 p1.d.y.q.t1.length p1.d.y.c1, .slice p1.d.y.o2 p1.d.y.q.q1.length p1.d.y.c2, .bool p1.d.y.q.b2, .slice p1.d.y.o3 p1.d.y.q.t2.length p1.d.y.c3, .slice p1.d.y.o4 p1.d.y.q.q2.length p1.d.y.c4, .string p1.d.s, .slice p1.d.ro p1.d.rl.length p1.d.rc, .slice p1.d.lo p1.ts.length p1.d.lc]) (L' := (.obj g4 (.cells (r.d.cells r.ts.length).toArray 30) :: .obj g2 (.cells (p1.d.cells p1.ts.length).toArray 30) :: [])) hA hM 8 rfl rfl rfl (m_store rfl rfl rfl (by kernel_rfl) hM 1 rfl rfl rfl) 1 rfl rfl rfl ?_)
         intro w27 hM
         refine ⟨(hM.sub (.cons _ (.cons _ (List.nil_sublist _)))), ?_⟩
         refine any_one (by kernel_rfl) (g_store (us := [.int .i64 r1.d.k, .int .i64 r1.d.n, .bool r1.d.y.q.b1, .slice r1.d.y.o1 r1.d.y.q.t1.length r1.d.y.c1, .slice r1.d.y.o2 r1.d.y.q.q1.length r1.d.y.c2, .bool r1.d.y.q.b2, .slice r1.d.y.o3 r1.d.y.q.t2.length r1.d.y.c3, .slice r1.d.y.o4 r1.d.y.q.q2.length r1.d.y.c4, .string r1.d.s, .slice r1.d.ro r1.d.rl.length r1.d.rc, .slice r1.d.lo r1.ts.length r1.d.lc]) (L' := (.obj g4 (.cells (r1.d.cells r1.ts.length).toArray 30) :: .obj g2 (.cells (p1.d.cells p1.ts.length).toArray 30) :: [])) hA hM 9 rfl rfl rfl (m_store rfl rfl rfl (by kernel_rfl) hM 0 rfl rfl rfl) 0 rfl rfl rfl ?_)
         intro w28 hM
         refine ⟨(hM.sub (.cons _ (.cons _ (List.nil_sublist _)))), ?_⟩
         refine any_end (by kernel_rfl) ?_
         exact hJ21 _ _ ⟨(), hA.keep _ ⟨rfl, rfl, rfl, rfl, rfl, rfl, rfl, rfl, rfl, rfl, rfl, rfl, rfl, rfl, rfl, rfl, rfl, rfl, rfl, rfl, rfl, rfl, rfl, rfl, trivial⟩, hM⟩
   · have hb13' := ne_of_beq_false hb13
     refine seq_do (v := .bool false) hA rfl rfl rfl (does_bin rfl rfl (fun w => (bin_eql w).trans (by rw [hb13]))) ?_
     intro a hA
     refine seq_do (v := .bool false) hA rfl rfl rfl (does_pick rfl rfl rfl rfl) ?_
     intro a hA
     refine seq_end ?_
     refine hK11 _ _ ?_
     refine wp_cond_false (hA.ev rfl) ?_
     refine wp_exit ?_
     refine hK6 _ _ ?_
     refine wp_seq_k (fun K29 hK29 => ?_)
     refine wp_seq_k (fun K30 hK30 => ?_)
     refine wp_region_lit ?_
     refine seq_do (v := .pointer (some ⟨g2, 0, none⟩)) hA rfl rfl rfl (does_field EqB_fld_30_0 rfl rfl) ?_
     intro a hA
     refine seq_do hA rfl rfl rfl (m_load1 hM EqB_is1_3 rfl 1 rfl rfl) ?_
     intro a hA
     refine seq_do (v := .pointer (some ⟨g4, 0, none⟩)) hA rfl rfl rfl (does_field EqB_fld_30_0 rfl rfl) ?_
     intro a hA
     refine seq_do hA rfl rfl rfl (m_load1 hM EqB_is1_3 rfl 0 rfl rfl) ?_
     intro a hA
     refine seq_do (v := .bool true) hA rfl rfl rfl (does_bin rfl rfl (fun w => (bin_neq w).trans (by rw [show ((p.d.k != r.d.k)) = true from (bne_iff_ne.2 (by omega))]))) ?_
     intro a hA
     refine seq_end ?_
     refine hK30 _ _ ?_
     refine wp_cond_true (hA.ev rfl) ?_
     refine wp_seq_k (fun K31 hK31 => ?_)
     refine wp_region_lit ?_
     refine seq_do (v := .pointer (some ⟨g2, 0, none⟩)) hA rfl rfl rfl (does_field EqB_fld_30_0 rfl rfl) ?_
     intro a hA
     refine seq_do hA rfl rfl rfl (m_load1 hM EqB_is1_3 rfl 1 rfl rfl) ?_
     intro a hA
     refine seq_do (v := .pointer (some ⟨g4, 0, none⟩)) hA rfl rfl rfl (does_field EqB_fld_30_0 rfl rfl) ?_
     intro a hA
     refine seq_do hA rfl rfl rfl (m_load1 hM EqB_is1_3 rfl 0 rfl rfl) ?_
     intro a hA
     refine seq_call hA rfl rfl rfl (enters_func rfl rfl (fun w => by kernel_rfl)) (cmpi_any) ?_
     rintro _ w33 ⟨rfl, hb32⟩
     replace hM := hM.call hb32
     refine ⟨_, rfl, ?_⟩
     intro a hA
     refine seq_do hA rfl rfl rfl (does_assign rfl) ?_
     intro a hA
     refine seq_end ?_
     refine hK31 _ _ ?_
     refine wp_ret ?_
     refine hret _ _ ?_
     refine ends (v := .int .i64 (cmpI p.d.k r.d.k)) hA rfl (.cons (res_tmp rfl) .nil) rfl ?_
     exact ⟨by rw [hin9, ord_kind (by omega)], hM.bel⟩
 · have hb12' := ne_of_beq_false hb12
   refine seq_do (v := .bool false) hA rfl rfl rfl (does_bin rfl rfl (fun w => (bin_eql w).trans (by rw [hb12]))) ?_
   intro a hA
   refine seq_do hA rfl rfl rfl (does_move rfl) ?_
   intro a hA
   refine seq_skip hA rfl rfl rfl ?_
   intro a hA
   refine seq_skip hA rfl rfl rfl ?_
   intro a hA
   refine seq_skip hA rfl rfl rfl ?_
   intro a hA
   refine seq_do (v := .bool false) hA rfl rfl rfl (does_pick rfl rfl rfl rfl) ?_
   intro a hA
   refine seq_end ?_
   refine hK11 _ _ ?_
   refine wp_cond_false (hA.ev rfl) ?_
   refine wp_exit ?_
   refine hK6 _ _ ?_
   refine wp_seq_k (fun K34 hK34 => ?_)
   refine wp_seq_k (fun K35 hK35 => ?_)
   refine wp_region_lit ?_
   refine seq_do (v := .pointer (some ⟨g2, 0, none⟩)) hA rfl rfl rfl (does_field EqB_fld_30_0 rfl rfl) ?_
   intro a hA
   refine seq_do hA rfl rfl rfl (m_load1 hM EqB_is1_3 rfl 1 rfl rfl) ?_
   intro a hA
   refine seq_do (v := .pointer (some ⟨g4, 0, none⟩)) hA rfl rfl rfl (does_field EqB_fld_30_0 rfl rfl) ?_
   intro a hA
   refine seq_do hA rfl rfl rfl (m_load1 hM EqB_is1_3 rfl 0 rfl rfl) ?_
   intro a hA
   rcases Bool.eq_false_or_eq_true ((p.d.k != r.d.k)) with hb36 | hb36
   · have hb36' := bne_iff_ne.1 hb36
     refine seq_do (v := .bool true) hA rfl rfl rfl (does_bin rfl rfl (fun w => (bin_neq w).trans (by rw [hb36]))) ?_
     intro a hA
     refine seq_end ?_
     refine hK35 _ _ ?_
     refine wp_cond_true (hA.ev rfl) ?_
     refine wp_seq_k (fun K37 hK37 => ?_)
     refine wp_region_lit ?_
     refine seq_do (v := .pointer (some ⟨g2, 0, none⟩)) hA rfl rfl rfl (does_field EqB_fld_30_0 rfl rfl) ?_
     intro a hA
     refine seq_do hA rfl rfl rfl (m_load1 hM EqB_is1_3 rfl 1 rfl rfl) ?_
     intro a hA
     refine seq_do (v := .pointer (some ⟨g4, 0, none⟩)) hA rfl rfl rfl (does_field EqB_fld_30_0 rfl rfl) ?_
     intro a hA
     refine seq_do hA rfl rfl rfl (m_load1 hM EqB_is1_3 rfl 0 rfl rfl) ?_
     intro a hA
     refine seq_call hA rfl rfl rfl (enters_func rfl rfl (fun w => by kernel_rfl)) (cmpi_any) ?_
     rintro _ w39 ⟨rfl, hb38⟩
     replace hM := hM.call hb38
     refine ⟨_, rfl, ?_⟩
     intro a hA
     refine seq_do hA rfl rfl rfl (does_assign rfl) ?_
     intro a hA
     refine seq_end ?_
     refine hK37 _ _ ?_
     refine wp_ret ?_
     refine hret _ _ ?_
     refine ends (v := .int .i64 (cmpI p.d.k r.d.k)) hA rfl (.cons (res_tmp rfl) .nil) rfl ?_
     exact ⟨by rw [hin9, ord_kind (by omega)], hM.bel⟩
   · have hb36' := bne_eq_false_iff_eq.1 hb36
     refine seq_do (v := .bool false) hA rfl rfl rfl (does_bin rfl rfl (fun w => (bin_neq w).trans (by rw [hb36]))) ?_
     intro a hA
     refine seq_end ?_
     refine hK35 _ _ ?_
     refine wp_cond_false (hA.ev rfl) ?_
     refine wp_skip ?_
     refine hK34 _ _ ?_
     refine wp_seq_k (fun K40 hK40 => ?_)
     refine wp_seq_k (fun K41 hK41 => ?_)
     refine wp_region_lit ?_
     refine seq_do (v := .pointer (some ⟨g2, 0, none⟩)) hA rfl rfl rfl (does_field EqB_fld_30_0 rfl rfl) ?_
     intro a hA
     refine seq_do hA rfl rfl rfl (m_load1 hM EqB_is1_3 rfl 1 rfl rfl) ?_
     intro a hA
     refine seq_end ?_
     refine hK41 _ _ ?_
     refine wp_block ?_
     refine wp_seq_k (fun K42 hK42 => ?_)
     refine wp_seq_k (fun K43 hK43 => ?_)
     refine wp_region_lit ?_
     rcases Bool.eq_false_or_eq_true ((p.d.k == 2)) with hb44 | hb44
     · have hb44' := eq_of_beq hb44
       refine seq_do (v := .bool true) hA rfl rfl rfl (does_bin rfl rfl (fun w => (bin_eql w).trans (by rw [hb44]))) ?_
       intro a hA
       refine seq_do hA rfl rfl rfl (does_assign rfl) ?_
       intro a hA
       refine seq_end ?_
       refine hK43 _ _ ?_
       refine wp_cond_true (hA.ev rfl) ?_
       refine wp_skip ?_
       refine hK42 _ _ ?_
       refine wp_cond_true (hA.ev rfl) ?_
       refine wp_seq_k (fun K45 hK45 => ?_)
       refine wp_region_lit ?_
       refine seq_do (v := .pointer (some ⟨g2, 1, none⟩)) hA rfl rfl rfl (does_field EqB_fld_30_1 rfl rfl) ?_
       intro a hA
       refine seq_do hA rfl rfl rfl (m_load1 hM EqB_is1_3 rfl 1 rfl rfl) ?_
       intro a hA
       refine seq_do (v := .pointer (some ⟨g4, 1, none⟩)) hA rfl rfl rfl (does_field EqB_fld_30_1 rfl rfl) ?_
       intro a hA
       refine seq_do hA rfl rfl rfl (m_load1 hM EqB_is1_3 rfl 0 rfl rfl) ?_
       intro a hA
       refine seq_call hA rfl rfl rfl (enters_func rfl rfl (fun w => by kernel_rfl)) (cmpi_any) ?_
       rintro _ w47 ⟨rfl, hb46⟩
       replace hM := hM.call hb46
       refine ⟨_, rfl, ?_⟩
       intro a hA
       refine seq_do hA rfl rfl rfl (does_assign rfl) ?_
       intro a hA
       refine seq_end ?_
       refine hK45 _ _ ?_
       refine wp_ret ?_
       refine hret _ _ ?_
       refine ends (v := .int .i64 (cmpI p.d.n r.d.n)) hA rfl (.cons (res_tmp rfl) .nil) rfl ?_
       exact ⟨by
         rw [hin9, ord_end gp gr (by omega) (by omega)]
         repeat (first | rw [if_pos (by omega)] | rw [if_neg (by omega)]), hM.bel⟩
     · have hb44' := ne_of_beq_false hb44
       refine seq_do (v := .bool false) hA rfl rfl rfl (does_bin rfl rfl (fun w => (bin_eql w).trans (by rw [hb44]))) ?_
       intro a hA
       refine seq_do hA rfl rfl rfl (does_assign rfl) ?_
       intro a hA
       refine seq_end ?_
       refine hK43 _ _ ?_
       refine wp_cond_false (hA.ev rfl) ?_
       refine wp_region_lit ?_
       rcases Bool.eq_false_or_eq_true ((p.d.k == 4)) with hb48 | hb48
       · have hb48' := eq_of_beq hb48
         refine seq_do (v := .bool true) hA rfl rfl rfl (does_bin rfl rfl (fun w => (bin_eql w).trans (by rw [hb48]))) ?_
         intro a hA
         refine seq_do hA rfl rfl rfl (does_assign rfl) ?_
         intro a hA
         refine seq_end ?_
         refine hK42 _ _ ?_
         refine wp_cond_true (hA.ev rfl) ?_
         refine wp_seq_k (fun K49 hK49 => ?_)
         refine wp_region_lit ?_
         refine seq_do (v := .pointer (some ⟨g2, 1, none⟩)) hA rfl rfl rfl (does_field EqB_fld_30_1 rfl rfl) ?_
         intro a hA
         refine seq_do hA rfl rfl rfl (m_load1 hM EqB_is1_3 rfl 1 rfl rfl) ?_
         intro a hA
         refine seq_do (v := .pointer (some ⟨g4, 1, none⟩)) hA rfl rfl rfl (does_field EqB_fld_30_1 rfl rfl) ?_
         intro a hA
         refine seq_do hA rfl rfl rfl (m_load1 hM EqB_is1_3 rfl 0 rfl rfl) ?_
         intro a hA
         refine seq_call hA rfl rfl rfl (enters_func rfl rfl (fun w => by kernel_rfl)) (cmpi_any) ?_
         rintro _ w51 ⟨rfl, hb50⟩
         replace hM := hM.call hb50
         refine ⟨_, rfl, ?_⟩
         intro a hA
         refine seq_do hA rfl rfl rfl (does_assign rfl) ?_
         intro a hA
         refine seq_end ?_
         refine hK49 _ _ ?_
         refine wp_ret ?_
         refine hret _ _ ?_
         refine ends (v := .int .i64 (cmpI p.d.n r.d.n)) hA rfl (.cons (res_tmp rfl) .nil) rfl ?_
         exact ⟨by
           rw [hin9, ord_end gp gr (by omega) (by omega)]
           repeat (first | rw [if_pos (by omega)] | rw [if_neg (by omega)]), hM.bel⟩
       · have hb48' := ne_of_beq_false hb48
         refine seq_do (v := .bool false) hA rfl rfl rfl (does_bin rfl rfl (fun w => (bin_eql w).trans (by rw [hb48]))) ?_
         intro a hA
         refine seq_do hA rfl rfl rfl (does_assign rfl) ?_
         intro a hA
         refine seq_end ?_
         refine hK42 _ _ ?_
         refine wp_cond_false (hA.ev rfl) ?_
         refine wp_seq_k (fun K52 hK52 => ?_)
         refine wp_region_lit ?_
         rcases Bool.eq_false_or_eq_true ((p.d.k == 3)) with hb53 | hb53
         · have hb53' := eq_of_beq hb53
           refine seq_do (v := .bool true) hA rfl rfl rfl (does_bin rfl rfl (fun w => (bin_eql w).trans (by rw [hb53]))) ?_
           intro a hA
           refine seq_do hA rfl rfl rfl (does_assign rfl) ?_
           intro a hA
           refine seq_end ?_
           refine hK52 _ _ ?_
           refine wp_cond_true (hA.ev rfl) ?_
           refine wp_seq_k (fun K54 hK54 => ?_)
           refine wp_region_lit ?_
           refine seq_do (v := .pointer (some ⟨g2, 2, none⟩)) hA rfl rfl rfl (does_field EqB_fld_30_2 rfl rfl) ?_
           intro a hA
           refine seq_do hA rfl rfl rfl (m_loadS hM EqB_isS_26 rfl 1 rfl (cs := [.bool p.d.y.q.b1, .slice p.d.y.o1 p.d.y.q.t1.length p.d.y.c1, .slice p.d.y.o2 p.d.y.q.q1.length p.d.y.c2, .bool p.d.y.q.b2, .slice p.d.y.o3 p.d.y.q.t2.length p.d.y.c3, .slice p.d.y.o4 p.d.y.q.q2.length p.d.y.c4]) rfl rfl) ?_
           intro a hA
           refine seq_do (v := .pointer (some ⟨g4, 2, none⟩)) hA rfl rfl rfl (does_field EqB_fld_30_2 rfl rfl) ?_
           intro a hA
           refine seq_do hA rfl rfl rfl (m_loadS hM EqB_isS_26 rfl 0 rfl (cs := [.bool r.d.y.q.b1, .slice r.d.y.o1 r.d.y.q.t1.length r.d.y.c1, .slice r.d.y.o2 r.d.y.q.q1.length r.d.y.c2, .bool r.d.y.q.b2, .slice r.d.y.o3 r.d.y.q.t2.length r.d.y.c3, .slice r.d.y.o4 r.d.y.q.q2.length r.d.y.c4]) rfl rfl) ?_
           intro a hA
           refine seq_call hA rfl rfl rfl (enters_func rfl rfl (fun w => by kernel_rfl)) (ordQ_any (y := p.d.y) (z := r.d.y) (Nu.below (Dt.okT hp).1.num hM.bel) (Nu.below (Dt.okT hr).1.num hM.bel) ((good_at gp).2.1 (by omega)) ((good_at gr).2.1 (by omega))) ?_
           rintro _ w55 ⟨rfl, hbn⟩
           replace hM := hM.call hbn
           refine ⟨_, rfl, ?_⟩
           intro a hA
           refine seq_do hA rfl rfl rfl (does_assign rfl) ?_
           intro a hA
           refine seq_end ?_
           refine hK54 _ _ ?_
           refine wp_ret ?_
           refine hret _ _ ?_
           refine ends (v := .int .i64 (ordN p.d.y.q r.d.y.q)) hA rfl (.cons (res_tmp rfl) .nil) rfl ?_
           exact ⟨by
             rw [hin9, ord_end gp gr (by omega) (by omega)]
             repeat (first | rw [if_pos (by omega)] | rw [if_neg (by omega)]), hM.bel⟩
         · have hb53' := ne_of_beq_false hb53
           refine seq_do (v := .bool false) hA rfl rfl rfl (does_bin rfl rfl (fun w => (bin_eql w).trans (by rw [hb53]))) ?_
           intro a hA
           refine seq_do hA rfl rfl rfl (does_assign rfl) ?_
           intro a hA
           refine seq_end ?_
           refine hK52 _ _ ?_
           refine wp_cond_false (hA.ev rfl) ?_
           refine wp_seq_k (fun K56 hK56 => ?_)
           refine wp_seq_k (fun K57 hK57 => ?_)
           refine wp_region_lit ?_
           rcases Bool.eq_false_or_eq_true ((p.d.k == 5)) with hb58 | hb58
           · have hb58' := eq_of_beq hb58
             refine seq_do (v := .bool true) hA rfl rfl rfl (does_bin rfl rfl (fun w => (bin_eql w).trans (by rw [hb58]))) ?_
             intro a hA
             refine seq_do hA rfl rfl rfl (does_assign rfl) ?_
             intro a hA
             refine seq_end ?_
             refine hK57 _ _ ?_
             refine wp_cond_true (hA.ev rfl) ?_
             refine wp_skip ?_
             refine hK56 _ _ ?_
             refine wp_cond_true (hA.ev rfl) ?_
             refine wp_seq_k (fun K59 hK59 => ?_)
             refine wp_region_lit ?_
             refine seq_do (v := .pointer (some ⟨g2, 8, none⟩)) hA rfl rfl rfl (does_field EqB_fld_30_3 rfl rfl) ?_
             intro a hA
             refine seq_do hA rfl rfl rfl (m_load1 hM EqB_is1_9 rfl 1 rfl rfl) ?_
             intro a hA
             refine seq_do (v := .pointer (some ⟨g4, 8, none⟩)) hA rfl rfl rfl (does_field EqB_fld_30_3 rfl rfl) ?_
             intro a hA
             refine seq_do hA rfl rfl rfl (m_load1 hM EqB_is1_9 rfl 0 rfl rfl) ?_
             intro a hA
             refine seq_call hA rfl rfl rfl (enters_func rfl rfl (fun w => by kernel_rfl)) (scmp_any) ?_
             rintro _ w61 ⟨rfl, hb60⟩
             replace hM := hM.call hb60
             refine ⟨_, rfl, ?_⟩
             intro a hA
             refine seq_do hA rfl rfl rfl (does_assign rfl) ?_
             intro a hA
             refine seq_end ?_
             refine hK59 _ _ ?_
             refine wp_ret ?_
             refine hret _ _ ?_
             refine ends (v := .int .i64 (Lib.compareBytes p.d.s.data.toList r.d.s.data.toList)) hA rfl (.cons (res_tmp rfl) .nil) rfl ?_
             exact ⟨by
               rw [hin9, ord_end gp gr (by omega) (by omega)]
               repeat (first | rw [if_pos (by omega)] | rw [if_neg (by omega)]), hM.bel⟩
           · have hb58' := ne_of_beq_false hb58
             refine seq_do (v := .bool false) hA rfl rfl rfl (does_bin rfl rfl (fun w => (bin_eql w).trans (by rw [hb58]))) ?_
             intro a hA
             refine seq_do hA rfl rfl rfl (does_assign rfl) ?_
             intro a hA
             refine seq_end ?_
             refine hK57 _ _ ?_
             refine wp_cond_false (hA.ev rfl) ?_
             refine wp_seq_k (fun K62 hK62 => ?_)
             refine wp_region_lit ?_
             rcases Bool.eq_false_or_eq_true ((p.d.k == 6)) with hb63 | hb63
             · have hb63' := eq_of_beq hb63
               refine seq_do (v := .bool true) hA rfl rfl rfl (does_bin rfl rfl (fun w => (bin_eql w).trans (by rw [hb63]))) ?_
               intro a hA
               refine seq_do hA rfl rfl rfl (does_assign rfl) ?_
               intro a hA
               refine seq_end ?_
               refine hK62 _ _ ?_
               refine wp_cond_true (hA.ev rfl) ?_
               refine wp_skip ?_
               refine hK56 _ _ ?_
               refine wp_cond_true (hA.ev rfl) ?_
               refine wp_seq_k (fun K64 hK64 => ?_)
               refine wp_region_lit ?_
               refine seq_do (v := .pointer (some ⟨g2, 8, none⟩)) hA rfl rfl rfl (does_field EqB_fld_30_3 rfl rfl) ?_
               intro a hA
               refine seq_do hA rfl rfl rfl (m_load1 hM EqB_is1_9 rfl 1 rfl rfl) ?_
               intro a hA
               refine seq_do (v := .pointer (some ⟨g4, 8, none⟩)) hA rfl rfl rfl (does_field EqB_fld_30_3 rfl rfl) ?_
               intro a hA
               refine seq_do hA rfl rfl rfl (m_load1 hM EqB_is1_9 rfl 0 rfl rfl) ?_
               intro a hA
               refine seq_call hA rfl rfl rfl (enters_func rfl rfl (fun w => by kernel_rfl)) (scmp_any) ?_
               rintro _ w66 ⟨rfl, hb65⟩
               replace hM := hM.call hb65
               refine ⟨_, rfl, ?_⟩
               intro a hA
               refine seq_do hA rfl rfl rfl (does_assign rfl) ?_
               intro a hA
               refine seq_end ?_
               refine hK64 _ _ ?_
               refine wp_ret ?_
               refine hret _ _ ?_
               refine ends (v := .int .i64 (Lib.compareBytes p.d.s.data.toList r.d.s.data.toList)) hA rfl (.cons (res_tmp rfl) .nil) rfl ?_
               exact ⟨by
                 rw [hin9, ord_end gp gr (by omega) (by omega)]
                 repeat (first | rw [if_pos (by omega)] | rw [if_neg (by omega)]), hM.bel⟩
             · have hb63' := ne_of_beq_false hb63
               refine seq_do (v := .bool false) hA rfl rfl rfl (does_bin rfl rfl (fun w => (bin_eql w).trans (by rw [hb63]))) ?_
               intro a hA
               refine seq_do hA rfl rfl rfl (does_assign rfl) ?_
               intro a hA
               refine seq_end ?_
               refine hK62 _ _ ?_
               refine wp_cond_false (hA.ev rfl) ?_
               refine wp_region_lit ?_
               rcases Bool.eq_false_or_eq_true ((p.d.k == 11)) with hb67 | hb67
               · have hb67' := eq_of_beq hb67
                 refine seq_do (v := .bool true) hA rfl rfl rfl (does_bin rfl rfl (fun w => (bin_eql w).trans (by rw [hb67]))) ?_
                 intro a hA
                 refine seq_do hA rfl rfl rfl (does_assign rfl) ?_
                 intro a hA
                 refine seq_end ?_
                 refine hK56 _ _ ?_
                 refine wp_cond_true (hA.ev rfl) ?_
                 refine wp_seq_k (fun K68 hK68 => ?_)
                 refine wp_region_lit ?_
                 refine seq_do (v := .pointer (some ⟨g2, 8, none⟩)) hA rfl rfl rfl (does_field EqB_fld_30_3 rfl rfl) ?_
                 intro a hA
                 refine seq_do hA rfl rfl rfl (m_load1 hM EqB_is1_9 rfl 1 rfl rfl) ?_
                 intro a hA
                 refine seq_do (v := .pointer (some ⟨g4, 8, none⟩)) hA rfl rfl rfl (does_field EqB_fld_30_3 rfl rfl) ?_
                 intro a hA
                 refine seq_do hA rfl rfl rfl (m_load1 hM EqB_is1_9 rfl 0 rfl rfl) ?_
                 intro a hA
                 refine seq_call hA rfl rfl rfl (enters_func rfl rfl (fun w => by kernel_rfl)) (scmp_any) ?_
                 rintro _ w70 ⟨rfl, hb69⟩
                 replace hM := hM.call hb69
                 refine ⟨_, rfl, ?_⟩
                 intro a hA
                 refine seq_do hA rfl rfl rfl (does_assign rfl) ?_
                 intro a hA
                 refine seq_end ?_
                 refine hK68 _ _ ?_
                 refine wp_ret ?_
                 refine hret _ _ ?_
                 refine ends (v := .int .i64 (Lib.compareBytes p.d.s.data.toList r.d.s.data.toList)) hA rfl (.cons (res_tmp rfl) .nil) rfl ?_
                 exact ⟨by
                   rw [hin9, ord_end gp gr (by omega) (by omega)]
                   repeat (first | rw [if_pos (by omega)] | rw [if_neg (by omega)]), hM.bel⟩
               · have hb67' := ne_of_beq_false hb67
                 refine seq_do (v := .bool false) hA rfl rfl rfl (does_bin rfl rfl (fun w => (bin_eql w).trans (by rw [hb67]))) ?_
                 intro a hA
                 refine seq_do hA rfl rfl rfl (does_assign rfl) ?_
                 intro a hA
                 refine seq_end ?_
                 refine hK56 _ _ ?_
                 refine wp_cond_false (hA.ev rfl) ?_
                 refine wp_seq_k (fun K71 hK71 => ?_)
                 refine wp_region_lit ?_
                 rcases Bool.eq_false_or_eq_true ((p.d.k == 7)) with hb72 | hb72
                 · have hb72' := eq_of_beq hb72
                   refine seq_do (v := .bool true) hA rfl rfl rfl (does_bin rfl rfl (fun w => (bin_eql w).trans (by rw [hb72]))) ?_
                   intro a hA
                   refine seq_do hA rfl rfl rfl (does_assign rfl) ?_
                   intro a hA
                   refine seq_end ?_
                   refine hK71 _ _ ?_
                   refine wp_cond_true (hA.ev rfl) ?_
                   refine wp_seq_k (fun K73 hK73 => ?_)
                   refine wp_region_lit ?_
                   refine seq_do (v := .pointer (some ⟨g2, 9, none⟩)) hA rfl rfl rfl (does_field EqB_fld_30_4 rfl rfl) ?_
                   intro a hA
                   refine seq_do hA rfl rfl rfl (m_load1 hM EqB_is1_27 rfl 1 rfl rfl) ?_
                   intro a hA
                   refine seq_do (v := .pointer (some ⟨g4, 9, none⟩)) hA rfl rfl rfl (does_field EqB_fld_30_4 rfl rfl) ?_
                   intro a hA
                   refine seq_do hA rfl rfl rfl (m_load1 hM EqB_is1_27 rfl 0 rfl rfl) ?_
                   intro a hA
                   refine seq_call hA rfl rfl rfl (enters_func rfl rfl (fun w => by kernel_rfl)) (bcmp_any ((Dt.okT hp).1.raw.below hM.bel) ((Dt.okT hr).1.raw.below hM.bel)) ?_
                   rintro _ w75 ⟨rfl, hb74⟩
                   replace hM := hM.call hb74
                   refine ⟨_, rfl, ?_⟩
                   intro a hA
                   refine seq_do hA rfl rfl rfl (does_assign rfl) ?_
                   intro a hA
                   refine seq_end ?_
                   refine hK73 _ _ ?_
                   refine wp_ret ?_
                   refine hret _ _ ?_
                   refine ends (v := .int .i64 (Lib.compareBytes p.d.rl r.d.rl)) hA rfl (.cons (res_tmp rfl) .nil) rfl ?_
                   exact ⟨by
                     rw [hin9, ord_end gp gr (by omega) (by omega)]
                     repeat (first | rw [if_pos (by omega)] | rw [if_neg (by omega)]), hM.bel⟩
                 · have hb72' := ne_of_beq_false hb72
                   refine seq_do (v := .bool false) hA rfl rfl rfl (does_bin rfl rfl (fun w => (bin_eql w).trans (by rw [hb72]))) ?_
                   intro a hA
                   refine seq_do hA rfl rfl rfl (does_assign rfl) ?_
                   intro a hA
                   refine seq_end ?_
                   refine hK71 _ _ ?_
                   refine wp_cond_false (hA.ev rfl) ?_
                   refine wp_seq_k (fun K76 hK76 => ?_)
                   refine wp_region_lit ?_
                   rcases Bool.eq_false_or_eq_true ((p.d.k == 9)) with hb77 | hb77
                   · have hb77' := eq_of_beq hb77
                     refine seq_do (v := .bool true) hA rfl rfl rfl (does_bin rfl rfl (fun w => (bin_eql w).trans (by rw [hb77]))) ?_
                     intro a hA
                     refine seq_do hA rfl rfl rfl (does_assign rfl) ?_
                     intro a hA
                     refine seq_end ?_
                     refine hK76 _ _ ?_
                     refine wp_cond_true (hA.ev rfl) ?_
                     refine wp_seq_k (fun K78 hK78 => ?_)
                     refine wp_region_lit ?_
                     refine seq_do (v := .pointer (some ⟨g2, 10, none⟩)) hA rfl rfl rfl (does_field EqB_fld_30_5 rfl rfl) ?_
                     intro a hA
                     refine seq_do hA rfl rfl rfl (m_load1 hM EqB_is1_28 rfl 1 rfl rfl) ?_
                     intro a hA
                     refine seq_do (v := .pointer (some ⟨g4, 10, none⟩)) hA rfl rfl rfl (does_field EqB_fld_30_5 rfl rfl) ?_
                     intro a hA
                     refine seq_do hA rfl rfl rfl (m_load1 hM EqB_is1_28 rfl 0 rfl rfl) ?_
                     intro a hA
                     refine seq_call hA rfl rfl rfl (enters_func rfl rfl (fun w => by kernel_rfl)) (vec_any ih (Dt.keep hM.bel _ hp) (Dt.keep hM.bel _ hr) gp gr (by omega)) ?_
                     rintro _ w80 ⟨rfl, hb79⟩
                     replace hM := hM.call hb79
                     refine ⟨_, rfl, ?_⟩
                     intro a hA
                     refine seq_do hA rfl rfl rfl (does_assign rfl) ?_
                     intro a hA
                     refine seq_end ?_
                     refine hK78 _ _ ?_
                     refine wp_ret ?_
                     refine hret _ _ ?_
                     refine ends (v := .int .i64 (lex (cmpI (p.ts.length : Int) (r.ts.length : Int)) (ordL (p.ts.map Dt.tr) (r.ts.map Dt.tr)))) hA rfl (.cons (res_tmp rfl) .nil) rfl ?_
                     exact ⟨by
                       rw [hin9, ord_end gp gr (by omega) (by omega)]
                       repeat (first | rw [if_pos (by omega)] | rw [if_neg (by omega)]), hM.bel⟩
                   · have hb77' := ne_of_beq_false hb77
                     refine seq_do (v := .bool false) hA rfl rfl rfl (does_bin rfl rfl (fun w => (bin_eql w).trans (by rw [hb77]))) ?_
                     intro a hA
                     refine seq_do hA rfl rfl rfl (does_assign rfl) ?_
                     intro a hA
                     refine seq_end ?_
                     refine hK76 _ _ ?_
                     refine wp_cond_false (hA.ev rfl) ?_
                     refine wp_skip ?_
                     refine hK40 _ _ ?_
                     refine wp_seq_k (fun K81 hK81 => ?_)
                     refine wp_region_lit ?_
                     refine seq_do hA rfl rfl rfl (does_assign rfl) ?_
                     intro a hA
                     refine seq_end ?_
                     refine hK81 _ _ ?_
                     refine wp_ret ?_
                     refine hret _ _ ?_
                     refine ends (v := .int .i64 0) hA rfl (.cons (res_tmp rfl) .nil) rfl ?_
                     exact ⟨by
                       rw [hin9, ord_end gp gr (by omega) (by omega)]
                       repeat (first | rw [if_pos (by omega)] | rw [if_neg (by omega)]), hM.bel⟩
theorem orders_all : ∀ n, Orders n
  | 0 => fun h => absurd h (Nat.not_lt_zero _)
  | n + 1 => orders_step (orders_all n)
end Go.Proofs.YtabjlejolmmeeaaGreatDoor.G
