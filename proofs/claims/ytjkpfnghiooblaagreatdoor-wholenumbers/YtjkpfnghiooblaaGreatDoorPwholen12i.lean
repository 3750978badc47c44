/- Walks of what makes a node sound. Walks of sound data. Walks of a number's text. Write of a number. The walk of the law of whole numbers. -/
import Derived.Test.YtjkpfnghiooblaaGreatDoorPwholen12h
import Derived.Test.YtjkpfnghiooblaaGreatDoorShelfB
import Derived.Test.YtjkpfnghiooblaaGreatDoorPwholen12e
namespace Go.Proofs.YtjkpfnghiooblaaGreatDoor.G
open Go.RowKit
set_option linter.unusedVariables false
set_option linter.unusedSimpArgs false
set_option maxRecDepth 100000
theorem TrB_is1_22 : Is1 Tryz.prog 22 := ⟨⟨_, Tryz.underlying22, rfl⟩, by kernel_rfl⟩
theorem TrB_is1_3 : Is1 Tryz.prog 3 := ⟨⟨_, Tryz.underlying3, rfl⟩, by kernel_rfl⟩
theorem TrB_is1_31 : Is1 Tryz.prog 31 := ⟨⟨_, Tryz.underlying31, rfl⟩, by kernel_rfl⟩
theorem TrB_is1_4 : Is1 Tryz.prog 4 := ⟨⟨_, Tryz.underlying4, rfl⟩, by kernel_rfl⟩
theorem TrB_is1_44 : Is1 Tryz.prog 44 := ⟨⟨_, Tryz.underlying44, rfl⟩, by kernel_rfl⟩
theorem TrB_is1_9 : Is1 Tryz.prog 9 := ⟨⟨_, Tryz.underlying9, rfl⟩, by kernel_rfl⟩
theorem TrB_fld_24_0 : FieldAt Tryz.prog 24 0 0 := ⟨_, _, Tryz.underlying24, rfl, rfl, by kernel_rfl⟩
theorem TrB_fld_24_1 : FieldAt Tryz.prog 24 1 1 := ⟨_, _, Tryz.underlying24, rfl, rfl, by kernel_rfl⟩
theorem TrB_fld_24_2 : FieldAt Tryz.prog 24 2 2 := ⟨_, _, Tryz.underlying24, rfl, rfl, by kernel_rfl⟩
theorem TrB_fld_26_0 : FieldAt Tryz.prog 26 0 0 := ⟨_, _, Tryz.underlying26, rfl, rfl, by kernel_rfl⟩
theorem TrB_fld_26_1 : FieldAt Tryz.prog 26 1 3 := ⟨_, _, Tryz.underlying26, rfl, rfl, by kernel_rfl⟩
theorem TrB_fld_49_0 : FieldAt Tryz.prog 49 0 0 := ⟨_, _, Tryz.underlying49, rfl, rfl, by kernel_rfl⟩
theorem TrB_fld_49_1 : FieldAt Tryz.prog 49 1 1 := ⟨_, _, Tryz.underlying49, rfl, rfl, by kernel_rfl⟩
theorem TrB_fld_49_2 : FieldAt Tryz.prog 49 2 2 := ⟨_, _, Tryz.underlying49, rfl, rfl, by kernel_rfl⟩
theorem TrB_fld_49_3 : FieldAt Tryz.prog 49 3 8 := ⟨_, _, Tryz.underlying49, rfl, rfl, by kernel_rfl⟩
theorem TrB_fld_49_4 : FieldAt Tryz.prog 49 4 9 := ⟨_, _, Tryz.underlying49, rfl, rfl, by kernel_rfl⟩
theorem TrB_fld_49_5 : FieldAt Tryz.prog 49 5 10 := ⟨_, _, Tryz.underlying49, rfl, rfl, by kernel_rfl⟩
theorem TrB_isS_24 : IsS Tryz.prog 24 3 := ⟨⟨_, Tryz.underlying24⟩, by kernel_rfl⟩
theorem TrB_isS_26 : IsS Tryz.prog 26 6 := ⟨⟨_, Tryz.underlying26⟩, by kernel_rfl⟩
theorem TrB_isS_49 : IsS Tryz.prog 49 11 := ⟨⟨_, Tryz.underlying49⟩, by kernel_rfl⟩
/-- The library's tables of characters are there. -/
def Tabs8 (w : World) : Prop := Lib.Utf8Tabs (Tryz.laysValid_ren.g 3) (Tryz.laysValid_ren.g 4) w
theorem Tabs8.below {w w' : World} (h : Tabs8 w) (hb : Below w.heap.size w w') : Tabs8 w' := Utf8Tabs_below h hb
theorem ud {w : World} {s : ByteArray} (hs : s.size ≤ 9223372036854775807) (hT : Tabs8 w) {b : Bool} (h : okS s = b) : Calls Tryz.prog 158 #[.string s] w fun e w' => e = .returned (.bool b) ∧ Below w.heap.size w w' := h ▸ Any.utf8_ValidString Tryz.laysValid s w hs hT
theorem zqf {w : World} {r : Int} : Calls Tryz.prog 243 #[.int .i32 r] w fun e w' => e = .returned (.bool (Lib.validRune r)) ∧ Below w.heap.size w w' := (Tryz.utf8_ValidRune r w).mono fun e w' ⟨h, e2⟩ => ⟨h, e2 ▸ Below.refl _ _⟩
theorem qze {P : Program} {s d : TypeId} (hs : P.underlying s = some (.int .i64)) (hd : P.underlying d = some (.int .i32)) {n : Int} (h0 : 0 ≤ n) (h1 : n ≤ 1114111) : ∀ w, (convert s d (.int .i64 n)).run P w = .ok (.int .i32 n) w := fun w => by
 simp [go_sem, run_underlying hs, run_underlying hd, convert]
 exact in_i32 (by omega) (by omega)
theorem zea {w : World} {n : Int} : Calls Tryz.prog 220 #[.int .i64 n] w fun e w' => e = .returned (.bool (qzd n)) ∧ Below w.heap.size w w' := by
 have hM : Mg w w ([]) := Mg.start w
 refine qz (l := [(0, .int .i64 n)]) Tryz.func220 rfl Tryz.ntmps220 rfl rfl ?_
 intro Q hret hnorm hP a hA
 refine wsk fun K1 hK1 => wrl (sdo hA (qa rfl) fun a hA => ?_)
 refine qb (hK1 _ _ (wsk fun K2 hK2 => wrl (sdo hA (qe rfl) fun a hA => ?_)))
 rcases tf (decide (0 ≤ n)) with hb3 | hb3
 ·
  have hb3' := of_decide_eq_true hb3
  refine sdo (v := .bool true) hA (qg rfl rfl (fun w => (vi w).trans (by rw [hb3]))) fun a hA => ?_
  iterate 2 refine sdo hA (qe rfl) fun a hA => ?_
  rcases tf (decide (n ≤ 1114111)) with hb4 | hb4
  ·
   have hb4' := of_decide_eq_true hb4
   refine sdo (v := .bool true) hA (qg rfl rfl (fun w => (qbb w).trans (by rw [hb4]))) fun a hA => ?_
   refine sdo (v := .bool true) hA (qi rfl rfl rfl rfl) fun a hA => ?_
   iterate 2 refine sdo hA (qe rfl) fun a hA => ?_
   refine sdo (v := .int .i32 n) hA (jv rfl (qze Tryz.underlying3 Tryz.underlying21 (by omega) (by omega))) fun a hA => ?_
   refine qj hA rfl rfl rfl (qf rfl rfl (fun w => by kernel_rfl)) (zqf) ?_
   rintro _ w5 ⟨rfl, hbv⟩
   replace hM := hM.call hbv
   refine ⟨_, rfl, ?_⟩
   intro a hA
   refine sdo (v := .bool (Lib.validRune n)) hA (qi rfl rfl rfl rfl) fun a hA => ?_
   refine sdo hA (qa rfl) fun a hA => ?_
   refine qb (hK2 _ _ (wp_ret (hret _ _ (en1 hA rfl (qk rfl) ?_))))
   exact ⟨by rw [show qzd n = Lib.validRune n from by unfold qzd; unfold Lib.validRune; exact decide_eq_decide.2 (by omega)], hM.bel⟩
  ·
   have hb4' := of_decide_eq_false hb4
   refine sdo (v := .bool false) hA (qg rfl rfl (fun w => (qbb w).trans (by rw [hb4]))) fun a hA => ?_
   refine sdo (v := .bool false) hA (qi rfl rfl rfl rfl) fun a hA => ?_
   refine sdo hA (qe rfl) fun a hA => ?_
   iterate 3 refine qy hA rfl rfl rfl fun a hA => ?_
   refine sdo (v := .bool false) hA (qi rfl rfl rfl rfl) fun a hA => ?_
   refine sdo hA (qa rfl) fun a hA => ?_
   refine qb (hK2 _ _ (wp_ret (hret _ _ (en1 hA rfl (qk rfl) ?_))))
   exact ⟨by rw [show qzd n = false from by unfold qzd; apply decide_eq_false; omega], hM.bel⟩
 ·
  have hb3' := of_decide_eq_false hb3
  refine sdo (v := .bool false) hA (qg rfl rfl (fun w => (vi w).trans (by rw [hb3]))) fun a hA => ?_
  refine sdo hA (qe rfl) fun a hA => ?_
  iterate 2 refine qy hA rfl rfl rfl fun a hA => ?_
  refine sdo (v := .bool false) hA (qi rfl rfl rfl rfl) fun a hA => ?_
  refine sdo hA (qe rfl) fun a hA => ?_
  iterate 3 refine qy hA rfl rfl rfl fun a hA => ?_
  refine sdo (v := .bool false) hA (qi rfl rfl rfl rfl) fun a hA => ?_
  refine sdo hA (qa rfl) fun a hA => ?_
  refine qb (hK2 _ _ (wp_ret (hret _ _ (en1 hA rfl (qk rfl) ?_))))
  exact ⟨by rw [show qzd n = false from by unfold qzd; apply decide_eq_false; omega], hM.bel⟩
theorem yy {w : World} {b : Bool} {o1 o2 : Option Addr} {m1 m2 c1 c2 : Nat} (h1 : m1 ≤ 9223372036854775807) (h2 : m2 ≤ 9223372036854775807) {r : Bool} (hr : qzc b m1 m2 = r) : Calls Tryz.prog 244 #[.agg #[.bool b, .slice o1 m1 c1, .slice o2 m2 c2]] w fun e w' => e = .returned (.bool r) ∧ Below w.heap.size w w' := by
 have hM : Mg w w ([]) := Mg.start w
 refine qz (l := [(0, .agg #[.bool b, .slice o1 m1 c1, .slice o2 m2 c2])]) Tryz.func244 rfl Tryz.ntmps244 rfl rfl ?_
 intro Q hret hnorm hP a hA
 refine wsk fun K1 hK1 => wrl (xg (vs := [.bool b, .slice o1 m1 c1, .slice o2 m2 c2]) (t := 24) hA hM rfl rfl rfl (fun g => .pointer (some ⟨g, 0, none⟩)) (za rfl rfl) (by decide) ?_)
 intro g2 w3 hM a hA
 refine sdo hA (qa rfl) fun a hA => ?_
 refine qb (hK1 _ _ (wsk fun K4 hK4 => wrl (sdo (v := .pointer (some ⟨g2, 0, none⟩)) hA (qh TrB_fld_24_0 rfl rfl) fun a hA => ?_)))
 refine sdo hA (zm hM TrB_is1_4 rfl 0 rfl rfl) fun a hA => ?_
 rcases b with _ | _
 ·
  refine sdo (v := .bool true) hA (zk rfl zq) fun a hA => ?_
  refine sdo hA (qe rfl) fun a hA => ?_
  refine sdo (v := .pointer (some ⟨g2, 1, none⟩)) hA (qh TrB_fld_24_1 rfl rfl) fun a hA => ?_
  refine sdo hA (zm hM TrB_is1_22 rfl 0 rfl rfl) fun a hA => ?_
  refine sdo hA (zj Tryz.underlying22 rfl) fun a hA => ?_
  rcases tf ((((m1 : Nat) : Int) == 0)) with hb5 | hb5
  ·
   have hb5' := eq_of_beq hb5
   refine sdo (v := .bool true) hA (qg rfl rfl (fun w => (ze w).trans (by rw [hb5]))) fun a hA => ?_
   refine sdo (v := .bool true) hA (qi rfl rfl rfl rfl) fun a hA => ?_
   refine sdo hA (qe rfl) fun a hA => ?_
   refine sdo (v := .pointer (some ⟨g2, 2, none⟩)) hA (qh TrB_fld_24_2 rfl rfl) fun a hA => ?_
   refine sdo hA (zm hM TrB_is1_22 rfl 0 rfl rfl) fun a hA => ?_
   refine sdo hA (zj Tryz.underlying22 rfl) fun a hA => ?_
   rcases tf ((((m2 : Nat) : Int) == 0)) with hb6 | hb6
   ·
    have hb6' := eq_of_beq hb6
    refine sdo (v := .bool true) hA (qg rfl rfl (fun w => (ze w).trans (by rw [hb6]))) fun a hA => ?_
    refine sdo (v := .bool true) hA (qi rfl rfl rfl rfl) fun a hA => ?_
    refine sdo hA (qa rfl) fun a hA => ?_
    refine qb (hK4 _ _ (wp_ret (hret _ _ (en1 hA rfl (qk rfl) ?_))))
    subst hr
    exact ⟨by unfold qzc; simp_all; try omega, hM.bel⟩
   ·
    have hb6' := ne_of_beq_false hb6
    refine sdo (v := .bool false) hA (qg rfl rfl (fun w => (ze w).trans (by rw [hb6]))) fun a hA => ?_
    refine sdo (v := .bool false) hA (qi rfl rfl rfl rfl) fun a hA => ?_
    refine sdo hA (qa rfl) fun a hA => ?_
    refine qb (hK4 _ _ (wp_ret (hret _ _ (en1 hA rfl (qk rfl) ?_))))
    subst hr
    exact ⟨by unfold qzc; simp_all; try omega, hM.bel⟩
  ·
   have hb5' := ne_of_beq_false hb5
   refine sdo (v := .bool false) hA (qg rfl rfl (fun w => (ze w).trans (by rw [hb5]))) fun a hA => ?_
   refine sdo (v := .bool false) hA (qi rfl rfl rfl rfl) fun a hA => ?_
   refine sdo hA (qe rfl) fun a hA => ?_
   iterate 4 refine qy hA rfl rfl rfl fun a hA => ?_
   refine sdo (v := .bool false) hA (qi rfl rfl rfl rfl) fun a hA => ?_
   refine sdo hA (qa rfl) fun a hA => ?_
   refine qb (hK4 _ _ (wp_ret (hret _ _ (en1 hA rfl (qk rfl) ?_))))
   subst hr
   exact ⟨by unfold qzc; simp_all; try omega, hM.bel⟩
 ·
  refine sdo (v := .bool false) hA (zk rfl zq) fun a hA => ?_
  refine sdo hA (qe rfl) fun a hA => ?_
  iterate 4 refine qy hA rfl rfl rfl fun a hA => ?_
  refine sdo (v := .bool false) hA (qi rfl rfl rfl rfl) fun a hA => ?_
  refine sdo hA (qe rfl) fun a hA => ?_
  iterate 4 refine qy hA rfl rfl rfl fun a hA => ?_
  refine sdo (v := .bool false) hA (qi rfl rfl rfl rfl) fun a hA => ?_
  refine sdo hA (qa rfl) fun a hA => ?_
  refine qb (hK4 _ _ (wp_ret (hret _ _ (en1 hA rfl (qk rfl) ?_))))
  subst hr
  exact ⟨by unfold qzc; simp_all; try omega, hM.bel⟩
theorem vp {w : World} {k n : Int} {b1 b2 : Bool} {o1 o2 o3 o4 ro lo : Option Addr} {m1 m2 m3 m4 mr ml c1 c2 c3 c4 rc lc : Nat} {s : ByteArray} (h1 : m1 ≤ 9223372036854775807) (h2 : m2 ≤ 9223372036854775807) (h3 : m3 ≤ 9223372036854775807) (h4 : m4 ≤ 9223372036854775807) {r : Bool} (hr : ju n b1 m1 m2 b2 m3 m4 s mr ml = r) : Calls Tryz.prog 221 #[.agg #[.int .i64 k, .int .i64 n, .bool b1, .slice o1 m1 c1, .slice o2 m2 c2, .bool b2, .slice o3 m3 c3, .slice o4 m4 c4, .string s, .slice ro mr rc, .slice lo ml lc]] w fun e w' => e = .returned (.bool r) ∧ Below w.heap.size w w' := by
 have hM : Mg w w ([]) := Mg.start w
 refine qz (l := [(0, .agg #[.int .i64 k, .int .i64 n, .bool b1, .slice o1 m1 c1, .slice o2 m2 c2, .bool b2, .slice o3 m3 c3, .slice o4 m4 c4, .string s, .slice ro mr rc, .slice lo ml lc])]) Tryz.func221 rfl Tryz.ntmps221 rfl rfl ?_
 intro Q hret hnorm hP a hA
 refine wsk fun K1 hK1 => wrl (xg (vs := [.int .i64 k, .int .i64 n, .bool b1, .slice o1 m1 c1, .slice o2 m2 c2, .bool b2, .slice o3 m3 c3, .slice o4 m4 c4, .string s, .slice ro mr rc, .slice lo ml lc]) (t := 49) hA hM rfl rfl rfl (fun g => .pointer (some ⟨g, 0, none⟩)) (za rfl rfl) (by decide) ?_)
 intro g2 w3 hM a hA
 refine sdo hA (qa rfl) fun a hA => ?_
 refine qb (hK1 _ _ (wsk fun K4 hK4 => wrl (sdo (v := .pointer (some ⟨g2, 1, none⟩)) hA (qh TrB_fld_49_1 rfl rfl) fun a hA => ?_)))
 refine sdo hA (zm hM TrB_is1_3 rfl 0 rfl rfl) fun a hA => ?_
 rcases tf ((n == 0)) with hb5 | hb5
 ·
  have hb5' := eq_of_beq hb5
  refine sdo (v := .bool true) hA (qg rfl rfl (fun w => (ze w).trans (by rw [hb5]))) fun a hA => ?_
  refine sdo hA (qe rfl) fun a hA => ?_
  refine sdo (v := .pointer (some ⟨g2, 2, none⟩)) hA (qh TrB_fld_49_2 rfl rfl) fun a hA => ?_
  refine sdo (v := .pointer (some ⟨g2, 2, none⟩)) hA (qh TrB_fld_26_0 rfl rfl) fun a hA => ?_
  refine sdo hA (zt hM TrB_isS_24 rfl 0 rfl (cs := [.bool b1, .slice o1 m1 c1, .slice o2 m2 c2]) rfl rfl) fun a hA => ?_
  rcases tf (qzc b1 m1 m2) with hb6 | hb6
  ·
   refine qj hA rfl rfl rfl (qf rfl rfl (fun w => by kernel_rfl)) (yy h1 h2 hb6) ?_
   rintro _ w8 ⟨rfl, hb7⟩
   replace hM := hM.call hb7
   refine ⟨_, rfl, ?_⟩
   intro a hA
   refine sdo (v := .bool true) hA (qi rfl rfl rfl rfl) fun a hA => ?_
   refine sdo hA (qe rfl) fun a hA => ?_
   refine sdo (v := .pointer (some ⟨g2, 2, none⟩)) hA (qh TrB_fld_49_2 rfl rfl) fun a hA => ?_
   refine sdo (v := .pointer (some ⟨g2, 5, none⟩)) hA (qh TrB_fld_26_1 rfl rfl) fun a hA => ?_
   refine sdo hA (zt hM TrB_isS_24 rfl 0 rfl (cs := [.bool b2, .slice o3 m3 c3, .slice o4 m4 c4]) rfl rfl) fun a hA => ?_
   rcases tf (qzc b2 m3 m4) with hb9 | hb9
   ·
    refine qj hA rfl rfl rfl (qf rfl rfl (fun w => by kernel_rfl)) (yy h3 h4 hb9) ?_
    rintro _ w11 ⟨rfl, hb10⟩
    replace hM := hM.call hb10
    refine ⟨_, rfl, ?_⟩
    intro a hA
    refine sdo (v := .bool true) hA (qi rfl rfl rfl rfl) fun a hA => ?_
    refine sdo hA (qe rfl) fun a hA => ?_
    refine sdo (v := .pointer (some ⟨g2, 8, none⟩)) hA (qh TrB_fld_49_3 rfl rfl) fun a hA => ?_
    refine sdo hA (zm hM TrB_is1_9 rfl 0 rfl rfl) fun a hA => ?_
    rcases tf (decide (s = ⟨#[]⟩)) with hb12 | hb12
    ·
     have hb12' := of_decide_eq_true hb12
     refine sdo (v := .bool true) hA (qg rfl rfl (fun w => (qpa Tryz.underlying9 w).trans (by rw [hb12] <;> rfl))) fun a hA => ?_
     refine sdo (v := .bool true) hA (qi rfl rfl rfl rfl) fun a hA => ?_
     refine sdo hA (qe rfl) fun a hA => ?_
     refine sdo (v := .pointer (some ⟨g2, 9, none⟩)) hA (qh TrB_fld_49_4 rfl rfl) fun a hA => ?_
     refine sdo hA (zm hM TrB_is1_31 rfl 0 rfl rfl) fun a hA => ?_
     refine sdo hA (zj Tryz.underlying31 rfl) fun a hA => ?_
     rcases tf ((((mr : Nat) : Int) == 0)) with hb13 | hb13
     ·
      have hb13' := eq_of_beq hb13
      refine sdo (v := .bool true) hA (qg rfl rfl (fun w => (ze w).trans (by rw [hb13]))) fun a hA => ?_
      refine sdo (v := .bool true) hA (qi rfl rfl rfl rfl) fun a hA => ?_
      refine sdo hA (qe rfl) fun a hA => ?_
      refine sdo (v := .pointer (some ⟨g2, 10, none⟩)) hA (qh TrB_fld_49_5 rfl rfl) fun a hA => ?_
      refine sdo hA (zm hM TrB_is1_44 rfl 0 rfl rfl) fun a hA => ?_
      refine sdo hA (zj Tryz.underlying44 rfl) fun a hA => ?_
      rcases tf ((((ml : Nat) : Int) == 0)) with hb14 | hb14
      ·
       have hb14' := eq_of_beq hb14
       refine sdo (v := .bool true) hA (qg rfl rfl (fun w => (ze w).trans (by rw [hb14]))) fun a hA => ?_
       refine sdo (v := .bool true) hA (qi rfl rfl rfl rfl) fun a hA => ?_
       refine sdo hA (qa rfl) fun a hA => ?_
       refine qb (hK4 _ _ (wp_ret (hret _ _ (en1 hA rfl (qk rfl) ?_))))
       subst hr
       exact ⟨by unfold ju; simp_all, hM.bel⟩
      ·
       have hb14' := ne_of_beq_false hb14
       refine sdo (v := .bool false) hA (qg rfl rfl (fun w => (ze w).trans (by rw [hb14]))) fun a hA => ?_
       refine sdo (v := .bool false) hA (qi rfl rfl rfl rfl) fun a hA => ?_
       refine sdo hA (qa rfl) fun a hA => ?_
       refine qb (hK4 _ _ (wp_ret (hret _ _ (en1 hA rfl (qk rfl) ?_))))
       subst hr
       exact ⟨by unfold ju; simp_all, hM.bel⟩
     ·
      have hb13' := ne_of_beq_false hb13
      refine sdo (v := .bool false) hA (qg rfl rfl (fun w => (ze w).trans (by rw [hb13]))) fun a hA => ?_
      refine sdo (v := .bool false) hA (qi rfl rfl rfl rfl) fun a hA => ?_
      refine sdo hA (qe rfl) fun a hA => ?_
      iterate 4 refine qy hA rfl rfl rfl fun a hA => ?_
      refine sdo (v := .bool false) hA (qi rfl rfl rfl rfl) fun a hA => ?_
      refine sdo hA (qa rfl) fun a hA => ?_
      refine qb (hK4 _ _ (wp_ret (hret _ _ (en1 hA rfl (qk rfl) ?_))))
      subst hr
      exact ⟨by unfold ju; simp_all, hM.bel⟩
    ·
     have hb12' := of_decide_eq_false hb12
     refine sdo (v := .bool false) hA (qg rfl rfl (fun w => (qpa Tryz.underlying9 w).trans (by rw [hb12] <;> rfl))) fun a hA => ?_
     refine sdo (v := .bool false) hA (qi rfl rfl rfl rfl) fun a hA => ?_
     refine sdo hA (qe rfl) fun a hA => ?_
     iterate 4 refine qy hA rfl rfl rfl fun a hA => ?_
     refine sdo (v := .bool false) hA (qi rfl rfl rfl rfl) fun a hA => ?_
     refine sdo hA (qe rfl) fun a hA => ?_
     iterate 4 refine qy hA rfl rfl rfl fun a hA => ?_
     refine sdo (v := .bool false) hA (qi rfl rfl rfl rfl) fun a hA => ?_
     refine sdo hA (qa rfl) fun a hA => ?_
     refine qb (hK4 _ _ (wp_ret (hret _ _ (en1 hA rfl (qk rfl) ?_))))
     subst hr
     exact ⟨by unfold ju; simp_all, hM.bel⟩
   ·
    refine qj hA rfl rfl rfl (qf rfl rfl (fun w => by kernel_rfl)) (yy h3 h4 hb9) ?_
    rintro _ w16 ⟨rfl, hb15⟩
    replace hM := hM.call hb15
    refine ⟨_, rfl, ?_⟩
    intro a hA
    refine sdo (v := .bool false) hA (qi rfl rfl rfl rfl) fun a hA => ?_
    refine sdo hA (qe rfl) fun a hA => ?_
    iterate 3 refine qy hA rfl rfl rfl fun a hA => ?_
    refine sdo (v := .bool false) hA (qi rfl rfl rfl rfl) fun a hA => ?_
    refine sdo hA (qe rfl) fun a hA => ?_
    iterate 4 refine qy hA rfl rfl rfl fun a hA => ?_
    refine sdo (v := .bool false) hA (qi rfl rfl rfl rfl) fun a hA => ?_
    refine sdo hA (qe rfl) fun a hA => ?_
    iterate 4 refine qy hA rfl rfl rfl fun a hA => ?_
    refine sdo (v := .bool false) hA (qi rfl rfl rfl rfl) fun a hA => ?_
    refine sdo hA (qa rfl) fun a hA => ?_
    refine qb (hK4 _ _ (wp_ret (hret _ _ (en1 hA rfl (qk rfl) ?_))))
    subst hr
    exact ⟨by unfold ju; simp_all, hM.bel⟩
  ·
   refine qj hA rfl rfl rfl (qf rfl rfl (fun w => by kernel_rfl)) (yy h1 h2 hb6) ?_
   rintro _ w18 ⟨rfl, hb17⟩
   replace hM := hM.call hb17
   refine ⟨_, rfl, ?_⟩
   intro a hA
   refine sdo (v := .bool false) hA (qi rfl rfl rfl rfl) fun a hA => ?_
   refine sdo hA (qe rfl) fun a hA => ?_
   iterate 4 refine qy hA rfl rfl rfl fun a hA => ?_
   refine sdo (v := .bool false) hA (qi rfl rfl rfl rfl) fun a hA => ?_
   refine sdo hA (qe rfl) fun a hA => ?_
   iterate 3 refine qy hA rfl rfl rfl fun a hA => ?_
   refine sdo (v := .bool false) hA (qi rfl rfl rfl rfl) fun a hA => ?_
   refine sdo hA (qe rfl) fun a hA => ?_
   iterate 4 refine qy hA rfl rfl rfl fun a hA => ?_
   refine sdo (v := .bool false) hA (qi rfl rfl rfl rfl) fun a hA => ?_
   refine sdo hA (qe rfl) fun a hA => ?_
   iterate 4 refine qy hA rfl rfl rfl fun a hA => ?_
   refine sdo (v := .bool false) hA (qi rfl rfl rfl rfl) fun a hA => ?_
   refine sdo hA (qa rfl) fun a hA => ?_
   refine qb (hK4 _ _ (wp_ret (hret _ _ (en1 hA rfl (qk rfl) ?_))))
   subst hr
   exact ⟨by unfold ju; simp_all, hM.bel⟩
 ·
  have hb5' := ne_of_beq_false hb5
  refine sdo (v := .bool false) hA (qg rfl rfl (fun w => (ze w).trans (by rw [hb5]))) fun a hA => ?_
  refine sdo hA (qe rfl) fun a hA => ?_
  iterate 4 refine qy hA rfl rfl rfl fun a hA => ?_
  refine sdo (v := .bool false) hA (qi rfl rfl rfl rfl) fun a hA => ?_
  refine sdo hA (qe rfl) fun a hA => ?_
  iterate 4 refine qy hA rfl rfl rfl fun a hA => ?_
  refine sdo (v := .bool false) hA (qi rfl rfl rfl rfl) fun a hA => ?_
  refine sdo hA (qe rfl) fun a hA => ?_
  iterate 3 refine qy hA rfl rfl rfl fun a hA => ?_
  refine sdo (v := .bool false) hA (qi rfl rfl rfl rfl) fun a hA => ?_
  refine sdo hA (qe rfl) fun a hA => ?_
  iterate 4 refine qy hA rfl rfl rfl fun a hA => ?_
  refine sdo (v := .bool false) hA (qi rfl rfl rfl rfl) fun a hA => ?_
  refine sdo hA (qe rfl) fun a hA => ?_
  iterate 4 refine qy hA rfl rfl rfl fun a hA => ?_
  refine sdo (v := .bool false) hA (qi rfl rfl rfl rfl) fun a hA => ?_
  refine sdo hA (qa rfl) fun a hA => ?_
  refine qb (hK4 _ _ (wp_ret (hret _ _ (en1 hA rfl (qk rfl) ?_))))
  subst hr
  exact ⟨by unfold ju; simp_all, hM.bel⟩
theorem qsc {w : World} {d : Nd} {ts : List Dt} (hok : NdOk w d) (hT : Tabs8 w) : Calls Tryz.prog 178 #[.agg (d.cells ts.length).toArray] w fun e w' => e = .returned (.bool (ja d.k d.n d.y.q d.s d.rl.length ts.length)) ∧ Below w.heap.size w w' := by
 have hq1 := hok.len.l1
 have hq2 := hok.len.l2
 have hq3 := hok.len.l3
 have hq4 := hok.len.l4
 have hM : Mg w w ([]) := Mg.start w
 refine qz (l := [(0, .agg (d.cells ts.length).toArray)]) Tryz.func178 rfl Tryz.ntmps178 rfl rfl ?_
 intro Q hret hnorm hP a hA
 refine wsk fun K1 hK1 => wrl (xg (vs := [.int .i64 d.k, .int .i64 d.n, .bool d.y.q.b1, .slice d.y.o1 d.y.q.t1.length d.y.c1, .slice d.y.o2 d.y.q.q1.length d.y.c2, .bool d.y.q.b2, .slice d.y.o3 d.y.q.t2.length d.y.c3, .slice d.y.o4 d.y.q.q2.length d.y.c4, .string d.s, .slice d.ro d.rl.length d.rc, .slice d.lo ts.length d.lc]) (t := 49) hA hM rfl rfl rfl (fun g => .pointer (some ⟨g, 0, none⟩)) (za rfl rfl) (by decide) ?_)
 intro g2 w3 hM a hA
 refine sdo hA (qa rfl) fun a hA => ?_
 refine qb (hK1 _ _ (wsk fun K4 hK4 => wrl (sdo hA (qa rfl) fun a hA => ?_)))
 refine qb (hK4 _ _ (wsk fun K5 hK5 => wsk fun K6 hK6 => wrl (sdo (v := .pointer (some ⟨g2, 0, none⟩)) hA (qh TrB_fld_49_0 rfl rfl) fun a hA => ?_)))
 refine sdo hA (zm hM TrB_is1_3 rfl 0 rfl rfl) fun a hA => ?_
 refine qb (hK6 _ _ (wp_block (wsk fun K7 hK7 => wsk fun K8 hK8 => wrl ?_)))
 rcases tf ((d.k == 1)) with hb9 | hb9
 ·
  have hb9' := eq_of_beq hb9
  refine sdo (v := .bool true) hA (qg rfl rfl (fun w => (ze w).trans (by rw [hb9]))) fun a hA => ?_
  refine sdo hA (qa rfl) fun a hA => ?_
  refine qb (hK8 _ _ (wp_cond_true (hA.ev rfl) ?_))
  refine wp_skip (hK7 _ _ (wp_cond_true (hA.ev rfl) ?_))
  refine wp_skip (hK5 _ _ (wsk fun K10 hK10 => wrl ?_))
  iterate 2 refine sdo hA (qe rfl) fun a hA => ?_
  refine sdo hA (zt hM TrB_isS_49 rfl 0 rfl (cs := [.int .i64 d.k, .int .i64 d.n, .bool d.y.q.b1, .slice d.y.o1 d.y.q.t1.length d.y.c1, .slice d.y.o2 d.y.q.q1.length d.y.c2, .bool d.y.q.b2, .slice d.y.o3 d.y.q.t2.length d.y.c3, .slice d.y.o4 d.y.q.q2.length d.y.c4, .string d.s, .slice d.ro d.rl.length d.rc, .slice d.lo ts.length d.lc]) rfl rfl) fun a hA => ?_
  refine qj hA rfl rfl rfl (qf rfl rfl (fun w => by kernel_rfl)) (vp (by first | exact hq1 | omega) (by first | exact hq2 | omega) (by first | exact hq3 | omega) (by first | exact hq4 | omega) rfl) ?_
  rintro _ w12 ⟨rfl, hb11⟩
  replace hM := hM.call hb11
  refine ⟨_, rfl, ?_⟩
  intro a hA
  refine sdo (v := .bool (ju d.n d.y.q.b1 d.y.q.t1.length d.y.q.q1.length d.y.q.b2 d.y.q.t2.length d.y.q.q2.length d.s d.rl.length ts.length)) hA (qi rfl rfl rfl rfl) fun a hA => ?_
  refine sdo hA (qa rfl) fun a hA => ?_
  refine qb (hK10 _ _ (wp_ret (hret _ _ (en1 hA rfl (qk rfl) ?_))))
  exact ⟨by rw [show ja d.k d.n d.y.q d.s d.rl.length ts.length = ju d.n d.y.q.b1 d.y.q.t1.length d.y.q.q1.length d.y.q.b2 d.y.q.t2.length d.y.q.q2.length d.s d.rl.length ts.length from by
   unfold ja
   repeat (first | rw [if_pos (by omega)] | rw [if_neg (by omega)])
   try simp_all
   try omega], hM.bel⟩
 ·
  have hb9' := ne_of_beq_false hb9
  refine sdo (v := .bool false) hA (qg rfl rfl (fun w => (ze w).trans (by rw [hb9]))) fun a hA => ?_
  refine sdo hA (qa rfl) fun a hA => ?_
  refine qb (hK8 _ _ (wp_cond_false (hA.ev rfl) ?_))
  refine wrl ?_
  rcases tf ((d.k == 10)) with hb13 | hb13
  ·
   have hb13' := eq_of_beq hb13
   refine sdo (v := .bool true) hA (qg rfl rfl (fun w => (ze w).trans (by rw [hb13]))) fun a hA => ?_
   refine sdo hA (qa rfl) fun a hA => ?_
   refine qb (hK7 _ _ (wp_cond_true (hA.ev rfl) ?_))
   refine wp_skip (hK5 _ _ (wsk fun K14 hK14 => wrl ?_))
   iterate 2 refine sdo hA (qe rfl) fun a hA => ?_
   refine sdo hA (zt hM TrB_isS_49 rfl 0 rfl (cs := [.int .i64 d.k, .int .i64 d.n, .bool d.y.q.b1, .slice d.y.o1 d.y.q.t1.length d.y.c1, .slice d.y.o2 d.y.q.q1.length d.y.c2, .bool d.y.q.b2, .slice d.y.o3 d.y.q.t2.length d.y.c3, .slice d.y.o4 d.y.q.q2.length d.y.c4, .string d.s, .slice d.ro d.rl.length d.rc, .slice d.lo ts.length d.lc]) rfl rfl) fun a hA => ?_
   refine qj hA rfl rfl rfl (qf rfl rfl (fun w => by kernel_rfl)) (vp (by first | exact hq1 | omega) (by first | exact hq2 | omega) (by first | exact hq3 | omega) (by first | exact hq4 | omega) rfl) ?_
   rintro _ w16 ⟨rfl, hb15⟩
   replace hM := hM.call hb15
   refine ⟨_, rfl, ?_⟩
   intro a hA
   refine sdo (v := .bool (ju d.n d.y.q.b1 d.y.q.t1.length d.y.q.q1.length d.y.q.b2 d.y.q.t2.length d.y.q.q2.length d.s d.rl.length ts.length)) hA (qi rfl rfl rfl rfl) fun a hA => ?_
   refine sdo hA (qa rfl) fun a hA => ?_
   refine qb (hK14 _ _ (wp_ret (hret _ _ (en1 hA rfl (qk rfl) ?_))))
   exact ⟨by rw [show ja d.k d.n d.y.q d.s d.rl.length ts.length = ju d.n d.y.q.b1 d.y.q.t1.length d.y.q.q1.length d.y.q.b2 d.y.q.t2.length d.y.q.q2.length d.s d.rl.length ts.length from by
    unfold ja
    repeat (first | rw [if_pos (by omega)] | rw [if_neg (by omega)])
    try simp_all
    try omega], hM.bel⟩
  ·
   have hb13' := ne_of_beq_false hb13
   refine sdo (v := .bool false) hA (qg rfl rfl (fun w => (ze w).trans (by rw [hb13]))) fun a hA => ?_
   refine sdo hA (qa rfl) fun a hA => ?_
   refine qb (hK7 _ _ (wp_cond_false (hA.ev rfl) ?_))
   refine wsk fun K17 hK17 => wrl ?_
   rcases tf ((d.k == 2)) with hb18 | hb18
   ·
    have hb18' := eq_of_beq hb18
    refine sdo (v := .bool true) hA (qg rfl rfl (fun w => (ze w).trans (by rw [hb18]))) fun a hA => ?_
    refine sdo hA (qa rfl) fun a hA => ?_
    refine qb (hK17 _ _ (wp_cond_true (hA.ev rfl) ?_))
    refine wrl (sdo (v := .pointer (some ⟨g2, 1, none⟩)) hA (qh TrB_fld_49_1 rfl rfl) fun a hA => ?_)
    refine sdo hA (zm hM TrB_is1_3 rfl 0 rfl rfl) fun a hA => ?_
    rcases tf ((d.n == 0)) with hb19 | hb19
    ·
     have hb19' := eq_of_beq hb19
     refine sdo (v := .bool true) hA (qg rfl rfl (fun w => (ze w).trans (by rw [hb19]))) fun a hA => ?_
     refine sdo hA (qe rfl) fun a hA => ?_
     iterate 3 refine qy hA rfl rfl rfl fun a hA => ?_
     refine sdo (v := .bool true) hA (qi rfl rfl rfl rfl) fun a hA => ?_
     refine sdo hA (qa rfl) fun a hA => ?_
     refine sdo (v := .pointer (some ⟨g2, 1, none⟩)) hA (qh TrB_fld_49_1 rfl rfl) fun a hA => ?_
     refine jl (us := [.int .i64 d.k, .int .i64 0, .bool d.y.q.b1, .slice d.y.o1 d.y.q.t1.length d.y.c1, .slice d.y.o2 d.y.q.q1.length d.y.c2, .bool d.y.q.b2, .slice d.y.o3 d.y.q.t2.length d.y.c3, .slice d.y.o4 d.y.q.q2.length d.y.c4, .string d.s, .slice d.ro d.rl.length d.rc, .slice d.lo ts.length d.lc]) (L' := (.obj g2 (.cells #[.int .i64 d.k, .int .i64 0, .bool d.y.q.b1, .slice d.y.o1 d.y.q.t1.length d.y.c1, .slice d.y.o2 d.y.q.q1.length d.y.c2, .bool d.y.q.b2, .slice d.y.o3 d.y.q.t2.length d.y.c3, .slice d.y.o4 d.y.q.q2.length d.y.c4, .string d.s, .slice d.ro d.rl.length d.rc, .slice d.lo ts.length d.lc] 49) :: [])) hA hM rfl rfl (zy rfl rfl rfl (by kernel_rfl) hM 0 rfl rfl rfl) 0 rfl rfl rfl ?_
     intro w20 hM
     refine qb (hK5 _ _ (wsk fun K21 hK21 => wrl ?_))
     iterate 2 refine sdo hA (qe rfl) fun a hA => ?_
     refine sdo hA (zt hM TrB_isS_49 rfl 0 rfl (cs := [.int .i64 d.k, .int .i64 0, .bool d.y.q.b1, .slice d.y.o1 d.y.q.t1.length d.y.c1, .slice d.y.o2 d.y.q.q1.length d.y.c2, .bool d.y.q.b2, .slice d.y.o3 d.y.q.t2.length d.y.c3, .slice d.y.o4 d.y.q.q2.length d.y.c4, .string d.s, .slice d.ro d.rl.length d.rc, .slice d.lo ts.length d.lc]) rfl rfl) fun a hA => ?_
     refine qj hA rfl rfl rfl (qf rfl rfl (fun w => by kernel_rfl)) (vp (by first | exact hq1 | omega) (by first | exact hq2 | omega) (by first | exact hq3 | omega) (by first | exact hq4 | omega) rfl) ?_
     rintro _ w23 ⟨rfl, hb22⟩
     replace hM := hM.call hb22
     refine ⟨_, rfl, ?_⟩
     intro a hA
     refine sdo (v := .bool (ju 0 d.y.q.b1 d.y.q.t1.length d.y.q.q1.length d.y.q.b2 d.y.q.t2.length d.y.q.q2.length d.s d.rl.length ts.length)) hA (qi rfl rfl rfl rfl) fun a hA => ?_
     refine sdo hA (qa rfl) fun a hA => ?_
     refine qb (hK21 _ _ (wp_ret (hret _ _ (en1 hA rfl (qk rfl) ?_))))
     exact ⟨by rw [show ja d.k d.n d.y.q d.s d.rl.length ts.length = ju 0 d.y.q.b1 d.y.q.t1.length d.y.q.q1.length d.y.q.b2 d.y.q.t2.length d.y.q.q2.length d.s d.rl.length ts.length from by
      unfold ja
      repeat (first | rw [if_pos (by omega)] | rw [if_neg (by omega)])
      try simp_all
      try omega], hM.bel⟩
    ·
     have hb19' := ne_of_beq_false hb19
     refine sdo (v := .bool false) hA (qg rfl rfl (fun w => (ze w).trans (by rw [hb19]))) fun a hA => ?_
     refine sdo hA (qe rfl) fun a hA => ?_
     refine sdo (v := .pointer (some ⟨g2, 1, none⟩)) hA (qh TrB_fld_49_1 rfl rfl) fun a hA => ?_
     refine sdo hA (zm hM TrB_is1_3 rfl 0 rfl rfl) fun a hA => ?_
     rcases tf ((d.n == 1)) with hb24 | hb24
     ·
      have hb24' := eq_of_beq hb24
      refine sdo (v := .bool true) hA (qg rfl rfl (fun w => (ze w).trans (by rw [hb24]))) fun a hA => ?_
      refine sdo (v := .bool true) hA (qi rfl rfl rfl rfl) fun a hA => ?_
      refine sdo hA (qa rfl) fun a hA => ?_
      refine sdo (v := .pointer (some ⟨g2, 1, none⟩)) hA (qh TrB_fld_49_1 rfl rfl) fun a hA => ?_
      refine jl (us := [.int .i64 d.k, .int .i64 0, .bool d.y.q.b1, .slice d.y.o1 d.y.q.t1.length d.y.c1, .slice d.y.o2 d.y.q.q1.length d.y.c2, .bool d.y.q.b2, .slice d.y.o3 d.y.q.t2.length d.y.c3, .slice d.y.o4 d.y.q.q2.length d.y.c4, .string d.s, .slice d.ro d.rl.length d.rc, .slice d.lo ts.length d.lc]) (L' := (.obj g2 (.cells #[.int .i64 d.k, .int .i64 0, .bool d.y.q.b1, .slice d.y.o1 d.y.q.t1.length d.y.c1, .slice d.y.o2 d.y.q.q1.length d.y.c2, .bool d.y.q.b2, .slice d.y.o3 d.y.q.t2.length d.y.c3, .slice d.y.o4 d.y.q.q2.length d.y.c4, .string d.s, .slice d.ro d.rl.length d.rc, .slice d.lo ts.length d.lc] 49) :: [])) hA hM rfl rfl (zy rfl rfl rfl (by kernel_rfl) hM 0 rfl rfl rfl) 0 rfl rfl rfl ?_
      intro w25 hM
      refine qb (hK5 _ _ (wsk fun K26 hK26 => wrl ?_))
      iterate 2 refine sdo hA (qe rfl) fun a hA => ?_
      refine sdo hA (zt hM TrB_isS_49 rfl 0 rfl (cs := [.int .i64 d.k, .int .i64 0, .bool d.y.q.b1, .slice d.y.o1 d.y.q.t1.length d.y.c1, .slice d.y.o2 d.y.q.q1.length d.y.c2, .bool d.y.q.b2, .slice d.y.o3 d.y.q.t2.length d.y.c3, .slice d.y.o4 d.y.q.q2.length d.y.c4, .string d.s, .slice d.ro d.rl.length d.rc, .slice d.lo ts.length d.lc]) rfl rfl) fun a hA => ?_
      refine qj hA rfl rfl rfl (qf rfl rfl (fun w => by kernel_rfl)) (vp (by first | exact hq1 | omega) (by first | exact hq2 | omega) (by first | exact hq3 | omega) (by first | exact hq4 | omega) rfl) ?_
      rintro _ w28 ⟨rfl, hb27⟩
      replace hM := hM.call hb27
      refine ⟨_, rfl, ?_⟩
      intro a hA
      refine sdo (v := .bool (ju 0 d.y.q.b1 d.y.q.t1.length d.y.q.q1.length d.y.q.b2 d.y.q.t2.length d.y.q.q2.length d.s d.rl.length ts.length)) hA (qi rfl rfl rfl rfl) fun a hA => ?_
      refine sdo hA (qa rfl) fun a hA => ?_
      refine qb (hK26 _ _ (wp_ret (hret _ _ (en1 hA rfl (qk rfl) ?_))))
      exact ⟨by rw [show ja d.k d.n d.y.q d.s d.rl.length ts.length = ju 0 d.y.q.b1 d.y.q.t1.length d.y.q.q1.length d.y.q.b2 d.y.q.t2.length d.y.q.q2.length d.s d.rl.length ts.length from by
       unfold ja
       repeat (first | rw [if_pos (by omega)] | rw [if_neg (by omega)])
       try simp_all
       try omega], hM.bel⟩
     ·
      have hb24' := ne_of_beq_false hb24
      refine sdo (v := .bool false) hA (qg rfl rfl (fun w => (ze w).trans (by rw [hb24]))) fun a hA => ?_
      refine sdo (v := .bool false) hA (qi rfl rfl rfl rfl) fun a hA => ?_
      refine sdo hA (qa rfl) fun a hA => ?_
      refine sdo (v := .pointer (some ⟨g2, 1, none⟩)) hA (qh TrB_fld_49_1 rfl rfl) fun a hA => ?_
      refine jl (us := [.int .i64 d.k, .int .i64 0, .bool d.y.q.b1, .slice d.y.o1 d.y.q.t1.length d.y.c1, .slice d.y.o2 d.y.q.q1.length d.y.c2, .bool d.y.q.b2, .slice d.y.o3 d.y.q.t2.length d.y.c3, .slice d.y.o4 d.y.q.q2.length d.y.c4, .string d.s, .slice d.ro d.rl.length d.rc, .slice d.lo ts.length d.lc]) (L' := (.obj g2 (.cells #[.int .i64 d.k, .int .i64 0, .bool d.y.q.b1, .slice d.y.o1 d.y.q.t1.length d.y.c1, .slice d.y.o2 d.y.q.q1.length d.y.c2, .bool d.y.q.b2, .slice d.y.o3 d.y.q.t2.length d.y.c3, .slice d.y.o4 d.y.q.q2.length d.y.c4, .string d.s, .slice d.ro d.rl.length d.rc, .slice d.lo ts.length d.lc] 49) :: [])) hA hM rfl rfl (zy rfl rfl rfl (by kernel_rfl) hM 0 rfl rfl rfl) 0 rfl rfl rfl ?_
      intro w29 hM
      refine qb (hK5 _ _ (wsk fun K30 hK30 => wrl ?_))
      iterate 2 refine sdo hA (qe rfl) fun a hA => ?_
      iterate 2 refine qy hA rfl rfl rfl fun a hA => ?_
      refine sdo (v := .bool false) hA (qi rfl rfl rfl rfl) fun a hA => ?_
      refine sdo hA (qa rfl) fun a hA => ?_
      refine qb (hK30 _ _ (wp_ret (hret _ _ (en1 hA rfl (qk rfl) ?_))))
      exact ⟨by rw [show ja d.k d.n d.y.q d.s d.rl.length ts.length = false from by
       unfold ja
       repeat (first | rw [if_pos (by omega)] | rw [if_neg (by omega)])
       try simp_all
       try omega], hM.bel⟩
   ·
    have hb18' := ne_of_beq_false hb18
    refine sdo (v := .bool false) hA (qg rfl rfl (fun w => (ze w).trans (by rw [hb18]))) fun a hA => ?_
    refine sdo hA (qa rfl) fun a hA => ?_
    refine qb (hK17 _ _ (wp_cond_false (hA.ev rfl) ?_))
    refine wsk fun K31 hK31 => wrl ?_
    rcases tf ((d.k == 3)) with hb32 | hb32
    ·
     have hb32' := eq_of_beq hb32
     refine sdo (v := .bool true) hA (qg rfl rfl (fun w => (ze w).trans (by rw [hb32]))) fun a hA => ?_
     refine sdo hA (qa rfl) fun a hA => ?_
     refine qb (hK31 _ _ (wp_cond_true (hA.ev rfl) ?_))
     refine wrl (sdo (v := .pointer (some ⟨g2, 2, none⟩)) hA (qh TrB_fld_49_2 rfl rfl) fun a hA => ?_)
     refine sdo hA (zt hM TrB_isS_26 rfl 0 rfl (cs := [.bool d.y.q.b1, .slice d.y.o1 d.y.q.t1.length d.y.c1, .slice d.y.o2 d.y.q.q1.length d.y.c2, .bool d.y.q.b2, .slice d.y.o3 d.y.q.t2.length d.y.c3, .slice d.y.o4 d.y.q.q2.length d.y.c4]) rfl rfl) fun a hA => ?_
     rcases tf (jk d.y.q) with hb33 | hb33
     ·
      refine qj hA rfl rfl rfl (qf rfl rfl (fun w => by kernel_rfl)) (jg (Nu.below hok.num hM.bel) hok.len hb33) ?_
      rintro _ w35 ⟨rfl, hb34⟩
      replace hM := hM.call hb34
      refine ⟨_, rfl, ?_⟩
      intro a hA
      refine sdo (v := .agg #[.bool false, .slice none 0 0, .slice none 0 0, .bool false, .slice none 0 0, .slice none 0 0]) hA (zf rfl (fun w => by kernel_rfl)) fun a hA => ?_
      refine sdo hA (qa rfl) fun a hA => ?_
      refine sdo (v := .pointer (some ⟨g2, 2, none⟩)) hA (qh TrB_fld_49_2 rfl rfl) fun a hA => ?_
      refine jl (us := [.int .i64 d.k, .int .i64 d.n, .bool false, .slice none 0 0, .slice none 0 0, .bool false, .slice none 0 0, .slice none 0 0, .string d.s, .slice d.ro d.rl.length d.rc, .slice d.lo ts.length d.lc]) (L' := (.obj g2 (.cells #[.int .i64 d.k, .int .i64 d.n, .bool false, .slice none 0 0, .slice none 0 0, .bool false, .slice none 0 0, .slice none 0 0, .string d.s, .slice d.ro d.rl.length d.rc, .slice d.lo ts.length d.lc] 49) :: [])) hA hM rfl rfl (zy rfl rfl rfl (by kernel_rfl) hM 0 rfl rfl rfl) 0 rfl rfl rfl ?_
      intro w36 hM
      refine qb (hK5 _ _ (wsk fun K37 hK37 => wrl ?_))
      iterate 2 refine sdo hA (qe rfl) fun a hA => ?_
      refine sdo hA (zt hM TrB_isS_49 rfl 0 rfl (cs := [.int .i64 d.k, .int .i64 d.n, .bool false, .slice none 0 0, .slice none 0 0, .bool false, .slice none 0 0, .slice none 0 0, .string d.s, .slice d.ro d.rl.length d.rc, .slice d.lo ts.length d.lc]) rfl rfl) fun a hA => ?_
      refine qj hA rfl rfl rfl (qf rfl rfl (fun w => by kernel_rfl)) (vp (by first | exact hq1 | omega) (by first | exact hq2 | omega) (by first | exact hq3 | omega) (by first | exact hq4 | omega) rfl) ?_
      rintro _ w39 ⟨rfl, hb38⟩
      replace hM := hM.call hb38
      refine ⟨_, rfl, ?_⟩
      intro a hA
      refine sdo (v := .bool (ju d.n false 0 0 false 0 0 d.s d.rl.length ts.length)) hA (qi rfl rfl rfl rfl) fun a hA => ?_
      refine sdo hA (qa rfl) fun a hA => ?_
      refine qb (hK37 _ _ (wp_ret (hret _ _ (en1 hA rfl (qk rfl) ?_))))
      exact ⟨by rw [show ja d.k d.n d.y.q d.s d.rl.length ts.length = ju d.n false 0 0 false 0 0 d.s d.rl.length ts.length from by
       unfold ja
       repeat (first | rw [if_pos (by omega)] | rw [if_neg (by omega)])
       try simp_all
       try omega], hM.bel⟩
     ·
      refine qj hA rfl rfl rfl (qf rfl rfl (fun w => by kernel_rfl)) (jg (Nu.below hok.num hM.bel) hok.len hb33) ?_
      rintro _ w41 ⟨rfl, hb40⟩
      replace hM := hM.call hb40
      refine ⟨_, rfl, ?_⟩
      intro a hA
      refine sdo (v := .agg #[.bool false, .slice none 0 0, .slice none 0 0, .bool false, .slice none 0 0, .slice none 0 0]) hA (zf rfl (fun w => by kernel_rfl)) fun a hA => ?_
      refine sdo hA (qa rfl) fun a hA => ?_
      refine sdo (v := .pointer (some ⟨g2, 2, none⟩)) hA (qh TrB_fld_49_2 rfl rfl) fun a hA => ?_
      refine jl (us := [.int .i64 d.k, .int .i64 d.n, .bool false, .slice none 0 0, .slice none 0 0, .bool false, .slice none 0 0, .slice none 0 0, .string d.s, .slice d.ro d.rl.length d.rc, .slice d.lo ts.length d.lc]) (L' := (.obj g2 (.cells #[.int .i64 d.k, .int .i64 d.n, .bool false, .slice none 0 0, .slice none 0 0, .bool false, .slice none 0 0, .slice none 0 0, .string d.s, .slice d.ro d.rl.length d.rc, .slice d.lo ts.length d.lc] 49) :: [])) hA hM rfl rfl (zy rfl rfl rfl (by kernel_rfl) hM 0 rfl rfl rfl) 0 rfl rfl rfl ?_
      intro w42 hM
      refine qb (hK5 _ _ (wsk fun K43 hK43 => wrl ?_))
      iterate 2 refine sdo hA (qe rfl) fun a hA => ?_
      iterate 2 refine qy hA rfl rfl rfl fun a hA => ?_
      refine sdo (v := .bool false) hA (qi rfl rfl rfl rfl) fun a hA => ?_
      refine sdo hA (qa rfl) fun a hA => ?_
      refine qb (hK43 _ _ (wp_ret (hret _ _ (en1 hA rfl (qk rfl) ?_))))
      exact ⟨by rw [show ja d.k d.n d.y.q d.s d.rl.length ts.length = false from by
       unfold ja
       repeat (first | rw [if_pos (by omega)] | rw [if_neg (by omega)])
       try simp_all
       try omega], hM.bel⟩
    ·
     have hb32' := ne_of_beq_false hb32
     refine sdo (v := .bool false) hA (qg rfl rfl (fun w => (ze w).trans (by rw [hb32]))) fun a hA => ?_
     refine sdo hA (qa rfl) fun a hA => ?_
     refine qb (hK31 _ _ (wp_cond_false (hA.ev rfl) ?_))
     refine wsk fun K44 hK44 => wrl ?_
     rcases tf ((d.k == 4)) with hb45 | hb45
     ·
      have hb45' := eq_of_beq hb45
      refine sdo (v := .bool true) hA (qg rfl rfl (fun w => (ze w).trans (by rw [hb45]))) fun a hA => ?_
      refine sdo hA (qa rfl) fun a hA => ?_
      refine qb (hK44 _ _ (wp_cond_true (hA.ev rfl) ?_))
      refine wrl (sdo (v := .pointer (some ⟨g2, 1, none⟩)) hA (qh TrB_fld_49_1 rfl rfl) fun a hA => ?_)
      refine sdo hA (zm hM TrB_is1_3 rfl 0 rfl rfl) fun a hA => ?_
      rcases tf (qzd d.n) with hb46 | hb46
      ·
       refine qj hA rfl rfl rfl (qf rfl rfl (fun w => by kernel_rfl)) ((hb46 ▸ zea)) ?_
       rintro _ w48 ⟨rfl, hb47⟩
       replace hM := hM.call hb47
       refine ⟨_, rfl, ?_⟩
       intro a hA
       refine sdo hA (qa rfl) fun a hA => ?_
       refine sdo (v := .pointer (some ⟨g2, 1, none⟩)) hA (qh TrB_fld_49_1 rfl rfl) fun a hA => ?_
       refine jl (us := [.int .i64 d.k, .int .i64 0, .bool d.y.q.b1, .slice d.y.o1 d.y.q.t1.length d.y.c1, .slice d.y.o2 d.y.q.q1.length d.y.c2, .bool d.y.q.b2, .slice d.y.o3 d.y.q.t2.length d.y.c3, .slice d.y.o4 d.y.q.q2.length d.y.c4, .string d.s, .slice d.ro d.rl.length d.rc, .slice d.lo ts.length d.lc]) (L' := (.obj g2 (.cells #[.int .i64 d.k, .int .i64 0, .bool d.y.q.b1, .slice d.y.o1 d.y.q.t1.length d.y.c1, .slice d.y.o2 d.y.q.q1.length d.y.c2, .bool d.y.q.b2, .slice d.y.o3 d.y.q.t2.length d.y.c3, .slice d.y.o4 d.y.q.q2.length d.y.c4, .string d.s, .slice d.ro d.rl.length d.rc, .slice d.lo ts.length d.lc] 49) :: [])) hA hM rfl rfl (zy rfl rfl rfl (by kernel_rfl) hM 0 rfl rfl rfl) 0 rfl rfl rfl ?_
       intro w49 hM
       refine qb (hK5 _ _ (wsk fun K50 hK50 => wrl ?_))
       iterate 2 refine sdo hA (qe rfl) fun a hA => ?_
       refine sdo hA (zt hM TrB_isS_49 rfl 0 rfl (cs := [.int .i64 d.k, .int .i64 0, .bool d.y.q.b1, .slice d.y.o1 d.y.q.t1.length d.y.c1, .slice d.y.o2 d.y.q.q1.length d.y.c2, .bool d.y.q.b2, .slice d.y.o3 d.y.q.t2.length d.y.c3, .slice d.y.o4 d.y.q.q2.length d.y.c4, .string d.s, .slice d.ro d.rl.length d.rc, .slice d.lo ts.length d.lc]) rfl rfl) fun a hA => ?_
       refine qj hA rfl rfl rfl (qf rfl rfl (fun w => by kernel_rfl)) (vp (by first | exact hq1 | omega) (by first | exact hq2 | omega) (by first | exact hq3 | omega) (by first | exact hq4 | omega) rfl) ?_
       rintro _ w52 ⟨rfl, hb51⟩
       replace hM := hM.call hb51
       refine ⟨_, rfl, ?_⟩
       intro a hA
       refine sdo (v := .bool (ju 0 d.y.q.b1 d.y.q.t1.length d.y.q.q1.length d.y.q.b2 d.y.q.t2.length d.y.q.q2.length d.s d.rl.length ts.length)) hA (qi rfl rfl rfl rfl) fun a hA => ?_
       refine sdo hA (qa rfl) fun a hA => ?_
       refine qb (hK50 _ _ (wp_ret (hret _ _ (en1 hA rfl (qk rfl) ?_))))
       exact ⟨by rw [show ja d.k d.n d.y.q d.s d.rl.length ts.length = ju 0 d.y.q.b1 d.y.q.t1.length d.y.q.q1.length d.y.q.b2 d.y.q.t2.length d.y.q.q2.length d.s d.rl.length ts.length from by
        unfold ja
        repeat (first | rw [if_pos (by omega)] | rw [if_neg (by omega)])
        try simp_all
        try omega], hM.bel⟩
      ·
       refine qj hA rfl rfl rfl (qf rfl rfl (fun w => by kernel_rfl)) ((hb46 ▸ zea)) ?_
       rintro _ w54 ⟨rfl, hb53⟩
       replace hM := hM.call hb53
       refine ⟨_, rfl, ?_⟩
       intro a hA
       refine sdo hA (qa rfl) fun a hA => ?_
       refine sdo (v := .pointer (some ⟨g2, 1, none⟩)) hA (qh TrB_fld_49_1 rfl rfl) fun a hA => ?_
       refine jl (us := [.int .i64 d.k, .int .i64 0, .bool d.y.q.b1, .slice d.y.o1 d.y.q.t1.length d.y.c1, .slice d.y.o2 d.y.q.q1.length d.y.c2, .bool d.y.q.b2, .slice d.y.o3 d.y.q.t2.length d.y.c3, .slice d.y.o4 d.y.q.q2.length d.y.c4, .string d.s, .slice d.ro d.rl.length d.rc, .slice d.lo ts.length d.lc]) (L' := (.obj g2 (.cells #[.int .i64 d.k, .int .i64 0, .bool d.y.q.b1, .slice d.y.o1 d.y.q.t1.length d.y.c1, .slice d.y.o2 d.y.q.q1.length d.y.c2, .bool d.y.q.b2, .slice d.y.o3 d.y.q.t2.length d.y.c3, .slice d.y.o4 d.y.q.q2.length d.y.c4, .string d.s, .slice d.ro d.rl.length d.rc, .slice d.lo ts.length d.lc] 49) :: [])) hA hM rfl rfl (zy rfl rfl rfl (by kernel_rfl) hM 0 rfl rfl rfl) 0 rfl rfl rfl ?_
       intro w55 hM
       refine qb (hK5 _ _ (wsk fun K56 hK56 => wrl ?_))
       iterate 2 refine sdo hA (qe rfl) fun a hA => ?_
       iterate 2 refine qy hA rfl rfl rfl fun a hA => ?_
       refine sdo (v := .bool false) hA (qi rfl rfl rfl rfl) fun a hA => ?_
       refine sdo hA (qa rfl) fun a hA => ?_
       refine qb (hK56 _ _ (wp_ret (hret _ _ (en1 hA rfl (qk rfl) ?_))))
       exact ⟨by rw [show ja d.k d.n d.y.q d.s d.rl.length ts.length = false from by
        unfold ja
        repeat (first | rw [if_pos (by omega)] | rw [if_neg (by omega)])
        try simp_all
        try omega], hM.bel⟩
     ·
      have hb45' := ne_of_beq_false hb45
      refine sdo (v := .bool false) hA (qg rfl rfl (fun w => (ze w).trans (by rw [hb45]))) fun a hA => ?_
      refine sdo hA (qa rfl) fun a hA => ?_
      refine qb (hK44 _ _ (wp_cond_false (hA.ev rfl) ?_))
      refine wsk fun K57 hK57 => wsk fun K58 hK58 => wrl ?_
      rcases tf ((d.k == 5)) with hb59 | hb59
      ·
       have hb59' := eq_of_beq hb59
       refine sdo (v := .bool true) hA (qg rfl rfl (fun w => (ze w).trans (by rw [hb59]))) fun a hA => ?_
       refine sdo hA (qa rfl) fun a hA => ?_
       refine qb (hK58 _ _ (wp_cond_true (hA.ev rfl) ?_))
       refine wp_skip (hK57 _ _ (wp_cond_true (hA.ev rfl) ?_))
       refine wrl (sdo (v := .pointer (some ⟨g2, 8, none⟩)) hA (qh TrB_fld_49_3 rfl rfl) fun a hA => ?_)
       refine sdo hA (zm hM TrB_is1_9 rfl 0 rfl rfl) fun a hA => ?_
       rcases tf (okS d.s) with hb60 | hb60
       ·
        refine qj hA rfl rfl rfl (qf rfl rfl (fun w => by kernel_rfl)) (ud hok.smax (hT.below hM.bel) hb60) ?_
        rintro _ w62 ⟨rfl, hb61⟩
        replace hM := hM.call hb61
        refine ⟨_, rfl, ?_⟩
        intro a hA
        refine sdo hA (qa rfl) fun a hA => ?_
        refine sdo (v := .pointer (some ⟨g2, 8, none⟩)) hA (qh TrB_fld_49_3 rfl rfl) fun a hA => ?_
        refine jl (us := [.int .i64 d.k, .int .i64 d.n, .bool d.y.q.b1, .slice d.y.o1 d.y.q.t1.length d.y.c1, .slice d.y.o2 d.y.q.q1.length d.y.c2, .bool d.y.q.b2, .slice d.y.o3 d.y.q.t2.length d.y.c3, .slice d.y.o4 d.y.q.q2.length d.y.c4, .string (⟨#[]⟩), .slice d.ro d.rl.length d.rc, .slice d.lo ts.length d.lc]) (L' := (.obj g2 (.cells #[.int .i64 d.k, .int .i64 d.n, .bool d.y.q.b1, .slice d.y.o1 d.y.q.t1.length d.y.c1, .slice d.y.o2 d.y.q.q1.length d.y.c2, .bool d.y.q.b2, .slice d.y.o3 d.y.q.t2.length d.y.c3, .slice d.y.o4 d.y.q.q2.length d.y.c4, .string (⟨#[]⟩), .slice d.ro d.rl.length d.rc, .slice d.lo ts.length d.lc] 49) :: [])) hA hM rfl rfl (zy rfl rfl rfl (by kernel_rfl) hM 0 rfl rfl rfl) 0 rfl rfl rfl ?_
        intro w63 hM
        refine qb (hK5 _ _ (wsk fun K64 hK64 => wrl ?_))
        iterate 2 refine sdo hA (qe rfl) fun a hA => ?_
        refine sdo hA (zt hM TrB_isS_49 rfl 0 rfl (cs := [.int .i64 d.k, .int .i64 d.n, .bool d.y.q.b1, .slice d.y.o1 d.y.q.t1.length d.y.c1, .slice d.y.o2 d.y.q.q1.length d.y.c2, .bool d.y.q.b2, .slice d.y.o3 d.y.q.t2.length d.y.c3, .slice d.y.o4 d.y.q.q2.length d.y.c4, .string (⟨#[]⟩), .slice d.ro d.rl.length d.rc, .slice d.lo ts.length d.lc]) rfl rfl) fun a hA => ?_
        refine qj hA rfl rfl rfl (qf rfl rfl (fun w => by kernel_rfl)) (vp (by first | exact hq1 | omega) (by first | exact hq2 | omega) (by first | exact hq3 | omega) (by first | exact hq4 | omega) rfl) ?_
        rintro _ w66 ⟨rfl, hb65⟩
        replace hM := hM.call hb65
        refine ⟨_, rfl, ?_⟩
        intro a hA
        refine sdo (v := .bool (ju d.n d.y.q.b1 d.y.q.t1.length d.y.q.q1.length d.y.q.b2 d.y.q.t2.length d.y.q.q2.length (⟨#[]⟩) d.rl.length ts.length)) hA (qi rfl rfl rfl rfl) fun a hA => ?_
        refine sdo hA (qa rfl) fun a hA => ?_
        refine qb (hK64 _ _ (wp_ret (hret _ _ (en1 hA rfl (qk rfl) ?_))))
        exact ⟨by rw [show ja d.k d.n d.y.q d.s d.rl.length ts.length = ju d.n d.y.q.b1 d.y.q.t1.length d.y.q.q1.length d.y.q.b2 d.y.q.t2.length d.y.q.q2.length (⟨#[]⟩) d.rl.length ts.length from by
         unfold ja
         repeat (first | rw [if_pos (by omega)] | rw [if_neg (by omega)])
         try simp_all
         try omega], hM.bel⟩
       ·
        refine qj hA rfl rfl rfl (qf rfl rfl (fun w => by kernel_rfl)) (ud hok.smax (hT.below hM.bel) hb60) ?_
        rintro _ w68 ⟨rfl, hb67⟩
        replace hM := hM.call hb67
        refine ⟨_, rfl, ?_⟩
        intro a hA
        refine sdo hA (qa rfl) fun a hA => ?_
        refine sdo (v := .pointer (some ⟨g2, 8, none⟩)) hA (qh TrB_fld_49_3 rfl rfl) fun a hA => ?_
        refine jl (us := [.int .i64 d.k, .int .i64 d.n, .bool d.y.q.b1, .slice d.y.o1 d.y.q.t1.length d.y.c1, .slice d.y.o2 d.y.q.q1.length d.y.c2, .bool d.y.q.b2, .slice d.y.o3 d.y.q.t2.length d.y.c3, .slice d.y.o4 d.y.q.q2.length d.y.c4, .string (⟨#[]⟩), .slice d.ro d.rl.length d.rc, .slice d.lo ts.length d.lc]) (L' := (.obj g2 (.cells #[.int .i64 d.k, .int .i64 d.n, .bool d.y.q.b1, .slice d.y.o1 d.y.q.t1.length d.y.c1, .slice d.y.o2 d.y.q.q1.length d.y.c2, .bool d.y.q.b2, .slice d.y.o3 d.y.q.t2.length d.y.c3, .slice d.y.o4 d.y.q.q2.length d.y.c4, .string (⟨#[]⟩), .slice d.ro d.rl.length d.rc, .slice d.lo ts.length d.lc] 49) :: [])) hA hM rfl rfl (zy rfl rfl rfl (by kernel_rfl) hM 0 rfl rfl rfl) 0 rfl rfl rfl ?_
        intro w69 hM
        refine qb (hK5 _ _ (wsk fun K70 hK70 => wrl ?_))
        iterate 2 refine sdo hA (qe rfl) fun a hA => ?_
        iterate 2 refine qy hA rfl rfl rfl fun a hA => ?_
        refine sdo (v := .bool false) hA (qi rfl rfl rfl rfl) fun a hA => ?_
        refine sdo hA (qa rfl) fun a hA => ?_
        refine qb (hK70 _ _ (wp_ret (hret _ _ (en1 hA rfl (qk rfl) ?_))))
        exact ⟨by rw [show ja d.k d.n d.y.q d.s d.rl.length ts.length = false from by
         unfold ja
         repeat (first | rw [if_pos (by omega)] | rw [if_neg (by omega)])
         try simp_all
         try omega], hM.bel⟩
      ·
       have hb59' := ne_of_beq_false hb59
       refine sdo (v := .bool false) hA (qg rfl rfl (fun w => (ze w).trans (by rw [hb59]))) fun a hA => ?_
       refine sdo hA (qa rfl) fun a hA => ?_
       refine qb (hK58 _ _ (wp_cond_false (hA.ev rfl) ?_))
       refine wsk fun K71 hK71 => wrl ?_
       rcases tf ((d.k == 6)) with hb72 | hb72
       ·
        have hb72' := eq_of_beq hb72
        refine sdo (v := .bool true) hA (qg rfl rfl (fun w => (ze w).trans (by rw [hb72]))) fun a hA => ?_
        refine sdo hA (qa rfl) fun a hA => ?_
        refine qb (hK71 _ _ (wp_cond_true (hA.ev rfl) ?_))
        refine wp_skip (hK57 _ _ (wp_cond_true (hA.ev rfl) ?_))
        refine wrl (sdo (v := .pointer (some ⟨g2, 8, none⟩)) hA (qh TrB_fld_49_3 rfl rfl) fun a hA => ?_)
        refine sdo hA (zm hM TrB_is1_9 rfl 0 rfl rfl) fun a hA => ?_
        rcases tf (okS d.s) with hb73 | hb73
        ·
         refine qj hA rfl rfl rfl (qf rfl rfl (fun w => by kernel_rfl)) (ud hok.smax (hT.below hM.bel) hb73) ?_
         rintro _ w75 ⟨rfl, hb74⟩
         replace hM := hM.call hb74
         refine ⟨_, rfl, ?_⟩
         intro a hA
         refine sdo hA (qa rfl) fun a hA => ?_
         refine sdo (v := .pointer (some ⟨g2, 8, none⟩)) hA (qh TrB_fld_49_3 rfl rfl) fun a hA => ?_
         refine jl (us := [.int .i64 d.k, .int .i64 d.n, .bool d.y.q.b1, .slice d.y.o1 d.y.q.t1.length d.y.c1, .slice d.y.o2 d.y.q.q1.length d.y.c2, .bool d.y.q.b2, .slice d.y.o3 d.y.q.t2.length d.y.c3, .slice d.y.o4 d.y.q.q2.length d.y.c4, .string (⟨#[]⟩), .slice d.ro d.rl.length d.rc, .slice d.lo ts.length d.lc]) (L' := (.obj g2 (.cells #[.int .i64 d.k, .int .i64 d.n, .bool d.y.q.b1, .slice d.y.o1 d.y.q.t1.length d.y.c1, .slice d.y.o2 d.y.q.q1.length d.y.c2, .bool d.y.q.b2, .slice d.y.o3 d.y.q.t2.length d.y.c3, .slice d.y.o4 d.y.q.q2.length d.y.c4, .string (⟨#[]⟩), .slice d.ro d.rl.length d.rc, .slice d.lo ts.length d.lc] 49) :: [])) hA hM rfl rfl (zy rfl rfl rfl (by kernel_rfl) hM 0 rfl rfl rfl) 0 rfl rfl rfl ?_
         intro w76 hM
         refine qb (hK5 _ _ (wsk fun K77 hK77 => wrl ?_))
         iterate 2 refine sdo hA (qe rfl) fun a hA => ?_
         refine sdo hA (zt hM TrB_isS_49 rfl 0 rfl (cs := [.int .i64 d.k, .int .i64 d.n, .bool d.y.q.b1, .slice d.y.o1 d.y.q.t1.length d.y.c1, .slice d.y.o2 d.y.q.q1.length d.y.c2, .bool d.y.q.b2, .slice d.y.o3 d.y.q.t2.length d.y.c3, .slice d.y.o4 d.y.q.q2.length d.y.c4, .string (⟨#[]⟩), .slice d.ro d.rl.length d.rc, .slice d.lo ts.length d.lc]) rfl rfl) fun a hA => ?_
         refine qj hA rfl rfl rfl (qf rfl rfl (fun w => by kernel_rfl)) (vp (by first | exact hq1 | omega) (by first | exact hq2 | omega) (by first | exact hq3 | omega) (by first | exact hq4 | omega) rfl) ?_
         rintro _ w79 ⟨rfl, hb78⟩
         replace hM := hM.call hb78
         refine ⟨_, rfl, ?_⟩
         intro a hA
         refine sdo (v := .bool (ju d.n d.y.q.b1 d.y.q.t1.length d.y.q.q1.length d.y.q.b2 d.y.q.t2.length d.y.q.q2.length (⟨#[]⟩) d.rl.length ts.length)) hA (qi rfl rfl rfl rfl) fun a hA => ?_
         refine sdo hA (qa rfl) fun a hA => ?_
         refine qb (hK77 _ _ (wp_ret (hret _ _ (en1 hA rfl (qk rfl) ?_))))
         exact ⟨by rw [show ja d.k d.n d.y.q d.s d.rl.length ts.length = ju d.n d.y.q.b1 d.y.q.t1.length d.y.q.q1.length d.y.q.b2 d.y.q.t2.length d.y.q.q2.length (⟨#[]⟩) d.rl.length ts.length from by
          unfold ja
          repeat (first | rw [if_pos (by omega)] | rw [if_neg (by omega)])
          try simp_all
          try omega], hM.bel⟩
        ·
         refine qj hA rfl rfl rfl (qf rfl rfl (fun w => by kernel_rfl)) (ud hok.smax (hT.below hM.bel) hb73) ?_
         rintro _ w81 ⟨rfl, hb80⟩
         replace hM := hM.call hb80
         refine ⟨_, rfl, ?_⟩
         intro a hA
         refine sdo hA (qa rfl) fun a hA => ?_
         refine sdo (v := .pointer (some ⟨g2, 8, none⟩)) hA (qh TrB_fld_49_3 rfl rfl) fun a hA => ?_
         refine jl (us := [.int .i64 d.k, .int .i64 d.n, .bool d.y.q.b1, .slice d.y.o1 d.y.q.t1.length d.y.c1, .slice d.y.o2 d.y.q.q1.length d.y.c2, .bool d.y.q.b2, .slice d.y.o3 d.y.q.t2.length d.y.c3, .slice d.y.o4 d.y.q.q2.length d.y.c4, .string (⟨#[]⟩), .slice d.ro d.rl.length d.rc, .slice d.lo ts.length d.lc]) (L' := (.obj g2 (.cells #[.int .i64 d.k, .int .i64 d.n, .bool d.y.q.b1, .slice d.y.o1 d.y.q.t1.length d.y.c1, .slice d.y.o2 d.y.q.q1.length d.y.c2, .bool d.y.q.b2, .slice d.y.o3 d.y.q.t2.length d.y.c3, .slice d.y.o4 d.y.q.q2.length d.y.c4, .string (⟨#[]⟩), .slice d.ro d.rl.length d.rc, .slice d.lo ts.length d.lc] 49) :: [])) hA hM rfl rfl (zy rfl rfl rfl (by kernel_rfl) hM 0 rfl rfl rfl) 0 rfl rfl rfl ?_
         intro w82 hM
         refine qb (hK5 _ _ (wsk fun K83 hK83 => wrl ?_))
         iterate 2 refine sdo hA (qe rfl) fun a hA => ?_
         iterate 2 refine qy hA rfl rfl rfl fun a hA => ?_
         refine sdo (v := .bool false) hA (qi rfl rfl rfl rfl) fun a hA => ?_
         refine sdo hA (qa rfl) fun a hA => ?_
         refine qb (hK83 _ _ (wp_ret (hret _ _ (en1 hA rfl (qk rfl) ?_))))
         exact ⟨by rw [show ja d.k d.n d.y.q d.s d.rl.length ts.length = false from by
          unfold ja
          repeat (first | rw [if_pos (by omega)] | rw [if_neg (by omega)])
          try simp_all
          try omega], hM.bel⟩
       ·
        have hb72' := ne_of_beq_false hb72
        refine sdo (v := .bool false) hA (qg rfl rfl (fun w => (ze w).trans (by rw [hb72]))) fun a hA => ?_
        refine sdo hA (qa rfl) fun a hA => ?_
        refine qb (hK71 _ _ (wp_cond_false (hA.ev rfl) ?_))
        refine wrl ?_
        rcases tf ((d.k == 11)) with hb84 | hb84
        ·
         have hb84' := eq_of_beq hb84
         refine sdo (v := .bool true) hA (qg rfl rfl (fun w => (ze w).trans (by rw [hb84]))) fun a hA => ?_
         refine sdo hA (qa rfl) fun a hA => ?_
         refine qb (hK57 _ _ (wp_cond_true (hA.ev rfl) ?_))
         refine wrl (sdo (v := .pointer (some ⟨g2, 8, none⟩)) hA (qh TrB_fld_49_3 rfl rfl) fun a hA => ?_)
         refine sdo hA (zm hM TrB_is1_9 rfl 0 rfl rfl) fun a hA => ?_
         rcases tf (okS d.s) with hb85 | hb85
         ·
          refine qj hA rfl rfl rfl (qf rfl rfl (fun w => by kernel_rfl)) (ud hok.smax (hT.below hM.bel) hb85) ?_
          rintro _ w87 ⟨rfl, hb86⟩
          replace hM := hM.call hb86
          refine ⟨_, rfl, ?_⟩
          intro a hA
          refine sdo hA (qa rfl) fun a hA => ?_
          refine sdo (v := .pointer (some ⟨g2, 8, none⟩)) hA (qh TrB_fld_49_3 rfl rfl) fun a hA => ?_
          refine jl (us := [.int .i64 d.k, .int .i64 d.n, .bool d.y.q.b1, .slice d.y.o1 d.y.q.t1.length d.y.c1, .slice d.y.o2 d.y.q.q1.length d.y.c2, .bool d.y.q.b2, .slice d.y.o3 d.y.q.t2.length d.y.c3, .slice d.y.o4 d.y.q.q2.length d.y.c4, .string (⟨#[]⟩), .slice d.ro d.rl.length d.rc, .slice d.lo ts.length d.lc]) (L' := (.obj g2 (.cells #[.int .i64 d.k, .int .i64 d.n, .bool d.y.q.b1, .slice d.y.o1 d.y.q.t1.length d.y.c1, .slice d.y.o2 d.y.q.q1.length d.y.c2, .bool d.y.q.b2, .slice d.y.o3 d.y.q.t2.length d.y.c3, .slice d.y.o4 d.y.q.q2.length d.y.c4, .string (⟨#[]⟩), .slice d.ro d.rl.length d.rc, .slice d.lo ts.length d.lc] 49) :: [])) hA hM rfl rfl (zy rfl rfl rfl (by kernel_rfl) hM 0 rfl rfl rfl) 0 rfl rfl rfl ?_
          intro w88 hM
          refine qb (hK5 _ _ (wsk fun K89 hK89 => wrl ?_))
          iterate 2 refine sdo hA (qe rfl) fun a hA => ?_
          refine sdo hA (zt hM TrB_isS_49 rfl 0 rfl (cs := [.int .i64 d.k, .int .i64 d.n, .bool d.y.q.b1, .slice d.y.o1 d.y.q.t1.length d.y.c1, .slice d.y.o2 d.y.q.q1.length d.y.c2, .bool d.y.q.b2, .slice d.y.o3 d.y.q.t2.length d.y.c3, .slice d.y.o4 d.y.q.q2.length d.y.c4, .string (⟨#[]⟩), .slice d.ro d.rl.length d.rc, .slice d.lo ts.length d.lc]) rfl rfl) fun a hA => ?_
          refine qj hA rfl rfl rfl (qf rfl rfl (fun w => by kernel_rfl)) (vp (by first | exact hq1 | omega) (by first | exact hq2 | omega) (by first | exact hq3 | omega) (by first | exact hq4 | omega) rfl) ?_
          rintro _ w91 ⟨rfl, hb90⟩
          replace hM := hM.call hb90
          refine ⟨_, rfl, ?_⟩
          intro a hA
          refine sdo (v := .bool (ju d.n d.y.q.b1 d.y.q.t1.length d.y.q.q1.length d.y.q.b2 d.y.q.t2.length d.y.q.q2.length (⟨#[]⟩) d.rl.length ts.length)) hA (qi rfl rfl rfl rfl) fun a hA => ?_
          refine sdo hA (qa rfl) fun a hA => ?_
          refine qb (hK89 _ _ (wp_ret (hret _ _ (en1 hA rfl (qk rfl) ?_))))
          exact ⟨by rw [show ja d.k d.n d.y.q d.s d.rl.length ts.length = ju d.n d.y.q.b1 d.y.q.t1.length d.y.q.q1.length d.y.q.b2 d.y.q.t2.length d.y.q.q2.length (⟨#[]⟩) d.rl.length ts.length from by
           unfold ja
           repeat (first | rw [if_pos (by omega)] | rw [if_neg (by omega)])
           try simp_all
           try omega], hM.bel⟩
         ·
          refine qj hA rfl rfl rfl (qf rfl rfl (fun w => by kernel_rfl)) (ud hok.smax (hT.below hM.bel) hb85) ?_
          rintro _ w93 ⟨rfl, hb92⟩
          replace hM := hM.call hb92
          refine ⟨_, rfl, ?_⟩
          intro a hA
          refine sdo hA (qa rfl) fun a hA => ?_
          refine sdo (v := .pointer (some ⟨g2, 8, none⟩)) hA (qh TrB_fld_49_3 rfl rfl) fun a hA => ?_
          refine jl (us := [.int .i64 d.k, .int .i64 d.n, .bool d.y.q.b1, .slice d.y.o1 d.y.q.t1.length d.y.c1, .slice d.y.o2 d.y.q.q1.length d.y.c2, .bool d.y.q.b2, .slice d.y.o3 d.y.q.t2.length d.y.c3, .slice d.y.o4 d.y.q.q2.length d.y.c4, .string (⟨#[]⟩), .slice d.ro d.rl.length d.rc, .slice d.lo ts.length d.lc]) (L' := (.obj g2 (.cells #[.int .i64 d.k, .int .i64 d.n, .bool d.y.q.b1, .slice d.y.o1 d.y.q.t1.length d.y.c1, .slice d.y.o2 d.y.q.q1.length d.y.c2, .bool d.y.q.b2, .slice d.y.o3 d.y.q.t2.length d.y.c3, .slice d.y.o4 d.y.q.q2.length d.y.c4, .string (⟨#[]⟩), .slice d.ro d.rl.length d.rc, .slice d.lo ts.length d.lc] 49) :: [])) hA hM rfl rfl (zy rfl rfl rfl (by kernel_rfl) hM 0 rfl rfl rfl) 0 rfl rfl rfl ?_
          intro w94 hM
          refine qb (hK5 _ _ (wsk fun K95 hK95 => wrl ?_))
          iterate 2 refine sdo hA (qe rfl) fun a hA => ?_
          iterate 2 refine qy hA rfl rfl rfl fun a hA => ?_
          refine sdo (v := .bool false) hA (qi rfl rfl rfl rfl) fun a hA => ?_
          refine sdo hA (qa rfl) fun a hA => ?_
          refine qb (hK95 _ _ (wp_ret (hret _ _ (en1 hA rfl (qk rfl) ?_))))
          exact ⟨by rw [show ja d.k d.n d.y.q d.s d.rl.length ts.length = false from by
           unfold ja
           repeat (first | rw [if_pos (by omega)] | rw [if_neg (by omega)])
           try simp_all
           try omega], hM.bel⟩
        ·
         have hb84' := ne_of_beq_false hb84
         refine sdo (v := .bool false) hA (qg rfl rfl (fun w => (ze w).trans (by rw [hb84]))) fun a hA => ?_
         refine sdo hA (qa rfl) fun a hA => ?_
         refine qb (hK57 _ _ (wp_cond_false (hA.ev rfl) ?_))
         refine wsk fun K96 hK96 => wrl ?_
         rcases tf ((d.k == 7)) with hb97 | hb97
         ·
          have hb97' := eq_of_beq hb97
          refine sdo (v := .bool true) hA (qg rfl rfl (fun w => (ze w).trans (by rw [hb97]))) fun a hA => ?_
          refine sdo hA (qa rfl) fun a hA => ?_
          refine qb (hK96 _ _ (wp_cond_true (hA.ev rfl) ?_))
          refine wrl (sdo (v := .pointer (some ⟨g2, 9, none⟩)) hA (qh TrB_fld_49_4 rfl rfl) fun a hA => ?_)
          refine jl (us := [.int .i64 d.k, .int .i64 d.n, .bool d.y.q.b1, .slice d.y.o1 d.y.q.t1.length d.y.c1, .slice d.y.o2 d.y.q.q1.length d.y.c2, .bool d.y.q.b2, .slice d.y.o3 d.y.q.t2.length d.y.c3, .slice d.y.o4 d.y.q.q2.length d.y.c4, .string d.s, .slice none 0 0, .slice d.lo ts.length d.lc]) (L' := (.obj g2 (.cells #[.int .i64 d.k, .int .i64 d.n, .bool d.y.q.b1, .slice d.y.o1 d.y.q.t1.length d.y.c1, .slice d.y.o2 d.y.q.q1.length d.y.c2, .bool d.y.q.b2, .slice d.y.o3 d.y.q.t2.length d.y.c3, .slice d.y.o4 d.y.q.q2.length d.y.c4, .string d.s, .slice none 0 0, .slice d.lo ts.length d.lc] 49) :: [])) hA hM rfl rfl (zy rfl rfl rfl (by kernel_rfl) hM 0 rfl rfl rfl) 0 rfl rfl rfl ?_
          intro w98 hM
          refine qb (hK5 _ _ (wsk fun K99 hK99 => wrl ?_))
          iterate 2 refine sdo hA (qe rfl) fun a hA => ?_
          refine sdo hA (zt hM TrB_isS_49 rfl 0 rfl (cs := [.int .i64 d.k, .int .i64 d.n, .bool d.y.q.b1, .slice d.y.o1 d.y.q.t1.length d.y.c1, .slice d.y.o2 d.y.q.q1.length d.y.c2, .bool d.y.q.b2, .slice d.y.o3 d.y.q.t2.length d.y.c3, .slice d.y.o4 d.y.q.q2.length d.y.c4, .string d.s, .slice none 0 0, .slice d.lo ts.length d.lc]) rfl rfl) fun a hA => ?_
          refine qj hA rfl rfl rfl (qf rfl rfl (fun w => by kernel_rfl)) (vp (by first | exact hq1 | omega) (by first | exact hq2 | omega) (by first | exact hq3 | omega) (by first | exact hq4 | omega) rfl) ?_
          rintro _ w101 ⟨rfl, hb100⟩
          replace hM := hM.call hb100
          refine ⟨_, rfl, ?_⟩
          intro a hA
          refine sdo (v := .bool (ju d.n d.y.q.b1 d.y.q.t1.length d.y.q.q1.length d.y.q.b2 d.y.q.t2.length d.y.q.q2.length d.s 0 ts.length)) hA (qi rfl rfl rfl rfl) fun a hA => ?_
          refine sdo hA (qa rfl) fun a hA => ?_
          refine qb (hK99 _ _ (wp_ret (hret _ _ (en1 hA rfl (qk rfl) ?_))))
          exact ⟨by rw [show ja d.k d.n d.y.q d.s d.rl.length ts.length = ju d.n d.y.q.b1 d.y.q.t1.length d.y.q.q1.length d.y.q.b2 d.y.q.t2.length d.y.q.q2.length d.s 0 ts.length from by
           unfold ja
           repeat (first | rw [if_pos (by omega)] | rw [if_neg (by omega)])
           try simp_all
           try omega], hM.bel⟩
         ·
          have hb97' := ne_of_beq_false hb97
          refine sdo (v := .bool false) hA (qg rfl rfl (fun w => (ze w).trans (by rw [hb97]))) fun a hA => ?_
          refine sdo hA (qa rfl) fun a hA => ?_
          refine qb (hK96 _ _ (wp_cond_false (hA.ev rfl) ?_))
          refine wsk fun K102 hK102 => wrl ?_
          rcases tf ((d.k == 8)) with hb103 | hb103
          ·
           have hb103' := eq_of_beq hb103
           refine sdo (v := .bool true) hA (qg rfl rfl (fun w => (ze w).trans (by rw [hb103]))) fun a hA => ?_
           refine sdo hA (qa rfl) fun a hA => ?_
           refine qb (hK102 _ _ (wp_cond_true (hA.ev rfl) ?_))
           refine wrl (sdo (v := .pointer (some ⟨g2, 10, none⟩)) hA (qh TrB_fld_49_5 rfl rfl) fun a hA => ?_)
           refine sdo hA (zm hM TrB_is1_44 rfl 0 rfl rfl) fun a hA => ?_
           refine sdo hA (zj Tryz.underlying44 rfl) fun a hA => ?_
           rcases tf ((((ts.length : Nat) : Int) == 2)) with hb104 | hb104
           ·
            have hb104' := eq_of_beq hb104
            refine sdo (v := .bool true) hA (qg rfl rfl (fun w => (ze w).trans (by rw [hb104]))) fun a hA => ?_
            refine sdo hA (qa rfl) fun a hA => ?_
            refine sdo (v := .pointer (some ⟨g2, 10, none⟩)) hA (qh TrB_fld_49_5 rfl rfl) fun a hA => ?_
            refine jl (us := [.int .i64 d.k, .int .i64 d.n, .bool d.y.q.b1, .slice d.y.o1 d.y.q.t1.length d.y.c1, .slice d.y.o2 d.y.q.q1.length d.y.c2, .bool d.y.q.b2, .slice d.y.o3 d.y.q.t2.length d.y.c3, .slice d.y.o4 d.y.q.q2.length d.y.c4, .string d.s, .slice d.ro d.rl.length d.rc, .slice none 0 0]) (L' := (.obj g2 (.cells #[.int .i64 d.k, .int .i64 d.n, .bool d.y.q.b1, .slice d.y.o1 d.y.q.t1.length d.y.c1, .slice d.y.o2 d.y.q.q1.length d.y.c2, .bool d.y.q.b2, .slice d.y.o3 d.y.q.t2.length d.y.c3, .slice d.y.o4 d.y.q.q2.length d.y.c4, .string d.s, .slice d.ro d.rl.length d.rc, .slice none 0 0] 49) :: [])) hA hM rfl rfl (zy rfl rfl rfl (by kernel_rfl) hM 0 rfl rfl rfl) 0 rfl rfl rfl ?_
            intro w105 hM
            refine qb (hK5 _ _ (wsk fun K106 hK106 => wrl ?_))
            iterate 2 refine sdo hA (qe rfl) fun a hA => ?_
            refine sdo hA (zt hM TrB_isS_49 rfl 0 rfl (cs := [.int .i64 d.k, .int .i64 d.n, .bool d.y.q.b1, .slice d.y.o1 d.y.q.t1.length d.y.c1, .slice d.y.o2 d.y.q.q1.length d.y.c2, .bool d.y.q.b2, .slice d.y.o3 d.y.q.t2.length d.y.c3, .slice d.y.o4 d.y.q.q2.length d.y.c4, .string d.s, .slice d.ro d.rl.length d.rc, .slice none 0 0]) rfl rfl) fun a hA => ?_
            refine qj hA rfl rfl rfl (qf rfl rfl (fun w => by kernel_rfl)) (vp (by first | exact hq1 | omega) (by first | exact hq2 | omega) (by first | exact hq3 | omega) (by first | exact hq4 | omega) rfl) ?_
            rintro _ w108 ⟨rfl, hb107⟩
            replace hM := hM.call hb107
            refine ⟨_, rfl, ?_⟩
            intro a hA
            refine sdo (v := .bool (ju d.n d.y.q.b1 d.y.q.t1.length d.y.q.q1.length d.y.q.b2 d.y.q.t2.length d.y.q.q2.length d.s d.rl.length 0)) hA (qi rfl rfl rfl rfl) fun a hA => ?_
            refine sdo hA (qa rfl) fun a hA => ?_
            refine qb (hK106 _ _ (wp_ret (hret _ _ (en1 hA rfl (qk rfl) ?_))))
            exact ⟨by rw [show ja d.k d.n d.y.q d.s d.rl.length ts.length = ju d.n d.y.q.b1 d.y.q.t1.length d.y.q.q1.length d.y.q.b2 d.y.q.t2.length d.y.q.q2.length d.s d.rl.length 0 from by
             unfold ja
             repeat (first | rw [if_pos (by omega)] | rw [if_neg (by omega)])
             try simp_all
             try omega], hM.bel⟩
           ·
            have hb104' := ne_of_beq_false hb104
            refine sdo (v := .bool false) hA (qg rfl rfl (fun w => (ze w).trans (by rw [hb104]))) fun a hA => ?_
            refine sdo hA (qa rfl) fun a hA => ?_
            refine sdo (v := .pointer (some ⟨g2, 10, none⟩)) hA (qh TrB_fld_49_5 rfl rfl) fun a hA => ?_
            refine jl (us := [.int .i64 d.k, .int .i64 d.n, .bool d.y.q.b1, .slice d.y.o1 d.y.q.t1.length d.y.c1, .slice d.y.o2 d.y.q.q1.length d.y.c2, .bool d.y.q.b2, .slice d.y.o3 d.y.q.t2.length d.y.c3, .slice d.y.o4 d.y.q.q2.length d.y.c4, .string d.s, .slice d.ro d.rl.length d.rc, .slice none 0 0]) (L' := (.obj g2 (.cells #[.int .i64 d.k, .int .i64 d.n, .bool d.y.q.b1, .slice d.y.o1 d.y.q.t1.length d.y.c1, .slice d.y.o2 d.y.q.q1.length d.y.c2, .bool d.y.q.b2, .slice d.y.o3 d.y.q.t2.length d.y.c3, .slice d.y.o4 d.y.q.q2.length d.y.c4, .string d.s, .slice d.ro d.rl.length d.rc, .slice none 0 0] 49) :: [])) hA hM rfl rfl (zy rfl rfl rfl (by kernel_rfl) hM 0 rfl rfl rfl) 0 rfl rfl rfl ?_
            intro w109 hM
            refine qb (hK5 _ _ (wsk fun K110 hK110 => wrl ?_))
            iterate 2 refine sdo hA (qe rfl) fun a hA => ?_
            iterate 2 refine qy hA rfl rfl rfl fun a hA => ?_
            refine sdo (v := .bool false) hA (qi rfl rfl rfl rfl) fun a hA => ?_
            refine sdo hA (qa rfl) fun a hA => ?_
            refine qb (hK110 _ _ (wp_ret (hret _ _ (en1 hA rfl (qk rfl) ?_))))
            exact ⟨by rw [show ja d.k d.n d.y.q d.s d.rl.length ts.length = false from by
             unfold ja
             repeat (first | rw [if_pos (by omega)] | rw [if_neg (by omega)])
             try simp_all
             try omega], hM.bel⟩
          ·
           have hb103' := ne_of_beq_false hb103
           refine sdo (v := .bool false) hA (qg rfl rfl (fun w => (ze w).trans (by rw [hb103]))) fun a hA => ?_
           refine sdo hA (qa rfl) fun a hA => ?_
           refine qb (hK102 _ _ (wp_cond_false (hA.ev rfl) ?_))
           refine wsk fun K111 hK111 => wrl ?_
           rcases tf ((d.k == 9)) with hb112 | hb112
           ·
            have hb112' := eq_of_beq hb112
            refine sdo (v := .bool true) hA (qg rfl rfl (fun w => (ze w).trans (by rw [hb112]))) fun a hA => ?_
            refine sdo hA (qa rfl) fun a hA => ?_
            refine qb (hK111 _ _ (wp_cond_true (hA.ev rfl) ?_))
            refine wrl (sdo (v := .pointer (some ⟨g2, 10, none⟩)) hA (qh TrB_fld_49_5 rfl rfl) fun a hA => ?_)
            refine jl (us := [.int .i64 d.k, .int .i64 d.n, .bool d.y.q.b1, .slice d.y.o1 d.y.q.t1.length d.y.c1, .slice d.y.o2 d.y.q.q1.length d.y.c2, .bool d.y.q.b2, .slice d.y.o3 d.y.q.t2.length d.y.c3, .slice d.y.o4 d.y.q.q2.length d.y.c4, .string d.s, .slice d.ro d.rl.length d.rc, .slice none 0 0]) (L' := (.obj g2 (.cells #[.int .i64 d.k, .int .i64 d.n, .bool d.y.q.b1, .slice d.y.o1 d.y.q.t1.length d.y.c1, .slice d.y.o2 d.y.q.q1.length d.y.c2, .bool d.y.q.b2, .slice d.y.o3 d.y.q.t2.length d.y.c3, .slice d.y.o4 d.y.q.q2.length d.y.c4, .string d.s, .slice d.ro d.rl.length d.rc, .slice none 0 0] 49) :: [])) hA hM rfl rfl (zy rfl rfl rfl (by kernel_rfl) hM 0 rfl rfl rfl) 0 rfl rfl rfl ?_
            intro w113 hM
            refine qb (hK5 _ _ (wsk fun K114 hK114 => wrl ?_))
            iterate 2 refine sdo hA (qe rfl) fun a hA => ?_
            refine sdo hA (zt hM TrB_isS_49 rfl 0 rfl (cs := [.int .i64 d.k, .int .i64 d.n, .bool d.y.q.b1, .slice d.y.o1 d.y.q.t1.length d.y.c1, .slice d.y.o2 d.y.q.q1.length d.y.c2, .bool d.y.q.b2, .slice d.y.o3 d.y.q.t2.length d.y.c3, .slice d.y.o4 d.y.q.q2.length d.y.c4, .string d.s, .slice d.ro d.rl.length d.rc, .slice none 0 0]) rfl rfl) fun a hA => ?_
            refine qj hA rfl rfl rfl (qf rfl rfl (fun w => by kernel_rfl)) (vp (by first | exact hq1 | omega) (by first | exact hq2 | omega) (by first | exact hq3 | omega) (by first | exact hq4 | omega) rfl) ?_
            rintro _ w116 ⟨rfl, hb115⟩
            replace hM := hM.call hb115
            refine ⟨_, rfl, ?_⟩
            intro a hA
            refine sdo (v := .bool (ju d.n d.y.q.b1 d.y.q.t1.length d.y.q.q1.length d.y.q.b2 d.y.q.t2.length d.y.q.q2.length d.s d.rl.length 0)) hA (qi rfl rfl rfl rfl) fun a hA => ?_
            refine sdo hA (qa rfl) fun a hA => ?_
            refine qb (hK114 _ _ (wp_ret (hret _ _ (en1 hA rfl (qk rfl) ?_))))
            exact ⟨by rw [show ja d.k d.n d.y.q d.s d.rl.length ts.length = ju d.n d.y.q.b1 d.y.q.t1.length d.y.q.q1.length d.y.q.b2 d.y.q.t2.length d.y.q.q2.length d.s d.rl.length 0 from by
             unfold ja
             repeat (first | rw [if_pos (by omega)] | rw [if_neg (by omega)])
             try simp_all
             try omega], hM.bel⟩
           ·
            have hb112' := ne_of_beq_false hb112
            refine sdo (v := .bool false) hA (qg rfl rfl (fun w => (ze w).trans (by rw [hb112]))) fun a hA => ?_
            refine sdo hA (qa rfl) fun a hA => ?_
            refine qb (hK111 _ _ (wp_cond_false (hA.ev rfl) ?_))
            refine wrl (sdo hA (qa rfl) fun a hA => ?_)
            refine qb (hK5 _ _ (wsk fun K117 hK117 => wrl ?_))
            iterate 2 refine sdo hA (qe rfl) fun a hA => ?_
            iterate 2 refine qy hA rfl rfl rfl fun a hA => ?_
            refine sdo (v := .bool false) hA (qi rfl rfl rfl rfl) fun a hA => ?_
            refine sdo hA (qa rfl) fun a hA => ?_
            refine qb (hK117 _ _ (wp_ret (hret _ _ (en1 hA rfl (qk rfl) ?_))))
            exact ⟨by rw [show ja d.k d.n d.y.q d.s d.rl.length ts.length = false from by
             unfold ja
             repeat (first | rw [if_pos (by omega)] | rw [if_neg (by omega)])
             try simp_all
             try omega], hM.bel⟩
end Go.Proofs.YtjkpfnghiooblaaGreatDoor.G
namespace Go.Proofs.YtjkpfnghiooblaaGreatDoor.G
open Go.RowKit
set_option linter.unusedVariables false
set_option linter.unusedSimpArgs false
set_option maxRecDepth 100000
theorem TrC_is1_44 : Is1 Tryz.prog 44 := ⟨⟨_, Tryz.underlying44, rfl⟩, by kernel_rfl⟩
theorem TrC_fld_49_5 : FieldAt Tryz.prog 49 5 10 := ⟨_, _, Tryz.underlying49, rfl, rfl, by kernel_rfl⟩
theorem TrC_isS_49 : IsS Tryz.prog 49 11 := ⟨⟨_, Tryz.underlying49⟩, by kernel_rfl⟩
theorem Mg.here {w0 w : World} {L : List Ck} (h : Mg w0 w L) (k : Nat) {g : Nat} {cs : List Value} {t : TypeId} (hk : L[k]? = some (.obj g (.cells cs.toArray t))) : Here w g 0 cs := ⟨(Array.getElem?_eq_some_iff.1 (h.obj k hk)).1, fun j v hj => by rw [Nat.zero_add]; exact h.cell k hk j hj⟩
def Through (t : Dt) : Prop := ∀ {w : World}, t.rd w → Tabs8 w → Calls Tryz.prog 135 #[.agg t.cells.toArray] w fun e w' => e = .returned (.bool (qna kj t.tr)) ∧ Below w.heap.size w w'
theorem qmh : ∀ t : Dt, Through t := Dt.indT fun d ts ih => by
 intro w hrd hT
 have hok := (Dt.rd_iff.1 hrd)
 have hlen : ts.length ≤ 9223372036854775807 := Nat.le_trans hok.2.1 hok.2.2.1
 have hM : Mg w w ([]) := Mg.start w
 refine qz (l := [(0, .agg (d.cells ts.length).toArray)]) Tryz.func135 rfl Tryz.ntmps135 rfl rfl ?_
 intro Q hret hnorm hP a hA
 refine wsk fun K1 hK1 => wrl (xg (vs := [.int .i64 d.k, .int .i64 d.n, .bool d.y.q.b1, .slice d.y.o1 d.y.q.t1.length d.y.c1, .slice d.y.o2 d.y.q.q1.length d.y.c2, .bool d.y.q.b2, .slice d.y.o3 d.y.q.t2.length d.y.c3, .slice d.y.o4 d.y.q.q2.length d.y.c4, .string d.s, .slice d.ro d.rl.length d.rc, .slice d.lo ts.length d.lc]) (t := 49) hA hM rfl rfl rfl (fun g => .pointer (some ⟨g, 0, none⟩)) (za rfl rfl) (by decide) ?_)
 intro g2 w3 hM a hA
 refine sdo hA (qa rfl) fun a hA => ?_
 refine qb (hK1 _ _ (wsk fun K4 hK4 => wsk fun K5 hK5 => wrl (sdo hA (zt hM TrC_isS_49 rfl 0 rfl (cs := [.int .i64 d.k, .int .i64 d.n, .bool d.y.q.b1, .slice d.y.o1 d.y.q.t1.length d.y.c1, .slice d.y.o2 d.y.q.q1.length d.y.c2, .bool d.y.q.b2, .slice d.y.o3 d.y.q.t2.length d.y.c3, .slice d.y.o4 d.y.q.q2.length d.y.c4, .string d.s, .slice d.ro d.rl.length d.rc, .slice d.lo ts.length d.lc]) rfl rfl) fun a hA => ?_)))
 rcases tf (ja d.k d.n d.y.q d.s d.rl.length ts.length) with hb6 | hb6
 ·
  refine qj hA rfl rfl rfl (qf rfl rfl (fun w => by kernel_rfl)) ((hb6 ▸ qsc (ts := ts) (hok.1.below hM.bel) (hT.below hM.bel))) ?_
  rintro _ w8 ⟨rfl, hb7⟩
  replace hM := hM.call hb7
  refine ⟨_, rfl, ?_⟩
  intro a hA
  refine sdo (v := .bool false) hA (zk rfl zq) fun a hA => ?_
  refine qb (hK5 _ _ (wp_cond_false (hA.ev rfl) ?_))
  refine wp_skip (hK4 _ _ (wsk fun K9 hK9 => wsk fun K10 hK10 => wrl (sdo (v := .pointer (some ⟨g2, 10, none⟩)) hA (qh TrC_fld_49_5 rfl rfl) fun a hA => ?_)))
  refine sdo hA (zm hM TrC_is1_44 rfl 0 rfl rfl) fun a hA => ?_
  refine sdo hA (zj Tryz.underlying44 rfl) fun a hA => ?_
  refine sdo hA (qe rfl) fun a hA => ?_
  refine qb (hK10 _ _ (wp_block (jw (fun m_ a w1 => ∃ (i : Nat), m_ = 1 + (ts.length - i) ∧ (i ≤ ts.length ∧ qsh kj ((ts.map Dt.tr).drop 0) = qsh kj ((ts.map Dt.tr).drop i)) ∧ Sl a 19 [(0, .agg (d.cells ts.length).toArray), (1, .pointer (some ⟨g2, 0, none⟩)), (5, .agg (d.cells ts.length).toArray), (6, .bool true), (7, .bool false), (8, .pointer (some ⟨g2, 10, none⟩)), (9, .slice d.lo ts.length d.lc), (10, .int .i64 (((ts.length : Nat) : Int))), (11, .int .i64 (((i : Nat) : Int)))] ∧ Mg w w1 (.obj g2 (.cells (d.cells ts.length).toArray 49) :: [])) _ ⟨0, rfl, ⟨Nat.zero_le _, rfl⟩, hA.keep _ ⟨rfl, rfl, rfl, rfl, rfl, rfl, rfl, rfl, rfl, trivial⟩, hM⟩ ?_)))
  clear hM hA
  rintro m_ a w11 ⟨i, rfl, hinv13, hA, hM⟩ K12 hK12
  obtain ⟨hi0, hin9⟩ := hinv13
  refine wsk fun K14 hK14 => wrl ?_
  rcases tf (decide (((i : Nat) : Int) < ((ts.length : Nat) : Int))) with hb15 | hb15
  ·
   have hb15' := of_decide_eq_true hb15
   refine sdo (v := .bool true) hA (qg rfl rfl (fun w => (zr w).trans (by rw [hb15]))) fun a hA => ?_
   refine qb (hK14 _ _ (wsk fun K16 hK16 => wp_cond_true (hA.ev rfl) ?_))
   refine wp_skip (hK16 _ _ (wsk fun K17 hK17 => wp_block (wsk fun K18 hK18 => ?_)))
   obtain ⟨t1, b1, o1, hi1, hm1, hr1, hl1, hH1⟩ := kid hrd (i := i) (by omega)
   refine wrl (sdo (v := .pointer (some ⟨b1, o1 + i * 11, none⟩)) hA (qaa (k := i) Tryz.underlying44 (by kernel_rfl) rfl rfl rfl hl1 (by omega)) fun a hA => ?_)
   refine sdo hA (zyi hM hH1 TrC_isS_49 rfl rfl) fun a hA => ?_
   refine xg (vs := [.int .i64 0, .int .i64 0, .bool false, .slice none 0 0, .slice none 0 0, .bool false, .slice none 0 0, .slice none 0 0, .string (⟨#[]⟩), .slice none 0 0, .slice none 0 0]) (t := 49) hA hM rfl rfl rfl (fun g => .pointer (some ⟨g, 0, none⟩)) (qp (z := .agg #[.int .i64 0, .int .i64 0, .bool false, .slice none 0 0, .slice none 0 0, .bool false, .slice none 0 0, .slice none 0 0, .string (⟨#[]⟩), .slice none 0 0, .slice none 0 0]) (by kernel_rfl) rfl) (by decide) ?_
   intro g19 w20 hM a hA
   refine jl (us := [.int .i64 t1.d.k, .int .i64 t1.d.n, .bool t1.d.y.q.b1, .slice t1.d.y.o1 t1.d.y.q.t1.length t1.d.y.c1, .slice t1.d.y.o2 t1.d.y.q.q1.length t1.d.y.c2, .bool t1.d.y.q.b2, .slice t1.d.y.o3 t1.d.y.q.t2.length t1.d.y.c3, .slice t1.d.y.o4 t1.d.y.q.q2.length t1.d.y.c4, .string t1.d.s, .slice t1.d.ro t1.d.rl.length t1.d.rc, .slice t1.d.lo t1.ts.length t1.d.lc]) (L' := (.obj g19 (.cells (t1.d.cells t1.ts.length).toArray 49) :: .obj g2 (.cells (d.cells ts.length).toArray 49) :: [])) hA hM rfl rfl (zy rfl rfl rfl (by kernel_rfl) hM 0 rfl rfl rfl) 0 rfl rfl rfl ?_
   intro w21 hM
   refine qb (hK18 _ _ (wsk fun K22 hK22 => wrl (sdo hA (zt hM TrC_isS_49 rfl 0 rfl (cs := [.int .i64 t1.d.k, .int .i64 t1.d.n, .bool t1.d.y.q.b1, .slice t1.d.y.o1 t1.d.y.q.t1.length t1.d.y.c1, .slice t1.d.y.o2 t1.d.y.q.q1.length t1.d.y.c2, .bool t1.d.y.q.b2, .slice t1.d.y.o3 t1.d.y.q.t2.length t1.d.y.c3, .slice t1.d.y.o4 t1.d.y.q.q2.length t1.d.y.c4, .string t1.d.s, .slice t1.d.ro t1.d.rl.length t1.d.rc, .slice t1.d.lo t1.ts.length t1.d.lc]) rfl rfl) fun a hA => ?_)))
   rcases tf (qna kj t1.tr) with hb23 | hb23
   ·
    refine qj hA rfl rfl rfl (qf rfl rfl (fun w => by kernel_rfl)) ((hb23 ▸ ih t1 hm1 (Dt.keep hM.bel _ hr1) (hT.below hM.bel))) ?_
    rintro _ w25 ⟨rfl, hb24⟩
    replace hM := hM.call hb24
    refine ⟨_, rfl, ?_⟩
    intro a hA
    refine sdo (v := .bool false) hA (zk rfl zq) fun a hA => ?_
    refine qb (hK22 _ _ (wp_cond_false (hA.ev rfl) ?_))
    refine wp_skip (hK17 _ _ (wrl (sdo (v := .int .i64 (((i + 1 : Nat) : Int))) hA (qg rfl rfl (fun w => (yd (yb (by omega) (by omega)) w).trans (by rw [show (((i : Nat) : Int) + 1 : Int) = ((i + 1 : Nat) : Int) from by omega]))) fun a hA => ?_)))
    refine sdo hA (qe rfl) fun a hA => ?_
    refine qb ?_
    replace hM : Mg w w25 (.obj g2 (.cells (d.cells ts.length).toArray 49) :: []) := by
     have h9 := hM.sub (.cons _ (.cons_cons _ (.refl _)))
     exact h9
    refine hK12 _ _ _ (by omega) ⟨i + 1, rfl, ⟨by omega, by rw [hin9, zng hi1, hb23, Bool.true_and]⟩, hA.keep _ ⟨rfl, rfl, rfl, rfl, rfl, rfl, rfl, rfl, rfl, trivial⟩, hM⟩
   ·
    refine qj hA rfl rfl rfl (qf rfl rfl (fun w => by kernel_rfl)) ((hb23 ▸ ih t1 hm1 (Dt.keep hM.bel _ hr1) (hT.below hM.bel))) ?_
    rintro _ w27 ⟨rfl, hb26⟩
    replace hM := hM.call hb26
    refine ⟨_, rfl, ?_⟩
    intro a hA
    refine sdo (v := .bool true) hA (zk rfl zq) fun a hA => ?_
    refine qb (hK22 _ _ (wp_cond_true (hA.ev rfl) ?_))
    refine wsk fun K28 hK28 => wrl (sdo hA (qa rfl) fun a hA => ?_)
    refine qb (hK28 _ _ (wp_ret (hret _ _ (en1 hA rfl (qk rfl) ?_))))
    rw [show qna kj (Dt.mk d ts).tr = false from by rw [qzb, qlc, hb6, Bool.true_and, hin9, zng hi1, hb23, Bool.false_and]]
    exact ⟨rfl, hM.bel⟩
  ·
   have hb15' := of_decide_eq_false hb15
   refine sdo (v := .bool false) hA (qg rfl rfl (fun w => (zr w).trans (by rw [hb15]))) fun a hA => ?_
   refine qb (hK14 _ _ (wsk fun K29 hK29 => wp_cond_false (hA.ev rfl) ?_))
   refine wp_exit (hK9 _ _ (wsk fun K30 hK30 => wrl (sdo hA (qa rfl) fun a hA => ?_)))
   refine qb (hK30 _ _ (wp_ret (hret _ _ (en1 hA rfl (qk rfl) ?_))))
   rw [show qna kj (Dt.mk d ts).tr = true from by rw [qzb, qlc, hb6, Bool.true_and, hin9, qvi (by omega), qsh]]
   exact ⟨rfl, hM.bel⟩
 ·
  refine qj hA rfl rfl rfl (qf rfl rfl (fun w => by kernel_rfl)) ((hb6 ▸ qsc (ts := ts) (hok.1.below hM.bel) (hT.below hM.bel))) ?_
  rintro _ w32 ⟨rfl, hb31⟩
  replace hM := hM.call hb31
  refine ⟨_, rfl, ?_⟩
  intro a hA
  refine sdo (v := .bool true) hA (zk rfl zq) fun a hA => ?_
  refine qb (hK5 _ _ (wp_cond_true (hA.ev rfl) ?_))
  refine wsk fun K33 hK33 => wrl (sdo hA (qa rfl) fun a hA => ?_)
  refine qb (hK33 _ _ (wp_ret (hret _ _ (en1 hA rfl (qk rfl) ?_))))
  rw [show qna kj (Dt.mk d ts).tr = false from by rw [qzb, qlc, hb6, Bool.false_and]]
  exact ⟨rfl, hM.bel⟩
theorem qia {w : World} {d : Nd} {ts : List Dt} (hrd : (Dt.mk d ts).rd w) : Calls Tryz.prog 134 #[.agg (d.cells ts.length).toArray] w fun e w' => e = .returned (.bool (xi 1 20000 (Dt.mk d ts).tr).1) ∧ Below w.heap.size w w' := by
 have hM : Mg w w ([]) := Mg.start w
 refine qz (l := [(0, .agg (d.cells ts.length).toArray)]) Tryz.func134 rfl Tryz.ntmps134 rfl rfl ?_
 intro Q hret hnorm hP a hA
 refine wsk fun K1 hK1 => wrl (xg (vs := [.int .i64 d.k, .int .i64 d.n, .bool d.y.q.b1, .slice d.y.o1 d.y.q.t1.length d.y.c1, .slice d.y.o2 d.y.q.q1.length d.y.c2, .bool d.y.q.b2, .slice d.y.o3 d.y.q.t2.length d.y.c3, .slice d.y.o4 d.y.q.q2.length d.y.c4, .string d.s, .slice d.ro d.rl.length d.rc, .slice d.lo ts.length d.lc]) (t := 49) hA hM rfl rfl rfl (fun g => .pointer (some ⟨g, 0, none⟩)) (za rfl rfl) (by decide) ?_)
 intro g2 w3 hM a hA
 refine sdo hA (qa rfl) fun a hA => ?_
 refine qb (hK1 _ _ (wsk fun K4 hK4 => ?_))
 have hB1 := hM.bel
 have hH1 := hM.here 0 (cs := d.cells ts.length) rfl
 replace hM : Mg w3 w3 [] := Mg.start w3
 refine wrl (xg (vs := [.int .i64 0]) (t := 3) hA hM rfl rfl rfl (fun g => .pointer (some ⟨g, 0, none⟩)) (qp (z := .int .i64 0) (by kernel_rfl) rfl) (by decide) ?_)
 intro g5 w6 hM a hA
 refine jl (us := [.int .i64 20000]) (L' := (.obj g5 (.cells #[.int .i64 20000] 3) :: [])) hA hM rfl rfl (zy rfl rfl rfl (by kernel_rfl) hM 0 rfl rfl rfl) 0 rfl rfl rfl ?_
 intro w7 hM
 refine qb (hK4 _ _ (wsk fun K8 hK8 => wrl (qj hA rfl rfl rfl (qf rfl rfl (fun w => by kernel_rfl)) (zje (Dt.mk d ts) (Dt.keep hB1 _ hrd) hH1 hM (by omega) (by omega) (by omega) (by omega)) ?_)))
 rintro _ w10 ⟨rfl, hM9⟩
 replace hM : Mg w3 w10 (.obj g5 (.cells #[.int .i64 ((xi 1 20000 (Dt.mk d ts).tr).2)] 3) :: []) := hM9
 refine ⟨_, rfl, ?_⟩
 intro a hA
 refine sdo hA (qa rfl) fun a hA => ?_
 refine qb (hK8 _ _ (wp_ret (hret _ _ (en1 hA rfl (qk rfl) ?_))))
 exact ⟨rfl, hB1.trans (hM.bel.mono hB1.size)⟩
theorem zeb {w : World} {d : Nd} {ts : List Dt} (hrd : (Dt.mk d ts).rd w) (hT : Tabs8 w) : Calls Tryz.prog 98 #[.agg (d.cells ts.length).toArray] w fun e w' => e = .returned (.bool (qcf kj (Dt.mk d ts).tr)) ∧ Below w.heap.size w w' := by
 have hM : Mg w w ([]) := Mg.start w
 refine qz (l := [(0, .agg (d.cells ts.length).toArray)]) Tryz.func98 rfl Tryz.ntmps98 rfl rfl ?_
 intro Q hret hnorm hP a hA
 refine wsk fun K1 hK1 => wrl (xg (vs := [.int .i64 d.k, .int .i64 d.n, .bool d.y.q.b1, .slice d.y.o1 d.y.q.t1.length d.y.c1, .slice d.y.o2 d.y.q.q1.length d.y.c2, .bool d.y.q.b2, .slice d.y.o3 d.y.q.t2.length d.y.c3, .slice d.y.o4 d.y.q.q2.length d.y.c4, .string d.s, .slice d.ro d.rl.length d.rc, .slice d.lo ts.length d.lc]) (t := 49) hA hM rfl rfl rfl (fun g => .pointer (some ⟨g, 0, none⟩)) (za rfl rfl) (by decide) ?_)
 intro g2 w3 hM a hA
 refine sdo hA (qa rfl) fun a hA => ?_
 refine qb (hK1 _ _ (wsk fun K4 hK4 => wrl (sdo hA (zt hM TrC_isS_49 rfl 0 rfl (cs := [.int .i64 d.k, .int .i64 d.n, .bool d.y.q.b1, .slice d.y.o1 d.y.q.t1.length d.y.c1, .slice d.y.o2 d.y.q.q1.length d.y.c2, .bool d.y.q.b2, .slice d.y.o3 d.y.q.t2.length d.y.c3, .slice d.y.o4 d.y.q.q2.length d.y.c4, .string d.s, .slice d.ro d.rl.length d.rc, .slice d.lo ts.length d.lc]) rfl rfl) fun a hA => ?_)))
 rcases tf ((xi 1 20000 (Dt.mk d ts).tr).1) with hb5 | hb5
 ·
  refine qj hA rfl rfl rfl (qf rfl rfl (fun w => by kernel_rfl)) ((hb5 ▸ qia (Dt.keep hM.bel _ hrd))) ?_
  rintro _ w7 ⟨rfl, hb6⟩
  replace hM := hM.call hb6
  refine ⟨_, rfl, ?_⟩
  intro a hA
  refine sdo hA (qe rfl) fun a hA => ?_
  refine sdo hA (zt hM TrC_isS_49 rfl 0 rfl (cs := [.int .i64 d.k, .int .i64 d.n, .bool d.y.q.b1, .slice d.y.o1 d.y.q.t1.length d.y.c1, .slice d.y.o2 d.y.q.q1.length d.y.c2, .bool d.y.q.b2, .slice d.y.o3 d.y.q.t2.length d.y.c3, .slice d.y.o4 d.y.q.q2.length d.y.c4, .string d.s, .slice d.ro d.rl.length d.rc, .slice d.lo ts.length d.lc]) rfl rfl) fun a hA => ?_
  rcases tf (qna kj (Dt.mk d ts).tr) with hb8 | hb8
  ·
   refine qj hA rfl rfl rfl (qf rfl rfl (fun w => by kernel_rfl)) ((hb8 ▸ qmh (Dt.mk d ts) (Dt.keep hM.bel _ hrd) (hT.below hM.bel))) ?_
   rintro _ w10 ⟨rfl, hb9⟩
   replace hM := hM.call hb9
   refine ⟨_, rfl, ?_⟩
   intro a hA
   refine sdo (v := .bool true) hA (qi rfl rfl rfl rfl) fun a hA => ?_
   refine sdo hA (qa rfl) fun a hA => ?_
   refine qb (hK4 _ _ (wp_ret (hret _ _ (en1 hA rfl (qk rfl) ?_))))
   exact ⟨by unfold qcf; simp_all, hM.bel⟩
  ·
   refine qj hA rfl rfl rfl (qf rfl rfl (fun w => by kernel_rfl)) ((hb8 ▸ qmh (Dt.mk d ts) (Dt.keep hM.bel _ hrd) (hT.below hM.bel))) ?_
   rintro _ w12 ⟨rfl, hb11⟩
   replace hM := hM.call hb11
   refine ⟨_, rfl, ?_⟩
   intro a hA
   refine sdo (v := .bool false) hA (qi rfl rfl rfl rfl) fun a hA => ?_
   refine sdo hA (qa rfl) fun a hA => ?_
   refine qb (hK4 _ _ (wp_ret (hret _ _ (en1 hA rfl (qk rfl) ?_))))
   exact ⟨by unfold qcf; simp_all, hM.bel⟩
 ·
  refine qj hA rfl rfl rfl (qf rfl rfl (fun w => by kernel_rfl)) ((hb5 ▸ qia (Dt.keep hM.bel _ hrd))) ?_
  rintro _ w14 ⟨rfl, hb13⟩
  replace hM := hM.call hb13
  refine ⟨_, rfl, ?_⟩
  intro a hA
  refine sdo hA (qe rfl) fun a hA => ?_
  iterate 2 refine qy hA rfl rfl rfl fun a hA => ?_
  refine sdo (v := .bool false) hA (qi rfl rfl rfl rfl) fun a hA => ?_
  refine sdo hA (qa rfl) fun a hA => ?_
  refine qb (hK4 _ _ (wp_ret (hret _ _ (en1 hA rfl (qk rfl) ?_))))
  exact ⟨by unfold qcf; simp_all, hM.bel⟩
theorem sound_any {w : World} {t : Dt} (hrd : t.rd w) (hT : Tabs8 w) : Calls Tryz.prog 98 #[.agg t.cells.toArray] w fun e w' => e = .returned (.bool (qcf kj t.tr)) ∧ Below w.heap.size w w' := by
 obtain ⟨d, ts⟩ := t
 exact zeb hrd hT
end Go.Proofs.YtjkpfnghiooblaaGreatDoor.G
namespace Go.Proofs.YtjkpfnghiooblaaGreatDoor.G
open Go.RowKit
set_option linter.unusedVariables false
set_option linter.unusedSimpArgs false
set_option maxRecDepth 100000
theorem TwB_is1_3 : Is1 Tryz.prog 3 := ⟨⟨_, Tryz.underlying3, rfl⟩, by kernel_rfl⟩
theorem TwB_fld_149_0 : FieldAt Tryz.prog 149 0 0 := ⟨_, _, Tryz.underlying149, rfl, rfl, by kernel_rfl⟩
theorem TwB_fld_49_0 : FieldAt Tryz.prog 49 0 0 := ⟨_, _, Tryz.underlying49, rfl, rfl, by kernel_rfl⟩
theorem TwB_fld_49_2 : FieldAt Tryz.prog 49 2 2 := ⟨_, _, Tryz.underlying49, rfl, rfl, by kernel_rfl⟩
theorem TwB_isS_26 : IsS Tryz.prog 26 6 := ⟨⟨_, Tryz.underlying26⟩, by kernel_rfl⟩
theorem TwB_isS_49 : IsS Tryz.prog 49 11 := ⟨⟨_, Tryz.underlying49⟩, by kernel_rfl⟩
theorem zec {w0 w : World} {gw : Nat} {p v : Value} {pl : Bool} {bs : List UInt8} {T : List Ck} (hM : Mg w0 w (.obj gw (.cells #[p, v, .bool pl] 149) :: .row BY 1 v bs.length (Lib.byteCells bs) :: T)) (h0 : bs ≠ []) (hmax : bs.length ≤ 9223372036854775807) : Calls Tryz.prog 63 #[.pointer (some ⟨gw, 0, none⟩)] w fun e w' => e = .returned (.string ⟨bs.toArray⟩) ∧ Below w0.heap.size w w' := by
 have hown := hM.has 1 rfl
 have hb := hM.obj 0 rfl
 have hl0 : bs.length ≠ 0 := by simpa using h0
 rcases hown.2 with ⟨_, hz⟩ | ⟨g, cap, cur, rfl, hbg, hg, hnc, hcm, hcs, htake⟩
 ·
  exact absurd hz hl0
 ·
  exact str_pos h0 hb hg hnc hmax hbg (fun j x hx => by
   have h9 := hown.cells (g := g) rfl j (.int .u8 x.toNat) (by simp [Lib.byteCells, hx])
   rw [xw, Nat.zero_add] at h9
   exact h9) (by simp at hcs; omega)
theorem zza (l : List UInt8) : (⟨l.toArray⟩ : ByteArray).size = l.length := by rw [← qmf]
theorem zed {w0 w : World} {gw : Nat} {p v : Value} {pl : Bool} {bs : List UInt8} {T : List Ck} (hp : p = .pointer none ∨ p = .pointer (some ⟨gw, 0, none⟩)) (hM0 : Mg w0 w (.obj gw (.cells #[p, v, .bool pl] 149) :: .row BY 1 v bs.length (Lib.byteCells bs) :: T)) {y : Nu} {tx : List UInt8} (hTx : ∀ W, Below w0.heap.size w0 W → Calls Tryz.prog 13 #[.agg #[.bool y.q.b1, .slice y.o1 y.q.t1.length y.c1, .slice y.o2 y.q.q1.length y.c2, .bool y.q.b2, .slice y.o3 y.q.t2.length y.c3, .slice y.o4 y.q.q2.length y.c4], .int .i64 10] W fun e w' => e = .returned (.tuple #[.string ⟨tx.toArray⟩, .int .i64 0]) ∧ Below W.heap.size W w') (hroom : bs.length + tx.length ≤ 140737488355328) : Calls Tryz.prog 138 #[.pointer (some ⟨gw, 0, none⟩), .agg #[.bool y.q.b1, .slice y.o1 y.q.t1.length y.c1, .slice y.o2 y.q.q1.length y.c2, .bool y.q.b2, .slice y.o3 y.q.t2.length y.c3, .slice y.o4 y.q.q2.length y.c4]] w fun e w' => e = .returned (.tuple #[]) ∧ ∃ v', Mg w0 w' (.obj gw (.cells #[.pointer (some ⟨gw, 0, none⟩), v', .bool pl] 149) :: .row BY 1 v' (bs ++ tx).length (Lib.byteCells (bs ++ tx)) :: T) := by
 have hM : Mg w0 w (.obj gw (.cells #[p, v, .bool pl] 149) :: .row BY 1 (v) bs.length ((Lib.byteCells bs)) :: T) := hM0
 refine qz (l := [(0, .pointer (some ⟨gw, 0, none⟩)), (1, .agg #[.bool y.q.b1, .slice y.o1 y.q.t1.length y.c1, .slice y.o2 y.q.q1.length y.c2, .bool y.q.b2, .slice y.o3 y.q.t2.length y.c3, .slice y.o4 y.q.q2.length y.c4])]) Tryz.func138 rfl Tryz.ntmps138 rfl rfl ?_
 intro Q hret hnorm hP a hA
 refine wsk fun K1 hK1 => wrl (xg (vs := [.bool y.q.b1, .slice y.o1 y.q.t1.length y.c1, .slice y.o2 y.q.q1.length y.c2, .bool y.q.b2, .slice y.o3 y.q.t2.length y.c3, .slice y.o4 y.q.q2.length y.c4]) (t := 26) hA hM rfl rfl rfl (fun g => .pointer (some ⟨g, 0, none⟩)) (za rfl rfl) (by decide) ?_)
 intro g2 w3 hM a hA
 refine qb (hK1 _ _ (wsk fun K4 hK4 => wrl (sdo hA (zt hM TwB_isS_26 rfl 0 rfl (cs := [.bool y.q.b1, .slice y.o1 y.q.t1.length y.c1, .slice y.o2 y.q.q1.length y.c2, .bool y.q.b2, .slice y.o3 y.q.t2.length y.c3, .slice y.o4 y.q.q2.length y.c4]) rfl rfl) fun a hA => ?_)))
 refine qj hA rfl rfl rfl (qf rfl rfl (fun w => by kernel_rfl)) (hTx _ hM.bel) ?_
 rintro _ w5 ⟨rfl, hbx⟩
 replace hM := hM.call hbx
 refine ⟨_, rfl, ?_⟩
 intro a hA
 refine sdo hA (qe rfl) fun a hA => ?_
 iterate 2 refine sdo hA (qs (vs := [.string (⟨tx.toArray⟩), .int .i64 0]) rfl rfl) fun a hA => ?_
 iterate 2 refine sdo hA (qa rfl) fun a hA => ?_
 refine qb (hK4 _ _ (wrl (sdo hA (qe rfl) fun a hA => ?_)))
 refine sdo hA (vb rfl) fun a hA => ?_
 refine sdo (v := .pointer (some ⟨gw, 0, none⟩)) hA (qh TwB_fld_149_0 rfl rfl) fun a hA => ?_
 refine sdo hA (qe rfl) fun a hA => ?_
 refine qj hA rfl rfl rfl (qf rfl rfl (fun w => by kernel_rfl)) (zyj hp (toW (X := [.obj g2 (.cells #[.bool y.q.b1, .slice y.o1 y.q.t1.length y.c1, .slice y.o2 y.q.q1.length y.c2, .bool y.q.b2, .slice y.o3 y.q.t2.length y.c3, .slice y.o4 y.q.q2.length y.c4] 26)]) hM) (s := ⟨tx.toArray⟩) (by rw [zza]; exact hroom)) ?_
 rintro _ w8 ⟨rfl, v6, hM7⟩
 replace hM : Mg w0 w8 (.obj g2 (.cells #[.bool y.q.b1, .slice y.o1 y.q.t1.length y.c1, .slice y.o2 y.q.q1.length y.c2, .bool y.q.b2, .slice y.o3 y.q.t2.length y.c3, .slice y.o4 y.q.q2.length y.c4] 26) :: .obj gw (.cells #[.pointer (some ⟨gw, 0, none⟩), v6, .bool pl] 149) :: .row BY 1 (v6) (((bs ++ tx)).length) ((Lib.byteCells ((bs ++ tx)))) :: T) := (fromW (X := [.obj g2 (.cells #[.bool y.q.b1, .slice y.o1 y.q.t1.length y.c1, .slice y.o2 y.q.q1.length y.c2, .bool y.q.b2, .slice y.o3 y.q.t2.length y.c3, .slice y.o4 y.q.q2.length y.c4] 26)]) hM7)
 refine ⟨_, rfl, ?_⟩
 intro a hA
 refine qb (hnorm _ _ (ends (v := .tuple #[]) hA rfl .nil rfl ?_))
 exact ⟨rfl, v6, hM.sub (.cons _ (.cons_cons _ (.cons_cons _ (.refl _))))⟩
theorem zee {w0 w : World} {gw : Nat} {p v : Value} {pl : Bool} {bs : List UInt8} {T : List Ck} (hp : p = .pointer none ∨ p = .pointer (some ⟨gw, 0, none⟩)) (hM0 : Mg w0 w (.obj gw (.cells #[p, v, .bool pl] 149) :: .row BY 1 v bs.length (Lib.byteCells bs) :: T)) {d : Nd} {ts : List Dt} (hk : d.k = 3) {tx : List UInt8} (hTx : ∀ W, Below w0.heap.size w0 W → Calls Tryz.prog 13 #[.agg #[.bool d.y.q.b1, .slice d.y.o1 d.y.q.t1.length d.y.c1, .slice d.y.o2 d.y.q.q1.length d.y.c2, .bool d.y.q.b2, .slice d.y.o3 d.y.q.t2.length d.y.c3, .slice d.y.o4 d.y.q.q2.length d.y.c4], .int .i64 10] W fun e w' => e = .returned (.tuple #[.string ⟨tx.toArray⟩, .int .i64 0]) ∧ Below W.heap.size W w') (hroom : bs.length + tx.length ≤ 140737488355328) : Calls Tryz.prog 99 #[.pointer (some ⟨gw, 0, none⟩), .agg (d.cells ts.length).toArray] w fun e w' => e = .returned (.tuple #[]) ∧ ∃ v', Mg w0 w' (.obj gw (.cells #[.pointer (some ⟨gw, 0, none⟩), v', .bool pl] 149) :: .row BY 1 v' (bs ++ tx).length (Lib.byteCells (bs ++ tx)) :: T) := by
 have hM : Mg w0 w (.obj gw (.cells #[p, v, .bool pl] 149) :: .row BY 1 (v) bs.length ((Lib.byteCells bs)) :: T) := hM0
 refine qz (l := [(0, .pointer (some ⟨gw, 0, none⟩)), (1, .agg (d.cells ts.length).toArray)]) Tryz.func99 rfl Tryz.ntmps99 rfl rfl ?_
 intro Q hret hnorm hP a hA
 refine wsk fun K1 hK1 => wrl (xg (vs := [.int .i64 d.k, .int .i64 d.n, .bool d.y.q.b1, .slice d.y.o1 d.y.q.t1.length d.y.c1, .slice d.y.o2 d.y.q.q1.length d.y.c2, .bool d.y.q.b2, .slice d.y.o3 d.y.q.t2.length d.y.c3, .slice d.y.o4 d.y.q.q2.length d.y.c4, .string d.s, .slice d.ro d.rl.length d.rc, .slice d.lo ts.length d.lc]) (t := 49) hA hM rfl rfl rfl (fun g => .pointer (some ⟨g, 0, none⟩)) (za rfl rfl) (by decide) ?_)
 intro g2 w3 hM a hA
 refine qb (hK1 _ _ (wsk fun K4 hK4 => wrl (sdo (v := .pointer (some ⟨g2, 0, none⟩)) hA (qh TwB_fld_49_0 rfl rfl) fun a hA => ?_)))
 refine sdo hA (zm hM TwB_is1_3 rfl 0 rfl rfl) fun a hA => ?_
 refine qb (hK4 _ _ (wp_block (wsk fun K5 hK5 => wrl (sdo (v := .bool false) hA (qg rfl rfl (fun w => (ze w).trans (by rw [show ((d.k == 1)) = false from (beq_eq_false_iff_ne.2 (by omega))]))) fun a hA => ?_))))
 refine sdo hA (qa rfl) fun a hA => ?_
 refine qb (hK5 _ _ (wp_cond_false (hA.ev rfl) ?_))
 refine wsk fun K6 hK6 => wrl (sdo (v := .bool false) hA (qg rfl rfl (fun w => (ze w).trans (by rw [show ((d.k == 2)) = false from (beq_eq_false_iff_ne.2 (by omega))]))) fun a hA => ?_)
 refine sdo hA (qa rfl) fun a hA => ?_
 refine qb (hK6 _ _ (wp_cond_false (hA.ev rfl) ?_))
 refine wsk fun K7 hK7 => wrl (sdo (v := .bool true) hA (qg rfl rfl (fun w => (ze w).trans (by rw [show ((d.k == 3)) = true from (beq_iff_eq.2 hk)]))) fun a hA => ?_)
 refine sdo hA (qa rfl) fun a hA => ?_
 refine qb (hK7 _ _ (wp_cond_true (hA.ev rfl) ?_))
 refine wrl (sdo hA (qe rfl) fun a hA => ?_)
 refine sdo (v := .pointer (some ⟨g2, 2, none⟩)) hA (qh TwB_fld_49_2 rfl rfl) fun a hA => ?_
 refine sdo hA (zt hM TwB_isS_26 rfl 0 rfl (cs := [.bool d.y.q.b1, .slice d.y.o1 d.y.q.t1.length d.y.c1, .slice d.y.o2 d.y.q.q1.length d.y.c2, .bool d.y.q.b2, .slice d.y.o3 d.y.q.t2.length d.y.c3, .slice d.y.o4 d.y.q.q2.length d.y.c4]) rfl rfl) fun a hA => ?_
 refine qj hA rfl rfl rfl (qf rfl rfl (fun w => by kernel_rfl)) (zed hp (toW (X := [.obj g2 (.cells (d.cells ts.length).toArray 49)]) hM) (y := d.y) hTx hroom) ?_
 rintro _ w10 ⟨rfl, v8, hM9⟩
 replace hM : Mg w0 w10 (.obj g2 (.cells (d.cells ts.length).toArray 49) :: .obj gw (.cells #[.pointer (some ⟨gw, 0, none⟩), v8, .bool pl] 149) :: .row BY 1 (v8) (((bs ++ tx)).length) ((Lib.byteCells ((bs ++ tx)))) :: T) := (fromW (X := [.obj g2 (.cells (d.cells ts.length).toArray 49)]) hM9)
 refine ⟨_, rfl, ?_⟩
 intro a hA
 refine qb (hnorm _ _ (ends (v := .tuple #[]) hA rfl .nil rfl ?_))
 exact ⟨rfl, v8, hM.sub (.cons _ (.cons_cons _ (.cons_cons _ (.refl _))))⟩
theorem zjf {w : World} {d : Nd} {ts : List Dt} (hrd : (Dt.mk d ts).rd w) (hT : Tabs8 w) (hs : qcf kj (Dt.mk d ts).tr = true) (hk : d.k = 3) {tx : List UInt8} (hTx : ∀ W, Below w.heap.size w W → Calls Tryz.prog 13 #[.agg #[.bool d.y.q.b1, .slice d.y.o1 d.y.q.t1.length d.y.c1, .slice d.y.o2 d.y.q.q1.length d.y.c2, .bool d.y.q.b2, .slice d.y.o3 d.y.q.t2.length d.y.c3, .slice d.y.o4 d.y.q.q2.length d.y.c4], .int .i64 10] W fun e w' => e = .returned (.tuple #[.string ⟨tx.toArray⟩, .int .i64 0]) ∧ Below W.heap.size W w') (htx : tx ≠ []) (hroom : tx.length ≤ 140737488355328) (pl : Bool) : Calls Tryz.prog 49 #[.agg (d.cells ts.length).toArray, .bool pl] w fun e w' => e = .returned (.tuple #[.string ⟨tx.toArray⟩, .int .i64 0]) ∧ Below w.heap.size w w' := by
 have hM : Mg w w ([]) := Mg.start w
 refine qz (l := [(0, .agg (d.cells ts.length).toArray), (1, .bool pl)]) Tryz.func49 rfl Tryz.ntmps49 rfl rfl ?_
 intro Q hret hnorm hP a hA
 refine wsk fun K1 hK1 => wrl (xg (vs := [.int .i64 d.k, .int .i64 d.n, .bool d.y.q.b1, .slice d.y.o1 d.y.q.t1.length d.y.c1, .slice d.y.o2 d.y.q.q1.length d.y.c2, .bool d.y.q.b2, .slice d.y.o3 d.y.q.t2.length d.y.c3, .slice d.y.o4 d.y.q.q2.length d.y.c4, .string d.s, .slice d.ro d.rl.length d.rc, .slice d.lo ts.length d.lc]) (t := 49) hA hM rfl rfl rfl (fun g => .pointer (some ⟨g, 0, none⟩)) (za rfl rfl) (by decide) ?_)
 intro g2 w3 hM a hA
 iterate 2 refine sdo hA (qa rfl) fun a hA => ?_
 refine qb (hK1 _ _ (wsk fun K4 hK4 => wsk fun K5 hK5 => wrl (sdo hA (zt hM TwB_isS_49 rfl 0 rfl (cs := [.int .i64 d.k, .int .i64 d.n, .bool d.y.q.b1, .slice d.y.o1 d.y.q.t1.length d.y.c1, .slice d.y.o2 d.y.q.q1.length d.y.c2, .bool d.y.q.b2, .slice d.y.o3 d.y.q.t2.length d.y.c3, .slice d.y.o4 d.y.q.q2.length d.y.c4, .string d.s, .slice d.ro d.rl.length d.rc, .slice d.lo ts.length d.lc]) rfl rfl) fun a hA => ?_)))
 refine qj hA rfl rfl rfl (qf rfl rfl (fun w => by kernel_rfl)) ((hs ▸ zeb (Dt.keep hM.bel _ hrd) (hT.below hM.bel))) ?_
 rintro _ w6 ⟨rfl, hbo⟩
 replace hM := hM.call hbo
 refine ⟨_, rfl, ?_⟩
 intro a hA
 refine sdo (v := .bool false) hA (zk rfl zq) fun a hA => ?_
 refine qb (hK5 _ _ (wp_cond_false (hA.ev rfl) ?_))
 refine wp_skip (hK4 _ _ (wsk fun K7 hK7 => wrl (sdo hA (qe rfl) fun a hA => ?_)))
 refine sdo (v := .agg #[.pointer none, .slice none 0 0, .bool pl]) hA (zf rfl (fun w => by kernel_rfl)) fun a hA => ?_
 refine xg (vs := [.pointer none, .slice none 0 0, .bool false]) (t := 149) hA hM rfl rfl rfl (fun g => .pointer (some ⟨g, 0, none⟩)) (qp (z := .agg #[.pointer none, .slice none 0 0, .bool false]) (by kernel_rfl) rfl) (by decide) ?_
 intro g8 w9 hM a hA
 refine jl (us := [.pointer none, .slice none 0 0, .bool pl]) (L' := (.obj g8 (.cells #[.pointer none, .slice none 0 0, .bool pl] 149) :: .obj g2 (.cells (d.cells ts.length).toArray 49) :: [])) hA hM rfl rfl (zy rfl rfl rfl (by kernel_rfl) hM 0 rfl rfl rfl) 0 rfl rfl rfl ?_
 intro w10 hM
 refine qb (hK7 _ _ (wsk fun K11 hK11 => ?_))
 have hMn := Mg.addNil hM (qr (by simp) (qr (by simp) (zg zh)))
 obtain ⟨gw, hgw⟩ : ∃ x, x = g8 := ⟨_, rfl⟩
 rw [← hgw] at hA hMn
 replace hM : Mg w w10 (.obj gw (.cells #[.pointer none, .slice none 0 0, .bool pl] 149) :: .row BY 1 (.slice none 0 0) 0 ([]) :: .obj g2 (.cells (d.cells ts.length).toArray 49) :: []) := hMn.perm (.swap _ _ _)
 refine wrl (sdo hA (zt hM TwB_isS_49 rfl 2 rfl (cs := [.int .i64 d.k, .int .i64 d.n, .bool d.y.q.b1, .slice d.y.o1 d.y.q.t1.length d.y.c1, .slice d.y.o2 d.y.q.q1.length d.y.c2, .bool d.y.q.b2, .slice d.y.o3 d.y.q.t2.length d.y.c3, .slice d.y.o4 d.y.q.q2.length d.y.c4, .string d.s, .slice d.ro d.rl.length d.rc, .slice d.lo ts.length d.lc]) rfl rfl) fun a hA => ?_)
 refine qj hA rfl rfl rfl (qf rfl rfl (fun w => by kernel_rfl)) (zee (bs := []) (.inl rfl) hM hk hTx (by simpa using hroom)) ?_
 rintro _ w12 ⟨rfl, v9, hM9⟩
 replace hM : Mg w w12 (.obj gw (.cells #[.pointer (some ⟨gw, 0, none⟩), v9, .bool pl] 149) :: .row BY 1 (v9) (([] ++ tx).length) ((Lib.byteCells ([] ++ tx))) :: .obj g2 (.cells (d.cells ts.length).toArray 49) :: []) := hM9
 refine ⟨_, rfl, ?_⟩
 intro a hA
 refine qb (hK11 _ _ (wsk fun K13 hK13 => wrl (sdo (v := .pointer (some ⟨gw, 0, none⟩)) hA (qh TwB_fld_149_0 rfl rfl) fun a hA => ?_)))
 refine qj hA rfl rfl rfl (qf rfl rfl (fun w => by kernel_rfl)) (zec (bs := [] ++ tx) hM (by simpa using htx) (by simp; omega)) ?_
 rintro _ w14 ⟨rfl, hbs⟩
 replace hM : Mg w w14 ([]) := ⟨hM.bel.trans hbs, by simp, .nil⟩
 refine ⟨_, rfl, ?_⟩
 intro a hA
 iterate 2 refine sdo hA (qa rfl) fun a hA => ?_
 refine qb (hK13 _ _ (wp_ret (hret _ _ (en2 hA rfl (qk rfl) (qk rfl) ?_))))
 exact ⟨rfl, hM.bel⟩
theorem zjg {w : World} {d : Nd} {ts : List Dt} (hrd : (Dt.mk d ts).rd w) (hT : Tabs8 w) (hs : qcf kj (Dt.mk d ts).tr = true) (hk : d.k = 3) {tx : List UInt8} (hTx : ∀ W, Below w.heap.size w W → Calls Tryz.prog 13 #[.agg #[.bool d.y.q.b1, .slice d.y.o1 d.y.q.t1.length d.y.c1, .slice d.y.o2 d.y.q.q1.length d.y.c2, .bool d.y.q.b2, .slice d.y.o3 d.y.q.t2.length d.y.c3, .slice d.y.o4 d.y.q.q2.length d.y.c4], .int .i64 10] W fun e w' => e = .returned (.tuple #[.string ⟨tx.toArray⟩, .int .i64 0]) ∧ Below W.heap.size W w') (htx : tx ≠ []) (hroom : tx.length ≤ 140737488355328) : Calls Tryz.prog 16 #[.agg (d.cells ts.length).toArray] w fun e w' => e = .returned (.tuple #[.string ⟨tx.toArray⟩, .int .i64 0]) ∧ Below w.heap.size w w' := by
 have hM : Mg w w ([]) := Mg.start w
 refine qz (l := [(0, .agg (d.cells ts.length).toArray)]) Tryz.func16 rfl Tryz.ntmps16 rfl rfl ?_
 intro Q hret hnorm hP a hA
 refine wsk fun K1 hK1 => wrl (xg (vs := [.int .i64 d.k, .int .i64 d.n, .bool d.y.q.b1, .slice d.y.o1 d.y.q.t1.length d.y.c1, .slice d.y.o2 d.y.q.q1.length d.y.c2, .bool d.y.q.b2, .slice d.y.o3 d.y.q.t2.length d.y.c3, .slice d.y.o4 d.y.q.q2.length d.y.c4, .string d.s, .slice d.ro d.rl.length d.rc, .slice d.lo ts.length d.lc]) (t := 49) hA hM rfl rfl rfl (fun g => .pointer (some ⟨g, 0, none⟩)) (za rfl rfl) (by decide) ?_)
 intro g2 w3 hM a hA
 iterate 2 refine sdo hA (qa rfl) fun a hA => ?_
 refine qb (hK1 _ _ (wsk fun K4 hK4 => wrl (sdo hA (zt hM TwB_isS_49 rfl 0 rfl (cs := [.int .i64 d.k, .int .i64 d.n, .bool d.y.q.b1, .slice d.y.o1 d.y.q.t1.length d.y.c1, .slice d.y.o2 d.y.q.q1.length d.y.c2, .bool d.y.q.b2, .slice d.y.o3 d.y.q.t2.length d.y.c3, .slice d.y.o4 d.y.q.q2.length d.y.c4, .string d.s, .slice d.ro d.rl.length d.rc, .slice d.lo ts.length d.lc]) rfl rfl) fun a hA => ?_)))
 refine qj hA rfl rfl rfl (qf rfl rfl (fun w => by kernel_rfl)) (zjf (Dt.keep hM.bel _ hrd) (hT.below hM.bel) hs hk (fun W hW => hTx W (hM.bel.trans (hW.mono hM.bel.size))) htx hroom false) ?_
 rintro _ w5 ⟨rfl, hbt⟩
 replace hM := hM.call hbt
 refine ⟨_, rfl, ?_⟩
 intro a hA
 iterate 2 refine sdo hA (qs (vs := [.string (⟨tx.toArray⟩), .int .i64 0]) rfl rfl) fun a hA => ?_
 iterate 2 refine sdo hA (qa rfl) fun a hA => ?_
 refine qb (hK4 _ _ (wp_ret (hret _ _ (en2 hA rfl (qk rfl) (qk rfl) ?_))))
 exact ⟨rfl, hM.bel⟩
end Go.Proofs.YtjkpfnghiooblaaGreatDoor.G
namespace Go.Proofs.YtjkpfnghiooblaaGreatDoor
open Go.RowKit
set_option linter.unusedVariables false
set_option linter.unusedSimpArgs false

theorem zqg (q : Q6) : G.qcf G.kj (G.Tr.mk 3 0 q ⟨#[]⟩ [] []) = jk q := by
  unfold G.qcf
  rw [G.xi, if_neg (by decide), G.qfb, G.qna, G.qsh, G.kj]
  unfold G.ja
  rw [if_neg (by decide), if_neg (by decide), if_pos rfl]
  cases jk q <;> rfl
theorem zqh {w : World} {q : Q6} {o1 o2 o3 o4 : Option Addr} {c1 c2 c3 c4 : Nat} (ha : Nm w q o1 c1 o2 c2 o3 c3 o4 c4) (hl : LenQ q) (hs : jk q = true) (hT : G.Tabs8 w) (htx : vt 10 q ≠ []) (hroom : (vt 10 q).length ≤ 140737488355328) :
    Calls Tryz.prog 16 #[.agg #[.int .i64 3, .int .i64 0, .bool q.b1, .slice o1 q.t1.length c1, .slice o2 q.q1.length c2, .bool q.b2, .slice o3 q.t2.length c3, .slice o4 q.q2.length c4, .string ⟨#[]⟩, .slice none 0 0, .slice none 0 0]] w fun e w' => e = .returned (.tuple #[.string (bsL (vt 10 q)), .int .i64 0]) ∧ Below w.heap.size w w' := by
  have hrd : (G.Dt.mk ⟨3, 0, ⟨q, o1, c1, o2, c2, o3, c3, o4, c4⟩, ⟨#[]⟩, none, 0, [], none, 0⟩ []).rd w := by
    rw [G.Dt.rd_iff]
    exact ⟨⟨ha, hl, ⟨fun k => absurd rfl k⟩, Nat.le_refl _, (by decide : (0 : Nat) ≤ 9223372036854775807), (by decide : (-9223372036854775808 : Int) ≤ 3), (by decide : (3 : Int) ≤ 9223372036854775807), (by decide : (-9223372036854775808 : Int) ≤ 0), (by decide : (0 : Int) ≤ 9223372036854775807), (by decide : (0 : Nat) ≤ 9223372036854775807)⟩, Nat.le_refl _, (by decide : (0 : Nat) ≤ 9223372036854775807), fun k => absurd rfl k, fun t ht => by cases ht⟩
  exact G.zjg (d := ⟨3, 0, ⟨q, o1, c1, o2, c2, o3, c3, o4, c4⟩, ⟨#[]⟩, none, 0, [], none, 0⟩) (ts := []) hrd hT (by rw [G.Dt.tr_mk]; exact (zqg q).trans hs) rfl (tx := vt 10 q) (fun W hW => qvh (r := 10) (G.yh ha hW) hl (.inr (.inr (.inl rfl))) hs) htx hroom
theorem zqi : jk vr = true := ym zma ua
theorem zqj {w : World} {o1 o2 o3 o4 : Option Addr} {c1 c2 c3 c4 : Nat} (ha : Nm w vr o1 c1 o2 c2 o3 c3 o4 c4) (hl : LenQ vr) (hT : G.Tabs8 w) :
    Calls Tryz.prog 16 #[.agg #[.int .i64 3, .int .i64 0, .bool vr.b1, .slice o1 vr.t1.length c1, .slice o2 vr.q1.length c2, .bool vr.b2, .slice o3 vr.t2.length c3, .slice o4 vr.q2.length c4, .string ⟨#[]⟩, .slice none 0 0, .slice none 0 0]] w fun e w' => e = .returned (.tuple #[.string ⟨#[51, 47, 50]⟩, .int .i64 0]) ∧ Below w.heap.size w w' := by
  have h := zqh ha hl zqi hT (by rw [qqj]; decide) (by rw [qqj]; decide)
  rw [qqj] at h
  exact h
end Go.Proofs.YtjkpfnghiooblaaGreatDoor
namespace Go.Proofs.YtjkpfnghiooblaaGreatDoor
open Go.RowKit
set_option linter.unusedVariables false
set_option linter.unusedSimpArgs false
set_option maxRecDepth 100000
theorem WnF_isS_26 : IsS Tryz.prog 26 6 := ⟨⟨_, Tryz.underlying26⟩, by kernel_rfl⟩
theorem hl128 : LenQ vr := qoj zma ua
theorem qjf {w : World} (hT : G.Tabs8 w) : Calls Tryz.prog 6 #[] w fun e w' => e = .returned (.bool true) ∧ Below w.heap.size w w' := by
 have hS : St w w [] [] [] := St.start w
 refine qz (l := []) Tryz.func6 rfl Tryz.ntmps6 rfl rfl ?_
 intro Q hret hnorm hP a hA
 refine wsk fun K1 hK1 => wrl (sdo hA (qa rfl) fun a hA => ?_)
 refine qb (hK1 _ _ (wsk fun K2 hK2 => wrl (qj hA rfl rfl rfl (qf  rfl rfl (fun w => by kernel_rfl)) ((zvi ▸ qud (l := [49, 50, 47, 56]) (n := 10) (by decide))) ?_)))
 rintro _ w6 ⟨p3_1, p3_c1, p3_2, p3_c2, p3_3, p3_c3, p3_4, p3_c4, rfl, hn4, hb5⟩
 replace hS := hS.call hb5
 replace hS := hS.addR hn4.s1.rd
 replace hS := hS.addR hn4.s2.rd
 replace hS := hS.addR hn4.s3.rd
 replace hS := hS.addR hn4.s4.rd
 refine ⟨_, rfl, ?_⟩
 intro a hA
 refine sdo hA (qe rfl) fun a hA => ?_
 iterate 2 refine sdo hA (qs (vs := [.agg #[.bool vr.b1, .slice p3_1 vr.t1.length p3_c1, .slice p3_2 vr.q1.length p3_c2, .bool vr.b2, .slice p3_3 vr.t2.length p3_c3, .slice p3_4 vr.q2.length p3_c4], .int .i64 0]) rfl rfl) fun a hA => ?_
 refine qt (vs := [.bool false, .slice none 0 0, .slice none 0 0, .bool false, .slice none 0 0, .slice none 0 0]) (t := 26) hA hS rfl rfl rfl (fun g => .pointer (some ⟨g, 0, none⟩)) (qp (z := .agg #[.bool false, .slice none 0 0, .slice none 0 0, .bool false, .slice none 0 0, .slice none 0 0]) (by kernel_rfl) rfl) rfl ?_
 intro g7 w8 hS a hA
 refine qw (us := [.bool vr.b1, .slice p3_1 vr.t1.length p3_c1, .slice p3_2 vr.q1.length p3_c2, .bool vr.b2, .slice p3_3 vr.t2.length p3_c3, .slice p3_4 vr.q2.length p3_c4]) hA hS rfl rfl (qm rfl rfl rfl (by kernel_rfl) hS 0 rfl rfl rfl) 0 rfl rfl rfl rfl ?_
 intro w9 hS
 refine sdo hA (qa rfl) fun a hA => ?_
 refine qb (hK2 _ _ (wsk fun K10 hK10 => wrl (sdo hA (qn hS WnF_isS_26 rfl 0 rfl (cs := [.bool vr.b1, .slice p3_1 vr.t1.length p3_c1, .slice p3_2 vr.q1.length p3_c2, .bool vr.b2, .slice p3_3 vr.t2.length p3_c3, .slice p3_4 vr.q2.length p3_c4]) rfl rfl) fun a hA => ?_)))
 refine sdo (v := .agg #[.int .i64 3, .int .i64 0, .bool vr.b1, .slice p3_1 vr.t1.length p3_c1, .slice p3_2 vr.q1.length p3_c2, .bool vr.b2, .slice p3_3 vr.t2.length p3_c3, .slice p3_4 vr.q2.length p3_c4, .string (⟨#[]⟩), .slice none 0 0, .slice none 0 0]) hA (zf rfl (fun w => by kernel_rfl)) fun a hA => ?_
 refine qj hA rfl rfl rfl (qf  rfl rfl (fun w => by kernel_rfl)) (zqj (show Nm _ _ p3_1 p3_c1 p3_2 p3_c2 p3_3 p3_c3 p3_4 p3_c4 from ⟨⟨(hS.rd 3 rfl), hn4.s1.nil, hn4.s1.cap⟩, ⟨(hS.rd 2 rfl), hn4.s2.nil, hn4.s2.cap⟩, ⟨(hS.rd 1 rfl), hn4.s3.nil, hn4.s3.cap⟩, ⟨(hS.rd 0 rfl), hn4.s4.nil, hn4.s4.cap⟩⟩) hl128 (hT.below hS.bel)) ?_
 rintro _ w12 ⟨rfl, hb11⟩
 replace hS := hS.call hb11
 refine ⟨_, rfl, ?_⟩
 intro a hA
 refine sdo hA (qe rfl) fun a hA => ?_
 iterate 2 refine sdo hA (qs (vs := [.string (⟨#[51, 47, 50]⟩), .int .i64 0]) rfl rfl) fun a hA => ?_
 iterate 2 refine sdo hA (qa rfl) fun a hA => ?_
 refine qb (hK10 _ _ (wsk fun K13 hK13 => wrl (sdo hA (qe rfl) fun a hA => ?_)))
 refine sdo (v := .bool true) hA (qg rfl rfl (fun w => by kernel_rfl)) fun a hA => ?_
 iterate 2 refine sdo hA (qe rfl) fun a hA => ?_
 refine sdo (v := .bool true) hA (qg rfl rfl (fun w => by kernel_rfl)) fun a hA => ?_
 refine sdo (v := .bool true) hA (qi rfl rfl rfl rfl) fun a hA => ?_
 iterate 2 refine sdo hA (qe rfl) fun a hA => ?_
 refine sdo (v := .bool true) hA (qg rfl rfl (fun w => by kernel_rfl)) fun a hA => ?_
 refine sdo (v := .bool true) hA (qi rfl rfl rfl rfl) fun a hA => ?_
 refine sdo hA (qa rfl) fun a hA => ?_
 refine qb (hK13 _ _ (wp_ret (hret _ _ (en1 hA rfl (qk rfl) ?_))))
 exact ⟨rfl, hS.bel⟩
theorem zzb {w : World} {q : Q6} {a1 a2 a3 a4 : Option Addr} {ac1 ac2 ac3 ac4 : Nat} (ha : Nm w q a1 ac1 a2 ac2 a3 ac3 a4 ac4) (hl : LenQ q) (hT : G.Tabs8 w) (bg : Bool) {n0 ec : Int} (e0 : vz q = (n0, ec)) (hno : ec ≠ 0 ∨ 500 < n0) : Calls Tryz.prog 3 #[xb q a1 ac1 a2 ac2 a3 ac3 a4 ac4, .bool bg] w fun e w' => e = .returned (.bool true) ∧ Below w.heap.size w w' := by
 have hS : St w w [] [(a4, q.q2), (a3, q.t2), (a2, q.q1), (a1, q.t1)] [] := ((((St.start w).addR ha.s1.rd).addR ha.s2.rd).addR ha.s3.rd).addR ha.s4.rd
 refine qz (l := [(0, .agg #[.bool q.b1, .slice a1 q.t1.length ac1, .slice a2 q.q1.length ac2, .bool q.b2, .slice a3 q.t2.length ac3, .slice a4 q.q2.length ac4]), (1, .bool bg)]) Tryz.func3 rfl Tryz.ntmps3 rfl rfl ?_
 intro Q hret hnorm hP a hA
 refine wsk fun K1 hK1 => wrl (qt hA hS rfl rfl rfl (fun g => .pointer (some ⟨g, 0, none⟩)) (za rfl rfl) rfl ?_)
 intro g2 w3 hS a hA
 refine sdo hA (qa rfl) fun a hA => ?_
 refine qb (hK1 _ _ (wsk fun K4 hK4 => wrl (sdo hA (qn hS WnF_isS_26 rfl 0 rfl (cs := [.bool q.b1, .slice a1 q.t1.length ac1, .slice a2 q.q1.length ac2, .bool q.b2, .slice a3 q.t2.length ac3, .slice a4 q.q2.length ac4]) rfl rfl) fun a hA => ?_)))
 refine qj hA rfl rfl rfl (qf  rfl rfl (fun w => by kernel_rfl)) ((e0 ▸ qma (show Nm _ _ a1 ac1 a2 ac2 a3 ac3 a4 ac4 from ⟨⟨(hS.rd 3 rfl), ha.s1.nil, ha.s1.cap⟩, ⟨(hS.rd 2 rfl), ha.s2.nil, ha.s2.cap⟩, ⟨(hS.rd 1 rfl), ha.s3.nil, ha.s3.cap⟩, ⟨(hS.rd 0 rfl), ha.s4.nil, ha.s4.cap⟩⟩) hl)) ?_
 rintro _ w6 ⟨rfl, hb5⟩
 replace hS := hS.call hb5
 refine ⟨_, rfl, ?_⟩
 intro a hA
 refine sdo hA (qe rfl) fun a hA => ?_
 iterate 2 refine sdo hA (qs (vs := [.int .i64 n0, .int .i64 ec]) rfl rfl) fun a hA => ?_
 iterate 2 refine sdo hA (qa rfl) fun a hA => ?_
 refine qb (hK4 _ _ (wsk fun K7 hK7 => wsk fun K8 hK8 => wrl (qj hA rfl rfl rfl (qf  rfl rfl (fun w => by kernel_rfl)) (qjf (hT.below hS.bel)) ?_)))
 rintro _ w10 ⟨rfl, hb9⟩
 replace hS := hS.call hb9
 refine ⟨_, rfl, ?_⟩
 intro a hA
 refine sdo (v := .bool false) hA (zk rfl zq) fun a hA => ?_
 iterate 2 refine sdo hA (qe rfl) fun a hA => ?_
 rcases tf ((ec != 0)) with hb11 | hb11
 ·
  have hb11' := bne_iff_ne.1 hb11
  refine sdo (v := .bool true) hA (qg rfl rfl (fun w => (ji w).trans (by rw [hb11]))) fun a hA => ?_
  refine sdo (v := .bool true) hA (qi rfl rfl rfl rfl) fun a hA => ?_
  refine sdo hA (qe rfl) fun a hA => ?_
  iterate 2 refine qy hA rfl rfl rfl fun a hA => ?_
  refine sdo (v := .bool true) hA (qi rfl rfl rfl rfl) fun a hA => ?_
  refine qb (hK8 _ _ (wp_cond_true (hA.ev rfl) ?_))
  refine wsk fun K12 hK12 => wrl (qj hA rfl rfl rfl (qf  rfl rfl (fun w => by kernel_rfl)) (qjf (hT.below hS.bel)) ?_)
  rintro _ w14 ⟨rfl, hb13⟩
  replace hS := hS.call hb13
  refine ⟨_, rfl, ?_⟩
  intro a hA
  refine sdo hA (qa rfl) fun a hA => ?_
  refine qb (hK12 _ _ (wp_ret (hret _ _ (en1 hA rfl (qk rfl) ?_))))
  exact ⟨rfl, hS.bel⟩
 ·
  have hb11' := bne_eq_false_iff_eq.1 hb11
  refine sdo (v := .bool false) hA (qg rfl rfl (fun w => (ji w).trans (by rw [hb11]))) fun a hA => ?_
  refine sdo (v := .bool false) hA (qi rfl rfl rfl rfl) fun a hA => ?_
  iterate 2 refine sdo hA (qe rfl) fun a hA => ?_
  refine sdo (v := .bool true) hA (qg rfl rfl (fun w => (jt w).trans (by rw [show (decide (500 < n0)) = true from (decide_eq_true (by omega))]))) fun a hA => ?_
  refine sdo (v := .bool true) hA (qi rfl rfl rfl rfl) fun a hA => ?_
  refine qb (hK8 _ _ (wp_cond_true (hA.ev rfl) ?_))
  refine wsk fun K15 hK15 => wrl (qj hA rfl rfl rfl (qf  rfl rfl (fun w => by kernel_rfl)) (qjf (hT.below hS.bel)) ?_)
  rintro _ w17 ⟨rfl, hb16⟩
  replace hS := hS.call hb16
  refine ⟨_, rfl, ?_⟩
  intro a hA
  refine sdo hA (qa rfl) fun a hA => ?_
  refine qb (hK15 _ _ (wp_ret (hret _ _ (en1 hA rfl (qk rfl) ?_))))
  exact ⟨rfl, hS.bel⟩
theorem qld {w : World} {q : Q6} {a1 a2 a3 a4 : Option Addr} {ac1 ac2 ac3 ac4 : Nat} (ha : Nm w q a1 ac1 a2 ac2 a3 ac3 a4 ac4) (hl : LenQ q) (hT : G.Tabs8 w) (bg : Bool) : Calls Tryz.prog 3 #[xb q a1 ac1 a2 ac2 a3 ac3 a4 ac4, .bool bg] w fun e w' => e = .returned (.bool true) ∧ Below w.heap.size w w' := by
 by_cases h : (vz q).2 ≠ 0 ∨ 500 < (vz q).1
 ·
  exact zzb ha hl hT bg (n0 := (vz q).1) (ec := (vz q).2) rfl h
 ·
  rcases ur q with ⟨hw, h2⟩ | ⟨hw, _⟩
  ·
   obtain ⟨b, x, rfl, hx, hb⟩ := qfc ha h2
   have e0 := yn (b := b) (x := x) (qea hx hb)
   rw [e0] at h
   have hbl : bl (x - b.toNat) ≤ 500 := by simp at h; omega
   obtain ⟨F, X2, X3, e1, e2, e3, e4, e5, l1, l2, l3, _, _⟩ := zbh hx hb hbl
   obtain ⟨p, hpl, hget, hPut⟩ := zyf ha hx hb hbl bg
   exact zyg ha hx hb bg e0 (by omega) e1 e2 e3 e4 e5 l1 l2 l3 hpl hget hPut rfl (zpg hx hb hbl) (Nat.le_trans (zcg hx hb hbl) (by decide)) (vk hx hb) (fun W hW => qjf (hT.below hW))
  ·
   exact absurd (.inl (by rw [qlj hw]; exact bne_iff_ne.1 hw)) h
end Go.Proofs.YtjkpfnghiooblaaGreatDoor
