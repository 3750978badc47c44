/- Walks of what is free, and of what is named. Walks of what is reached. The library's contracts, as theorems of this program. The library's contracts, as theorems of this program. The library's sorts over rows of the call's own. Walks of sweeps, of what is live, of what is moved down, and of what stands. -/
import Derived.Test.YtjjkcpmhlcjaoaaPheappl9d
import Derived.Test.YtjjkcpmhlcjaoaaPheappl9c
import Derived.Shelf.Small.Bits
import Derived.Shelf.Strconv.Itoa0
import Derived.Shelf.Sort.Plain
import Derived.Ground.Names2Prog
import Derived.Shelf.Slices.SearchI
import Derived.Shelf.Slices.In.SortNone
import Derived.Test.YtjjkcpmhlcjaoaaProg
import Derived.Shelf.SlGeneric
import Derived.Ground.SlsfProg
import Derived.Shelf.SlSortCmp.NoneTotal
import Derived.WalkKit
namespace Go.Proofs.Ytjjkcpmhlcjaoaa
open Go.RowKit
set_option linter.unusedVariables false
set_option linter.unusedSimpArgs false
set_option maxRecDepth 100000
theorem HbE_is1_3 : Is1 Try.prog 3 := ⟨⟨_, Try.underlying3, rfl⟩, by kernel_rfl⟩
theorem HbE_is1_57 : Is1 Try.prog 57 := ⟨⟨_, Try.underlying57, rfl⟩, by kernel_rfl⟩
theorem HbE_is1_58 : Is1 Try.prog 58 := ⟨⟨_, Try.underlying58, rfl⟩, by kernel_rfl⟩
theorem HbE_fld_60_1 : FieldAt Try.prog 60 1 1 := ⟨_, _, Try.underlying60, rfl, rfl, by kernel_rfl⟩
theorem HbE_fld_63_0 : FieldAt Try.prog 63 0 0 := ⟨_, _, Try.underlying63, rfl, rfl, by kernel_rfl⟩
theorem HbE_fld_63_2 : FieldAt Try.prog 63 2 2 := ⟨_, _, Try.underlying63, rfl, rfl, by kernel_rfl⟩
theorem HbE_fld_63_3 : FieldAt Try.prog 63 3 4 := ⟨_, _, Try.underlying63, rfl, rfl, by kernel_rfl⟩
theorem HbE_fld_88_1 : FieldAt Try.prog 88 1 1 := ⟨_, _, Try.underlying88, rfl, rfl, by kernel_rfl⟩
theorem HbE_isS_70 : IsS Try.prog 70 2 := ⟨⟨_, Try.underlying70⟩, by kernel_rfl⟩
theorem HbE_isS_88 : IsS Try.prog 88 2 := ⟨⟨_, Try.underlying88⟩, by kernel_rfl⟩
theorem freeS_any {w0 w : World} {h m last ss ls sc lc : Nat} {sg lg : Option Addr} {gs gl : List (Nat × Nat)} {os : List Ob} {T : List Ck} (hgl : gs.length ≤ 1000000) (hsm : jc gs ≤ 1000000000) (hM0 : Mg w0 w (.obj h (.cells #[.map (some m), .int .i64 (((last : Nat) : Int)), .int .i64 (((ss : Nat) : Int)), .slice sg gs.length sc, .int .i64 (((ls : Nat) : Int)), .slice lg gl.length lc] 63) :: .obj m (qc (os.map Ob.en) last) :: .row 88 2 (.slice sg gs.length sc) gs.length (qa gs) :: .row 88 2 (.slice lg gl.length lc) gl.length (qa gl) :: T)) : Calls Try.prog 39 #[.pointer (some ⟨h, 2, none⟩)] w fun e w' => e = .returned (.int .i64 ((jc gs : Nat) : Int)) ∧ Mg w0 w' (.obj h (.cells #[.map (some m), .int .i64 (((last : Nat) : Int)), .int .i64 (((ss : Nat) : Int)), .slice sg gs.length sc, .int .i64 (((ls : Nat) : Int)), .slice lg gl.length lc] 63) :: .obj m (qc (os.map Ob.en) last) :: .row 88 2 (.slice sg gs.length sc) gs.length (qa gs) :: .row 88 2 (.slice lg gl.length lc) gl.length (qa gl) :: T) := by
 have M : Mg w0 w (.obj h (.cells #[.map (some m), .int .i64 (((last : Nat) : Int)), .int .i64 (((ss : Nat) : Int)), .slice sg gs.length sc, .int .i64 (((ls : Nat) : Int)), .slice lg gl.length lc] 63) :: .obj m (qc (os.map Ob.en) last) :: .row 88 2 (.slice sg gs.length sc) gs.length (qa gs) :: .row 88 2 (.slice lg gl.length lc) gl.length (qa gl) :: T) := hM0
 refine qp (l := [(0, .pointer (some ⟨h, 2, none⟩))]) Try.func39 rfl Try.ntmps39 rfl rfl ?_
 intro Q hret hnorm hP a A
 refine wsk fun K1 hK1 => wrl (sda A λa A↦?_)
 refine qb (hK1 _ _ (wsk fun K2 hK2 => wrl (sda A λa A↦?_)))
 refine qb (hK2 _ _ (wsk fun K3 hK3 => wsk fun K4 hK4 => wrl (sdm A λa A↦?_)))
 refine sdo A (qu rfl) λa A↦?_
 refine sdo (v := .pointer (some ⟨h, 3, none⟩)) A (qd HbE_fld_60_1 rfl rfl) λa A↦?_
 refine sdo A (qh M HbE_is1_58 rfl 0 rfl rfl) λa A↦?_
 refine sdo A (qv Try.underlying58 rfl) λa A↦?_
 refine sdm A λa A↦?_
 refine qb (hK4 _ _ (wp_block (zh (fun m_ a w1 => ∃ (i : Nat) (q : Nat), m_ = 1 + (gs.length - i) ∧ (i ≤ gs.length ∧ q = jc (gs.take i)) ∧ Sl a 21 [(0, .pointer (some ⟨h, 2, none⟩)), (2, .int .i64 0), (3, .int .i64 (((q : Nat) : Int))), (6, .pointer (some ⟨h, 2, none⟩)), (7, .pointer (some ⟨h, 2, none⟩)), (8, .pointer (some ⟨h, 3, none⟩)), (9, .slice sg gs.length sc), (10, .int .i64 (((gs.length : Nat) : Int))), (11, .int .i64 (((i : Nat) : Int)))] ∧ Mg w0 w1 (.obj h (.cells #[.map (some m), .int .i64 (((last : Nat) : Int)), .int .i64 (((ss : Nat) : Int)), .slice sg gs.length sc, .int .i64 (((ls : Nat) : Int)), .slice lg gl.length lc] 63) :: .obj m (qc (os.map Ob.en) last) :: .row 88 2 (.slice sg gs.length sc) gs.length (qa gs) :: .row 88 2 (.slice lg gl.length lc) gl.length (qa gl) :: T)) _ ⟨0, 0, rfl, ⟨Nat.zero_le _, rfl⟩, A.keep _ (by repeat' constructor), M⟩ ?_)))
 clear M A
 rintro m_ a w5 ⟨i, q, rfl, hinv7, A, M⟩ K6 hK6
 obtain ⟨hi0, hq⟩ := hinv7
 refine wsk fun K8 hK8 => wrl ?_
 rcases tf (decide (((i : Nat) : Int) < ((gs.length : Nat) : Int))) with hb9 | hb9
 ·
  have hb9' := of_decide_eq_true hb9
  refine sdc A qm hb9 λa A↦?_
  refine qb (hK8 _ _ (wsk fun K10 hK10 => wp_cond_true (A.ev rfl) ?_))
  refine wp_skip (hK10 _ _ (wsk fun K11 hK11 => wp_block (wsk fun K12 hK12 => ?_)))
  obtain ⟨gg, hgg⟩ := zy (M.has 2 rfl) (show gs.length ≠ 0 by omega)
  obtain ⟨p, s, hat⟩ : ∃ p s, gs[i]? = some (p, s) := ⟨_, _, List.getElem?_eq_getElem (show i < gs.length by omega)⟩
  have hs1 := qea hat
  have hs2 := qeb gs (i + 1)
  refine wrl (sdo (v := .pointer (some ⟨gg, i * 2, none⟩)) A (jy (k := i) Try.underlying58 (by kernel_rfl) rfl rfl rfl hgg (by omega)) λa A↦?_)
  refine sdo A (qgj (o := i * 2) (cs := [.int .i64 (((p : Nat) : Int)), .int .i64 (((s : Nat) : Int))]) M 2 rfl hgg HbE_isS_88 (ki hat) rfl rfl) λa A↦?_
  refine qt (vs := [.int .i64 0, .int .i64 0]) (t := 88) A M rfl rfl rfl pg (ql (z := .agg #[.int .i64 0, .int .i64 0]) (by kernel_rfl) rfl) (by decide) ?_
  intro g13 w14 M a A
  refine qs (us := [.int .i64 (((p : Nat) : Int)), .int .i64 (((s : Nat) : Int))]) (L' := (.obj g13 (.cells #[.int .i64 (((p : Nat) : Int)), .int .i64 (((s : Nat) : Int))] 88) :: .obj h (.cells #[.map (some m), .int .i64 (((last : Nat) : Int)), .int .i64 (((ss : Nat) : Int)), .slice sg gs.length sc, .int .i64 (((ls : Nat) : Int)), .slice lg gl.length lc] 63) :: .obj m (qc (os.map Ob.en) last) :: .row 88 2 (.slice sg gs.length sc) gs.length (qa gs) :: .row 88 2 (.slice lg gl.length lc) gl.length (qa gl) :: T)) A M rfl rfl (qo rfl rfl rfl (by kernel_rfl) M 0 rfl rfl rfl) 0 rfl rfl rfl ?_
  intro w15 M
  refine qb (hK12 _ _ (wrl (sdm A λa A↦?_)))
  refine sdo (v := .pointer (some ⟨g13, 1, none⟩)) A (qd HbE_fld_88_1 rfl rfl) λa A↦?_
  refine sdo A (qh M HbE_is1_3 rfl 0 rfl rfl) λa A↦?_
  refine sdo (v := .int .i64 (((q + s : Nat) : Int))) A (qe rfl rfl (ar_add ((in_i64 (by omega) (by omega)).trans (by omega)))) λa A↦?_
  refine sda A λa A↦?_
  refine qb (hK11 _ _ (wrl (sdo (v := .int .i64 (((i + 1 : Nat) : Int))) A (qe rfl rfl (ar_add ((in_i64 (by omega) (by omega)).trans (by omega)))) λa A↦?_)))
  refine sdm A λa A↦?_
  refine qb ?_
  replace M : Mg w0 w15 (.row 88 2 (.slice lg gl.length lc) gl.length (qa gl) :: .obj g13 (.cells #[.int .i64 (((p : Nat) : Int)), .int .i64 (((s : Nat) : Int))] 88) :: .obj h (.cells #[.map (some m), .int .i64 (((last : Nat) : Int)), .int .i64 (((ss : Nat) : Int)), .slice sg gs.length sc, .int .i64 (((ls : Nat) : Int)), .slice lg gl.length lc] 63) :: .obj m (qc (os.map Ob.en) last) :: .row 88 2 (.slice sg gs.length sc) gs.length (qa gs) :: T) := M.bring 4 rfl rfl
  replace M : Mg w0 w15 (.row 88 2 (.slice sg gs.length sc) gs.length (qa gs) :: .row 88 2 (.slice lg gl.length lc) gl.length (qa gl) :: .obj g13 (.cells #[.int .i64 (((p : Nat) : Int)), .int .i64 (((s : Nat) : Int))] 88) :: .obj h (.cells #[.map (some m), .int .i64 (((last : Nat) : Int)), .int .i64 (((ss : Nat) : Int)), .slice sg gs.length sc, .int .i64 (((ls : Nat) : Int)), .slice lg gl.length lc] 63) :: .obj m (qc (os.map Ob.en) last) :: T) := M.bring 4 rfl rfl
  replace M : Mg w0 w15 (.obj m (qc (os.map Ob.en) last) :: .row 88 2 (.slice sg gs.length sc) gs.length (qa gs) :: .row 88 2 (.slice lg gl.length lc) gl.length (qa gl) :: .obj g13 (.cells #[.int .i64 (((p : Nat) : Int)), .int .i64 (((s : Nat) : Int))] 88) :: .obj h (.cells #[.map (some m), .int .i64 (((last : Nat) : Int)), .int .i64 (((ss : Nat) : Int)), .slice sg gs.length sc, .int .i64 (((ls : Nat) : Int)), .slice lg gl.length lc] 63) :: T) := M.bring 4 rfl rfl
  replace M : Mg w0 w15 (.obj h (.cells #[.map (some m), .int .i64 (((last : Nat) : Int)), .int .i64 (((ss : Nat) : Int)), .slice sg gs.length sc, .int .i64 (((ls : Nat) : Int)), .slice lg gl.length lc] 63) :: .obj m (qc (os.map Ob.en) last) :: .row 88 2 (.slice sg gs.length sc) gs.length (qa gs) :: .row 88 2 (.slice lg gl.length lc) gl.length (qa gl) :: .obj g13 (.cells #[.int .i64 (((p : Nat) : Int)), .int .i64 (((s : Nat) : Int))] 88) :: T) := M.bring 4 rfl rfl
  replace M : Mg w0 w15 (.obj h (.cells #[.map (some m), .int .i64 (((last : Nat) : Int)), .int .i64 (((ss : Nat) : Int)), .slice sg gs.length sc, .int .i64 (((ls : Nat) : Int)), .slice lg gl.length lc] 63) :: .obj m (qc (os.map Ob.en) last) :: .row 88 2 (.slice sg gs.length sc) gs.length (qa gs) :: .row 88 2 (.slice lg gl.length lc) gl.length (qa gl) :: T) := by
   have h9 := M.sub (cc (cc (cc (cc (cn (.refl _))))))
   exact h9
  refine hK6 _ _ _ (by omega) ⟨i + 1, q + s, rfl, ⟨by omega, by omega⟩, A.keep _ (by repeat' constructor), M⟩
 ·
  have hb9' := of_decide_eq_false hb9
  refine sdc A qm hb9 λa A↦?_
  refine qb (hK8 _ _ (wsk fun K16 hK16 => wp_cond_false (A.ev rfl) ?_))
  refine wp_exit (hK3 _ _ (wsk fun K17 hK17 => wrl (sdm A λa A↦?_)))
  refine sda A λa A↦?_
  refine qb (hK17 _ _ (wp_ret (hret _ _ (en1 A rfl (qi rfl) ?_))))
  replace M : Mg w0 w5 (.row 88 2 (.slice lg gl.length lc) gl.length (qa gl) :: .obj h (.cells #[.map (some m), .int .i64 (((last : Nat) : Int)), .int .i64 (((ss : Nat) : Int)), .slice sg gs.length sc, .int .i64 (((ls : Nat) : Int)), .slice lg gl.length lc] 63) :: .obj m (qc (os.map Ob.en) last) :: .row 88 2 (.slice sg gs.length sc) gs.length (qa gs) :: T) := M.bring 3 rfl rfl
  replace M : Mg w0 w5 (.row 88 2 (.slice sg gs.length sc) gs.length (qa gs) :: .row 88 2 (.slice lg gl.length lc) gl.length (qa gl) :: .obj h (.cells #[.map (some m), .int .i64 (((last : Nat) : Int)), .int .i64 (((ss : Nat) : Int)), .slice sg gs.length sc, .int .i64 (((ls : Nat) : Int)), .slice lg gl.length lc] 63) :: .obj m (qc (os.map Ob.en) last) :: T) := M.bring 3 rfl rfl
  replace M : Mg w0 w5 (.obj m (qc (os.map Ob.en) last) :: .row 88 2 (.slice sg gs.length sc) gs.length (qa gs) :: .row 88 2 (.slice lg gl.length lc) gl.length (qa gl) :: .obj h (.cells #[.map (some m), .int .i64 (((last : Nat) : Int)), .int .i64 (((ss : Nat) : Int)), .slice sg gs.length sc, .int .i64 (((ls : Nat) : Int)), .slice lg gl.length lc] 63) :: T) := M.bring 3 rfl rfl
  replace M : Mg w0 w5 (.obj h (.cells #[.map (some m), .int .i64 (((last : Nat) : Int)), .int .i64 (((ss : Nat) : Int)), .slice sg gs.length sc, .int .i64 (((ls : Nat) : Int)), .slice lg gl.length lc] 63) :: .obj m (qc (os.map Ob.en) last) :: .row 88 2 (.slice sg gs.length sc) gs.length (qa gs) :: .row 88 2 (.slice lg gl.length lc) gl.length (qa gl) :: T) := M.bring 3 rfl rfl
  exact ⟨by rw [show jc gs = q from by rw [hq, List.take_of_length_le (by omega)]], M⟩
theorem freeL_any {w0 w : World} {h m last ss ls sc lc : Nat} {sg lg : Option Addr} {gs gl : List (Nat × Nat)} {os : List Ob} {T : List Ck} (hgl : gl.length ≤ 1000000) (hsm : jc gl ≤ 1000000000) (hM0 : Mg w0 w (.obj h (.cells #[.map (some m), .int .i64 (((last : Nat) : Int)), .int .i64 (((ss : Nat) : Int)), .slice sg gs.length sc, .int .i64 (((ls : Nat) : Int)), .slice lg gl.length lc] 63) :: .obj m (qc (os.map Ob.en) last) :: .row 88 2 (.slice sg gs.length sc) gs.length (qa gs) :: .row 88 2 (.slice lg gl.length lc) gl.length (qa gl) :: T)) : Calls Try.prog 39 #[.pointer (some ⟨h, 4, none⟩)] w fun e w' => e = .returned (.int .i64 ((jc gl : Nat) : Int)) ∧ Mg w0 w' (.obj h (.cells #[.map (some m), .int .i64 (((last : Nat) : Int)), .int .i64 (((ss : Nat) : Int)), .slice sg gs.length sc, .int .i64 (((ls : Nat) : Int)), .slice lg gl.length lc] 63) :: .obj m (qc (os.map Ob.en) last) :: .row 88 2 (.slice sg gs.length sc) gs.length (qa gs) :: .row 88 2 (.slice lg gl.length lc) gl.length (qa gl) :: T) := by
 have M : Mg w0 w (.obj h (.cells #[.map (some m), .int .i64 (((last : Nat) : Int)), .int .i64 (((ss : Nat) : Int)), .slice sg gs.length sc, .int .i64 (((ls : Nat) : Int)), .slice lg gl.length lc] 63) :: .obj m (qc (os.map Ob.en) last) :: .row 88 2 (.slice sg gs.length sc) gs.length (qa gs) :: .row 88 2 (.slice lg gl.length lc) gl.length (qa gl) :: T) := hM0
 refine qp (l := [(0, .pointer (some ⟨h, 4, none⟩))]) Try.func39 rfl Try.ntmps39 rfl rfl ?_
 intro Q hret hnorm hP a A
 refine wsk fun K1 hK1 => wrl (sda A λa A↦?_)
 refine qb (hK1 _ _ (wsk fun K2 hK2 => wrl (sda A λa A↦?_)))
 refine qb (hK2 _ _ (wsk fun K3 hK3 => wsk fun K4 hK4 => wrl (sdm A λa A↦?_)))
 refine sdo A (qu rfl) λa A↦?_
 refine sdo (v := .pointer (some ⟨h, 5, none⟩)) A (qd HbE_fld_60_1 rfl rfl) λa A↦?_
 refine sdo A (qh M HbE_is1_58 rfl 0 rfl rfl) λa A↦?_
 refine sdo A (qv Try.underlying58 rfl) λa A↦?_
 refine sdm A λa A↦?_
 refine qb (hK4 _ _ (wp_block (zh (fun m_ a w1 => ∃ (i : Nat) (q : Nat), m_ = 1 + (gl.length - i) ∧ (i ≤ gl.length ∧ q = jc (gl.take i)) ∧ Sl a 21 [(0, .pointer (some ⟨h, 4, none⟩)), (2, .int .i64 0), (3, .int .i64 (((q : Nat) : Int))), (6, .pointer (some ⟨h, 4, none⟩)), (7, .pointer (some ⟨h, 4, none⟩)), (8, .pointer (some ⟨h, 5, none⟩)), (9, .slice lg gl.length lc), (10, .int .i64 (((gl.length : Nat) : Int))), (11, .int .i64 (((i : Nat) : Int)))] ∧ Mg w0 w1 (.obj h (.cells #[.map (some m), .int .i64 (((last : Nat) : Int)), .int .i64 (((ss : Nat) : Int)), .slice sg gs.length sc, .int .i64 (((ls : Nat) : Int)), .slice lg gl.length lc] 63) :: .obj m (qc (os.map Ob.en) last) :: .row 88 2 (.slice sg gs.length sc) gs.length (qa gs) :: .row 88 2 (.slice lg gl.length lc) gl.length (qa gl) :: T)) _ ⟨0, 0, rfl, ⟨Nat.zero_le _, rfl⟩, A.keep _ (by repeat' constructor), M⟩ ?_)))
 clear M A
 rintro m_ a w5 ⟨i, q, rfl, hinv7, A, M⟩ K6 hK6
 obtain ⟨hi0, hq⟩ := hinv7
 refine wsk fun K8 hK8 => wrl ?_
 rcases tf (decide (((i : Nat) : Int) < ((gl.length : Nat) : Int))) with hb9 | hb9
 ·
  have hb9' := of_decide_eq_true hb9
  refine sdc A qm hb9 λa A↦?_
  refine qb (hK8 _ _ (wsk fun K10 hK10 => wp_cond_true (A.ev rfl) ?_))
  refine wp_skip (hK10 _ _ (wsk fun K11 hK11 => wp_block (wsk fun K12 hK12 => ?_)))
  obtain ⟨gg, hgg⟩ := zy (M.has 3 rfl) (show gl.length ≠ 0 by omega)
  obtain ⟨p, s, hat⟩ : ∃ p s, gl[i]? = some (p, s) := ⟨_, _, List.getElem?_eq_getElem (show i < gl.length by omega)⟩
  have hs1 := qea hat
  have hs2 := qeb gl (i + 1)
  refine wrl (sdo (v := .pointer (some ⟨gg, i * 2, none⟩)) A (jy (k := i) Try.underlying58 (by kernel_rfl) rfl rfl rfl hgg (by omega)) λa A↦?_)
  refine sdo A (qgj (o := i * 2) (cs := [.int .i64 (((p : Nat) : Int)), .int .i64 (((s : Nat) : Int))]) M 3 rfl hgg HbE_isS_88 (ki hat) rfl rfl) λa A↦?_
  refine qt (vs := [.int .i64 0, .int .i64 0]) (t := 88) A M rfl rfl rfl pg (ql (z := .agg #[.int .i64 0, .int .i64 0]) (by kernel_rfl) rfl) (by decide) ?_
  intro g13 w14 M a A
  refine qs (us := [.int .i64 (((p : Nat) : Int)), .int .i64 (((s : Nat) : Int))]) (L' := (.obj g13 (.cells #[.int .i64 (((p : Nat) : Int)), .int .i64 (((s : Nat) : Int))] 88) :: .obj h (.cells #[.map (some m), .int .i64 (((last : Nat) : Int)), .int .i64 (((ss : Nat) : Int)), .slice sg gs.length sc, .int .i64 (((ls : Nat) : Int)), .slice lg gl.length lc] 63) :: .obj m (qc (os.map Ob.en) last) :: .row 88 2 (.slice sg gs.length sc) gs.length (qa gs) :: .row 88 2 (.slice lg gl.length lc) gl.length (qa gl) :: T)) A M rfl rfl (qo rfl rfl rfl (by kernel_rfl) M 0 rfl rfl rfl) 0 rfl rfl rfl ?_
  intro w15 M
  refine qb (hK12 _ _ (wrl (sdm A λa A↦?_)))
  refine sdo (v := .pointer (some ⟨g13, 1, none⟩)) A (qd HbE_fld_88_1 rfl rfl) λa A↦?_
  refine sdo A (qh M HbE_is1_3 rfl 0 rfl rfl) λa A↦?_
  refine sdo (v := .int .i64 (((q + s : Nat) : Int))) A (qe rfl rfl (ar_add ((in_i64 (by omega) (by omega)).trans (by omega)))) λa A↦?_
  refine sda A λa A↦?_
  refine qb (hK11 _ _ (wrl (sdo (v := .int .i64 (((i + 1 : Nat) : Int))) A (qe rfl rfl (ar_add ((in_i64 (by omega) (by omega)).trans (by omega)))) λa A↦?_)))
  refine sdm A λa A↦?_
  refine qb ?_
  replace M : Mg w0 w15 (.row 88 2 (.slice lg gl.length lc) gl.length (qa gl) :: .obj g13 (.cells #[.int .i64 (((p : Nat) : Int)), .int .i64 (((s : Nat) : Int))] 88) :: .obj h (.cells #[.map (some m), .int .i64 (((last : Nat) : Int)), .int .i64 (((ss : Nat) : Int)), .slice sg gs.length sc, .int .i64 (((ls : Nat) : Int)), .slice lg gl.length lc] 63) :: .obj m (qc (os.map Ob.en) last) :: .row 88 2 (.slice sg gs.length sc) gs.length (qa gs) :: T) := M.bring 4 rfl rfl
  replace M : Mg w0 w15 (.row 88 2 (.slice sg gs.length sc) gs.length (qa gs) :: .row 88 2 (.slice lg gl.length lc) gl.length (qa gl) :: .obj g13 (.cells #[.int .i64 (((p : Nat) : Int)), .int .i64 (((s : Nat) : Int))] 88) :: .obj h (.cells #[.map (some m), .int .i64 (((last : Nat) : Int)), .int .i64 (((ss : Nat) : Int)), .slice sg gs.length sc, .int .i64 (((ls : Nat) : Int)), .slice lg gl.length lc] 63) :: .obj m (qc (os.map Ob.en) last) :: T) := M.bring 4 rfl rfl
  replace M : Mg w0 w15 (.obj m (qc (os.map Ob.en) last) :: .row 88 2 (.slice sg gs.length sc) gs.length (qa gs) :: .row 88 2 (.slice lg gl.length lc) gl.length (qa gl) :: .obj g13 (.cells #[.int .i64 (((p : Nat) : Int)), .int .i64 (((s : Nat) : Int))] 88) :: .obj h (.cells #[.map (some m), .int .i64 (((last : Nat) : Int)), .int .i64 (((ss : Nat) : Int)), .slice sg gs.length sc, .int .i64 (((ls : Nat) : Int)), .slice lg gl.length lc] 63) :: T) := M.bring 4 rfl rfl
  replace M : Mg w0 w15 (.obj h (.cells #[.map (some m), .int .i64 (((last : Nat) : Int)), .int .i64 (((ss : Nat) : Int)), .slice sg gs.length sc, .int .i64 (((ls : Nat) : Int)), .slice lg gl.length lc] 63) :: .obj m (qc (os.map Ob.en) last) :: .row 88 2 (.slice sg gs.length sc) gs.length (qa gs) :: .row 88 2 (.slice lg gl.length lc) gl.length (qa gl) :: .obj g13 (.cells #[.int .i64 (((p : Nat) : Int)), .int .i64 (((s : Nat) : Int))] 88) :: T) := M.bring 4 rfl rfl
  replace M : Mg w0 w15 (.obj h (.cells #[.map (some m), .int .i64 (((last : Nat) : Int)), .int .i64 (((ss : Nat) : Int)), .slice sg gs.length sc, .int .i64 (((ls : Nat) : Int)), .slice lg gl.length lc] 63) :: .obj m (qc (os.map Ob.en) last) :: .row 88 2 (.slice sg gs.length sc) gs.length (qa gs) :: .row 88 2 (.slice lg gl.length lc) gl.length (qa gl) :: T) := by
   have h9 := M.sub (cc (cc (cc (cc (cn (.refl _))))))
   exact h9
  refine hK6 _ _ _ (by omega) ⟨i + 1, q + s, rfl, ⟨by omega, by omega⟩, A.keep _ (by repeat' constructor), M⟩
 ·
  have hb9' := of_decide_eq_false hb9
  refine sdc A qm hb9 λa A↦?_
  refine qb (hK8 _ _ (wsk fun K16 hK16 => wp_cond_false (A.ev rfl) ?_))
  refine wp_exit (hK3 _ _ (wsk fun K17 hK17 => wrl (sdm A λa A↦?_)))
  refine sda A λa A↦?_
  refine qb (hK17 _ _ (wp_ret (hret _ _ (en1 A rfl (qi rfl) ?_))))
  replace M : Mg w0 w5 (.row 88 2 (.slice lg gl.length lc) gl.length (qa gl) :: .obj h (.cells #[.map (some m), .int .i64 (((last : Nat) : Int)), .int .i64 (((ss : Nat) : Int)), .slice sg gs.length sc, .int .i64 (((ls : Nat) : Int)), .slice lg gl.length lc] 63) :: .obj m (qc (os.map Ob.en) last) :: .row 88 2 (.slice sg gs.length sc) gs.length (qa gs) :: T) := M.bring 3 rfl rfl
  replace M : Mg w0 w5 (.row 88 2 (.slice sg gs.length sc) gs.length (qa gs) :: .row 88 2 (.slice lg gl.length lc) gl.length (qa gl) :: .obj h (.cells #[.map (some m), .int .i64 (((last : Nat) : Int)), .int .i64 (((ss : Nat) : Int)), .slice sg gs.length sc, .int .i64 (((ls : Nat) : Int)), .slice lg gl.length lc] 63) :: .obj m (qc (os.map Ob.en) last) :: T) := M.bring 3 rfl rfl
  replace M : Mg w0 w5 (.obj m (qc (os.map Ob.en) last) :: .row 88 2 (.slice sg gs.length sc) gs.length (qa gs) :: .row 88 2 (.slice lg gl.length lc) gl.length (qa gl) :: .obj h (.cells #[.map (some m), .int .i64 (((last : Nat) : Int)), .int .i64 (((ss : Nat) : Int)), .slice sg gs.length sc, .int .i64 (((ls : Nat) : Int)), .slice lg gl.length lc] 63) :: T) := M.bring 3 rfl rfl
  replace M : Mg w0 w5 (.obj h (.cells #[.map (some m), .int .i64 (((last : Nat) : Int)), .int .i64 (((ss : Nat) : Int)), .slice sg gs.length sc, .int .i64 (((ls : Nat) : Int)), .slice lg gl.length lc] 63) :: .obj m (qc (os.map Ob.en) last) :: .row 88 2 (.slice sg gs.length sc) gs.length (qa gs) :: .row 88 2 (.slice lg gl.length lc) gl.length (qa gl) :: T) := M.bring 3 rfl rfl
  exact ⟨by rw [show jc gl = q from by rw [hq, List.take_of_length_le (by omega)]], M⟩
theorem free_any {w0 w : World} {h m last ss ls sc lc : Nat} {sg lg : Option Addr} {gs gl : List (Nat × Nat)} {os : List Ob} {T : List Ck} (hgS : gs.length ≤ 1000000) (hgL : gl.length ≤ 1000000) (hsS : jc gs ≤ 1000000000) (hsL : jc gl ≤ 1000000000) (hM0 : Mg w0 w (.obj h (.cells #[.map (some m), .int .i64 (((last : Nat) : Int)), .int .i64 (((ss : Nat) : Int)), .slice sg gs.length sc, .int .i64 (((ls : Nat) : Int)), .slice lg gl.length lc] 63) :: .obj m (qc (os.map Ob.en) last) :: .row 88 2 (.slice sg gs.length sc) gs.length (qa gs) :: .row 88 2 (.slice lg gl.length lc) gl.length (qa gl) :: T)) : Calls Try.prog 18 #[.pointer (some ⟨h, 0, none⟩)] w fun e w' => e = .returned (.tuple #[.int .i64 ((jc gs : Nat) : Int), .int .i64 ((jc gl : Nat) : Int)]) ∧ Mg w0 w' (.obj h (.cells #[.map (some m), .int .i64 (((last : Nat) : Int)), .int .i64 (((ss : Nat) : Int)), .slice sg gs.length sc, .int .i64 (((ls : Nat) : Int)), .slice lg gl.length lc] 63) :: .obj m (qc (os.map Ob.en) last) :: .row 88 2 (.slice sg gs.length sc) gs.length (qa gs) :: .row 88 2 (.slice lg gl.length lc) gl.length (qa gl) :: T) := by
 have M : Mg w0 w (.obj h (.cells #[.map (some m), .int .i64 (((last : Nat) : Int)), .int .i64 (((ss : Nat) : Int)), .slice sg gs.length sc, .int .i64 (((ls : Nat) : Int)), .slice lg gl.length lc] 63) :: .obj m (qc (os.map Ob.en) last) :: .row 88 2 (.slice sg gs.length sc) gs.length (qa gs) :: .row 88 2 (.slice lg gl.length lc) gl.length (qa gl) :: T) := hM0
 refine qp (l := [(0, .pointer (some ⟨h, 0, none⟩))]) Try.func18 rfl Try.ntmps18 rfl rfl ?_
 intro Q hret hnorm hP a A
 refine wsk fun K1 hK1 => wrl ?_
 iterate 2 refine sda A λa A↦?_
 refine qb (hK1 _ _ (wsk fun K2 hK2 => wsk fun K3 hK3 => wrl (sdm A λa A↦?_)))
 refine sdo (v := .bool false) A (qe rfl rfl (jn Try.underlying24)) λa A↦?_
 refine qb (hK3 _ _ (wp_cond_false (A.ev rfl) ?_))
 refine wp_skip (hK2 _ _ (wsk fun K4 hK4 => zn (S := fun w1 => Mg w0 w1 ([])) (by kernel_rfl) ?_))
 replace M := M.drew
 refine qf A 0 rfl rfl rfl rfl hP (M.sub (cn (cn (cn (cn (List.nil_sublist _)))))) (fun w1 M => qn rfl) λa A↦?_
 refine qf A 1 rfl rfl rfl rfl hP (M.sub (cn (cn (cn (cn (List.nil_sublist _)))))) (fun w1 M => qu rfl) λa A↦?_
 refine qf (v := .pointer (some ⟨h, 2, none⟩)) A 2 rfl rfl rfl rfl hP (M.sub (cn (cn (cn (cn (List.nil_sublist _)))))) (fun w1 M => qd HbE_fld_63_2 rfl rfl) λa A↦?_
 refine qf A 4 rfl rfl rfl rfl hP (M.sub (cn (cn (cn (cn (List.nil_sublist _)))))) (fun w1 M => qn rfl) λa A↦?_
 refine qf A 5 rfl rfl rfl rfl hP (M.sub (cn (cn (cn (cn (List.nil_sublist _)))))) (fun w1 M => qu rfl) λa A↦?_
 refine qf (v := .pointer (some ⟨h, 4, none⟩)) A 6 rfl rfl rfl rfl hP (M.sub (cn (cn (cn (cn (List.nil_sublist _)))))) (fun w1 M => qd HbE_fld_63_3 rfl rfl) λa A↦?_
 replace M : Mg w0 w.drew (.row 88 2 (.slice lg gl.length lc) gl.length (qa gl) :: .obj h (.cells #[.map (some m), .int .i64 (((last : Nat) : Int)), .int .i64 (((ss : Nat) : Int)), .slice sg gs.length sc, .int .i64 (((ls : Nat) : Int)), .slice lg gl.length lc] 63) :: .obj m (qc (os.map Ob.en) last) :: .row 88 2 (.slice sg gs.length sc) gs.length (qa gs) :: T) := M.bring 3 rfl rfl
 replace M : Mg w0 w.drew (.row 88 2 (.slice sg gs.length sc) gs.length (qa gs) :: .row 88 2 (.slice lg gl.length lc) gl.length (qa gl) :: .obj h (.cells #[.map (some m), .int .i64 (((last : Nat) : Int)), .int .i64 (((ss : Nat) : Int)), .slice sg gs.length sc, .int .i64 (((ls : Nat) : Int)), .slice lg gl.length lc] 63) :: .obj m (qc (os.map Ob.en) last) :: T) := M.bring 3 rfl rfl
 replace M : Mg w0 w.drew (.obj m (qc (os.map Ob.en) last) :: .row 88 2 (.slice sg gs.length sc) gs.length (qa gs) :: .row 88 2 (.slice lg gl.length lc) gl.length (qa gl) :: .obj h (.cells #[.map (some m), .int .i64 (((last : Nat) : Int)), .int .i64 (((ss : Nat) : Int)), .slice sg gs.length sc, .int .i64 (((ls : Nat) : Int)), .slice lg gl.length lc] 63) :: T) := M.bring 3 rfl rfl
 replace M : Mg w0 w.drew (.obj h (.cells #[.map (some m), .int .i64 (((last : Nat) : Int)), .int .i64 (((ss : Nat) : Int)), .slice sg gs.length sc, .int .i64 (((ls : Nat) : Int)), .slice lg gl.length lc] 63) :: .obj m (qc (os.map Ob.en) last) :: .row 88 2 (.slice sg gs.length sc) gs.length (qa gs) :: .row 88 2 (.slice lg gl.length lc) gl.length (qa gl) :: T) := M.bring 3 rfl rfl
 refine zd (by kernel_rfl) (jk A 3 rfl rfl rfl rfl (zp rfl rfl (fun w => by kernel_rfl)) (freeS_any hgS hsS M) ?_)
 rintro _ w6 ⟨rfl, hM5⟩
 replace M : Mg w0 w6 (.obj h (.cells #[.map (some m), .int .i64 (((last : Nat) : Int)), .int .i64 (((ss : Nat) : Int)), .slice sg gs.length sc, .int .i64 (((ls : Nat) : Int)), .slice lg gl.length lc] 63) :: .obj m (qc (os.map Ob.en) last) :: .row 88 2 (.slice sg gs.length sc) gs.length (qa gs) :: .row 88 2 (.slice lg gl.length lc) gl.length (qa gl) :: T) := hM5
 refine ⟨_, rfl, (M.sub (cn (cn (cn (cn (List.nil_sublist _)))))), ?_⟩
 intro a A
 replace M : Mg w0 w6 (.row 88 2 (.slice lg gl.length lc) gl.length (qa gl) :: .obj h (.cells #[.map (some m), .int .i64 (((last : Nat) : Int)), .int .i64 (((ss : Nat) : Int)), .slice sg gs.length sc, .int .i64 (((ls : Nat) : Int)), .slice lg gl.length lc] 63) :: .obj m (qc (os.map Ob.en) last) :: .row 88 2 (.slice sg gs.length sc) gs.length (qa gs) :: T) := M.bring 3 rfl rfl
 replace M : Mg w0 w6 (.row 88 2 (.slice sg gs.length sc) gs.length (qa gs) :: .row 88 2 (.slice lg gl.length lc) gl.length (qa gl) :: .obj h (.cells #[.map (some m), .int .i64 (((last : Nat) : Int)), .int .i64 (((ss : Nat) : Int)), .slice sg gs.length sc, .int .i64 (((ls : Nat) : Int)), .slice lg gl.length lc] 63) :: .obj m (qc (os.map Ob.en) last) :: T) := M.bring 3 rfl rfl
 replace M : Mg w0 w6 (.obj m (qc (os.map Ob.en) last) :: .row 88 2 (.slice sg gs.length sc) gs.length (qa gs) :: .row 88 2 (.slice lg gl.length lc) gl.length (qa gl) :: .obj h (.cells #[.map (some m), .int .i64 (((last : Nat) : Int)), .int .i64 (((ss : Nat) : Int)), .slice sg gs.length sc, .int .i64 (((ls : Nat) : Int)), .slice lg gl.length lc] 63) :: T) := M.bring 3 rfl rfl
 replace M : Mg w0 w6 (.obj h (.cells #[.map (some m), .int .i64 (((last : Nat) : Int)), .int .i64 (((ss : Nat) : Int)), .slice sg gs.length sc, .int .i64 (((ls : Nat) : Int)), .slice lg gl.length lc] 63) :: .obj m (qc (os.map Ob.en) last) :: .row 88 2 (.slice sg gs.length sc) gs.length (qa gs) :: .row 88 2 (.slice lg gl.length lc) gl.length (qa gl) :: T) := M.bring 3 rfl rfl
 refine zd (by kernel_rfl) (jk A 7 rfl rfl rfl rfl (zp rfl rfl (fun w => by kernel_rfl)) (freeL_any hgL hsL M) ?_)
 rintro _ w8 ⟨rfl, hM7⟩
 replace M : Mg w0 w8 (.obj h (.cells #[.map (some m), .int .i64 (((last : Nat) : Int)), .int .i64 (((ss : Nat) : Int)), .slice sg gs.length sc, .int .i64 (((ls : Nat) : Int)), .slice lg gl.length lc] 63) :: .obj m (qc (os.map Ob.en) last) :: .row 88 2 (.slice sg gs.length sc) gs.length (qa gs) :: .row 88 2 (.slice lg gl.length lc) gl.length (qa gl) :: T) := hM7
 refine ⟨_, rfl, (M.sub (cn (cn (cn (cn (List.nil_sublist _)))))), ?_⟩
 intro a A
 refine qf A 8 rfl rfl rfl rfl hP (M.sub (cn (cn (cn (cn (List.nil_sublist _)))))) (fun w1 M => qz rfl) λa A↦?_
 refine qf A 9 rfl rfl rfl rfl hP (M.sub (cn (cn (cn (cn (List.nil_sublist _)))))) (fun w1 M => qz rfl) λa A↦?_
 refine zi (by kernel_rfl) ?_
 refine hK4 _ _ (wp_ret (hret _ _ (en2 A rfl (qi rfl) (qi rfl) ?_)))
 exact ⟨rfl, M⟩
theorem kq {w0 w : World} {x : Int} {h m last ss ls sc lc : Nat} {sg lg : Option Addr} {gs gl : List (Nat × Nat)} {os : List Ob} {T : List Ck} (hM0 : Mg w0 w (.obj h (.cells #[.map (some m), .int .i64 (((last : Nat) : Int)), .int .i64 (((ss : Nat) : Int)), .slice sg gs.length sc, .int .i64 (((ls : Nat) : Int)), .slice lg gl.length lc] 63) :: .obj m (qc (os.map Ob.en) last) :: .row 88 2 (.slice sg gs.length sc) gs.length (qa gs) :: .row 88 2 (.slice lg gl.length lc) gl.length (qa gl) :: T)) : Calls Try.prog 31 #[.pointer (some ⟨h, 0, none⟩), .int .i64 x] w fun e w' => e = .returned (.bool (x == 0 || (fO x os).isSome)) ∧ Mg w0 w' (.obj h (.cells #[.map (some m), .int .i64 (((last : Nat) : Int)), .int .i64 (((ss : Nat) : Int)), .slice sg gs.length sc, .int .i64 (((ls : Nat) : Int)), .slice lg gl.length lc] 63) :: .obj m (qc (os.map Ob.en) last) :: .row 88 2 (.slice sg gs.length sc) gs.length (qa gs) :: .row 88 2 (.slice lg gl.length lc) gl.length (qa gl) :: T) := by
 have M : Mg w0 w (.obj h (.cells #[.map (some m), .int .i64 (((last : Nat) : Int)), .int .i64 (((ss : Nat) : Int)), .slice sg gs.length sc, .int .i64 (((ls : Nat) : Int)), .slice lg gl.length lc] 63) :: .obj m (qc (os.map Ob.en) last) :: .row 88 2 (.slice sg gs.length sc) gs.length (qa gs) :: .row 88 2 (.slice lg gl.length lc) gl.length (qa gl) :: T) := hM0
 refine qp (l := [(0, .pointer (some ⟨h, 0, none⟩)), (1, .int .i64 x)]) Try.func31 rfl Try.ntmps31 rfl rfl ?_
 intro Q hret hnorm hP a A
 refine wsk fun K1 hK1 => wrl (sda A λa A↦?_)
 refine qb (hK1 _ _ (wsk fun K2 hK2 => wrl (sdm A λa A↦?_)))
 refine sdo A (qu rfl) λa A↦?_
 refine sdo (v := .pointer (some ⟨h, 0, none⟩)) A (qd HbE_fld_63_0 rfl rfl) λa A↦?_
 refine sdo A (qh M HbE_is1_57 rfl 0 rfl rfl) λa A↦?_
 refine sdm A λa A↦?_
 rcases tf ((fO x os).isSome) with hb3 | hb3
 ·
  obtain ⟨o4, ho5⟩ := Option.isSome_iff_exists.1 hb3
  have ho5k : atK x (os.map Ob.en) = some o4.en := by rw [vh, ho5]; rfl
  refine sdo (v := .tuple #[.agg #[.int .i64 (((o4.p : Nat) : Int)), .slice (some ⟨o4.g, 0, none⟩) o4.ws.length o4.c], .bool true]) A (kh M Try.underlying57 Try.underlying3 rfl rfl 1 rfl ho5k rfl) λa A↦?_
  refine sdm A λa A↦?_
  iterate 2 refine sdo A (qk (vs := [.agg #[.int .i64 (((o4.p : Nat) : Int)), .slice (some ⟨o4.g, 0, none⟩) o4.ws.length o4.c], .bool true]) rfl rfl) λa A↦?_
  refine qt (vs := [.int .i64 0, .slice none 0 0]) (t := 70) A M rfl rfl rfl pg (ql (z := .agg #[.int .i64 0, .slice none 0 0]) (by kernel_rfl) rfl) (by decide) ?_
  intro g6 w7 M a A
  refine qs (us := [.int .i64 (((o4.p : Nat) : Int)), .slice (some ⟨o4.g, 0, none⟩) o4.ws.length o4.c]) (L' := (.obj g6 (.cells #[.int .i64 (((o4.p : Nat) : Int)), .slice (some ⟨o4.g, 0, none⟩) o4.ws.length o4.c] 70) :: .obj h (.cells #[.map (some m), .int .i64 (((last : Nat) : Int)), .int .i64 (((ss : Nat) : Int)), .slice sg gs.length sc, .int .i64 (((ls : Nat) : Int)), .slice lg gl.length lc] 63) :: .obj m (qc (os.map Ob.en) last) :: .row 88 2 (.slice sg gs.length sc) gs.length (qa gs) :: .row 88 2 (.slice lg gl.length lc) gl.length (qa gl) :: T)) A M rfl rfl (qo rfl rfl rfl (by kernel_rfl) M 0 rfl rfl rfl) 0 rfl rfl rfl ?_
  intro w8 M
  refine sda A λa A↦?_
  refine qb (hK2 _ _ (wsk fun K9 hK9 => wrl (sdm A λa A↦?_)))
  rcases tf ((x == 0)) with hb10 | hb10
  ·
   have hb10' := eq_of_beq hb10
   refine sdc A jl hb10 λa A↦?_
   refine sdm A λa A↦?_
   refine zj A rfl rfl rfl λa A↦?_
   refine sdk (v := .bool true) A λa A↦?_
   refine sda A λa A↦?_
   refine qb (hK9 _ _ (wp_ret (hret _ _ (en1 A rfl (qi rfl) ?_))))
   replace M : Mg w0 w8 (.row 88 2 (.slice lg gl.length lc) gl.length (qa gl) :: .obj g6 (.cells #[.int .i64 (((o4.p : Nat) : Int)), .slice (some ⟨o4.g, 0, none⟩) o4.ws.length o4.c] 70) :: .obj h (.cells #[.map (some m), .int .i64 (((last : Nat) : Int)), .int .i64 (((ss : Nat) : Int)), .slice sg gs.length sc, .int .i64 (((ls : Nat) : Int)), .slice lg gl.length lc] 63) :: .obj m (qc (os.map Ob.en) last) :: .row 88 2 (.slice sg gs.length sc) gs.length (qa gs) :: T) := M.bring 4 rfl rfl
   replace M : Mg w0 w8 (.row 88 2 (.slice sg gs.length sc) gs.length (qa gs) :: .row 88 2 (.slice lg gl.length lc) gl.length (qa gl) :: .obj g6 (.cells #[.int .i64 (((o4.p : Nat) : Int)), .slice (some ⟨o4.g, 0, none⟩) o4.ws.length o4.c] 70) :: .obj h (.cells #[.map (some m), .int .i64 (((last : Nat) : Int)), .int .i64 (((ss : Nat) : Int)), .slice sg gs.length sc, .int .i64 (((ls : Nat) : Int)), .slice lg gl.length lc] 63) :: .obj m (qc (os.map Ob.en) last) :: T) := M.bring 4 rfl rfl
   replace M : Mg w0 w8 (.obj m (qc (os.map Ob.en) last) :: .row 88 2 (.slice sg gs.length sc) gs.length (qa gs) :: .row 88 2 (.slice lg gl.length lc) gl.length (qa gl) :: .obj g6 (.cells #[.int .i64 (((o4.p : Nat) : Int)), .slice (some ⟨o4.g, 0, none⟩) o4.ws.length o4.c] 70) :: .obj h (.cells #[.map (some m), .int .i64 (((last : Nat) : Int)), .int .i64 (((ss : Nat) : Int)), .slice sg gs.length sc, .int .i64 (((ls : Nat) : Int)), .slice lg gl.length lc] 63) :: T) := M.bring 4 rfl rfl
   replace M : Mg w0 w8 (.obj h (.cells #[.map (some m), .int .i64 (((last : Nat) : Int)), .int .i64 (((ss : Nat) : Int)), .slice sg gs.length sc, .int .i64 (((ls : Nat) : Int)), .slice lg gl.length lc] 63) :: .obj m (qc (os.map Ob.en) last) :: .row 88 2 (.slice sg gs.length sc) gs.length (qa gs) :: .row 88 2 (.slice lg gl.length lc) gl.length (qa gl) :: .obj g6 (.cells #[.int .i64 (((o4.p : Nat) : Int)), .slice (some ⟨o4.g, 0, none⟩) o4.ws.length o4.c] 70) :: T) := M.bring 4 rfl rfl
   replace M : Mg w0 w8 (.obj h (.cells #[.map (some m), .int .i64 (((last : Nat) : Int)), .int .i64 (((ss : Nat) : Int)), .slice sg gs.length sc, .int .i64 (((ls : Nat) : Int)), .slice lg gl.length lc] 63) :: .obj m (qc (os.map Ob.en) last) :: .row 88 2 (.slice sg gs.length sc) gs.length (qa gs) :: .row 88 2 (.slice lg gl.length lc) gl.length (qa gl) :: T) := by
    have h9 := M.sub (cc (cc (cc (cc (cn (.refl _))))))
    exact h9
   exact ⟨by rw [hb10, hb3]; rfl, M⟩
  ·
   have hb10' := ne_of_beq_false hb10
   refine sdc A jl hb10 λa A↦?_
   iterate 2 refine sdm A λa A↦?_
   refine sdk (v := .bool true) A λa A↦?_
   refine sda A λa A↦?_
   refine qb (hK9 _ _ (wp_ret (hret _ _ (en1 A rfl (qi rfl) ?_))))
   replace M : Mg w0 w8 (.row 88 2 (.slice lg gl.length lc) gl.length (qa gl) :: .obj g6 (.cells #[.int .i64 (((o4.p : Nat) : Int)), .slice (some ⟨o4.g, 0, none⟩) o4.ws.length o4.c] 70) :: .obj h (.cells #[.map (some m), .int .i64 (((last : Nat) : Int)), .int .i64 (((ss : Nat) : Int)), .slice sg gs.length sc, .int .i64 (((ls : Nat) : Int)), .slice lg gl.length lc] 63) :: .obj m (qc (os.map Ob.en) last) :: .row 88 2 (.slice sg gs.length sc) gs.length (qa gs) :: T) := M.bring 4 rfl rfl
   replace M : Mg w0 w8 (.row 88 2 (.slice sg gs.length sc) gs.length (qa gs) :: .row 88 2 (.slice lg gl.length lc) gl.length (qa gl) :: .obj g6 (.cells #[.int .i64 (((o4.p : Nat) : Int)), .slice (some ⟨o4.g, 0, none⟩) o4.ws.length o4.c] 70) :: .obj h (.cells #[.map (some m), .int .i64 (((last : Nat) : Int)), .int .i64 (((ss : Nat) : Int)), .slice sg gs.length sc, .int .i64 (((ls : Nat) : Int)), .slice lg gl.length lc] 63) :: .obj m (qc (os.map Ob.en) last) :: T) := M.bring 4 rfl rfl
   replace M : Mg w0 w8 (.obj m (qc (os.map Ob.en) last) :: .row 88 2 (.slice sg gs.length sc) gs.length (qa gs) :: .row 88 2 (.slice lg gl.length lc) gl.length (qa gl) :: .obj g6 (.cells #[.int .i64 (((o4.p : Nat) : Int)), .slice (some ⟨o4.g, 0, none⟩) o4.ws.length o4.c] 70) :: .obj h (.cells #[.map (some m), .int .i64 (((last : Nat) : Int)), .int .i64 (((ss : Nat) : Int)), .slice sg gs.length sc, .int .i64 (((ls : Nat) : Int)), .slice lg gl.length lc] 63) :: T) := M.bring 4 rfl rfl
   replace M : Mg w0 w8 (.obj h (.cells #[.map (some m), .int .i64 (((last : Nat) : Int)), .int .i64 (((ss : Nat) : Int)), .slice sg gs.length sc, .int .i64 (((ls : Nat) : Int)), .slice lg gl.length lc] 63) :: .obj m (qc (os.map Ob.en) last) :: .row 88 2 (.slice sg gs.length sc) gs.length (qa gs) :: .row 88 2 (.slice lg gl.length lc) gl.length (qa gl) :: .obj g6 (.cells #[.int .i64 (((o4.p : Nat) : Int)), .slice (some ⟨o4.g, 0, none⟩) o4.ws.length o4.c] 70) :: T) := M.bring 4 rfl rfl
   replace M : Mg w0 w8 (.obj h (.cells #[.map (some m), .int .i64 (((last : Nat) : Int)), .int .i64 (((ss : Nat) : Int)), .slice sg gs.length sc, .int .i64 (((ls : Nat) : Int)), .slice lg gl.length lc] 63) :: .obj m (qc (os.map Ob.en) last) :: .row 88 2 (.slice sg gs.length sc) gs.length (qa gs) :: .row 88 2 (.slice lg gl.length lc) gl.length (qa gl) :: T) := by
    have h9 := M.sub (cc (cc (cc (cc (cn (.refl _))))))
    exact h9
   exact ⟨by rw [hb10, hb3]; rfl, M⟩
 ·
  have hn11 : atK x (os.map Ob.en) = none := by rw [vh, Option.isSome_eq_false_iff.1 hb3 |> Option.isNone_iff_eq_none.1]; rfl
  refine sdo (v := .tuple #[.agg #[.int .i64 0, .slice none 0 0], .bool false]) A (ut (zv := .agg #[.int .i64 0, .slice none 0 0]) M Try.underlying57 Try.underlying3 (by kernel_rfl) rfl rfl 1 rfl hn11 rfl) λa A↦?_
  refine sdm A λa A↦?_
  iterate 2 refine sdo A (qk (vs := [.agg #[.int .i64 0, .slice none 0 0], .bool false]) rfl rfl) λa A↦?_
  refine qt (vs := [.int .i64 0, .slice none 0 0]) (t := 70) A M rfl rfl rfl pg (ql (z := .agg #[.int .i64 0, .slice none 0 0]) (by kernel_rfl) rfl) (by decide) ?_
  intro g12 w13 M a A
  refine qs (us := [.int .i64 0, .slice none 0 0]) (L' := (.obj g12 (.cells #[.int .i64 0, .slice none 0 0] 70) :: .obj h (.cells #[.map (some m), .int .i64 (((last : Nat) : Int)), .int .i64 (((ss : Nat) : Int)), .slice sg gs.length sc, .int .i64 (((ls : Nat) : Int)), .slice lg gl.length lc] 63) :: .obj m (qc (os.map Ob.en) last) :: .row 88 2 (.slice sg gs.length sc) gs.length (qa gs) :: .row 88 2 (.slice lg gl.length lc) gl.length (qa gl) :: T)) A M rfl rfl (qo rfl rfl rfl (by kernel_rfl) M 0 rfl rfl rfl) 0 rfl rfl rfl ?_
  intro w14 M
  refine sda A λa A↦?_
  refine qb (hK2 _ _ (wsk fun K15 hK15 => wrl (sdm A λa A↦?_)))
  rcases tf ((x == 0)) with hb16 | hb16
  ·
   have hb16' := eq_of_beq hb16
   refine sdc A jl hb16 λa A↦?_
   refine sdm A λa A↦?_
   refine zj A rfl rfl rfl λa A↦?_
   refine sdk (v := .bool true) A λa A↦?_
   refine sda A λa A↦?_
   refine qb (hK15 _ _ (wp_ret (hret _ _ (en1 A rfl (qi rfl) ?_))))
   replace M : Mg w0 w14 (.row 88 2 (.slice lg gl.length lc) gl.length (qa gl) :: .obj g12 (.cells #[.int .i64 0, .slice none 0 0] 70) :: .obj h (.cells #[.map (some m), .int .i64 (((last : Nat) : Int)), .int .i64 (((ss : Nat) : Int)), .slice sg gs.length sc, .int .i64 (((ls : Nat) : Int)), .slice lg gl.length lc] 63) :: .obj m (qc (os.map Ob.en) last) :: .row 88 2 (.slice sg gs.length sc) gs.length (qa gs) :: T) := M.bring 4 rfl rfl
   replace M : Mg w0 w14 (.row 88 2 (.slice sg gs.length sc) gs.length (qa gs) :: .row 88 2 (.slice lg gl.length lc) gl.length (qa gl) :: .obj g12 (.cells #[.int .i64 0, .slice none 0 0] 70) :: .obj h (.cells #[.map (some m), .int .i64 (((last : Nat) : Int)), .int .i64 (((ss : Nat) : Int)), .slice sg gs.length sc, .int .i64 (((ls : Nat) : Int)), .slice lg gl.length lc] 63) :: .obj m (qc (os.map Ob.en) last) :: T) := M.bring 4 rfl rfl
   replace M : Mg w0 w14 (.obj m (qc (os.map Ob.en) last) :: .row 88 2 (.slice sg gs.length sc) gs.length (qa gs) :: .row 88 2 (.slice lg gl.length lc) gl.length (qa gl) :: .obj g12 (.cells #[.int .i64 0, .slice none 0 0] 70) :: .obj h (.cells #[.map (some m), .int .i64 (((last : Nat) : Int)), .int .i64 (((ss : Nat) : Int)), .slice sg gs.length sc, .int .i64 (((ls : Nat) : Int)), .slice lg gl.length lc] 63) :: T) := M.bring 4 rfl rfl
   replace M : Mg w0 w14 (.obj h (.cells #[.map (some m), .int .i64 (((last : Nat) : Int)), .int .i64 (((ss : Nat) : Int)), .slice sg gs.length sc, .int .i64 (((ls : Nat) : Int)), .slice lg gl.length lc] 63) :: .obj m (qc (os.map Ob.en) last) :: .row 88 2 (.slice sg gs.length sc) gs.length (qa gs) :: .row 88 2 (.slice lg gl.length lc) gl.length (qa gl) :: .obj g12 (.cells #[.int .i64 0, .slice none 0 0] 70) :: T) := M.bring 4 rfl rfl
   replace M : Mg w0 w14 (.obj h (.cells #[.map (some m), .int .i64 (((last : Nat) : Int)), .int .i64 (((ss : Nat) : Int)), .slice sg gs.length sc, .int .i64 (((ls : Nat) : Int)), .slice lg gl.length lc] 63) :: .obj m (qc (os.map Ob.en) last) :: .row 88 2 (.slice sg gs.length sc) gs.length (qa gs) :: .row 88 2 (.slice lg gl.length lc) gl.length (qa gl) :: T) := by
    have h9 := M.sub (cc (cc (cc (cc (cn (.refl _))))))
    exact h9
   exact ⟨by rw [hb16, hb3]; rfl, M⟩
  ·
   have hb16' := ne_of_beq_false hb16
   refine sdc A jl hb16 λa A↦?_
   iterate 2 refine sdm A λa A↦?_
   refine sdk (v := .bool false) A λa A↦?_
   refine sda A λa A↦?_
   refine qb (hK15 _ _ (wp_ret (hret _ _ (en1 A rfl (qi rfl) ?_))))
   replace M : Mg w0 w14 (.row 88 2 (.slice lg gl.length lc) gl.length (qa gl) :: .obj g12 (.cells #[.int .i64 0, .slice none 0 0] 70) :: .obj h (.cells #[.map (some m), .int .i64 (((last : Nat) : Int)), .int .i64 (((ss : Nat) : Int)), .slice sg gs.length sc, .int .i64 (((ls : Nat) : Int)), .slice lg gl.length lc] 63) :: .obj m (qc (os.map Ob.en) last) :: .row 88 2 (.slice sg gs.length sc) gs.length (qa gs) :: T) := M.bring 4 rfl rfl
   replace M : Mg w0 w14 (.row 88 2 (.slice sg gs.length sc) gs.length (qa gs) :: .row 88 2 (.slice lg gl.length lc) gl.length (qa gl) :: .obj g12 (.cells #[.int .i64 0, .slice none 0 0] 70) :: .obj h (.cells #[.map (some m), .int .i64 (((last : Nat) : Int)), .int .i64 (((ss : Nat) : Int)), .slice sg gs.length sc, .int .i64 (((ls : Nat) : Int)), .slice lg gl.length lc] 63) :: .obj m (qc (os.map Ob.en) last) :: T) := M.bring 4 rfl rfl
   replace M : Mg w0 w14 (.obj m (qc (os.map Ob.en) last) :: .row 88 2 (.slice sg gs.length sc) gs.length (qa gs) :: .row 88 2 (.slice lg gl.length lc) gl.length (qa gl) :: .obj g12 (.cells #[.int .i64 0, .slice none 0 0] 70) :: .obj h (.cells #[.map (some m), .int .i64 (((last : Nat) : Int)), .int .i64 (((ss : Nat) : Int)), .slice sg gs.length sc, .int .i64 (((ls : Nat) : Int)), .slice lg gl.length lc] 63) :: T) := M.bring 4 rfl rfl
   replace M : Mg w0 w14 (.obj h (.cells #[.map (some m), .int .i64 (((last : Nat) : Int)), .int .i64 (((ss : Nat) : Int)), .slice sg gs.length sc, .int .i64 (((ls : Nat) : Int)), .slice lg gl.length lc] 63) :: .obj m (qc (os.map Ob.en) last) :: .row 88 2 (.slice sg gs.length sc) gs.length (qa gs) :: .row 88 2 (.slice lg gl.length lc) gl.length (qa gl) :: .obj g12 (.cells #[.int .i64 0, .slice none 0 0] 70) :: T) := M.bring 4 rfl rfl
   replace M : Mg w0 w14 (.obj h (.cells #[.map (some m), .int .i64 (((last : Nat) : Int)), .int .i64 (((ss : Nat) : Int)), .slice sg gs.length sc, .int .i64 (((ls : Nat) : Int)), .slice lg gl.length lc] 63) :: .obj m (qc (os.map Ob.en) last) :: .row 88 2 (.slice sg gs.length sc) gs.length (qa gs) :: .row 88 2 (.slice lg gl.length lc) gl.length (qa gl) :: T) := by
    have h9 := M.sub (cc (cc (cc (cc (cn (.refl _))))))
    exact h9
   exact ⟨by rw [hb16, hb3]; rfl, M⟩
theorem xk {w0 w : World} {x : Int} {h m last ss ls sc lc : Nat} {sg lg : Option Addr} {gs gl : List (Nat × Nat)} {os : List Ob} {T : List Ck} {o : Ob} (hx : fO x os = some o) (hM0 : Mg w0 w (.obj h (.cells #[.map (some m), .int .i64 (((last : Nat) : Int)), .int .i64 (((ss : Nat) : Int)), .slice sg gs.length sc, .int .i64 (((ls : Nat) : Int)), .slice lg gl.length lc] 63) :: .obj m (qc (os.map Ob.en) last) :: .row 88 2 (.slice sg gs.length sc) gs.length (qa gs) :: .row 88 2 (.slice lg gl.length lc) gl.length (qa gl) :: T)) : Calls Try.prog 28 #[.pointer (some ⟨h, 0, none⟩), .int .i64 x] w fun e w' => e = .returned (.tuple #[.agg #[.int .i64 ((o.p : Nat) : Int), o.sl], .int .i64 0]) ∧ Mg w0 w' (.obj h (.cells #[.map (some m), .int .i64 (((last : Nat) : Int)), .int .i64 (((ss : Nat) : Int)), .slice sg gs.length sc, .int .i64 (((ls : Nat) : Int)), .slice lg gl.length lc] 63) :: .obj m (qc (os.map Ob.en) last) :: .row 88 2 (.slice sg gs.length sc) gs.length (qa gs) :: .row 88 2 (.slice lg gl.length lc) gl.length (qa gl) :: T) := by
 have hxs : (fO x os).isSome = true := by rw [hx]; rfl
 have M : Mg w0 w (.obj h (.cells #[.map (some m), .int .i64 (((last : Nat) : Int)), .int .i64 (((ss : Nat) : Int)), .slice sg gs.length sc, .int .i64 (((ls : Nat) : Int)), .slice lg gl.length lc] 63) :: .obj m (qc (os.map Ob.en) last) :: .row 88 2 (.slice sg gs.length sc) gs.length (qa gs) :: .row 88 2 (.slice lg gl.length lc) gl.length (qa gl) :: T) := hM0
 refine qp (l := [(0, .pointer (some ⟨h, 0, none⟩)), (1, .int .i64 x)]) Try.func28 rfl Try.ntmps28 rfl rfl ?_
 intro Q hret hnorm hP a A
 refine wsk fun K1 hK1 => wrl (qt (vs := [.int .i64 0, .slice none 0 0]) (t := 70) A M rfl rfl rfl pg (ql (z := .agg #[.int .i64 0, .slice none 0 0]) (by kernel_rfl) rfl) (by decide) ?_)
 intro g2 w3 M a A
 refine sda A λa A↦?_
 refine qb (hK1 _ _ (wsk fun K4 hK4 => wsk fun K5 hK5 => wrl (sdm A λa A↦?_)))
 refine sdo (v := .bool false) A (qe rfl rfl (jn Try.underlying24)) λa A↦?_
 refine qb (hK5 _ _ (wp_cond_false (A.ev rfl) ?_))
 refine wp_skip (hK4 _ _ (wsk fun K6 hK6 => wrl (sdm A λa A↦?_)))
 refine sdo A (qu rfl) λa A↦?_
 refine sdo (v := .pointer (some ⟨h, 0, none⟩)) A (qd HbE_fld_63_0 rfl rfl) λa A↦?_
 refine sdo A (qh M HbE_is1_57 rfl 1 rfl rfl) λa A↦?_
 refine sdm A λa A↦?_
 have hxk : atK x (os.map Ob.en) = some o.en := by rw [vh, hx]; rfl
 refine sdo (v := .tuple #[.agg #[.int .i64 (((o.p : Nat) : Int)), .slice (some ⟨o.g, 0, none⟩) o.ws.length o.c], .bool true]) A (kh M Try.underlying57 Try.underlying3 rfl rfl 2 rfl hxk rfl) λa A↦?_
 refine sdm A λa A↦?_
 iterate 2 refine sdo A (qk (vs := [.agg #[.int .i64 (((o.p : Nat) : Int)), .slice (some ⟨o.g, 0, none⟩) o.ws.length o.c], .bool true]) rfl rfl) λa A↦?_
 refine qt (vs := [.int .i64 0, .slice none 0 0]) (t := 70) A M rfl rfl rfl pg (ql (z := .agg #[.int .i64 0, .slice none 0 0]) (by kernel_rfl) rfl) (by decide) ?_
 intro g9 w10 M a A
 refine qs (us := [.int .i64 (((o.p : Nat) : Int)), .slice (some ⟨o.g, 0, none⟩) o.ws.length o.c]) (L' := (.obj g9 (.cells #[.int .i64 (((o.p : Nat) : Int)), .slice (some ⟨o.g, 0, none⟩) o.ws.length o.c] 70) :: .obj g2 (.cells #[.int .i64 0, .slice none 0 0] 70) :: .obj h (.cells #[.map (some m), .int .i64 (((last : Nat) : Int)), .int .i64 (((ss : Nat) : Int)), .slice sg gs.length sc, .int .i64 (((ls : Nat) : Int)), .slice lg gl.length lc] 63) :: .obj m (qc (os.map Ob.en) last) :: .row 88 2 (.slice sg gs.length sc) gs.length (qa gs) :: .row 88 2 (.slice lg gl.length lc) gl.length (qa gl) :: T)) A M rfl rfl (qo rfl rfl rfl (by kernel_rfl) M 0 rfl rfl rfl) 0 rfl rfl rfl ?_
 intro w11 M
 refine sda A λa A↦?_
 refine qb (hK6 _ _ (wsk fun K12 hK12 => wsk fun K13 hK13 => wrl (sdm A λa A↦?_)))
 refine sdo (v := .bool false) A (zf rfl zm) λa A↦?_
 refine qb (hK13 _ _ (wp_cond_false (A.ev rfl) ?_))
 refine wp_skip (hK12 _ _ (wsk fun K14 hK14 => wrl (sdo A (qq M HbE_isS_70 rfl 0 rfl (cs := [.int .i64 (((o.p : Nat) : Int)), .slice (some ⟨o.g, 0, none⟩) o.ws.length o.c]) rfl rfl) λa A↦?_)))
 refine qs (us := [.int .i64 (((o.p : Nat) : Int)), .slice (some ⟨o.g, 0, none⟩) o.ws.length o.c]) (L' := (.obj g9 (.cells #[.int .i64 (((o.p : Nat) : Int)), .slice (some ⟨o.g, 0, none⟩) o.ws.length o.c] 70) :: .obj g2 (.cells #[.int .i64 (((o.p : Nat) : Int)), .slice (some ⟨o.g, 0, none⟩) o.ws.length o.c] 70) :: .obj h (.cells #[.map (some m), .int .i64 (((last : Nat) : Int)), .int .i64 (((ss : Nat) : Int)), .slice sg gs.length sc, .int .i64 (((ls : Nat) : Int)), .slice lg gl.length lc] 63) :: .obj m (qc (os.map Ob.en) last) :: .row 88 2 (.slice sg gs.length sc) gs.length (qa gs) :: .row 88 2 (.slice lg gl.length lc) gl.length (qa gl) :: T)) A M rfl rfl (qo rfl rfl rfl (by kernel_rfl) M 1 rfl rfl rfl) 1 rfl rfl rfl ?_
 intro w15 M
 refine sda A λa A↦?_
 refine qb (hK14 _ _ (wp_ret (hret _ _ (en2 A rfl (zk M HbE_isS_70 rfl 1 rfl (cs := [.int .i64 (((o.p : Nat) : Int)), .slice (some ⟨o.g, 0, none⟩) o.ws.length o.c]) rfl rfl) (qi rfl) ?_))))
 replace M : Mg w0 w15 (.row 88 2 (.slice lg gl.length lc) gl.length (qa gl) :: .obj g9 (.cells #[.int .i64 (((o.p : Nat) : Int)), .slice (some ⟨o.g, 0, none⟩) o.ws.length o.c] 70) :: .obj g2 (.cells #[.int .i64 (((o.p : Nat) : Int)), .slice (some ⟨o.g, 0, none⟩) o.ws.length o.c] 70) :: .obj h (.cells #[.map (some m), .int .i64 (((last : Nat) : Int)), .int .i64 (((ss : Nat) : Int)), .slice sg gs.length sc, .int .i64 (((ls : Nat) : Int)), .slice lg gl.length lc] 63) :: .obj m (qc (os.map Ob.en) last) :: .row 88 2 (.slice sg gs.length sc) gs.length (qa gs) :: T) := M.bring 5 rfl rfl
 replace M : Mg w0 w15 (.row 88 2 (.slice sg gs.length sc) gs.length (qa gs) :: .row 88 2 (.slice lg gl.length lc) gl.length (qa gl) :: .obj g9 (.cells #[.int .i64 (((o.p : Nat) : Int)), .slice (some ⟨o.g, 0, none⟩) o.ws.length o.c] 70) :: .obj g2 (.cells #[.int .i64 (((o.p : Nat) : Int)), .slice (some ⟨o.g, 0, none⟩) o.ws.length o.c] 70) :: .obj h (.cells #[.map (some m), .int .i64 (((last : Nat) : Int)), .int .i64 (((ss : Nat) : Int)), .slice sg gs.length sc, .int .i64 (((ls : Nat) : Int)), .slice lg gl.length lc] 63) :: .obj m (qc (os.map Ob.en) last) :: T) := M.bring 5 rfl rfl
 replace M : Mg w0 w15 (.obj m (qc (os.map Ob.en) last) :: .row 88 2 (.slice sg gs.length sc) gs.length (qa gs) :: .row 88 2 (.slice lg gl.length lc) gl.length (qa gl) :: .obj g9 (.cells #[.int .i64 (((o.p : Nat) : Int)), .slice (some ⟨o.g, 0, none⟩) o.ws.length o.c] 70) :: .obj g2 (.cells #[.int .i64 (((o.p : Nat) : Int)), .slice (some ⟨o.g, 0, none⟩) o.ws.length o.c] 70) :: .obj h (.cells #[.map (some m), .int .i64 (((last : Nat) : Int)), .int .i64 (((ss : Nat) : Int)), .slice sg gs.length sc, .int .i64 (((ls : Nat) : Int)), .slice lg gl.length lc] 63) :: T) := M.bring 5 rfl rfl
 replace M : Mg w0 w15 (.obj h (.cells #[.map (some m), .int .i64 (((last : Nat) : Int)), .int .i64 (((ss : Nat) : Int)), .slice sg gs.length sc, .int .i64 (((ls : Nat) : Int)), .slice lg gl.length lc] 63) :: .obj m (qc (os.map Ob.en) last) :: .row 88 2 (.slice sg gs.length sc) gs.length (qa gs) :: .row 88 2 (.slice lg gl.length lc) gl.length (qa gl) :: .obj g9 (.cells #[.int .i64 (((o.p : Nat) : Int)), .slice (some ⟨o.g, 0, none⟩) o.ws.length o.c] 70) :: .obj g2 (.cells #[.int .i64 (((o.p : Nat) : Int)), .slice (some ⟨o.g, 0, none⟩) o.ws.length o.c] 70) :: T) := M.bring 5 rfl rfl
 replace M : Mg w0 w15 (.obj h (.cells #[.map (some m), .int .i64 (((last : Nat) : Int)), .int .i64 (((ss : Nat) : Int)), .slice sg gs.length sc, .int .i64 (((ls : Nat) : Int)), .slice lg gl.length lc] 63) :: .obj m (qc (os.map Ob.en) last) :: .row 88 2 (.slice sg gs.length sc) gs.length (qa gs) :: .row 88 2 (.slice lg gl.length lc) gl.length (qa gl) :: T) := by
  have h9 := M.sub (cc (cc (cc (cc (cn (cn (.refl _)))))))
  exact h9
 exact ⟨rfl, M⟩
theorem kr {w0 w : World} {x : Int} {h m last ss ls sc lc : Nat} {sg lg : Option Addr} {gs gl : List (Nat × Nat)} {os : List Ob} {T : List Ck} (hx : fO x os = none) (hM0 : Mg w0 w (.obj h (.cells #[.map (some m), .int .i64 (((last : Nat) : Int)), .int .i64 (((ss : Nat) : Int)), .slice sg gs.length sc, .int .i64 (((ls : Nat) : Int)), .slice lg gl.length lc] 63) :: .obj m (qc (os.map Ob.en) last) :: .row 88 2 (.slice sg gs.length sc) gs.length (qa gs) :: .row 88 2 (.slice lg gl.length lc) gl.length (qa gl) :: T)) : Calls Try.prog 28 #[.pointer (some ⟨h, 0, none⟩), .int .i64 x] w fun e w' => e = .returned (.tuple #[.agg #[.int .i64 0, .slice none 0 0], .int .i64 7]) ∧ Mg w0 w' (.obj h (.cells #[.map (some m), .int .i64 (((last : Nat) : Int)), .int .i64 (((ss : Nat) : Int)), .slice sg gs.length sc, .int .i64 (((ls : Nat) : Int)), .slice lg gl.length lc] 63) :: .obj m (qc (os.map Ob.en) last) :: .row 88 2 (.slice sg gs.length sc) gs.length (qa gs) :: .row 88 2 (.slice lg gl.length lc) gl.length (qa gl) :: T) := by
 have hxs : (fO x os).isSome = false := by rw [hx]; rfl
 have M : Mg w0 w (.obj h (.cells #[.map (some m), .int .i64 (((last : Nat) : Int)), .int .i64 (((ss : Nat) : Int)), .slice sg gs.length sc, .int .i64 (((ls : Nat) : Int)), .slice lg gl.length lc] 63) :: .obj m (qc (os.map Ob.en) last) :: .row 88 2 (.slice sg gs.length sc) gs.length (qa gs) :: .row 88 2 (.slice lg gl.length lc) gl.length (qa gl) :: T) := hM0
 refine qp (l := [(0, .pointer (some ⟨h, 0, none⟩)), (1, .int .i64 x)]) Try.func28 rfl Try.ntmps28 rfl rfl ?_
 intro Q hret hnorm hP a A
 refine wsk fun K1 hK1 => wrl (qt (vs := [.int .i64 0, .slice none 0 0]) (t := 70) A M rfl rfl rfl pg (ql (z := .agg #[.int .i64 0, .slice none 0 0]) (by kernel_rfl) rfl) (by decide) ?_)
 intro g2 w3 M a A
 refine sda A λa A↦?_
 refine qb (hK1 _ _ (wsk fun K4 hK4 => wsk fun K5 hK5 => wrl (sdm A λa A↦?_)))
 refine sdo (v := .bool false) A (qe rfl rfl (jn Try.underlying24)) λa A↦?_
 refine qb (hK5 _ _ (wp_cond_false (A.ev rfl) ?_))
 refine wp_skip (hK4 _ _ (wsk fun K6 hK6 => wrl (sdm A λa A↦?_)))
 refine sdo A (qu rfl) λa A↦?_
 refine sdo (v := .pointer (some ⟨h, 0, none⟩)) A (qd HbE_fld_63_0 rfl rfl) λa A↦?_
 refine sdo A (qh M HbE_is1_57 rfl 1 rfl rfl) λa A↦?_
 refine sdm A λa A↦?_
 have hn7 : atK x (os.map Ob.en) = none := by rw [vh, Option.isSome_eq_false_iff.1 hxs |> Option.isNone_iff_eq_none.1]; rfl
 refine sdo (v := .tuple #[.agg #[.int .i64 0, .slice none 0 0], .bool false]) A (ut (zv := .agg #[.int .i64 0, .slice none 0 0]) M Try.underlying57 Try.underlying3 (by kernel_rfl) rfl rfl 2 rfl hn7 rfl) λa A↦?_
 refine sdm A λa A↦?_
 iterate 2 refine sdo A (qk (vs := [.agg #[.int .i64 0, .slice none 0 0], .bool false]) rfl rfl) λa A↦?_
 refine qt (vs := [.int .i64 0, .slice none 0 0]) (t := 70) A M rfl rfl rfl pg (ql (z := .agg #[.int .i64 0, .slice none 0 0]) (by kernel_rfl) rfl) (by decide) ?_
 intro g8 w9 M a A
 refine qs (us := [.int .i64 0, .slice none 0 0]) (L' := (.obj g8 (.cells #[.int .i64 0, .slice none 0 0] 70) :: .obj g2 (.cells #[.int .i64 0, .slice none 0 0] 70) :: .obj h (.cells #[.map (some m), .int .i64 (((last : Nat) : Int)), .int .i64 (((ss : Nat) : Int)), .slice sg gs.length sc, .int .i64 (((ls : Nat) : Int)), .slice lg gl.length lc] 63) :: .obj m (qc (os.map Ob.en) last) :: .row 88 2 (.slice sg gs.length sc) gs.length (qa gs) :: .row 88 2 (.slice lg gl.length lc) gl.length (qa gl) :: T)) A M rfl rfl (qo rfl rfl rfl (by kernel_rfl) M 0 rfl rfl rfl) 0 rfl rfl rfl ?_
 intro w10 M
 refine sda A λa A↦?_
 refine qb (hK6 _ _ (wsk fun K11 hK11 => wsk fun K12 hK12 => wrl (sdm A λa A↦?_)))
 refine sdo (v := .bool true) A (zf rfl zm) λa A↦?_
 refine qb (hK12 _ _ (wp_cond_true (A.ev rfl) ?_))
 refine wsk fun K13 hK13 => wrl (sdo (v := .agg #[.int .i64 0, .slice none 0 0]) A (zq rfl (fun w => by kernel_rfl)) λa A↦?_)
 refine qs (us := [.int .i64 0, .slice none 0 0]) (L' := (.obj g8 (.cells #[.int .i64 0, .slice none 0 0] 70) :: .obj g2 (.cells #[.int .i64 0, .slice none 0 0] 70) :: .obj h (.cells #[.map (some m), .int .i64 (((last : Nat) : Int)), .int .i64 (((ss : Nat) : Int)), .slice sg gs.length sc, .int .i64 (((ls : Nat) : Int)), .slice lg gl.length lc] 63) :: .obj m (qc (os.map Ob.en) last) :: .row 88 2 (.slice sg gs.length sc) gs.length (qa gs) :: .row 88 2 (.slice lg gl.length lc) gl.length (qa gl) :: T)) A M rfl rfl (qo rfl rfl rfl (by kernel_rfl) M 1 rfl rfl rfl) 1 rfl rfl rfl ?_
 intro w14 M
 refine sda A λa A↦?_
 refine qb (hK13 _ _ (wp_ret (hret _ _ (en2 A rfl (zk M HbE_isS_70 rfl 1 rfl (cs := [.int .i64 0, .slice none 0 0]) rfl rfl) (qi rfl) ?_))))
 replace M : Mg w0 w14 (.row 88 2 (.slice lg gl.length lc) gl.length (qa gl) :: .obj g8 (.cells #[.int .i64 0, .slice none 0 0] 70) :: .obj g2 (.cells #[.int .i64 0, .slice none 0 0] 70) :: .obj h (.cells #[.map (some m), .int .i64 (((last : Nat) : Int)), .int .i64 (((ss : Nat) : Int)), .slice sg gs.length sc, .int .i64 (((ls : Nat) : Int)), .slice lg gl.length lc] 63) :: .obj m (qc (os.map Ob.en) last) :: .row 88 2 (.slice sg gs.length sc) gs.length (qa gs) :: T) := M.bring 5 rfl rfl
 replace M : Mg w0 w14 (.row 88 2 (.slice sg gs.length sc) gs.length (qa gs) :: .row 88 2 (.slice lg gl.length lc) gl.length (qa gl) :: .obj g8 (.cells #[.int .i64 0, .slice none 0 0] 70) :: .obj g2 (.cells #[.int .i64 0, .slice none 0 0] 70) :: .obj h (.cells #[.map (some m), .int .i64 (((last : Nat) : Int)), .int .i64 (((ss : Nat) : Int)), .slice sg gs.length sc, .int .i64 (((ls : Nat) : Int)), .slice lg gl.length lc] 63) :: .obj m (qc (os.map Ob.en) last) :: T) := M.bring 5 rfl rfl
 replace M : Mg w0 w14 (.obj m (qc (os.map Ob.en) last) :: .row 88 2 (.slice sg gs.length sc) gs.length (qa gs) :: .row 88 2 (.slice lg gl.length lc) gl.length (qa gl) :: .obj g8 (.cells #[.int .i64 0, .slice none 0 0] 70) :: .obj g2 (.cells #[.int .i64 0, .slice none 0 0] 70) :: .obj h (.cells #[.map (some m), .int .i64 (((last : Nat) : Int)), .int .i64 (((ss : Nat) : Int)), .slice sg gs.length sc, .int .i64 (((ls : Nat) : Int)), .slice lg gl.length lc] 63) :: T) := M.bring 5 rfl rfl
 replace M : Mg w0 w14 (.obj h (.cells #[.map (some m), .int .i64 (((last : Nat) : Int)), .int .i64 (((ss : Nat) : Int)), .slice sg gs.length sc, .int .i64 (((ls : Nat) : Int)), .slice lg gl.length lc] 63) :: .obj m (qc (os.map Ob.en) last) :: .row 88 2 (.slice sg gs.length sc) gs.length (qa gs) :: .row 88 2 (.slice lg gl.length lc) gl.length (qa gl) :: .obj g8 (.cells #[.int .i64 0, .slice none 0 0] 70) :: .obj g2 (.cells #[.int .i64 0, .slice none 0 0] 70) :: T) := M.bring 5 rfl rfl
 replace M : Mg w0 w14 (.obj h (.cells #[.map (some m), .int .i64 (((last : Nat) : Int)), .int .i64 (((ss : Nat) : Int)), .slice sg gs.length sc, .int .i64 (((ls : Nat) : Int)), .slice lg gl.length lc] 63) :: .obj m (qc (os.map Ob.en) last) :: .row 88 2 (.slice sg gs.length sc) gs.length (qa gs) :: .row 88 2 (.slice lg gl.length lc) gl.length (qa gl) :: T) := by
  have h9 := M.sub (cc (cc (cc (cc (cn (cn (.refl _)))))))
  exact h9
 exact ⟨rfl, M⟩
theorem HbF_is1_3 : Is1 Try.prog 3 := ⟨⟨_, Try.underlying3, rfl⟩, by kernel_rfl⟩
theorem HbF_is1_33 : Is1 Try.prog 33 := ⟨⟨_, Try.underlying33, rfl⟩, by kernel_rfl⟩
theorem HbF_is1_4 : Is1 Try.prog 4 := ⟨⟨_, Try.underlying4, rfl⟩, by kernel_rfl⟩
theorem HbF_is1_57 : Is1 Try.prog 57 := ⟨⟨_, Try.underlying57, rfl⟩, by kernel_rfl⟩
theorem HbF_is1_68 : Is1 Try.prog 68 := ⟨⟨_, Try.underlying68, rfl⟩, by kernel_rfl⟩
theorem HbF_is1_78 : Is1 Try.prog 78 := ⟨⟨_, Try.underlying78, rfl⟩, by kernel_rfl⟩
theorem HbF_fld_32_0 : FieldAt Try.prog 32 0 0 := ⟨_, _, Try.underlying32, rfl, rfl, by kernel_rfl⟩
theorem HbF_fld_32_1 : FieldAt Try.prog 32 1 1 := ⟨_, _, Try.underlying32, rfl, rfl, by kernel_rfl⟩
theorem HbF_fld_63_0 : FieldAt Try.prog 63 0 0 := ⟨_, _, Try.underlying63, rfl, rfl, by kernel_rfl⟩
theorem HbF_isS_32 : IsS Try.prog 32 2 := ⟨⟨_, Try.underlying32⟩, by kernel_rfl⟩
theorem qfg {w0 w : World} {x : Int} {b1 b2 fm wc : Nat} {wo : Option Addr} {ws : List Int} {T : List Ck} (hwl : ws.length ≤ 1000000) (hM0 : Mg w0 w (.obj b1 (.cells #[.map (some fm)] 78) :: .obj b2 (.cells #[.slice wo ws.length wc] 33) :: .obj fm (qc (mkE 0 ws) ws.length) :: .row 3 1 (.slice wo ws.length wc) ws.length (qg ws) :: T)) : Calls Try.prog 46 #[.int .i64 x, .pointer (some ⟨b1, 0, none⟩), .pointer (some ⟨b2, 0, none⟩)] w fun e w' => ∃ wo' wc', e = .returned (.tuple #[]) ∧ Mg w0 w' (.obj b1 (.cells #[.map (some fm)] 78) :: .obj b2 (.cells #[.slice wo' ((vis ws x).length) wc'] 33) :: .obj fm (qc (mkE 0 (vis ws x)) ((vis ws x).length)) :: .row 3 1 (.slice wo' ((vis ws x).length) wc') ((vis ws x).length) (qg (vis ws x)) :: T) := by
 have M : Mg w0 w (.obj b1 (.cells #[.map (some fm)] 78) :: .obj b2 (.cells #[.slice wo ws.length wc] 33) :: .obj fm (qc (mkE 0 ws) ws.length) :: .row 3 1 (.slice wo ws.length wc) ws.length (qg ws) :: T) := hM0
 refine qp (l := [(0, .int .i64 x), (1, .pointer (some ⟨b1, 0, none⟩)), (2, .pointer (some ⟨b2, 0, none⟩))]) Try.func46 rfl Try.ntmps46 rfl rfl ?_
 intro Q hret hnorm hP a A
 refine wsk fun K1 hK1 => wrl (sdo A (qh M HbF_is1_78 rfl 0 rfl rfl) λa A↦?_)
 refine sdm A λa A↦?_
 rcases tf (decide (x ∈ ws)) with hb2 | hb2
 ·
  obtain ⟨e3, he4, hv5⟩ := qha (i := 0) (of_decide_eq_true hb2)
  refine sdo (v := .tuple #[.agg #[], .bool true]) A (kh M Try.underlying78 Try.underlying3 rfl rfl 2 rfl he4 (by rw [hv5]; rfl)) λa A↦?_
  refine sdm A λa A↦?_
  iterate 2 refine sdo A (qk (vs := [.agg #[], .bool true]) rfl rfl) λa A↦?_
  refine qt (vs := []) (t := 94) A M rfl rfl rfl pg (ql (z := .agg #[]) (by kernel_rfl) rfl) (by decide) ?_
  intro g6 w7 M a A
  refine qs (us := []) (L' := (.obj g6 (.cells #[] 94) :: .obj b1 (.cells #[.map (some fm)] 78) :: .obj b2 (.cells #[.slice wo ws.length wc] 33) :: .obj fm (qc (mkE 0 ws) ws.length) :: .row 3 1 (.slice wo ws.length wc) ws.length (qg ws) :: T)) A M rfl rfl (qo rfl rfl rfl (by kernel_rfl) M 0 rfl rfl rfl) 0 rfl rfl rfl ?_
  intro w8 M
  refine sda A λa A↦?_
  refine qb (hK1 _ _ (wsk fun K9 hK9 => wrl (sdm A λa A↦?_)))
  rcases tf ((x != 0)) with hb10 | hb10
  ·
   have hb10' := bne_iff_ne.1 hb10
   refine sdc A jd hb10 λa A↦?_
   iterate 2 refine sdm A λa A↦?_
   refine sdo (v := .bool false) A (zf rfl zm) λa A↦?_
   refine sdk (v := .bool false) A λa A↦?_
   refine qb (hK9 _ _ (wp_cond_false (A.ev rfl) ?_))
   refine wp_skip (hnorm _ _ (kx (v := .tuple #[]) A rfl .nil rfl ?_))
   replace M : Mg w0 w8 (.row 3 1 (.slice wo ws.length wc) ws.length (qg ws) :: .obj g6 (.cells #[] 94) :: .obj b1 (.cells #[.map (some fm)] 78) :: .obj b2 (.cells #[.slice wo ws.length wc] 33) :: .obj fm (qc (mkE 0 ws) ws.length) :: T) := M.bring 4 rfl rfl
   replace M : Mg w0 w8 (.obj fm (qc (mkE 0 ws) ws.length) :: .row 3 1 (.slice wo ws.length wc) ws.length (qg ws) :: .obj g6 (.cells #[] 94) :: .obj b1 (.cells #[.map (some fm)] 78) :: .obj b2 (.cells #[.slice wo ws.length wc] 33) :: T) := M.bring 4 rfl rfl
   replace M : Mg w0 w8 (.obj b2 (.cells #[.slice wo ws.length wc] 33) :: .obj fm (qc (mkE 0 ws) ws.length) :: .row 3 1 (.slice wo ws.length wc) ws.length (qg ws) :: .obj g6 (.cells #[] 94) :: .obj b1 (.cells #[.map (some fm)] 78) :: T) := M.bring 4 rfl rfl
   replace M : Mg w0 w8 (.obj b1 (.cells #[.map (some fm)] 78) :: .obj b2 (.cells #[.slice wo ws.length wc] 33) :: .obj fm (qc (mkE 0 ws) ws.length) :: .row 3 1 (.slice wo ws.length wc) ws.length (qg ws) :: .obj g6 (.cells #[] 94) :: T) := M.bring 4 rfl rfl
   replace M : Mg w0 w8 (.obj b1 (.cells #[.map (some fm)] 78) :: .obj b2 (.cells #[.slice wo ws.length wc] 33) :: .obj fm (qc (mkE 0 ws) ws.length) :: .row 3 1 (.slice wo ws.length wc) ws.length (qg ws) :: T) := by
    have h9 := M.sub (cc (cc (cc (cc (cn (.refl _))))))
    exact h9
   have e9 : vis ws x = ws := by unfold vis; rw [if_neg (fun k => k.2 (of_decide_eq_true hb2))]
   refine ⟨wo, wc, rfl, ?_⟩
   rw [e9]
   exact M
  ·
   have hb10' := bne_eq_false_iff_eq.1 hb10
   refine sdc A jd hb10 λa A↦?_
   refine sdm A λa A↦?_
   iterate 2 refine zj A rfl rfl rfl λa A↦?_
   refine sdk (v := .bool false) A λa A↦?_
   refine qb (hK9 _ _ (wp_cond_false (A.ev rfl) ?_))
   refine wp_skip (hnorm _ _ (kx (v := .tuple #[]) A rfl .nil rfl ?_))
   replace M : Mg w0 w8 (.row 3 1 (.slice wo ws.length wc) ws.length (qg ws) :: .obj g6 (.cells #[] 94) :: .obj b1 (.cells #[.map (some fm)] 78) :: .obj b2 (.cells #[.slice wo ws.length wc] 33) :: .obj fm (qc (mkE 0 ws) ws.length) :: T) := M.bring 4 rfl rfl
   replace M : Mg w0 w8 (.obj fm (qc (mkE 0 ws) ws.length) :: .row 3 1 (.slice wo ws.length wc) ws.length (qg ws) :: .obj g6 (.cells #[] 94) :: .obj b1 (.cells #[.map (some fm)] 78) :: .obj b2 (.cells #[.slice wo ws.length wc] 33) :: T) := M.bring 4 rfl rfl
   replace M : Mg w0 w8 (.obj b2 (.cells #[.slice wo ws.length wc] 33) :: .obj fm (qc (mkE 0 ws) ws.length) :: .row 3 1 (.slice wo ws.length wc) ws.length (qg ws) :: .obj g6 (.cells #[] 94) :: .obj b1 (.cells #[.map (some fm)] 78) :: T) := M.bring 4 rfl rfl
   replace M : Mg w0 w8 (.obj b1 (.cells #[.map (some fm)] 78) :: .obj b2 (.cells #[.slice wo ws.length wc] 33) :: .obj fm (qc (mkE 0 ws) ws.length) :: .row 3 1 (.slice wo ws.length wc) ws.length (qg ws) :: .obj g6 (.cells #[] 94) :: T) := M.bring 4 rfl rfl
   replace M : Mg w0 w8 (.obj b1 (.cells #[.map (some fm)] 78) :: .obj b2 (.cells #[.slice wo ws.length wc] 33) :: .obj fm (qc (mkE 0 ws) ws.length) :: .row 3 1 (.slice wo ws.length wc) ws.length (qg ws) :: T) := by
    have h9 := M.sub (cc (cc (cc (cc (cn (.refl _))))))
    exact h9
   have e9 : vis ws x = ws := by unfold vis; rw [if_neg (fun k => k.2 (of_decide_eq_true hb2))]
   refine ⟨wo, wc, rfl, ?_⟩
   rw [e9]
   exact M
 ·
  refine sdo (v := .tuple #[.agg #[], .bool false]) A (ut (zv := .agg #[]) M Try.underlying78 Try.underlying3 (by kernel_rfl) rfl rfl 2 rfl (yn (of_decide_eq_false hb2)) rfl) λa A↦?_
  refine sdm A λa A↦?_
  iterate 2 refine sdo A (qk (vs := [.agg #[], .bool false]) rfl rfl) λa A↦?_
  refine qt (vs := []) (t := 94) A M rfl rfl rfl pg (ql (z := .agg #[]) (by kernel_rfl) rfl) (by decide) ?_
  intro g11 w12 M a A
  refine qs (us := []) (L' := (.obj g11 (.cells #[] 94) :: .obj b1 (.cells #[.map (some fm)] 78) :: .obj b2 (.cells #[.slice wo ws.length wc] 33) :: .obj fm (qc (mkE 0 ws) ws.length) :: .row 3 1 (.slice wo ws.length wc) ws.length (qg ws) :: T)) A M rfl rfl (qo rfl rfl rfl (by kernel_rfl) M 0 rfl rfl rfl) 0 rfl rfl rfl ?_
  intro w13 M
  refine sda A λa A↦?_
  refine qb (hK1 _ _ (wsk fun K14 hK14 => wrl (sdm A λa A↦?_)))
  rcases tf ((x != 0)) with hb15 | hb15
  ·
   have hb15' := bne_iff_ne.1 hb15
   refine sdc A jd hb15 λa A↦?_
   iterate 2 refine sdm A λa A↦?_
   refine sdo (v := .bool true) A (zf rfl zm) λa A↦?_
   refine sdk (v := .bool true) A λa A↦?_
   refine qb (hK14 _ _ (wp_cond_true (A.ev rfl) ?_))
   refine wsk fun K16 hK16 => wrl (sdo A (qh M HbF_is1_78 rfl 1 rfl rfl) λa A↦?_)
   refine sdm A λa A↦?_
   refine sdo (v := .agg #[]) A (zq rfl (fun w => by kernel_rfl)) λa A↦?_
   refine s_setObj (L' := (.obj g11 (.cells #[] 94) :: .obj b1 (.cells #[.map (some fm)] 78) :: .obj b2 (.cells #[.slice wo ws.length wc] 33) :: .obj fm (qc (mkE 0 ws ++ [⟨x, .agg #[], ws.length⟩]) (ws.length + 1)) :: .row 3 1 (.slice wo ws.length wc) ws.length (qg ws) :: T)) A M rfl rfl (qad M Try.underlying78 Try.underlying3 rfl rfl rfl 3 rfl (yn (of_decide_eq_false hb2))) 3 rfl (xo _ _) rfl ?_
   intro w17 M
   replace M : Mg w0 w17 (.obj g11 (.cells #[] 94) :: .obj b1 (.cells #[.map (some fm)] 78) :: .obj b2 (.cells #[.slice wo ws.length wc] 33) :: .obj fm (qc (mkE 0 (ws ++ [x])) (ws.length + 1)) :: .row 3 1 (.slice wo ws.length wc) ws.length (qg ws) :: T) := by rw [qjd, Nat.zero_add]; exact M
   refine qb (hK16 _ _ (wrl (sdo A (qh M HbF_is1_33 rfl 2 rfl rfl) λa A↦?_)))
   refine sdm A λa A↦?_
   refine jm (e := 3) (sz := 1) (m := 1) (vs := qg [x]) A M rfl rfl rfl (qx rfl (by kernel_rfl)) rfl rfl (.inl (by decide)) ?_
   intro g18 w19 M a A
   refine zz (e := 3) (sz := 1) (k := 5) (q := ws.length) (m := 1) (xs := qg ws) (news := qg [x]) (L' := fun v20 => (.row 3 1 (.slice (some ⟨g18, 0, none⟩) 1 1) 1 (qg [x]) :: .obj g11 (.cells #[] 94) :: .obj b1 (.cells #[.map (some fm)] 78) :: .obj b2 (.cells #[.slice wo ws.length wc] 33) :: .obj fm (qc (mkE 0 (ws ++ [x])) (ws.length + 1)) :: .row 3 1 (v20) (ws.length + 1) (qg ws ++ qg [x]) :: T)) A rfl rfl rfl (xn (z := .int .i64 0) (sz := 1) (by_ := 8) Try.underlying33 (by kernel_rfl) rfl rfl rfl M 5 rfl rfl 0 rfl rfl rfl rfl (by omega)) (fun _ => rfl) ?_
   intro v20 w21 M a A
   replace M : Mg w0 w21 (.row 3 1 (.slice (some ⟨g18, 0, none⟩) 1 1) 1 (qg [x]) :: .obj g11 (.cells #[] 94) :: .obj b1 (.cells #[.map (some fm)] 78) :: .obj b2 (.cells #[.slice wo ws.length wc] 33) :: .obj fm (qc (mkE 0 (ws ++ [x])) (ws.length + 1)) :: .row 3 1 (v20) (ws.length + 1) (qg (ws ++ [x])) :: T) := by rw [vq]; exact M
   obtain ⟨so22, ca23, rfl⟩ := zx (M.has 5 rfl)
   refine qs (us := [.slice so22 (ws.length + 1) ca23]) (L' := (.row 3 1 (.slice (some ⟨g18, 0, none⟩) 1 1) 1 (qg [x]) :: .obj g11 (.cells #[] 94) :: .obj b1 (.cells #[.map (some fm)] 78) :: .obj b2 (.cells #[.slice so22 (ws.length + 1) ca23] 33) :: .obj fm (qc (mkE 0 (ws ++ [x])) (ws.length + 1)) :: .row 3 1 (.slice so22 (ws.length + 1) ca23) (ws.length + 1) (qg (ws ++ [x])) :: T)) A M rfl rfl (qo rfl rfl rfl (by kernel_rfl) M 3 rfl rfl rfl) 3 rfl rfl rfl ?_
   intro w24 M
   refine qb (hnorm _ _ (kx (v := .tuple #[]) A rfl .nil rfl ?_))
   replace M : Mg w0 w24 (.row 3 1 (.slice so22 (ws.length + 1) ca23) (ws.length + 1) (qg (ws ++ [x])) :: .row 3 1 (.slice (some ⟨g18, 0, none⟩) 1 1) 1 (qg [x]) :: .obj g11 (.cells #[] 94) :: .obj b1 (.cells #[.map (some fm)] 78) :: .obj b2 (.cells #[.slice so22 (ws.length + 1) ca23] 33) :: .obj fm (qc (mkE 0 (ws ++ [x])) (ws.length + 1)) :: T) := M.bring 5 rfl rfl
   replace M : Mg w0 w24 (.obj fm (qc (mkE 0 (ws ++ [x])) (ws.length + 1)) :: .row 3 1 (.slice so22 (ws.length + 1) ca23) (ws.length + 1) (qg (ws ++ [x])) :: .row 3 1 (.slice (some ⟨g18, 0, none⟩) 1 1) 1 (qg [x]) :: .obj g11 (.cells #[] 94) :: .obj b1 (.cells #[.map (some fm)] 78) :: .obj b2 (.cells #[.slice so22 (ws.length + 1) ca23] 33) :: T) := M.bring 5 rfl rfl
   replace M : Mg w0 w24 (.obj b2 (.cells #[.slice so22 (ws.length + 1) ca23] 33) :: .obj fm (qc (mkE 0 (ws ++ [x])) (ws.length + 1)) :: .row 3 1 (.slice so22 (ws.length + 1) ca23) (ws.length + 1) (qg (ws ++ [x])) :: .row 3 1 (.slice (some ⟨g18, 0, none⟩) 1 1) 1 (qg [x]) :: .obj g11 (.cells #[] 94) :: .obj b1 (.cells #[.map (some fm)] 78) :: T) := M.bring 5 rfl rfl
   replace M : Mg w0 w24 (.obj b1 (.cells #[.map (some fm)] 78) :: .obj b2 (.cells #[.slice so22 (ws.length + 1) ca23] 33) :: .obj fm (qc (mkE 0 (ws ++ [x])) (ws.length + 1)) :: .row 3 1 (.slice so22 (ws.length + 1) ca23) (ws.length + 1) (qg (ws ++ [x])) :: .row 3 1 (.slice (some ⟨g18, 0, none⟩) 1 1) 1 (qg [x]) :: .obj g11 (.cells #[] 94) :: T) := M.bring 5 rfl rfl
   replace M : Mg w0 w24 (.obj b1 (.cells #[.map (some fm)] 78) :: .obj b2 (.cells #[.slice so22 (ws.length + 1) ca23] 33) :: .obj fm (qc (mkE 0 (ws ++ [x])) (ws.length + 1)) :: .row 3 1 (.slice so22 (ws.length + 1) ca23) (ws.length + 1) (qg (ws ++ [x])) :: T) := by
    have h9 := M.sub (cc (cc (cc (cc (cn (cn (.refl _)))))))
    exact h9
   have e9 : vis ws x = ws ++ [x] := by unfold vis; rw [if_pos ⟨hb15', of_decide_eq_false hb2⟩]
   refine ⟨so22, ca23, rfl, ?_⟩
   rw [e9, show (ws ++ [x]).length = ws.length + 1 from by simp]
   exact M
  ·
   have hb15' := bne_eq_false_iff_eq.1 hb15
   refine sdc A jd hb15 λa A↦?_
   refine sdm A λa A↦?_
   iterate 2 refine zj A rfl rfl rfl λa A↦?_
   refine sdk (v := .bool false) A λa A↦?_
   refine qb (hK14 _ _ (wp_cond_false (A.ev rfl) ?_))
   refine wp_skip (hnorm _ _ (kx (v := .tuple #[]) A rfl .nil rfl ?_))
   replace M : Mg w0 w13 (.row 3 1 (.slice wo ws.length wc) ws.length (qg ws) :: .obj g11 (.cells #[] 94) :: .obj b1 (.cells #[.map (some fm)] 78) :: .obj b2 (.cells #[.slice wo ws.length wc] 33) :: .obj fm (qc (mkE 0 ws) ws.length) :: T) := M.bring 4 rfl rfl
   replace M : Mg w0 w13 (.obj fm (qc (mkE 0 ws) ws.length) :: .row 3 1 (.slice wo ws.length wc) ws.length (qg ws) :: .obj g11 (.cells #[] 94) :: .obj b1 (.cells #[.map (some fm)] 78) :: .obj b2 (.cells #[.slice wo ws.length wc] 33) :: T) := M.bring 4 rfl rfl
   replace M : Mg w0 w13 (.obj b2 (.cells #[.slice wo ws.length wc] 33) :: .obj fm (qc (mkE 0 ws) ws.length) :: .row 3 1 (.slice wo ws.length wc) ws.length (qg ws) :: .obj g11 (.cells #[] 94) :: .obj b1 (.cells #[.map (some fm)] 78) :: T) := M.bring 4 rfl rfl
   replace M : Mg w0 w13 (.obj b1 (.cells #[.map (some fm)] 78) :: .obj b2 (.cells #[.slice wo ws.length wc] 33) :: .obj fm (qc (mkE 0 ws) ws.length) :: .row 3 1 (.slice wo ws.length wc) ws.length (qg ws) :: .obj g11 (.cells #[] 94) :: T) := M.bring 4 rfl rfl
   replace M : Mg w0 w13 (.obj b1 (.cells #[.map (some fm)] 78) :: .obj b2 (.cells #[.slice wo ws.length wc] 33) :: .obj fm (qc (mkE 0 ws) ws.length) :: .row 3 1 (.slice wo ws.length wc) ws.length (qg ws) :: T) := by
    have h9 := M.sub (cc (cc (cc (cc (cn (.refl _))))))
    exact h9
   have e9 : vis ws x = ws := by unfold vis; rw [if_neg (fun k => k.1 hb15')]
   refine ⟨wo, wc, rfl, ?_⟩
   rw [e9]
   exact M
theorem qla {w0 w : World} {h m last ss ls sc lc : Nat} {sg lg : Option Addr} {gs gl : List (Nat × Nat)} {os : List Ob} {X : List Ck} {rs : List Int} {ro : Option Addr} {rc : Nat} (hnT : zu (os.map Ob.row ++ X)) (hol : os.length ≤ 1000000) (hcl : ∀ o ∈ os, o.ws.length ≤ 1000000) (hrf : Refs os) (hrl : rs.length ≤ 17592186044416) (hrs : ∀ r ∈ rs, r = 0 ∨ (fO r os).isSome = true) (hM0 : Mg w0 w (.obj h (.cells #[.map (some m), .int .i64 (((last : Nat) : Int)), .int .i64 (((ss : Nat) : Int)), .slice sg gs.length sc, .int .i64 (((ls : Nat) : Int)), .slice lg gl.length lc] 63) :: .obj m (qc (os.map Ob.en) last) :: .row 88 2 (.slice sg gs.length sc) gs.length (qa gs) :: .row 88 2 (.slice lg gl.length lc) gl.length (qa gl) :: .row 3 1 (.slice ro rs.length rc) rs.length (qg rs) :: (os.map Ob.row ++ X))) : Calls Try.prog 33 #[.pointer (some ⟨h, 0, none⟩), .slice ro rs.length rc] w fun e w' => ∃ fm ws, e = .returned (.map (some fm)) ∧ (Vs os rs ws ∧ ∀ x, x ∈ ws ↔ Rc os rs x) ∧ Mg w0 w' (.obj h (.cells #[.map (some m), .int .i64 (((last : Nat) : Int)), .int .i64 (((ss : Nat) : Int)), .slice sg gs.length sc, .int .i64 (((ls : Nat) : Int)), .slice lg gl.length lc] 63) :: .obj m (qc (os.map Ob.en) last) :: .row 88 2 (.slice sg gs.length sc) gs.length (qa gs) :: .row 88 2 (.slice lg gl.length lc) gl.length (qa gl) :: .row 3 1 (.slice ro rs.length rc) rs.length (qg rs) :: .obj fm (qc (mkE 0 ws) ws.length) :: (os.map Ob.row ++ X)) := by
 have M : Mg w0 w (.obj h (.cells #[.map (some m), .int .i64 (((last : Nat) : Int)), .int .i64 (((ss : Nat) : Int)), .slice sg gs.length sc, .int .i64 (((ls : Nat) : Int)), .slice lg gl.length lc] 63) :: .obj m (qc (os.map Ob.en) last) :: .row 88 2 (.slice sg gs.length sc) gs.length (qa gs) :: .row 88 2 (.slice lg gl.length lc) gl.length (qa gl) :: .row 3 1 (.slice ro rs.length rc) rs.length (qg rs) :: (os.map Ob.row ++ X)) := hM0
 refine qp (l := [(0, .pointer (some ⟨h, 0, none⟩)), (1, .slice ro rs.length rc)]) Try.func33 rfl Try.ntmps33 rfl rfl ?_
 intro Q hret hnorm hP a A
 refine wsk fun K1 hK1 => wrl (sda A λa A↦?_)
 refine qb (hK1 _ _ (wsk fun K2 hK2 => wrl (ub A M rfl rfl rfl rfl ?_)))
 intro g3 w4 M a A
 refine qt (vs := [.map none]) (t := 78) A M rfl rfl rfl pg (ql (z := .map none) (by kernel_rfl) rfl) (by decide) ?_
 intro g5 w6 M a A
 refine qs (us := [.map (some g3)]) (L' := (.obj g5 (.cells #[.map (some g3)] 78) :: .obj g3 (qc ([]) 0) :: .obj h (.cells #[.map (some m), .int .i64 (((last : Nat) : Int)), .int .i64 (((ss : Nat) : Int)), .slice sg gs.length sc, .int .i64 (((ls : Nat) : Int)), .slice lg gl.length lc] 63) :: .obj m (qc (os.map Ob.en) last) :: .row 88 2 (.slice sg gs.length sc) gs.length (qa gs) :: .row 88 2 (.slice lg gl.length lc) gl.length (qa gl) :: .row 3 1 (.slice ro rs.length rc) rs.length (qg rs) :: (os.map Ob.row ++ X))) A M rfl rfl (qo rfl rfl rfl (by kernel_rfl) M 0 rfl rfl rfl) 0 rfl rfl rfl ?_
 intro w7 M
 refine qb (hK2 _ _ (wsk fun K8 hK8 => wrl (qt (vs := [.slice none 0 0]) (t := 33) A M rfl rfl rfl pg (ql (z := .slice none 0 0) (by kernel_rfl) rfl) (by decide) ?_)))
 intro g9 w10 M a A
 refine qb (hK8 _ _ (wsk fun K11 hK11 => wrl (sdo (v := .func (.func 46) #[] [.pointer (some ⟨g5, 0, none⟩), .pointer (some ⟨g9, 0, none⟩)].toArray) A (jw rfl) λa A↦?_)))
 refine sda A λa A↦?_
 refine qb (hK11 _ _ (wsk fun K12 hK12 => wsk fun K13 hK13 => wrl (sdm A λa A↦?_)))
 refine sdo A (qv Try.underlying33 rfl) λa A↦?_
 refine sdm A λa A↦?_
 refine qb (hK13 _ _ (wp_block ?_))
 replace M := M.nilRowH (qj (by simp) (qj (by simp) (qj (by simp) (qj (by simp) (qj (by simp) (qj (by simp) (qj (by simp) (qj (by simp) hnT)))))))) 3 1
 replace M : Mg w0 w10 (.obj g3 (qc ([]) 0) :: .row 3 1 (.slice none 0 0) 0 (qg []) :: .obj g9 (.cells #[.slice none 0 0] 33) :: .obj g5 (.cells #[.map (some g3)] 78) :: .obj h (.cells #[.map (some m), .int .i64 (((last : Nat) : Int)), .int .i64 (((ss : Nat) : Int)), .slice sg gs.length sc, .int .i64 (((ls : Nat) : Int)), .slice lg gl.length lc] 63) :: .obj m (qc (os.map Ob.en) last) :: .row 88 2 (.slice sg gs.length sc) gs.length (qa gs) :: .row 88 2 (.slice lg gl.length lc) gl.length (qa gl) :: .row 3 1 (.slice ro rs.length rc) rs.length (qg rs) :: (os.map Ob.row ++ X)) := M.bring 3 rfl rfl
 replace M : Mg w0 w10 (.obj g9 (.cells #[.slice none 0 0] 33) :: .obj g3 (qc ([]) 0) :: .row 3 1 (.slice none 0 0) 0 (qg []) :: .obj g5 (.cells #[.map (some g3)] 78) :: .obj h (.cells #[.map (some m), .int .i64 (((last : Nat) : Int)), .int .i64 (((ss : Nat) : Int)), .slice sg gs.length sc, .int .i64 (((ls : Nat) : Int)), .slice lg gl.length lc] 63) :: .obj m (qc (os.map Ob.en) last) :: .row 88 2 (.slice sg gs.length sc) gs.length (qa gs) :: .row 88 2 (.slice lg gl.length lc) gl.length (qa gl) :: .row 3 1 (.slice ro rs.length rc) rs.length (qg rs) :: (os.map Ob.row ++ X)) := M.bring 2 rfl rfl
 replace M : Mg w0 w10 (.obj g5 (.cells #[.map (some g3)] 78) :: .obj g9 (.cells #[.slice none 0 0] 33) :: .obj g3 (qc ([]) 0) :: .row 3 1 (.slice none 0 0) 0 (qg []) :: .obj h (.cells #[.map (some m), .int .i64 (((last : Nat) : Int)), .int .i64 (((ss : Nat) : Int)), .slice sg gs.length sc, .int .i64 (((ls : Nat) : Int)), .slice lg gl.length lc] 63) :: .obj m (qc (os.map Ob.en) last) :: .row 88 2 (.slice sg gs.length sc) gs.length (qa gs) :: .row 88 2 (.slice lg gl.length lc) gl.length (qa gl) :: .row 3 1 (.slice ro rs.length rc) rs.length (qg rs) :: (os.map Ob.row ++ X)) := M.bring 3 rfl rfl
 replace M : Mg w0 w10 (.row 3 1 (.slice ro rs.length rc) rs.length (qg rs) :: .obj g5 (.cells #[.map (some g3)] 78) :: .obj g9 (.cells #[.slice none 0 0] 33) :: .obj g3 (qc ([]) 0) :: .row 3 1 (.slice none 0 0) 0 (qg []) :: .obj h (.cells #[.map (some m), .int .i64 (((last : Nat) : Int)), .int .i64 (((ss : Nat) : Int)), .slice sg gs.length sc, .int .i64 (((ls : Nat) : Int)), .slice lg gl.length lc] 63) :: .obj m (qc (os.map Ob.en) last) :: .row 88 2 (.slice sg gs.length sc) gs.length (qa gs) :: .row 88 2 (.slice lg gl.length lc) gl.length (qa gl) :: (os.map Ob.row ++ X)) := M.bring 8 rfl rfl
 replace M : Mg w0 w10 (.row 88 2 (.slice lg gl.length lc) gl.length (qa gl) :: .row 3 1 (.slice ro rs.length rc) rs.length (qg rs) :: .obj g5 (.cells #[.map (some g3)] 78) :: .obj g9 (.cells #[.slice none 0 0] 33) :: .obj g3 (qc ([]) 0) :: .row 3 1 (.slice none 0 0) 0 (qg []) :: .obj h (.cells #[.map (some m), .int .i64 (((last : Nat) : Int)), .int .i64 (((ss : Nat) : Int)), .slice sg gs.length sc, .int .i64 (((ls : Nat) : Int)), .slice lg gl.length lc] 63) :: .obj m (qc (os.map Ob.en) last) :: .row 88 2 (.slice sg gs.length sc) gs.length (qa gs) :: (os.map Ob.row ++ X)) := M.bring 8 rfl rfl
 replace M : Mg w0 w10 (.row 88 2 (.slice sg gs.length sc) gs.length (qa gs) :: .row 88 2 (.slice lg gl.length lc) gl.length (qa gl) :: .row 3 1 (.slice ro rs.length rc) rs.length (qg rs) :: .obj g5 (.cells #[.map (some g3)] 78) :: .obj g9 (.cells #[.slice none 0 0] 33) :: .obj g3 (qc ([]) 0) :: .row 3 1 (.slice none 0 0) 0 (qg []) :: .obj h (.cells #[.map (some m), .int .i64 (((last : Nat) : Int)), .int .i64 (((ss : Nat) : Int)), .slice sg gs.length sc, .int .i64 (((ls : Nat) : Int)), .slice lg gl.length lc] 63) :: .obj m (qc (os.map Ob.en) last) :: (os.map Ob.row ++ X)) := M.bring 8 rfl rfl
 replace M : Mg w0 w10 (.obj m (qc (os.map Ob.en) last) :: .row 88 2 (.slice sg gs.length sc) gs.length (qa gs) :: .row 88 2 (.slice lg gl.length lc) gl.length (qa gl) :: .row 3 1 (.slice ro rs.length rc) rs.length (qg rs) :: .obj g5 (.cells #[.map (some g3)] 78) :: .obj g9 (.cells #[.slice none 0 0] 33) :: .obj g3 (qc ([]) 0) :: .row 3 1 (.slice none 0 0) 0 (qg []) :: .obj h (.cells #[.map (some m), .int .i64 (((last : Nat) : Int)), .int .i64 (((ss : Nat) : Int)), .slice sg gs.length sc, .int .i64 (((ls : Nat) : Int)), .slice lg gl.length lc] 63) :: (os.map Ob.row ++ X)) := M.bring 8 rfl rfl
 replace M : Mg w0 w10 (.obj h (.cells #[.map (some m), .int .i64 (((last : Nat) : Int)), .int .i64 (((ss : Nat) : Int)), .slice sg gs.length sc, .int .i64 (((ls : Nat) : Int)), .slice lg gl.length lc] 63) :: .obj m (qc (os.map Ob.en) last) :: .row 88 2 (.slice sg gs.length sc) gs.length (qa gs) :: .row 88 2 (.slice lg gl.length lc) gl.length (qa gl) :: .row 3 1 (.slice ro rs.length rc) rs.length (qg rs) :: .obj g5 (.cells #[.map (some g3)] 78) :: .obj g9 (.cells #[.slice none 0 0] 33) :: .obj g3 (qc ([]) 0) :: .row 3 1 (.slice none 0 0) 0 (qg []) :: (os.map Ob.row ++ X)) := M.bring 8 rfl rfl
 refine zh (fun m_ a w1 => ∃ (i0 : Nat) (ws0 : List Int) (wo0 : Option Addr) (wc0 : Nat), m_ = 1 + (rs.length - i0) ∧ (i0 ≤ rs.length ∧ Vs os rs ws0 ∧ ∀ r ∈ rs.take i0, r ≠ 0 → r ∈ ws0) ∧ Sl a 54 [(0, .pointer (some ⟨h, 0, none⟩)), (1, .slice ro rs.length rc), (4, .map none), (5, .pointer (some ⟨g5, 0, none⟩)), (6, .pointer (some ⟨g9, 0, none⟩)), (7, .func (.func 46) #[] [.pointer (some ⟨g5, 0, none⟩), .pointer (some ⟨g9, 0, none⟩)].toArray), (13, .map (some g3)), (14, .func (.func 46) #[] [.pointer (some ⟨g5, 0, none⟩), .pointer (some ⟨g9, 0, none⟩)].toArray), (15, .slice ro rs.length rc), (16, .int .i64 (((rs.length : Nat) : Int))), (17, .int .i64 (((i0 : Nat) : Int)))] ∧ Mg w0 w1 (.obj h (.cells #[.map (some m), .int .i64 (((last : Nat) : Int)), .int .i64 (((ss : Nat) : Int)), .slice sg gs.length sc, .int .i64 (((ls : Nat) : Int)), .slice lg gl.length lc] 63) :: .obj m (qc (os.map Ob.en) last) :: .row 88 2 (.slice sg gs.length sc) gs.length (qa gs) :: .row 88 2 (.slice lg gl.length lc) gl.length (qa gl) :: .row 3 1 (.slice ro rs.length rc) rs.length (qg rs) :: .obj g5 (.cells #[.map (some g3)] 78) :: .obj g9 (.cells #[.slice wo0 ws0.length wc0] 33) :: .obj g3 (qc (mkE 0 ws0) ws0.length) :: .row 3 1 (.slice wo0 ws0.length wc0) ws0.length (qg ws0) :: (os.map Ob.row ++ X))) _ ⟨0, [], none, 0, rfl, ⟨Nat.zero_le _, Vs.nil, fun r h => by simp at h⟩, A.keep _ (by repeat' constructor), M⟩ ?_
 clear M A
 rintro m_ a w14 ⟨i0, ws0, wo0, wc0, rfl, hinv16, A, M⟩ K15 hK15
 obtain ⟨hi00, hV0, hR0⟩ := hinv16
 have hwl0 := hV0.len
 refine wsk fun K17 hK17 => wrl ?_
 rcases tf (decide (((i0 : Nat) : Int) < ((rs.length : Nat) : Int))) with hb18 | hb18
 ·
  have hb18' := of_decide_eq_true hb18
  refine sdc A qm hb18 λa A↦?_
  refine qb (hK17 _ _ (wsk fun K19 hK19 => wp_cond_true (A.ev rfl) ?_))
  refine wp_skip (hK19 _ _ (wsk fun K20 hK20 => wp_block (wsk fun K21 hK21 => ?_)))
  obtain ⟨gr, hgr⟩ := zy (M.has 4 rfl) (show rs.length ≠ 0 by omega)
  obtain ⟨z, hz⟩ : ∃ z, rs[i0]? = some z := ⟨_, List.getElem?_eq_getElem (show i0 < rs.length by omega)⟩
  refine wrl (sdo (v := .pointer (some ⟨gr, i0 * 1, none⟩)) A (jy (k := i0) Try.underlying33 (by kernel_rfl) rfl rfl rfl hgr (by omega)) λa A↦?_)
  refine sdo (v := .int .i64 z) A (ye (j := i0 * 1) M 4 rfl hgr (by rw [Nat.mul_one]; exact kj hz) HbF_is1_3 rfl) λa A↦?_
  refine sda A λa A↦?_
  refine qb (hK21 _ _ (wrl ?_))
  iterate 2 refine sdm A λa A↦?_
  replace M : Mg w0 w14 (.row 3 1 (.slice wo0 ws0.length wc0) ws0.length (qg ws0) :: .obj h (.cells #[.map (some m), .int .i64 (((last : Nat) : Int)), .int .i64 (((ss : Nat) : Int)), .slice sg gs.length sc, .int .i64 (((ls : Nat) : Int)), .slice lg gl.length lc] 63) :: .obj m (qc (os.map Ob.en) last) :: .row 88 2 (.slice sg gs.length sc) gs.length (qa gs) :: .row 88 2 (.slice lg gl.length lc) gl.length (qa gl) :: .row 3 1 (.slice ro rs.length rc) rs.length (qg rs) :: .obj g5 (.cells #[.map (some g3)] 78) :: .obj g9 (.cells #[.slice wo0 ws0.length wc0] 33) :: .obj g3 (qc (mkE 0 ws0) ws0.length) :: (os.map Ob.row ++ X)) := M.bring 8 rfl rfl
  replace M : Mg w0 w14 (.obj g3 (qc (mkE 0 ws0) ws0.length) :: .row 3 1 (.slice wo0 ws0.length wc0) ws0.length (qg ws0) :: .obj h (.cells #[.map (some m), .int .i64 (((last : Nat) : Int)), .int .i64 (((ss : Nat) : Int)), .slice sg gs.length sc, .int .i64 (((ls : Nat) : Int)), .slice lg gl.length lc] 63) :: .obj m (qc (os.map Ob.en) last) :: .row 88 2 (.slice sg gs.length sc) gs.length (qa gs) :: .row 88 2 (.slice lg gl.length lc) gl.length (qa gl) :: .row 3 1 (.slice ro rs.length rc) rs.length (qg rs) :: .obj g5 (.cells #[.map (some g3)] 78) :: .obj g9 (.cells #[.slice wo0 ws0.length wc0] 33) :: (os.map Ob.row ++ X)) := M.bring 8 rfl rfl
  replace M : Mg w0 w14 (.obj g9 (.cells #[.slice wo0 ws0.length wc0] 33) :: .obj g3 (qc (mkE 0 ws0) ws0.length) :: .row 3 1 (.slice wo0 ws0.length wc0) ws0.length (qg ws0) :: .obj h (.cells #[.map (some m), .int .i64 (((last : Nat) : Int)), .int .i64 (((ss : Nat) : Int)), .slice sg gs.length sc, .int .i64 (((ls : Nat) : Int)), .slice lg gl.length lc] 63) :: .obj m (qc (os.map Ob.en) last) :: .row 88 2 (.slice sg gs.length sc) gs.length (qa gs) :: .row 88 2 (.slice lg gl.length lc) gl.length (qa gl) :: .row 3 1 (.slice ro rs.length rc) rs.length (qg rs) :: .obj g5 (.cells #[.map (some g3)] 78) :: (os.map Ob.row ++ X)) := M.bring 8 rfl rfl
  replace M : Mg w0 w14 (.obj g5 (.cells #[.map (some g3)] 78) :: .obj g9 (.cells #[.slice wo0 ws0.length wc0] 33) :: .obj g3 (qc (mkE 0 ws0) ws0.length) :: .row 3 1 (.slice wo0 ws0.length wc0) ws0.length (qg ws0) :: .obj h (.cells #[.map (some m), .int .i64 (((last : Nat) : Int)), .int .i64 (((ss : Nat) : Int)), .slice sg gs.length sc, .int .i64 (((ls : Nat) : Int)), .slice lg gl.length lc] 63) :: .obj m (qc (os.map Ob.en) last) :: .row 88 2 (.slice sg gs.length sc) gs.length (qa gs) :: .row 88 2 (.slice lg gl.length lc) gl.length (qa gl) :: .row 3 1 (.slice ro rs.length rc) rs.length (qg rs) :: (os.map Ob.row ++ X)) := M.bring 8 rfl rfl
  refine xu A rfl rfl rfl (kf rfl rfl (fun us w => by kernel_rfl)) (qfg (x := z) (by omega) M) ?_
  rintro _ w25 ⟨wo22, wc23, rfl, hM24⟩
  replace M : Mg w0 w25 (.obj g5 (.cells #[.map (some g3)] 78) :: .obj g9 (.cells #[.slice wo22 ((vis ws0 z).length) wc23] 33) :: .obj g3 (qc (mkE 0 (vis ws0 z)) ((vis ws0 z).length)) :: .row 3 1 (.slice wo22 ((vis ws0 z).length) wc23) ((vis ws0 z).length) (qg (vis ws0 z)) :: .obj h (.cells #[.map (some m), .int .i64 (((last : Nat) : Int)), .int .i64 (((ss : Nat) : Int)), .slice sg gs.length sc, .int .i64 (((ls : Nat) : Int)), .slice lg gl.length lc] 63) :: .obj m (qc (os.map Ob.en) last) :: .row 88 2 (.slice sg gs.length sc) gs.length (qa gs) :: .row 88 2 (.slice lg gl.length lc) gl.length (qa gl) :: .row 3 1 (.slice ro rs.length rc) rs.length (qg rs) :: (os.map Ob.row ++ X)) := hM24
  refine ⟨_, rfl, ?_⟩
  intro a A
  refine qb (hK20 _ _ (wrl (sdo (v := .int .i64 (((i0 + 1 : Nat) : Int))) A (qe rfl rfl (ar_add ((in_i64 (by omega) (by omega)).trans (by omega)))) λa A↦?_)))
  refine sdm A λa A↦?_
  refine qb ?_
  replace M : Mg w0 w25 (.row 3 1 (.slice wo22 ((vis ws0 z).length) wc23) ((vis ws0 z).length) (qg (vis ws0 z)) :: .obj g5 (.cells #[.map (some g3)] 78) :: .obj g9 (.cells #[.slice wo22 ((vis ws0 z).length) wc23] 33) :: .obj g3 (qc (mkE 0 (vis ws0 z)) ((vis ws0 z).length)) :: .obj h (.cells #[.map (some m), .int .i64 (((last : Nat) : Int)), .int .i64 (((ss : Nat) : Int)), .slice sg gs.length sc, .int .i64 (((ls : Nat) : Int)), .slice lg gl.length lc] 63) :: .obj m (qc (os.map Ob.en) last) :: .row 88 2 (.slice sg gs.length sc) gs.length (qa gs) :: .row 88 2 (.slice lg gl.length lc) gl.length (qa gl) :: .row 3 1 (.slice ro rs.length rc) rs.length (qg rs) :: (os.map Ob.row ++ X)) := M.bring 3 rfl rfl
  replace M : Mg w0 w25 (.obj g3 (qc (mkE 0 (vis ws0 z)) ((vis ws0 z).length)) :: .row 3 1 (.slice wo22 ((vis ws0 z).length) wc23) ((vis ws0 z).length) (qg (vis ws0 z)) :: .obj g5 (.cells #[.map (some g3)] 78) :: .obj g9 (.cells #[.slice wo22 ((vis ws0 z).length) wc23] 33) :: .obj h (.cells #[.map (some m), .int .i64 (((last : Nat) : Int)), .int .i64 (((ss : Nat) : Int)), .slice sg gs.length sc, .int .i64 (((ls : Nat) : Int)), .slice lg gl.length lc] 63) :: .obj m (qc (os.map Ob.en) last) :: .row 88 2 (.slice sg gs.length sc) gs.length (qa gs) :: .row 88 2 (.slice lg gl.length lc) gl.length (qa gl) :: .row 3 1 (.slice ro rs.length rc) rs.length (qg rs) :: (os.map Ob.row ++ X)) := M.bring 3 rfl rfl
  replace M : Mg w0 w25 (.obj g9 (.cells #[.slice wo22 ((vis ws0 z).length) wc23] 33) :: .obj g3 (qc (mkE 0 (vis ws0 z)) ((vis ws0 z).length)) :: .row 3 1 (.slice wo22 ((vis ws0 z).length) wc23) ((vis ws0 z).length) (qg (vis ws0 z)) :: .obj g5 (.cells #[.map (some g3)] 78) :: .obj h (.cells #[.map (some m), .int .i64 (((last : Nat) : Int)), .int .i64 (((ss : Nat) : Int)), .slice sg gs.length sc, .int .i64 (((ls : Nat) : Int)), .slice lg gl.length lc] 63) :: .obj m (qc (os.map Ob.en) last) :: .row 88 2 (.slice sg gs.length sc) gs.length (qa gs) :: .row 88 2 (.slice lg gl.length lc) gl.length (qa gl) :: .row 3 1 (.slice ro rs.length rc) rs.length (qg rs) :: (os.map Ob.row ++ X)) := M.bring 3 rfl rfl
  replace M : Mg w0 w25 (.obj g5 (.cells #[.map (some g3)] 78) :: .obj g9 (.cells #[.slice wo22 ((vis ws0 z).length) wc23] 33) :: .obj g3 (qc (mkE 0 (vis ws0 z)) ((vis ws0 z).length)) :: .row 3 1 (.slice wo22 ((vis ws0 z).length) wc23) ((vis ws0 z).length) (qg (vis ws0 z)) :: .obj h (.cells #[.map (some m), .int .i64 (((last : Nat) : Int)), .int .i64 (((ss : Nat) : Int)), .slice sg gs.length sc, .int .i64 (((ls : Nat) : Int)), .slice lg gl.length lc] 63) :: .obj m (qc (os.map Ob.en) last) :: .row 88 2 (.slice sg gs.length sc) gs.length (qa gs) :: .row 88 2 (.slice lg gl.length lc) gl.length (qa gl) :: .row 3 1 (.slice ro rs.length rc) rs.length (qg rs) :: (os.map Ob.row ++ X)) := M.bring 3 rfl rfl
  replace M : Mg w0 w25 (.row 3 1 (.slice ro rs.length rc) rs.length (qg rs) :: .obj g5 (.cells #[.map (some g3)] 78) :: .obj g9 (.cells #[.slice wo22 ((vis ws0 z).length) wc23] 33) :: .obj g3 (qc (mkE 0 (vis ws0 z)) ((vis ws0 z).length)) :: .row 3 1 (.slice wo22 ((vis ws0 z).length) wc23) ((vis ws0 z).length) (qg (vis ws0 z)) :: .obj h (.cells #[.map (some m), .int .i64 (((last : Nat) : Int)), .int .i64 (((ss : Nat) : Int)), .slice sg gs.length sc, .int .i64 (((ls : Nat) : Int)), .slice lg gl.length lc] 63) :: .obj m (qc (os.map Ob.en) last) :: .row 88 2 (.slice sg gs.length sc) gs.length (qa gs) :: .row 88 2 (.slice lg gl.length lc) gl.length (qa gl) :: (os.map Ob.row ++ X)) := M.bring 8 rfl rfl
  replace M : Mg w0 w25 (.row 88 2 (.slice lg gl.length lc) gl.length (qa gl) :: .row 3 1 (.slice ro rs.length rc) rs.length (qg rs) :: .obj g5 (.cells #[.map (some g3)] 78) :: .obj g9 (.cells #[.slice wo22 ((vis ws0 z).length) wc23] 33) :: .obj g3 (qc (mkE 0 (vis ws0 z)) ((vis ws0 z).length)) :: .row 3 1 (.slice wo22 ((vis ws0 z).length) wc23) ((vis ws0 z).length) (qg (vis ws0 z)) :: .obj h (.cells #[.map (some m), .int .i64 (((last : Nat) : Int)), .int .i64 (((ss : Nat) : Int)), .slice sg gs.length sc, .int .i64 (((ls : Nat) : Int)), .slice lg gl.length lc] 63) :: .obj m (qc (os.map Ob.en) last) :: .row 88 2 (.slice sg gs.length sc) gs.length (qa gs) :: (os.map Ob.row ++ X)) := M.bring 8 rfl rfl
  replace M : Mg w0 w25 (.row 88 2 (.slice sg gs.length sc) gs.length (qa gs) :: .row 88 2 (.slice lg gl.length lc) gl.length (qa gl) :: .row 3 1 (.slice ro rs.length rc) rs.length (qg rs) :: .obj g5 (.cells #[.map (some g3)] 78) :: .obj g9 (.cells #[.slice wo22 ((vis ws0 z).length) wc23] 33) :: .obj g3 (qc (mkE 0 (vis ws0 z)) ((vis ws0 z).length)) :: .row 3 1 (.slice wo22 ((vis ws0 z).length) wc23) ((vis ws0 z).length) (qg (vis ws0 z)) :: .obj h (.cells #[.map (some m), .int .i64 (((last : Nat) : Int)), .int .i64 (((ss : Nat) : Int)), .slice sg gs.length sc, .int .i64 (((ls : Nat) : Int)), .slice lg gl.length lc] 63) :: .obj m (qc (os.map Ob.en) last) :: (os.map Ob.row ++ X)) := M.bring 8 rfl rfl
  replace M : Mg w0 w25 (.obj m (qc (os.map Ob.en) last) :: .row 88 2 (.slice sg gs.length sc) gs.length (qa gs) :: .row 88 2 (.slice lg gl.length lc) gl.length (qa gl) :: .row 3 1 (.slice ro rs.length rc) rs.length (qg rs) :: .obj g5 (.cells #[.map (some g3)] 78) :: .obj g9 (.cells #[.slice wo22 ((vis ws0 z).length) wc23] 33) :: .obj g3 (qc (mkE 0 (vis ws0 z)) ((vis ws0 z).length)) :: .row 3 1 (.slice wo22 ((vis ws0 z).length) wc23) ((vis ws0 z).length) (qg (vis ws0 z)) :: .obj h (.cells #[.map (some m), .int .i64 (((last : Nat) : Int)), .int .i64 (((ss : Nat) : Int)), .slice sg gs.length sc, .int .i64 (((ls : Nat) : Int)), .slice lg gl.length lc] 63) :: (os.map Ob.row ++ X)) := M.bring 8 rfl rfl
  replace M : Mg w0 w25 (.obj h (.cells #[.map (some m), .int .i64 (((last : Nat) : Int)), .int .i64 (((ss : Nat) : Int)), .slice sg gs.length sc, .int .i64 (((ls : Nat) : Int)), .slice lg gl.length lc] 63) :: .obj m (qc (os.map Ob.en) last) :: .row 88 2 (.slice sg gs.length sc) gs.length (qa gs) :: .row 88 2 (.slice lg gl.length lc) gl.length (qa gl) :: .row 3 1 (.slice ro rs.length rc) rs.length (qg rs) :: .obj g5 (.cells #[.map (some g3)] 78) :: .obj g9 (.cells #[.slice wo22 ((vis ws0 z).length) wc23] 33) :: .obj g3 (qc (mkE 0 (vis ws0 z)) ((vis ws0 z).length)) :: .row 3 1 (.slice wo22 ((vis ws0 z).length) wc23) ((vis ws0 z).length) (qg (vis ws0 z)) :: (os.map Ob.row ++ X)) := M.bring 8 rfl rfl
  refine hK15 _ _ _ (by omega) ⟨i0 + 1, (vis ws0 z), wo22, wc23, rfl, ⟨by omega, hV0.vis (hrs z (List.mem_of_getElem? hz)) (fun k => .root (List.mem_of_getElem? hz) k), take_root hz hR0⟩, A.keep _ (by repeat' constructor), M⟩
 ·
  have hb18' := of_decide_eq_false hb18
  refine sdc A qm hb18 λa A↦?_
  refine qb (hK17 _ _ (wsk fun K26 hK26 => wp_cond_false (A.ev rfl) ?_))
  refine wp_exit (hK12 _ _ (wsk fun K27 hK27 => wsk fun K28 hK28 => wrl (sda A λa A↦?_)))
  refine qb (hK28 _ _ (wp_block (zh (fun m_ a w1 => ∃ (i : Nat) (ws : List Int) (wo : Option Addr) (wc : Nat), m_ = 1 + (os.length - i) ∧ (i ≤ ws.length ∧ Vs os rs ws ∧ (∀ r ∈ rs, r ≠ 0 → r ∈ ws) ∧ Shut os ws i) ∧ Sl a 54 [(0, .pointer (some ⟨h, 0, none⟩)), (1, .slice ro rs.length rc), (4, .map none), (5, .pointer (some ⟨g5, 0, none⟩)), (6, .pointer (some ⟨g9, 0, none⟩)), (7, .func (.func 46) #[] [.pointer (some ⟨g5, 0, none⟩), .pointer (some ⟨g9, 0, none⟩)].toArray), (10, .int .i64 (((i : Nat) : Int))), (13, .map (some g3)), (14, .func (.func 46) #[] [.pointer (some ⟨g5, 0, none⟩), .pointer (some ⟨g9, 0, none⟩)].toArray), (15, .slice ro rs.length rc), (16, .int .i64 (((rs.length : Nat) : Int))), (17, .int .i64 (((i0 : Nat) : Int))), (18, .bool false)] ∧ Mg w0 w1 (.obj h (.cells #[.map (some m), .int .i64 (((last : Nat) : Int)), .int .i64 (((ss : Nat) : Int)), .slice sg gs.length sc, .int .i64 (((ls : Nat) : Int)), .slice lg gl.length lc] 63) :: .obj m (qc (os.map Ob.en) last) :: .row 88 2 (.slice sg gs.length sc) gs.length (qa gs) :: .row 88 2 (.slice lg gl.length lc) gl.length (qa gl) :: .row 3 1 (.slice ro rs.length rc) rs.length (qg rs) :: .obj g5 (.cells #[.map (some g3)] 78) :: .obj g9 (.cells #[.slice wo ws.length wc] 33) :: .obj g3 (qc (mkE 0 ws) ws.length) :: .row 3 1 (.slice wo ws.length wc) ws.length (qg ws) :: (os.map Ob.row ++ X))) _ ⟨0, ws0, wo0, wc0, rfl, ⟨Nat.zero_le _, hV0, (by rw [List.take_of_length_le (by omega)] at hR0; exact hR0), fun k x o hk => absurd hk (Nat.not_lt_zero _)⟩, A.keep _ (by repeat' constructor), M⟩ ?_)))
  clear M A
  rintro m_ a w29 ⟨i, ws, wo, wc, rfl, hinv31, A, M⟩ K30 hK30
  obtain ⟨hi0, hV, hR, V⟩ := hinv31
  have hwl := hV.len
  refine wsk fun K32 hK32 => wsk fun K33 hK33 => wrl (sdm A λa A↦?_)
  refine sdo A (qh M HbF_is1_33 rfl 6 rfl rfl) λa A↦?_
  refine sdo A (qv Try.underlying33 rfl) λa A↦?_
  rcases tf (decide (((i : Nat) : Int) < ((ws.length : Nat) : Int))) with hb34 | hb34
  ·
   have hb34' := of_decide_eq_true hb34
   refine sdc A qm hb34 λa A↦?_
   refine qb (hK33 _ _ (wp_cond_true (A.ev rfl) ?_))
   refine wp_skip (hK32 _ _ (wsk fun K35 hK35 => wp_block (wsk fun K36 hK36 => ?_)))
   obtain ⟨gw, hgw⟩ := zy (M.has 8 rfl) (show ws.length ≠ 0 by omega)
   obtain ⟨z, hz⟩ : ∃ z, ws[i]? = some z := ⟨_, List.getElem?_eq_getElem (show i < ws.length by omega)⟩
   have hzm := List.mem_of_getElem? hz
   have hzo := hV.ob z hzm
   obtain ⟨o, ho⟩ := Option.isSome_iff_exists.1 hzo
   have hom := (yd ho).1
   have hol := hcl o hom
   refine zn (S := fun w1 => Mg w0 w1 (.obj h (.cells #[.map (some m), .int .i64 (((last : Nat) : Int)), .int .i64 (((ss : Nat) : Int)), .slice sg gs.length sc, .int .i64 (((ls : Nat) : Int)), .slice lg gl.length lc] 63) :: .obj g9 (.cells #[.slice wo ws.length wc] 33) :: .row 3 1 (.slice wo ws.length wc) ws.length (qg ws) :: [])) (by kernel_rfl) ?_
   replace M := M.drew
   refine qf A 0 rfl rfl rfl rfl hP (M.sub (cc (cn (cn (cn (cn (cn (cc (cn (cc (List.nil_sublist _))))))))))) (fun w1 M => qn rfl) λa A↦?_
   refine qf A 1 rfl rfl rfl rfl hP (M.sub (cc (cn (cn (cn (cn (cn (cc (cn (cc (List.nil_sublist _))))))))))) (fun w1 M => qu rfl) λa A↦?_
   refine qf (v := .pointer (some ⟨h, 0, none⟩)) A 2 rfl rfl rfl rfl hP (M.sub (cc (cn (cn (cn (cn (cn (cc (cn (cc (List.nil_sublist _))))))))))) (fun w1 M => qd HbF_fld_63_0 rfl rfl) λa A↦?_
   refine qf A 3 rfl rfl rfl rfl hP (M.sub (cc (cn (cn (cn (cn (cn (cc (cn (cc (List.nil_sublist _))))))))))) (fun w1 M => qh M HbF_is1_57 rfl 0 rfl rfl) λa A↦?_
   refine qf A 4 rfl rfl rfl rfl hP (M.sub (cc (cn (cn (cn (cn (cn (cc (cn (cc (List.nil_sublist _))))))))))) (fun w1 M => qh M HbF_is1_33 rfl 1 rfl rfl) λa A↦?_
   refine qf A 5 rfl rfl rfl rfl hP (M.sub (cc (cn (cn (cn (cn (cn (cc (cn (cc (List.nil_sublist _))))))))))) (fun w1 M => qn rfl) λa A↦?_
   refine qf (v := .pointer (some ⟨gw, i * 1, none⟩)) A 6 rfl rfl rfl rfl hP (M.sub (cc (cn (cn (cn (cn (cn (cc (cn (cc (List.nil_sublist _))))))))))) (fun w1 M => jy (k := i) Try.underlying33 (by kernel_rfl) rfl rfl rfl hgw (by omega)) λa A↦?_
   refine qf (v := .int .i64 z) A 7 rfl rfl rfl rfl hP (M.sub (cc (cn (cn (cn (cn (cn (cc (cn (cc (List.nil_sublist _))))))))))) (fun w1 M => ye (j := i * 1) M 2 rfl hgw (by rw [Nat.mul_one]; exact kj hz) HbF_is1_3 rfl) λa A↦?_
   refine qf A 11 rfl rfl rfl rfl hP (M.sub (cc (cn (cn (cn (cn (cn (cc (cn (cc (List.nil_sublist _))))))))))) (fun w1 M => qn rfl) λa A↦?_
   have hok : atK z (os.map Ob.en) = some o.en := by rw [vh, ho]; rfl
   refine zd (by kernel_rfl) (qde (v := .agg #[.int .i64 (((o.p : Nat) : Int)), .slice (some ⟨o.g, 0, none⟩) o.ws.length o.c]) A 8 rfl rfl rfl rfl (kh M Try.underlying57 Try.underlying3 rfl rfl 1 rfl hok rfl) (M.sub (cc (cn (cn (cn (cn (cn (cc (cn (cc (List.nil_sublist _))))))))))) ?_)
   intro a A
   refine qf (v := .slice (some ⟨o.g, 0, none⟩) o.ws.length o.c) A 9 rfl rfl rfl rfl hP (M.sub (cc (cn (cn (cn (cn (cn (cc (cn (cc (List.nil_sublist _))))))))))) (fun w1 M => does_fld (off := 1) (cs := [.int .i64 (((o.p : Nat) : Int)), .slice (some ⟨o.g, 0, none⟩) o.ws.length o.c]) ⟨_, _, Try.underlying70, rfl, rfl, HbF_is1_68⟩ rfl rfl) λa A↦?_
   refine qf (v := .int .i64 (((o.ws.length : Nat) : Int))) A 10 rfl rfl rfl rfl hP (M.sub (cc (cn (cn (cn (cn (cn (cc (cn (cc (List.nil_sublist _))))))))))) (fun w1 M => qv Try.underlying68 rfl) λa A↦?_
   refine zi (by kernel_rfl) ?_
   refine hK36 _ _ (wp_block ?_)
   replace M : Mg w0 w29.drew (.row 3 1 (.slice wo ws.length wc) ws.length (qg ws) :: .obj h (.cells #[.map (some m), .int .i64 (((last : Nat) : Int)), .int .i64 (((ss : Nat) : Int)), .slice sg gs.length sc, .int .i64 (((ls : Nat) : Int)), .slice lg gl.length lc] 63) :: .obj m (qc (os.map Ob.en) last) :: .row 88 2 (.slice sg gs.length sc) gs.length (qa gs) :: .row 88 2 (.slice lg gl.length lc) gl.length (qa gl) :: .row 3 1 (.slice ro rs.length rc) rs.length (qg rs) :: .obj g5 (.cells #[.map (some g3)] 78) :: .obj g9 (.cells #[.slice wo ws.length wc] 33) :: .obj g3 (qc (mkE 0 ws) ws.length) :: (os.map Ob.row ++ X)) := M.bring 8 rfl rfl
   replace M : Mg w0 w29.drew (.obj g3 (qc (mkE 0 ws) ws.length) :: .row 3 1 (.slice wo ws.length wc) ws.length (qg ws) :: .obj h (.cells #[.map (some m), .int .i64 (((last : Nat) : Int)), .int .i64 (((ss : Nat) : Int)), .slice sg gs.length sc, .int .i64 (((ls : Nat) : Int)), .slice lg gl.length lc] 63) :: .obj m (qc (os.map Ob.en) last) :: .row 88 2 (.slice sg gs.length sc) gs.length (qa gs) :: .row 88 2 (.slice lg gl.length lc) gl.length (qa gl) :: .row 3 1 (.slice ro rs.length rc) rs.length (qg rs) :: .obj g5 (.cells #[.map (some g3)] 78) :: .obj g9 (.cells #[.slice wo ws.length wc] 33) :: (os.map Ob.row ++ X)) := M.bring 8 rfl rfl
   replace M : Mg w0 w29.drew (.obj g9 (.cells #[.slice wo ws.length wc] 33) :: .obj g3 (qc (mkE 0 ws) ws.length) :: .row 3 1 (.slice wo ws.length wc) ws.length (qg ws) :: .obj h (.cells #[.map (some m), .int .i64 (((last : Nat) : Int)), .int .i64 (((ss : Nat) : Int)), .slice sg gs.length sc, .int .i64 (((ls : Nat) : Int)), .slice lg gl.length lc] 63) :: .obj m (qc (os.map Ob.en) last) :: .row 88 2 (.slice sg gs.length sc) gs.length (qa gs) :: .row 88 2 (.slice lg gl.length lc) gl.length (qa gl) :: .row 3 1 (.slice ro rs.length rc) rs.length (qg rs) :: .obj g5 (.cells #[.map (some g3)] 78) :: (os.map Ob.row ++ X)) := M.bring 8 rfl rfl
   replace M : Mg w0 w29.drew (.obj g5 (.cells #[.map (some g3)] 78) :: .obj g9 (.cells #[.slice wo ws.length wc] 33) :: .obj g3 (qc (mkE 0 ws) ws.length) :: .row 3 1 (.slice wo ws.length wc) ws.length (qg ws) :: .obj h (.cells #[.map (some m), .int .i64 (((last : Nat) : Int)), .int .i64 (((ss : Nat) : Int)), .slice sg gs.length sc, .int .i64 (((ls : Nat) : Int)), .slice lg gl.length lc] 63) :: .obj m (qc (os.map Ob.en) last) :: .row 88 2 (.slice sg gs.length sc) gs.length (qa gs) :: .row 88 2 (.slice lg gl.length lc) gl.length (qa gl) :: .row 3 1 (.slice ro rs.length rc) rs.length (qg rs) :: (os.map Ob.row ++ X)) := M.bring 8 rfl rfl
   replace M : Mg w0 w29.drew (.row 3 1 (.slice ro rs.length rc) rs.length (qg rs) :: .obj g5 (.cells #[.map (some g3)] 78) :: .obj g9 (.cells #[.slice wo ws.length wc] 33) :: .obj g3 (qc (mkE 0 ws) ws.length) :: .row 3 1 (.slice wo ws.length wc) ws.length (qg ws) :: .obj h (.cells #[.map (some m), .int .i64 (((last : Nat) : Int)), .int .i64 (((ss : Nat) : Int)), .slice sg gs.length sc, .int .i64 (((ls : Nat) : Int)), .slice lg gl.length lc] 63) :: .obj m (qc (os.map Ob.en) last) :: .row 88 2 (.slice sg gs.length sc) gs.length (qa gs) :: .row 88 2 (.slice lg gl.length lc) gl.length (qa gl) :: (os.map Ob.row ++ X)) := M.bring 8 rfl rfl
   replace M : Mg w0 w29.drew (.row 88 2 (.slice lg gl.length lc) gl.length (qa gl) :: .row 3 1 (.slice ro rs.length rc) rs.length (qg rs) :: .obj g5 (.cells #[.map (some g3)] 78) :: .obj g9 (.cells #[.slice wo ws.length wc] 33) :: .obj g3 (qc (mkE 0 ws) ws.length) :: .row 3 1 (.slice wo ws.length wc) ws.length (qg ws) :: .obj h (.cells #[.map (some m), .int .i64 (((last : Nat) : Int)), .int .i64 (((ss : Nat) : Int)), .slice sg gs.length sc, .int .i64 (((ls : Nat) : Int)), .slice lg gl.length lc] 63) :: .obj m (qc (os.map Ob.en) last) :: .row 88 2 (.slice sg gs.length sc) gs.length (qa gs) :: (os.map Ob.row ++ X)) := M.bring 8 rfl rfl
   replace M : Mg w0 w29.drew (.row 88 2 (.slice sg gs.length sc) gs.length (qa gs) :: .row 88 2 (.slice lg gl.length lc) gl.length (qa gl) :: .row 3 1 (.slice ro rs.length rc) rs.length (qg rs) :: .obj g5 (.cells #[.map (some g3)] 78) :: .obj g9 (.cells #[.slice wo ws.length wc] 33) :: .obj g3 (qc (mkE 0 ws) ws.length) :: .row 3 1 (.slice wo ws.length wc) ws.length (qg ws) :: .obj h (.cells #[.map (some m), .int .i64 (((last : Nat) : Int)), .int .i64 (((ss : Nat) : Int)), .slice sg gs.length sc, .int .i64 (((ls : Nat) : Int)), .slice lg gl.length lc] 63) :: .obj m (qc (os.map Ob.en) last) :: (os.map Ob.row ++ X)) := M.bring 8 rfl rfl
   replace M : Mg w0 w29.drew (.obj m (qc (os.map Ob.en) last) :: .row 88 2 (.slice sg gs.length sc) gs.length (qa gs) :: .row 88 2 (.slice lg gl.length lc) gl.length (qa gl) :: .row 3 1 (.slice ro rs.length rc) rs.length (qg rs) :: .obj g5 (.cells #[.map (some g3)] 78) :: .obj g9 (.cells #[.slice wo ws.length wc] 33) :: .obj g3 (qc (mkE 0 ws) ws.length) :: .row 3 1 (.slice wo ws.length wc) ws.length (qg ws) :: .obj h (.cells #[.map (some m), .int .i64 (((last : Nat) : Int)), .int .i64 (((ss : Nat) : Int)), .slice sg gs.length sc, .int .i64 (((ls : Nat) : Int)), .slice lg gl.length lc] 63) :: (os.map Ob.row ++ X)) := M.bring 8 rfl rfl
   replace M : Mg w0 w29.drew (.obj h (.cells #[.map (some m), .int .i64 (((last : Nat) : Int)), .int .i64 (((ss : Nat) : Int)), .slice sg gs.length sc, .int .i64 (((ls : Nat) : Int)), .slice lg gl.length lc] 63) :: .obj m (qc (os.map Ob.en) last) :: .row 88 2 (.slice sg gs.length sc) gs.length (qa gs) :: .row 88 2 (.slice lg gl.length lc) gl.length (qa gl) :: .row 3 1 (.slice ro rs.length rc) rs.length (qg rs) :: .obj g5 (.cells #[.map (some g3)] 78) :: .obj g9 (.cells #[.slice wo ws.length wc] 33) :: .obj g3 (qc (mkE 0 ws) ws.length) :: .row 3 1 (.slice wo ws.length wc) ws.length (qg ws) :: (os.map Ob.row ++ X)) := M.bring 8 rfl rfl
   refine zh (fun m_ a w1 => ∃ (j : Nat) (ws1 : List Int) (wo1 : Option Addr) (wc1 : Nat), m_ = 1 + (o.ws.length - j) ∧ (j ≤ o.ws.length ∧ Vs os rs ws1 ∧ (∀ r ∈ rs, r ≠ 0 → r ∈ ws1) ∧ Shut os ws1 i ∧ ws1[i]? = some z ∧ ∀ y, (y, true) ∈ o.ws.take j → y ≠ 0 → y ∈ ws1) ∧ Sl a 54 [(0, .pointer (some ⟨h, 0, none⟩)), (1, .slice ro rs.length rc), (4, .map none), (5, .pointer (some ⟨g5, 0, none⟩)), (6, .pointer (some ⟨g9, 0, none⟩)), (7, .func (.func 46) #[] [.pointer (some ⟨g5, 0, none⟩), .pointer (some ⟨g9, 0, none⟩)].toArray), (10, .int .i64 (((i : Nat) : Int))), (13, .map (some g3)), (14, .func (.func 46) #[] [.pointer (some ⟨g5, 0, none⟩), .pointer (some ⟨g9, 0, none⟩)].toArray), (15, .slice ro rs.length rc), (16, .int .i64 (((rs.length : Nat) : Int))), (17, .int .i64 (((i0 : Nat) : Int))), (18, .bool false), (25, .int .i64 (((i : Nat) : Int))), (26, .slice wo ws.length wc), (27, .int .i64 (((ws.length : Nat) : Int))), (28, .bool true), (31, .pointer (some ⟨h, 0, none⟩)), (32, .pointer (some ⟨h, 0, none⟩)), (33, .pointer (some ⟨h, 0, none⟩)), (34, .map (some m)), (35, .slice wo ws.length wc), (36, .int .i64 (((i : Nat) : Int))), (37, .pointer (some ⟨gw, i * 1, none⟩)), (38, .int .i64 z), (39, .agg #[.int .i64 (((o.p : Nat) : Int)), .slice (some ⟨o.g, 0, none⟩) o.ws.length o.c]), (40, .slice (some ⟨o.g, 0, none⟩) o.ws.length o.c), (41, .int .i64 (((o.ws.length : Nat) : Int))), (42, .int .i64 (((j : Nat) : Int)))] ∧ Mg w0 w1 (.obj h (.cells #[.map (some m), .int .i64 (((last : Nat) : Int)), .int .i64 (((ss : Nat) : Int)), .slice sg gs.length sc, .int .i64 (((ls : Nat) : Int)), .slice lg gl.length lc] 63) :: .obj m (qc (os.map Ob.en) last) :: .row 88 2 (.slice sg gs.length sc) gs.length (qa gs) :: .row 88 2 (.slice lg gl.length lc) gl.length (qa gl) :: .row 3 1 (.slice ro rs.length rc) rs.length (qg rs) :: .obj g5 (.cells #[.map (some g3)] 78) :: .obj g9 (.cells #[.slice wo1 ws1.length wc1] 33) :: .obj g3 (qc (mkE 0 ws1) ws1.length) :: .row 3 1 (.slice wo1 ws1.length wc1) ws1.length (qg ws1) :: (os.map Ob.row ++ X))) _ ⟨0, ws, wo, wc, rfl, ⟨Nat.zero_le _, hV, hR, V, hz, fun y hy => by simp at hy⟩, A.keep _ (by repeat' constructor), M⟩ ?_
   clear M A
   rintro m_ a w39 ⟨j, ws1, wo1, wc1, rfl, hinv41, A, M⟩ K40 hK40
   obtain ⟨hj0, hV1, hR1, hS1, hz1, hK⟩ := hinv41
   have hwl1 := hV1.len
   refine wsk fun K42 hK42 => wrl ?_
   rcases tf (decide (((j : Nat) : Int) < ((o.ws.length : Nat) : Int))) with hb43 | hb43
   ·
    have hb43' := of_decide_eq_true hb43
    refine sdc A qm hb43 λa A↦?_
    refine qb (hK42 _ _ (wsk fun K44 hK44 => wp_cond_true (A.ev rfl) ?_))
    refine wp_skip (hK44 _ _ (wsk fun K45 hK45 => wp_block (wsk fun K46 hK46 => ?_)))
    obtain ⟨c1, c2, hc⟩ : ∃ c1 c2, o.ws[j]? = some (c1, c2) := ⟨_, _, List.getElem?_eq_getElem (show j < o.ws.length by omega)⟩
    refine wrl (sdo (v := .pointer (some ⟨o.g, j * 2, none⟩)) A (ze (k := j) Try.underlying68 (by kernel_rfl) rfl rfl rfl (by omega)) λa A↦?_)
    refine sdo A (m_ldW M (row_in hom 9 rfl) hc HbF_isS_32 rfl) λa A↦?_
    refine qt (vs := [.int .i64 0, .bool false]) (t := 32) A M rfl rfl rfl pg (ql (z := .agg #[.int .i64 0, .bool false]) (by kernel_rfl) rfl) (by decide) ?_
    intro g47 w48 M a A
    refine qs (us := [.int .i64 c1, .bool c2]) (L' := (.obj g47 (.cells #[.int .i64 c1, .bool c2] 32) :: .obj h (.cells #[.map (some m), .int .i64 (((last : Nat) : Int)), .int .i64 (((ss : Nat) : Int)), .slice sg gs.length sc, .int .i64 (((ls : Nat) : Int)), .slice lg gl.length lc] 63) :: .obj m (qc (os.map Ob.en) last) :: .row 88 2 (.slice sg gs.length sc) gs.length (qa gs) :: .row 88 2 (.slice lg gl.length lc) gl.length (qa gl) :: .row 3 1 (.slice ro rs.length rc) rs.length (qg rs) :: .obj g5 (.cells #[.map (some g3)] 78) :: .obj g9 (.cells #[.slice wo1 ws1.length wc1] 33) :: .obj g3 (qc (mkE 0 ws1) ws1.length) :: .row 3 1 (.slice wo1 ws1.length wc1) ws1.length (qg ws1) :: (os.map Ob.row ++ X))) A M rfl rfl (qo rfl rfl rfl (by kernel_rfl) M 0 rfl rfl rfl) 0 rfl rfl rfl ?_
    intro w49 M
    refine qb (hK46 _ _ (wsk fun K50 hK50 => wrl (sdo (v := .pointer (some ⟨g47, 1, none⟩)) A (qd HbF_fld_32_1 rfl rfl) λa A↦?_)))
    refine sdo A (qh M HbF_is1_4 rfl 0 rfl rfl) λa A↦?_
    refine qb (hK50 _ _ ?_)
    refine wp_cond_split (t := c2) (A.ev rfl) (fun hc51 => ?_) (fun hc51 => ?_)
    ·
     refine wrl (sdm A λa A↦?_)
     refine sdo (v := .pointer (some ⟨g47, 0, none⟩)) A (qd HbF_fld_32_0 rfl rfl) λa A↦?_
     refine sdo A (qh M HbF_is1_3 rfl 0 rfl rfl) λa A↦?_
     replace M : Mg w0 w49 (.row 3 1 (.slice wo1 ws1.length wc1) ws1.length (qg ws1) :: .obj g47 (.cells #[.int .i64 c1, .bool c2] 32) :: .obj h (.cells #[.map (some m), .int .i64 (((last : Nat) : Int)), .int .i64 (((ss : Nat) : Int)), .slice sg gs.length sc, .int .i64 (((ls : Nat) : Int)), .slice lg gl.length lc] 63) :: .obj m (qc (os.map Ob.en) last) :: .row 88 2 (.slice sg gs.length sc) gs.length (qa gs) :: .row 88 2 (.slice lg gl.length lc) gl.length (qa gl) :: .row 3 1 (.slice ro rs.length rc) rs.length (qg rs) :: .obj g5 (.cells #[.map (some g3)] 78) :: .obj g9 (.cells #[.slice wo1 ws1.length wc1] 33) :: .obj g3 (qc (mkE 0 ws1) ws1.length) :: (os.map Ob.row ++ X)) := M.bring 9 rfl rfl
     replace M : Mg w0 w49 (.obj g3 (qc (mkE 0 ws1) ws1.length) :: .row 3 1 (.slice wo1 ws1.length wc1) ws1.length (qg ws1) :: .obj g47 (.cells #[.int .i64 c1, .bool c2] 32) :: .obj h (.cells #[.map (some m), .int .i64 (((last : Nat) : Int)), .int .i64 (((ss : Nat) : Int)), .slice sg gs.length sc, .int .i64 (((ls : Nat) : Int)), .slice lg gl.length lc] 63) :: .obj m (qc (os.map Ob.en) last) :: .row 88 2 (.slice sg gs.length sc) gs.length (qa gs) :: .row 88 2 (.slice lg gl.length lc) gl.length (qa gl) :: .row 3 1 (.slice ro rs.length rc) rs.length (qg rs) :: .obj g5 (.cells #[.map (some g3)] 78) :: .obj g9 (.cells #[.slice wo1 ws1.length wc1] 33) :: (os.map Ob.row ++ X)) := M.bring 9 rfl rfl
     replace M : Mg w0 w49 (.obj g9 (.cells #[.slice wo1 ws1.length wc1] 33) :: .obj g3 (qc (mkE 0 ws1) ws1.length) :: .row 3 1 (.slice wo1 ws1.length wc1) ws1.length (qg ws1) :: .obj g47 (.cells #[.int .i64 c1, .bool c2] 32) :: .obj h (.cells #[.map (some m), .int .i64 (((last : Nat) : Int)), .int .i64 (((ss : Nat) : Int)), .slice sg gs.length sc, .int .i64 (((ls : Nat) : Int)), .slice lg gl.length lc] 63) :: .obj m (qc (os.map Ob.en) last) :: .row 88 2 (.slice sg gs.length sc) gs.length (qa gs) :: .row 88 2 (.slice lg gl.length lc) gl.length (qa gl) :: .row 3 1 (.slice ro rs.length rc) rs.length (qg rs) :: .obj g5 (.cells #[.map (some g3)] 78) :: (os.map Ob.row ++ X)) := M.bring 9 rfl rfl
     replace M : Mg w0 w49 (.obj g5 (.cells #[.map (some g3)] 78) :: .obj g9 (.cells #[.slice wo1 ws1.length wc1] 33) :: .obj g3 (qc (mkE 0 ws1) ws1.length) :: .row 3 1 (.slice wo1 ws1.length wc1) ws1.length (qg ws1) :: .obj g47 (.cells #[.int .i64 c1, .bool c2] 32) :: .obj h (.cells #[.map (some m), .int .i64 (((last : Nat) : Int)), .int .i64 (((ss : Nat) : Int)), .slice sg gs.length sc, .int .i64 (((ls : Nat) : Int)), .slice lg gl.length lc] 63) :: .obj m (qc (os.map Ob.en) last) :: .row 88 2 (.slice sg gs.length sc) gs.length (qa gs) :: .row 88 2 (.slice lg gl.length lc) gl.length (qa gl) :: .row 3 1 (.slice ro rs.length rc) rs.length (qg rs) :: (os.map Ob.row ++ X)) := M.bring 9 rfl rfl
     refine xu A rfl rfl rfl (kf rfl rfl (fun us w => by kernel_rfl)) (qfg (x := c1) (by omega) M) ?_
     rintro _ w55 ⟨wo52, wc53, rfl, hM54⟩
     replace M : Mg w0 w55 (.obj g5 (.cells #[.map (some g3)] 78) :: .obj g9 (.cells #[.slice wo52 ((vis ws1 c1).length) wc53] 33) :: .obj g3 (qc (mkE 0 (vis ws1 c1)) ((vis ws1 c1).length)) :: .row 3 1 (.slice wo52 ((vis ws1 c1).length) wc53) ((vis ws1 c1).length) (qg (vis ws1 c1)) :: .obj g47 (.cells #[.int .i64 c1, .bool c2] 32) :: .obj h (.cells #[.map (some m), .int .i64 (((last : Nat) : Int)), .int .i64 (((ss : Nat) : Int)), .slice sg gs.length sc, .int .i64 (((ls : Nat) : Int)), .slice lg gl.length lc] 63) :: .obj m (qc (os.map Ob.en) last) :: .row 88 2 (.slice sg gs.length sc) gs.length (qa gs) :: .row 88 2 (.slice lg gl.length lc) gl.length (qa gl) :: .row 3 1 (.slice ro rs.length rc) rs.length (qg rs) :: (os.map Ob.row ++ X)) := hM54
     refine ⟨_, rfl, ?_⟩
     intro a A
     refine qb (hK45 _ _ (wrl (sdo (v := .int .i64 (((j + 1 : Nat) : Int))) A (qe rfl rfl (ar_add ((in_i64 (by omega) (by omega)).trans (by omega)))) λa A↦?_)))
     refine sdm A λa A↦?_
     refine qb ?_
     replace M : Mg w0 w55 (.row 3 1 (.slice wo52 ((vis ws1 c1).length) wc53) ((vis ws1 c1).length) (qg (vis ws1 c1)) :: .obj g5 (.cells #[.map (some g3)] 78) :: .obj g9 (.cells #[.slice wo52 ((vis ws1 c1).length) wc53] 33) :: .obj g3 (qc (mkE 0 (vis ws1 c1)) ((vis ws1 c1).length)) :: .obj g47 (.cells #[.int .i64 c1, .bool c2] 32) :: .obj h (.cells #[.map (some m), .int .i64 (((last : Nat) : Int)), .int .i64 (((ss : Nat) : Int)), .slice sg gs.length sc, .int .i64 (((ls : Nat) : Int)), .slice lg gl.length lc] 63) :: .obj m (qc (os.map Ob.en) last) :: .row 88 2 (.slice sg gs.length sc) gs.length (qa gs) :: .row 88 2 (.slice lg gl.length lc) gl.length (qa gl) :: .row 3 1 (.slice ro rs.length rc) rs.length (qg rs) :: (os.map Ob.row ++ X)) := M.bring 3 rfl rfl
     replace M : Mg w0 w55 (.obj g3 (qc (mkE 0 (vis ws1 c1)) ((vis ws1 c1).length)) :: .row 3 1 (.slice wo52 ((vis ws1 c1).length) wc53) ((vis ws1 c1).length) (qg (vis ws1 c1)) :: .obj g5 (.cells #[.map (some g3)] 78) :: .obj g9 (.cells #[.slice wo52 ((vis ws1 c1).length) wc53] 33) :: .obj g47 (.cells #[.int .i64 c1, .bool c2] 32) :: .obj h (.cells #[.map (some m), .int .i64 (((last : Nat) : Int)), .int .i64 (((ss : Nat) : Int)), .slice sg gs.length sc, .int .i64 (((ls : Nat) : Int)), .slice lg gl.length lc] 63) :: .obj m (qc (os.map Ob.en) last) :: .row 88 2 (.slice sg gs.length sc) gs.length (qa gs) :: .row 88 2 (.slice lg gl.length lc) gl.length (qa gl) :: .row 3 1 (.slice ro rs.length rc) rs.length (qg rs) :: (os.map Ob.row ++ X)) := M.bring 3 rfl rfl
     replace M : Mg w0 w55 (.obj g9 (.cells #[.slice wo52 ((vis ws1 c1).length) wc53] 33) :: .obj g3 (qc (mkE 0 (vis ws1 c1)) ((vis ws1 c1).length)) :: .row 3 1 (.slice wo52 ((vis ws1 c1).length) wc53) ((vis ws1 c1).length) (qg (vis ws1 c1)) :: .obj g5 (.cells #[.map (some g3)] 78) :: .obj g47 (.cells #[.int .i64 c1, .bool c2] 32) :: .obj h (.cells #[.map (some m), .int .i64 (((last : Nat) : Int)), .int .i64 (((ss : Nat) : Int)), .slice sg gs.length sc, .int .i64 (((ls : Nat) : Int)), .slice lg gl.length lc] 63) :: .obj m (qc (os.map Ob.en) last) :: .row 88 2 (.slice sg gs.length sc) gs.length (qa gs) :: .row 88 2 (.slice lg gl.length lc) gl.length (qa gl) :: .row 3 1 (.slice ro rs.length rc) rs.length (qg rs) :: (os.map Ob.row ++ X)) := M.bring 3 rfl rfl
     replace M : Mg w0 w55 (.obj g5 (.cells #[.map (some g3)] 78) :: .obj g9 (.cells #[.slice wo52 ((vis ws1 c1).length) wc53] 33) :: .obj g3 (qc (mkE 0 (vis ws1 c1)) ((vis ws1 c1).length)) :: .row 3 1 (.slice wo52 ((vis ws1 c1).length) wc53) ((vis ws1 c1).length) (qg (vis ws1 c1)) :: .obj g47 (.cells #[.int .i64 c1, .bool c2] 32) :: .obj h (.cells #[.map (some m), .int .i64 (((last : Nat) : Int)), .int .i64 (((ss : Nat) : Int)), .slice sg gs.length sc, .int .i64 (((ls : Nat) : Int)), .slice lg gl.length lc] 63) :: .obj m (qc (os.map Ob.en) last) :: .row 88 2 (.slice sg gs.length sc) gs.length (qa gs) :: .row 88 2 (.slice lg gl.length lc) gl.length (qa gl) :: .row 3 1 (.slice ro rs.length rc) rs.length (qg rs) :: (os.map Ob.row ++ X)) := M.bring 3 rfl rfl
     replace M : Mg w0 w55 (.row 3 1 (.slice ro rs.length rc) rs.length (qg rs) :: .obj g5 (.cells #[.map (some g3)] 78) :: .obj g9 (.cells #[.slice wo52 ((vis ws1 c1).length) wc53] 33) :: .obj g3 (qc (mkE 0 (vis ws1 c1)) ((vis ws1 c1).length)) :: .row 3 1 (.slice wo52 ((vis ws1 c1).length) wc53) ((vis ws1 c1).length) (qg (vis ws1 c1)) :: .obj g47 (.cells #[.int .i64 c1, .bool c2] 32) :: .obj h (.cells #[.map (some m), .int .i64 (((last : Nat) : Int)), .int .i64 (((ss : Nat) : Int)), .slice sg gs.length sc, .int .i64 (((ls : Nat) : Int)), .slice lg gl.length lc] 63) :: .obj m (qc (os.map Ob.en) last) :: .row 88 2 (.slice sg gs.length sc) gs.length (qa gs) :: .row 88 2 (.slice lg gl.length lc) gl.length (qa gl) :: (os.map Ob.row ++ X)) := M.bring 9 rfl rfl
     replace M : Mg w0 w55 (.row 88 2 (.slice lg gl.length lc) gl.length (qa gl) :: .row 3 1 (.slice ro rs.length rc) rs.length (qg rs) :: .obj g5 (.cells #[.map (some g3)] 78) :: .obj g9 (.cells #[.slice wo52 ((vis ws1 c1).length) wc53] 33) :: .obj g3 (qc (mkE 0 (vis ws1 c1)) ((vis ws1 c1).length)) :: .row 3 1 (.slice wo52 ((vis ws1 c1).length) wc53) ((vis ws1 c1).length) (qg (vis ws1 c1)) :: .obj g47 (.cells #[.int .i64 c1, .bool c2] 32) :: .obj h (.cells #[.map (some m), .int .i64 (((last : Nat) : Int)), .int .i64 (((ss : Nat) : Int)), .slice sg gs.length sc, .int .i64 (((ls : Nat) : Int)), .slice lg gl.length lc] 63) :: .obj m (qc (os.map Ob.en) last) :: .row 88 2 (.slice sg gs.length sc) gs.length (qa gs) :: (os.map Ob.row ++ X)) := M.bring 9 rfl rfl
     replace M : Mg w0 w55 (.row 88 2 (.slice sg gs.length sc) gs.length (qa gs) :: .row 88 2 (.slice lg gl.length lc) gl.length (qa gl) :: .row 3 1 (.slice ro rs.length rc) rs.length (qg rs) :: .obj g5 (.cells #[.map (some g3)] 78) :: .obj g9 (.cells #[.slice wo52 ((vis ws1 c1).length) wc53] 33) :: .obj g3 (qc (mkE 0 (vis ws1 c1)) ((vis ws1 c1).length)) :: .row 3 1 (.slice wo52 ((vis ws1 c1).length) wc53) ((vis ws1 c1).length) (qg (vis ws1 c1)) :: .obj g47 (.cells #[.int .i64 c1, .bool c2] 32) :: .obj h (.cells #[.map (some m), .int .i64 (((last : Nat) : Int)), .int .i64 (((ss : Nat) : Int)), .slice sg gs.length sc, .int .i64 (((ls : Nat) : Int)), .slice lg gl.length lc] 63) :: .obj m (qc (os.map Ob.en) last) :: (os.map Ob.row ++ X)) := M.bring 9 rfl rfl
     replace M : Mg w0 w55 (.obj m (qc (os.map Ob.en) last) :: .row 88 2 (.slice sg gs.length sc) gs.length (qa gs) :: .row 88 2 (.slice lg gl.length lc) gl.length (qa gl) :: .row 3 1 (.slice ro rs.length rc) rs.length (qg rs) :: .obj g5 (.cells #[.map (some g3)] 78) :: .obj g9 (.cells #[.slice wo52 ((vis ws1 c1).length) wc53] 33) :: .obj g3 (qc (mkE 0 (vis ws1 c1)) ((vis ws1 c1).length)) :: .row 3 1 (.slice wo52 ((vis ws1 c1).length) wc53) ((vis ws1 c1).length) (qg (vis ws1 c1)) :: .obj g47 (.cells #[.int .i64 c1, .bool c2] 32) :: .obj h (.cells #[.map (some m), .int .i64 (((last : Nat) : Int)), .int .i64 (((ss : Nat) : Int)), .slice sg gs.length sc, .int .i64 (((ls : Nat) : Int)), .slice lg gl.length lc] 63) :: (os.map Ob.row ++ X)) := M.bring 9 rfl rfl
     replace M : Mg w0 w55 (.obj h (.cells #[.map (some m), .int .i64 (((last : Nat) : Int)), .int .i64 (((ss : Nat) : Int)), .slice sg gs.length sc, .int .i64 (((ls : Nat) : Int)), .slice lg gl.length lc] 63) :: .obj m (qc (os.map Ob.en) last) :: .row 88 2 (.slice sg gs.length sc) gs.length (qa gs) :: .row 88 2 (.slice lg gl.length lc) gl.length (qa gl) :: .row 3 1 (.slice ro rs.length rc) rs.length (qg rs) :: .obj g5 (.cells #[.map (some g3)] 78) :: .obj g9 (.cells #[.slice wo52 ((vis ws1 c1).length) wc53] 33) :: .obj g3 (qc (mkE 0 (vis ws1 c1)) ((vis ws1 c1).length)) :: .row 3 1 (.slice wo52 ((vis ws1 c1).length) wc53) ((vis ws1 c1).length) (qg (vis ws1 c1)) :: .obj g47 (.cells #[.int .i64 c1, .bool c2] 32) :: (os.map Ob.row ++ X)) := M.bring 9 rfl rfl
     replace M : Mg w0 w55 (.obj h (.cells #[.map (some m), .int .i64 (((last : Nat) : Int)), .int .i64 (((ss : Nat) : Int)), .slice sg gs.length sc, .int .i64 (((ls : Nat) : Int)), .slice lg gl.length lc] 63) :: .obj m (qc (os.map Ob.en) last) :: .row 88 2 (.slice sg gs.length sc) gs.length (qa gs) :: .row 88 2 (.slice lg gl.length lc) gl.length (qa gl) :: .row 3 1 (.slice ro rs.length rc) rs.length (qg rs) :: .obj g5 (.cells #[.map (some g3)] 78) :: .obj g9 (.cells #[.slice wo52 ((vis ws1 c1).length) wc53] 33) :: .obj g3 (qc (mkE 0 (vis ws1 c1)) ((vis ws1 c1).length)) :: .row 3 1 (.slice wo52 ((vis ws1 c1).length) wc53) ((vis ws1 c1).length) (qg (vis ws1 c1)) :: (os.map Ob.row ++ X)) := by
      have h9 := M.sub (cc (cc (cc (cc (cc (cc (cc (cc (cc (cn (.refl _)))))))))))
      exact h9
     refine hK40 _ _ _ (by omega) ⟨j + 1, (vis ws1 c1), wo52, wc53, rfl, ⟨by omega, hV1.vis (hrf o hom _ (List.mem_of_getElem? hc) hc51) (fun k => .ref (hV1.rc z (List.mem_of_getElem? hz1)) ho (by rw [← hc51]; exact List.mem_of_getElem? hc) k), fun r hr h0 => xl.2 (.inl (hR1 r hr h0)), hS1.more (Nat.le_of_lt (List.getElem?_eq_some_iff.1 hz1).1) _, vis_at hz1, qjg hc (fun y hy h0 => xl.2 (.inl (hK y hy h0))) (fun _ h0 => xl.2 (.inr ⟨rfl, h0⟩))⟩, A.keep _ (by repeat' constructor), M⟩
    ·
     refine wp_skip (hK45 _ _ (wrl (sdo (v := .int .i64 (((j + 1 : Nat) : Int))) A (qe rfl rfl (ar_add ((in_i64 (by omega) (by omega)).trans (by omega)))) λa A↦?_)))
     refine sdm A λa A↦?_
     refine qb ?_
     replace M : Mg w0 w49 (.row 3 1 (.slice wo1 ws1.length wc1) ws1.length (qg ws1) :: .obj g47 (.cells #[.int .i64 c1, .bool c2] 32) :: .obj h (.cells #[.map (some m), .int .i64 (((last : Nat) : Int)), .int .i64 (((ss : Nat) : Int)), .slice sg gs.length sc, .int .i64 (((ls : Nat) : Int)), .slice lg gl.length lc] 63) :: .obj m (qc (os.map Ob.en) last) :: .row 88 2 (.slice sg gs.length sc) gs.length (qa gs) :: .row 88 2 (.slice lg gl.length lc) gl.length (qa gl) :: .row 3 1 (.slice ro rs.length rc) rs.length (qg rs) :: .obj g5 (.cells #[.map (some g3)] 78) :: .obj g9 (.cells #[.slice wo1 ws1.length wc1] 33) :: .obj g3 (qc (mkE 0 ws1) ws1.length) :: (os.map Ob.row ++ X)) := M.bring 9 rfl rfl
     replace M : Mg w0 w49 (.obj g3 (qc (mkE 0 ws1) ws1.length) :: .row 3 1 (.slice wo1 ws1.length wc1) ws1.length (qg ws1) :: .obj g47 (.cells #[.int .i64 c1, .bool c2] 32) :: .obj h (.cells #[.map (some m), .int .i64 (((last : Nat) : Int)), .int .i64 (((ss : Nat) : Int)), .slice sg gs.length sc, .int .i64 (((ls : Nat) : Int)), .slice lg gl.length lc] 63) :: .obj m (qc (os.map Ob.en) last) :: .row 88 2 (.slice sg gs.length sc) gs.length (qa gs) :: .row 88 2 (.slice lg gl.length lc) gl.length (qa gl) :: .row 3 1 (.slice ro rs.length rc) rs.length (qg rs) :: .obj g5 (.cells #[.map (some g3)] 78) :: .obj g9 (.cells #[.slice wo1 ws1.length wc1] 33) :: (os.map Ob.row ++ X)) := M.bring 9 rfl rfl
     replace M : Mg w0 w49 (.obj g9 (.cells #[.slice wo1 ws1.length wc1] 33) :: .obj g3 (qc (mkE 0 ws1) ws1.length) :: .row 3 1 (.slice wo1 ws1.length wc1) ws1.length (qg ws1) :: .obj g47 (.cells #[.int .i64 c1, .bool c2] 32) :: .obj h (.cells #[.map (some m), .int .i64 (((last : Nat) : Int)), .int .i64 (((ss : Nat) : Int)), .slice sg gs.length sc, .int .i64 (((ls : Nat) : Int)), .slice lg gl.length lc] 63) :: .obj m (qc (os.map Ob.en) last) :: .row 88 2 (.slice sg gs.length sc) gs.length (qa gs) :: .row 88 2 (.slice lg gl.length lc) gl.length (qa gl) :: .row 3 1 (.slice ro rs.length rc) rs.length (qg rs) :: .obj g5 (.cells #[.map (some g3)] 78) :: (os.map Ob.row ++ X)) := M.bring 9 rfl rfl
     replace M : Mg w0 w49 (.obj g5 (.cells #[.map (some g3)] 78) :: .obj g9 (.cells #[.slice wo1 ws1.length wc1] 33) :: .obj g3 (qc (mkE 0 ws1) ws1.length) :: .row 3 1 (.slice wo1 ws1.length wc1) ws1.length (qg ws1) :: .obj g47 (.cells #[.int .i64 c1, .bool c2] 32) :: .obj h (.cells #[.map (some m), .int .i64 (((last : Nat) : Int)), .int .i64 (((ss : Nat) : Int)), .slice sg gs.length sc, .int .i64 (((ls : Nat) : Int)), .slice lg gl.length lc] 63) :: .obj m (qc (os.map Ob.en) last) :: .row 88 2 (.slice sg gs.length sc) gs.length (qa gs) :: .row 88 2 (.slice lg gl.length lc) gl.length (qa gl) :: .row 3 1 (.slice ro rs.length rc) rs.length (qg rs) :: (os.map Ob.row ++ X)) := M.bring 9 rfl rfl
     replace M : Mg w0 w49 (.row 3 1 (.slice ro rs.length rc) rs.length (qg rs) :: .obj g5 (.cells #[.map (some g3)] 78) :: .obj g9 (.cells #[.slice wo1 ws1.length wc1] 33) :: .obj g3 (qc (mkE 0 ws1) ws1.length) :: .row 3 1 (.slice wo1 ws1.length wc1) ws1.length (qg ws1) :: .obj g47 (.cells #[.int .i64 c1, .bool c2] 32) :: .obj h (.cells #[.map (some m), .int .i64 (((last : Nat) : Int)), .int .i64 (((ss : Nat) : Int)), .slice sg gs.length sc, .int .i64 (((ls : Nat) : Int)), .slice lg gl.length lc] 63) :: .obj m (qc (os.map Ob.en) last) :: .row 88 2 (.slice sg gs.length sc) gs.length (qa gs) :: .row 88 2 (.slice lg gl.length lc) gl.length (qa gl) :: (os.map Ob.row ++ X)) := M.bring 9 rfl rfl
     replace M : Mg w0 w49 (.row 88 2 (.slice lg gl.length lc) gl.length (qa gl) :: .row 3 1 (.slice ro rs.length rc) rs.length (qg rs) :: .obj g5 (.cells #[.map (some g3)] 78) :: .obj g9 (.cells #[.slice wo1 ws1.length wc1] 33) :: .obj g3 (qc (mkE 0 ws1) ws1.length) :: .row 3 1 (.slice wo1 ws1.length wc1) ws1.length (qg ws1) :: .obj g47 (.cells #[.int .i64 c1, .bool c2] 32) :: .obj h (.cells #[.map (some m), .int .i64 (((last : Nat) : Int)), .int .i64 (((ss : Nat) : Int)), .slice sg gs.length sc, .int .i64 (((ls : Nat) : Int)), .slice lg gl.length lc] 63) :: .obj m (qc (os.map Ob.en) last) :: .row 88 2 (.slice sg gs.length sc) gs.length (qa gs) :: (os.map Ob.row ++ X)) := M.bring 9 rfl rfl
     replace M : Mg w0 w49 (.row 88 2 (.slice sg gs.length sc) gs.length (qa gs) :: .row 88 2 (.slice lg gl.length lc) gl.length (qa gl) :: .row 3 1 (.slice ro rs.length rc) rs.length (qg rs) :: .obj g5 (.cells #[.map (some g3)] 78) :: .obj g9 (.cells #[.slice wo1 ws1.length wc1] 33) :: .obj g3 (qc (mkE 0 ws1) ws1.length) :: .row 3 1 (.slice wo1 ws1.length wc1) ws1.length (qg ws1) :: .obj g47 (.cells #[.int .i64 c1, .bool c2] 32) :: .obj h (.cells #[.map (some m), .int .i64 (((last : Nat) : Int)), .int .i64 (((ss : Nat) : Int)), .slice sg gs.length sc, .int .i64 (((ls : Nat) : Int)), .slice lg gl.length lc] 63) :: .obj m (qc (os.map Ob.en) last) :: (os.map Ob.row ++ X)) := M.bring 9 rfl rfl
     replace M : Mg w0 w49 (.obj m (qc (os.map Ob.en) last) :: .row 88 2 (.slice sg gs.length sc) gs.length (qa gs) :: .row 88 2 (.slice lg gl.length lc) gl.length (qa gl) :: .row 3 1 (.slice ro rs.length rc) rs.length (qg rs) :: .obj g5 (.cells #[.map (some g3)] 78) :: .obj g9 (.cells #[.slice wo1 ws1.length wc1] 33) :: .obj g3 (qc (mkE 0 ws1) ws1.length) :: .row 3 1 (.slice wo1 ws1.length wc1) ws1.length (qg ws1) :: .obj g47 (.cells #[.int .i64 c1, .bool c2] 32) :: .obj h (.cells #[.map (some m), .int .i64 (((last : Nat) : Int)), .int .i64 (((ss : Nat) : Int)), .slice sg gs.length sc, .int .i64 (((ls : Nat) : Int)), .slice lg gl.length lc] 63) :: (os.map Ob.row ++ X)) := M.bring 9 rfl rfl
     replace M : Mg w0 w49 (.obj h (.cells #[.map (some m), .int .i64 (((last : Nat) : Int)), .int .i64 (((ss : Nat) : Int)), .slice sg gs.length sc, .int .i64 (((ls : Nat) : Int)), .slice lg gl.length lc] 63) :: .obj m (qc (os.map Ob.en) last) :: .row 88 2 (.slice sg gs.length sc) gs.length (qa gs) :: .row 88 2 (.slice lg gl.length lc) gl.length (qa gl) :: .row 3 1 (.slice ro rs.length rc) rs.length (qg rs) :: .obj g5 (.cells #[.map (some g3)] 78) :: .obj g9 (.cells #[.slice wo1 ws1.length wc1] 33) :: .obj g3 (qc (mkE 0 ws1) ws1.length) :: .row 3 1 (.slice wo1 ws1.length wc1) ws1.length (qg ws1) :: .obj g47 (.cells #[.int .i64 c1, .bool c2] 32) :: (os.map Ob.row ++ X)) := M.bring 9 rfl rfl
     replace M : Mg w0 w49 (.obj h (.cells #[.map (some m), .int .i64 (((last : Nat) : Int)), .int .i64 (((ss : Nat) : Int)), .slice sg gs.length sc, .int .i64 (((ls : Nat) : Int)), .slice lg gl.length lc] 63) :: .obj m (qc (os.map Ob.en) last) :: .row 88 2 (.slice sg gs.length sc) gs.length (qa gs) :: .row 88 2 (.slice lg gl.length lc) gl.length (qa gl) :: .row 3 1 (.slice ro rs.length rc) rs.length (qg rs) :: .obj g5 (.cells #[.map (some g3)] 78) :: .obj g9 (.cells #[.slice wo1 ws1.length wc1] 33) :: .obj g3 (qc (mkE 0 ws1) ws1.length) :: .row 3 1 (.slice wo1 ws1.length wc1) ws1.length (qg ws1) :: (os.map Ob.row ++ X)) := by
      have h9 := M.sub (cc (cc (cc (cc (cc (cc (cc (cc (cc (cn (.refl _)))))))))))
      exact h9
     refine hK40 _ _ _ (by omega) ⟨j + 1, ws1, wo1, wc1, rfl, ⟨by omega, hV1, hR1, hS1, hz1, qjg hc hK (fun k => by rw [hc51] at k; cases k)⟩, A.keep _ (by repeat' constructor), M⟩
   ·
    have hb43' := of_decide_eq_false hb43
    refine sdc A qm hb43 λa A↦?_
    refine qb (hK42 _ _ (wsk fun K56 hK56 => wp_cond_false (A.ev rfl) ?_))
    refine wp_exit (hK35 _ _ (wrl (sdm A λa A↦?_)))
    refine sdo (v := .int .i64 (((i + 1 : Nat) : Int))) A (qe rfl rfl (ar_add ((in_i64 (by omega) (by omega)).trans (by omega)))) λa A↦?_
    refine sda A λa A↦?_
    refine qb ?_
    replace M : Mg w0 w39 (.row 3 1 (.slice wo1 ws1.length wc1) ws1.length (qg ws1) :: .obj h (.cells #[.map (some m), .int .i64 (((last : Nat) : Int)), .int .i64 (((ss : Nat) : Int)), .slice sg gs.length sc, .int .i64 (((ls : Nat) : Int)), .slice lg gl.length lc] 63) :: .obj m (qc (os.map Ob.en) last) :: .row 88 2 (.slice sg gs.length sc) gs.length (qa gs) :: .row 88 2 (.slice lg gl.length lc) gl.length (qa gl) :: .row 3 1 (.slice ro rs.length rc) rs.length (qg rs) :: .obj g5 (.cells #[.map (some g3)] 78) :: .obj g9 (.cells #[.slice wo1 ws1.length wc1] 33) :: .obj g3 (qc (mkE 0 ws1) ws1.length) :: (os.map Ob.row ++ X)) := M.bring 8 rfl rfl
    replace M : Mg w0 w39 (.obj g3 (qc (mkE 0 ws1) ws1.length) :: .row 3 1 (.slice wo1 ws1.length wc1) ws1.length (qg ws1) :: .obj h (.cells #[.map (some m), .int .i64 (((last : Nat) : Int)), .int .i64 (((ss : Nat) : Int)), .slice sg gs.length sc, .int .i64 (((ls : Nat) : Int)), .slice lg gl.length lc] 63) :: .obj m (qc (os.map Ob.en) last) :: .row 88 2 (.slice sg gs.length sc) gs.length (qa gs) :: .row 88 2 (.slice lg gl.length lc) gl.length (qa gl) :: .row 3 1 (.slice ro rs.length rc) rs.length (qg rs) :: .obj g5 (.cells #[.map (some g3)] 78) :: .obj g9 (.cells #[.slice wo1 ws1.length wc1] 33) :: (os.map Ob.row ++ X)) := M.bring 8 rfl rfl
    replace M : Mg w0 w39 (.obj g9 (.cells #[.slice wo1 ws1.length wc1] 33) :: .obj g3 (qc (mkE 0 ws1) ws1.length) :: .row 3 1 (.slice wo1 ws1.length wc1) ws1.length (qg ws1) :: .obj h (.cells #[.map (some m), .int .i64 (((last : Nat) : Int)), .int .i64 (((ss : Nat) : Int)), .slice sg gs.length sc, .int .i64 (((ls : Nat) : Int)), .slice lg gl.length lc] 63) :: .obj m (qc (os.map Ob.en) last) :: .row 88 2 (.slice sg gs.length sc) gs.length (qa gs) :: .row 88 2 (.slice lg gl.length lc) gl.length (qa gl) :: .row 3 1 (.slice ro rs.length rc) rs.length (qg rs) :: .obj g5 (.cells #[.map (some g3)] 78) :: (os.map Ob.row ++ X)) := M.bring 8 rfl rfl
    replace M : Mg w0 w39 (.obj g5 (.cells #[.map (some g3)] 78) :: .obj g9 (.cells #[.slice wo1 ws1.length wc1] 33) :: .obj g3 (qc (mkE 0 ws1) ws1.length) :: .row 3 1 (.slice wo1 ws1.length wc1) ws1.length (qg ws1) :: .obj h (.cells #[.map (some m), .int .i64 (((last : Nat) : Int)), .int .i64 (((ss : Nat) : Int)), .slice sg gs.length sc, .int .i64 (((ls : Nat) : Int)), .slice lg gl.length lc] 63) :: .obj m (qc (os.map Ob.en) last) :: .row 88 2 (.slice sg gs.length sc) gs.length (qa gs) :: .row 88 2 (.slice lg gl.length lc) gl.length (qa gl) :: .row 3 1 (.slice ro rs.length rc) rs.length (qg rs) :: (os.map Ob.row ++ X)) := M.bring 8 rfl rfl
    replace M : Mg w0 w39 (.row 3 1 (.slice ro rs.length rc) rs.length (qg rs) :: .obj g5 (.cells #[.map (some g3)] 78) :: .obj g9 (.cells #[.slice wo1 ws1.length wc1] 33) :: .obj g3 (qc (mkE 0 ws1) ws1.length) :: .row 3 1 (.slice wo1 ws1.length wc1) ws1.length (qg ws1) :: .obj h (.cells #[.map (some m), .int .i64 (((last : Nat) : Int)), .int .i64 (((ss : Nat) : Int)), .slice sg gs.length sc, .int .i64 (((ls : Nat) : Int)), .slice lg gl.length lc] 63) :: .obj m (qc (os.map Ob.en) last) :: .row 88 2 (.slice sg gs.length sc) gs.length (qa gs) :: .row 88 2 (.slice lg gl.length lc) gl.length (qa gl) :: (os.map Ob.row ++ X)) := M.bring 8 rfl rfl
    replace M : Mg w0 w39 (.row 88 2 (.slice lg gl.length lc) gl.length (qa gl) :: .row 3 1 (.slice ro rs.length rc) rs.length (qg rs) :: .obj g5 (.cells #[.map (some g3)] 78) :: .obj g9 (.cells #[.slice wo1 ws1.length wc1] 33) :: .obj g3 (qc (mkE 0 ws1) ws1.length) :: .row 3 1 (.slice wo1 ws1.length wc1) ws1.length (qg ws1) :: .obj h (.cells #[.map (some m), .int .i64 (((last : Nat) : Int)), .int .i64 (((ss : Nat) : Int)), .slice sg gs.length sc, .int .i64 (((ls : Nat) : Int)), .slice lg gl.length lc] 63) :: .obj m (qc (os.map Ob.en) last) :: .row 88 2 (.slice sg gs.length sc) gs.length (qa gs) :: (os.map Ob.row ++ X)) := M.bring 8 rfl rfl
    replace M : Mg w0 w39 (.row 88 2 (.slice sg gs.length sc) gs.length (qa gs) :: .row 88 2 (.slice lg gl.length lc) gl.length (qa gl) :: .row 3 1 (.slice ro rs.length rc) rs.length (qg rs) :: .obj g5 (.cells #[.map (some g3)] 78) :: .obj g9 (.cells #[.slice wo1 ws1.length wc1] 33) :: .obj g3 (qc (mkE 0 ws1) ws1.length) :: .row 3 1 (.slice wo1 ws1.length wc1) ws1.length (qg ws1) :: .obj h (.cells #[.map (some m), .int .i64 (((last : Nat) : Int)), .int .i64 (((ss : Nat) : Int)), .slice sg gs.length sc, .int .i64 (((ls : Nat) : Int)), .slice lg gl.length lc] 63) :: .obj m (qc (os.map Ob.en) last) :: (os.map Ob.row ++ X)) := M.bring 8 rfl rfl
    replace M : Mg w0 w39 (.obj m (qc (os.map Ob.en) last) :: .row 88 2 (.slice sg gs.length sc) gs.length (qa gs) :: .row 88 2 (.slice lg gl.length lc) gl.length (qa gl) :: .row 3 1 (.slice ro rs.length rc) rs.length (qg rs) :: .obj g5 (.cells #[.map (some g3)] 78) :: .obj g9 (.cells #[.slice wo1 ws1.length wc1] 33) :: .obj g3 (qc (mkE 0 ws1) ws1.length) :: .row 3 1 (.slice wo1 ws1.length wc1) ws1.length (qg ws1) :: .obj h (.cells #[.map (some m), .int .i64 (((last : Nat) : Int)), .int .i64 (((ss : Nat) : Int)), .slice sg gs.length sc, .int .i64 (((ls : Nat) : Int)), .slice lg gl.length lc] 63) :: (os.map Ob.row ++ X)) := M.bring 8 rfl rfl
    replace M : Mg w0 w39 (.obj h (.cells #[.map (some m), .int .i64 (((last : Nat) : Int)), .int .i64 (((ss : Nat) : Int)), .slice sg gs.length sc, .int .i64 (((ls : Nat) : Int)), .slice lg gl.length lc] 63) :: .obj m (qc (os.map Ob.en) last) :: .row 88 2 (.slice sg gs.length sc) gs.length (qa gs) :: .row 88 2 (.slice lg gl.length lc) gl.length (qa gl) :: .row 3 1 (.slice ro rs.length rc) rs.length (qg rs) :: .obj g5 (.cells #[.map (some g3)] 78) :: .obj g9 (.cells #[.slice wo1 ws1.length wc1] 33) :: .obj g3 (qc (mkE 0 ws1) ws1.length) :: .row 3 1 (.slice wo1 ws1.length wc1) ws1.length (qg ws1) :: (os.map Ob.row ++ X)) := M.bring 8 rfl rfl
    refine hK30 _ _ _ (by have h7 := hV1.len; have h8 := (List.getElem?_eq_some_iff.1 hz1).1; omega) ⟨i + 1, ws1, wo1, wc1, rfl, ⟨(List.getElem?_eq_some_iff.1 hz1).1, hV1, hR1, hS1.next hz1 ho (by rw [List.take_of_length_le (by omega)] at hK; exact hK)⟩, A.keep _ (by repeat' constructor), M⟩
  ·
   have hb34' := of_decide_eq_false hb34
   refine sdc A qm hb34 λa A↦?_
   refine qb (hK33 _ _ (wp_cond_false (A.ev rfl) ?_))
   refine wp_exit (hK27 _ _ (wsk fun K57 hK57 => wrl (sdo A (qh M HbF_is1_78 rfl 5 rfl rfl) λa A↦?_)))
   refine sda A λa A↦?_
   refine qb (hK57 _ _ (wp_ret (hret _ _ (en1 A rfl (qi rfl) ?_))))
   replace M : Mg w0 w29 (.obj g3 (qc (mkE 0 ws) ws.length) :: .obj h (.cells #[.map (some m), .int .i64 (((last : Nat) : Int)), .int .i64 (((ss : Nat) : Int)), .slice sg gs.length sc, .int .i64 (((ls : Nat) : Int)), .slice lg gl.length lc] 63) :: .obj m (qc (os.map Ob.en) last) :: .row 88 2 (.slice sg gs.length sc) gs.length (qa gs) :: .row 88 2 (.slice lg gl.length lc) gl.length (qa gl) :: .row 3 1 (.slice ro rs.length rc) rs.length (qg rs) :: .obj g5 (.cells #[.map (some g3)] 78) :: .obj g9 (.cells #[.slice wo ws.length wc] 33) :: .row 3 1 (.slice wo ws.length wc) ws.length (qg ws) :: (os.map Ob.row ++ X)) := M.bring 7 rfl rfl
   replace M : Mg w0 w29 (.row 3 1 (.slice ro rs.length rc) rs.length (qg rs) :: .obj g3 (qc (mkE 0 ws) ws.length) :: .obj h (.cells #[.map (some m), .int .i64 (((last : Nat) : Int)), .int .i64 (((ss : Nat) : Int)), .slice sg gs.length sc, .int .i64 (((ls : Nat) : Int)), .slice lg gl.length lc] 63) :: .obj m (qc (os.map Ob.en) last) :: .row 88 2 (.slice sg gs.length sc) gs.length (qa gs) :: .row 88 2 (.slice lg gl.length lc) gl.length (qa gl) :: .obj g5 (.cells #[.map (some g3)] 78) :: .obj g9 (.cells #[.slice wo ws.length wc] 33) :: .row 3 1 (.slice wo ws.length wc) ws.length (qg ws) :: (os.map Ob.row ++ X)) := M.bring 5 rfl rfl
   replace M : Mg w0 w29 (.row 88 2 (.slice lg gl.length lc) gl.length (qa gl) :: .row 3 1 (.slice ro rs.length rc) rs.length (qg rs) :: .obj g3 (qc (mkE 0 ws) ws.length) :: .obj h (.cells #[.map (some m), .int .i64 (((last : Nat) : Int)), .int .i64 (((ss : Nat) : Int)), .slice sg gs.length sc, .int .i64 (((ls : Nat) : Int)), .slice lg gl.length lc] 63) :: .obj m (qc (os.map Ob.en) last) :: .row 88 2 (.slice sg gs.length sc) gs.length (qa gs) :: .obj g5 (.cells #[.map (some g3)] 78) :: .obj g9 (.cells #[.slice wo ws.length wc] 33) :: .row 3 1 (.slice wo ws.length wc) ws.length (qg ws) :: (os.map Ob.row ++ X)) := M.bring 5 rfl rfl
   replace M : Mg w0 w29 (.row 88 2 (.slice sg gs.length sc) gs.length (qa gs) :: .row 88 2 (.slice lg gl.length lc) gl.length (qa gl) :: .row 3 1 (.slice ro rs.length rc) rs.length (qg rs) :: .obj g3 (qc (mkE 0 ws) ws.length) :: .obj h (.cells #[.map (some m), .int .i64 (((last : Nat) : Int)), .int .i64 (((ss : Nat) : Int)), .slice sg gs.length sc, .int .i64 (((ls : Nat) : Int)), .slice lg gl.length lc] 63) :: .obj m (qc (os.map Ob.en) last) :: .obj g5 (.cells #[.map (some g3)] 78) :: .obj g9 (.cells #[.slice wo ws.length wc] 33) :: .row 3 1 (.slice wo ws.length wc) ws.length (qg ws) :: (os.map Ob.row ++ X)) := M.bring 5 rfl rfl
   replace M : Mg w0 w29 (.obj m (qc (os.map Ob.en) last) :: .row 88 2 (.slice sg gs.length sc) gs.length (qa gs) :: .row 88 2 (.slice lg gl.length lc) gl.length (qa gl) :: .row 3 1 (.slice ro rs.length rc) rs.length (qg rs) :: .obj g3 (qc (mkE 0 ws) ws.length) :: .obj h (.cells #[.map (some m), .int .i64 (((last : Nat) : Int)), .int .i64 (((ss : Nat) : Int)), .slice sg gs.length sc, .int .i64 (((ls : Nat) : Int)), .slice lg gl.length lc] 63) :: .obj g5 (.cells #[.map (some g3)] 78) :: .obj g9 (.cells #[.slice wo ws.length wc] 33) :: .row 3 1 (.slice wo ws.length wc) ws.length (qg ws) :: (os.map Ob.row ++ X)) := M.bring 5 rfl rfl
   replace M : Mg w0 w29 (.obj h (.cells #[.map (some m), .int .i64 (((last : Nat) : Int)), .int .i64 (((ss : Nat) : Int)), .slice sg gs.length sc, .int .i64 (((ls : Nat) : Int)), .slice lg gl.length lc] 63) :: .obj m (qc (os.map Ob.en) last) :: .row 88 2 (.slice sg gs.length sc) gs.length (qa gs) :: .row 88 2 (.slice lg gl.length lc) gl.length (qa gl) :: .row 3 1 (.slice ro rs.length rc) rs.length (qg rs) :: .obj g3 (qc (mkE 0 ws) ws.length) :: .obj g5 (.cells #[.map (some g3)] 78) :: .obj g9 (.cells #[.slice wo ws.length wc] 33) :: .row 3 1 (.slice wo ws.length wc) ws.length (qg ws) :: (os.map Ob.row ++ X)) := M.bring 5 rfl rfl
   replace M : Mg w0 w29 (.obj h (.cells #[.map (some m), .int .i64 (((last : Nat) : Int)), .int .i64 (((ss : Nat) : Int)), .slice sg gs.length sc, .int .i64 (((ls : Nat) : Int)), .slice lg gl.length lc] 63) :: .obj m (qc (os.map Ob.en) last) :: .row 88 2 (.slice sg gs.length sc) gs.length (qa gs) :: .row 88 2 (.slice lg gl.length lc) gl.length (qa gl) :: .row 3 1 (.slice ro rs.length rc) rs.length (qg rs) :: .obj g3 (qc (mkE 0 ws) ws.length) :: (os.map Ob.row ++ X)) := by
    have h9 := M.sub (cc (cc (cc (cc (cc (cc (cn (cn (cn (.refl _))))))))))
    exact h9
   have e9 : i = ws.length := by omega
   subst e9
   exact ⟨_, ws, rfl, ⟨hV, reach_all hV hR V⟩, M⟩
end Go.Proofs.Ytjjkcpmhlcjaoaa
namespace Go.Proofs
open Go.Shelf
def Try.lays189_ren : Go.Shelf.Ren := ⟨fun | 189 => 40 | 125 => 51 | 257 => 50 | 128 => 62 | 129 => 63 | 294 => 53 | 295 => 54 | 296 => 55 | 297 => 56 | 298 => 57 | 299 => 58 | 216 => 59 | 300 => 60 | 301 => 61 | 328 => 72 | 329 => 73 | 330 => 74 | 331 => 75 | 332 => 76 | 215 => 77 | 343 => 81 | n => n, fun | 28 => 33 | 3 => 3 | 46 => 102 | 0 => 0 | 51 => 113 | 53 => 115 | 4 => 4 | 183 => 106 | 182 => 105 | 131 => 64 | 5 => 5 | 9 => 9 | 218 => 121 | 222 => 125 | 228 => 129 | 229 => 49 | n => n, fun | n => n⟩
theorem Try.lays189 : Go.Proofs.Lays.n189 Try.prog Try.lays189_ren := {
  mixed := by kernel_rfl
  f125 := Try.func51.trans (congrArg some (by kernel_rfl))
  f128 := Try.func62.trans (congrArg some (by kernel_rfl))
  f129 := Try.func63.trans (congrArg some (by kernel_rfl))
  f189 := Try.func40.trans (congrArg some (by kernel_rfl))
  f215 := Try.func77.trans (congrArg some (by kernel_rfl))
  f216 := Try.func59.trans (congrArg some (by kernel_rfl))
  f257 := Try.func50.trans (congrArg some (by kernel_rfl))
  f294 := Try.func53.trans (congrArg some (by kernel_rfl))
  f295 := Try.func54.trans (congrArg some (by kernel_rfl))
  f296 := Try.func55.trans (congrArg some (by kernel_rfl))
  f297 := Try.func56.trans (congrArg some (by kernel_rfl))
  f298 := Try.func57.trans (congrArg some (by kernel_rfl))
  f299 := Try.func58.trans (congrArg some (by kernel_rfl))
  f300 := Try.func60.trans (congrArg some (by kernel_rfl))
  f301 := Try.func61.trans (congrArg some (by kernel_rfl))
  f328 := Try.func72.trans (congrArg some (by kernel_rfl))
  f329 := Try.func73.trans (congrArg some (by kernel_rfl))
  f330 := Try.func74.trans (congrArg some (by kernel_rfl))
  f331 := Try.func75.trans (congrArg some (by kernel_rfl))
  f332 := Try.func76.trans (congrArg some (by kernel_rfl))
  f343 := Try.func81.trans (congrArg some (by kernel_rfl))
  t0 := Try.underlying0
  a0 := Try.isAgg0
  z0 := Try.sizeOf0
  v0 := Try.zeroValue0
  t3 := Try.underlying3
  a3 := Try.isAgg3
  z3 := Try.sizeOf3
  v3 := Try.zeroValue3
  t4 := Try.underlying4
  a4 := Try.isAgg4
  z4 := Try.sizeOf4
  v4 := Try.zeroValue4
  t5 := Try.underlying5
  a5 := Try.isAgg5
  z5 := Try.sizeOf5
  v5 := Try.zeroValue5
  t9 := Try.underlying9
  a9 := Try.isAgg9
  z9 := Try.sizeOf9
  v9 := Try.zeroValue9
  t28 := Try.underlying33
  a28 := Try.isAgg33
  z28 := Try.sizeOf33
  v28 := Try.zeroValue33
  t46 := Try.underlying102
  a46 := Try.isAgg102
  z46 := Try.sizeOf102
  v46 := Try.zeroValue102
  t51 := Try.underlying113
  a51 := Try.isAgg113
  z51 := Try.sizeOf113
  v51 := Try.zeroValue113
  t53 := Try.underlying115
  a53 := Try.isAgg115
  z53 := Try.sizeOf115
  v53 := Try.zeroValue115
  t131 := Try.underlying64
  a131 := Try.isAgg64
  z131 := Try.sizeOf64
  v131 := Try.zeroValue64
  t182 := Try.underlying105
  a182 := Try.isAgg105
  z182 := Try.sizeOf105
  v182 := Try.zeroValue105
  t183 := Try.underlying106
  a183 := Try.isAgg106
  z183 := Try.sizeOf106
  v183 := Try.zeroValue106
  t218 := Try.underlying121
  a218 := Try.isAgg121
  z218 := Try.sizeOf121
  v218 := Try.zeroValue121
  t222 := Try.underlying125
  a222 := Try.isAgg125
  z222 := Try.sizeOf125
  v222 := Try.zeroValue125
  t228 := Try.underlying129
  a228 := Try.isAgg129
  z228 := Try.sizeOf129
  v228 := Try.zeroValue129
  t229 := Try.underlying49
  a229 := Try.isAgg49
  z229 := Try.sizeOf49
  v229 := Try.zeroValue49 }
open Go.Sort Go.RowKit in
theorem Try.slices_Sort_int (blk off cap : Nat) (zs : List Int) (w : World) (hH : Holds (Value.int .i64) w blk off zs.toArray) (hblk : blk < w.heap.size) (hsz : zs.length < 4611686018427387904) :
    Calls Try.prog 40 #[.slice (some ⟨blk, off, none⟩) zs.length cap] w fun e w' =>
      e = .returned (.tuple #[]) ∧ ∃ n os, w' = grow (putRow (Value.int .i64) (Sort.ahead w n) blk off (zs.mergeSort fun x y => decide (x ≤ y)).toArray) os := Any.slices_Sort_int Try.lays189 blk off cap zs w hH hblk hsz
open Go.RowKit Go.Sort in
theorem Try.slices_Sort_int_none (p : Option Addr) (cap : Nat) (w : World) :
    Calls Try.prog 40 #[.slice p 0 cap] w fun e w' => e = .returned (.tuple #[]) ∧ w' = w := Any.slices_Sort_int_none Try.lays189 p cap w
def Try.sortOb_ren : Go.Shelf.Ren := ⟨fun | 6 => 48 | 15 => 51 | 14 => 52 | 28 => 62 | 29 => 63 | 20 => 64 | 21 => 65 | 22 => 66 | 23 => 67 | 24 => 68 | 25 => 69 | 26 => 70 | 27 => 71 | 46 => 78 | 47 => 73 | 48 => 74 | 49 => 79 | 50 => 80 | 57 => 82 | n => n, fun | 22 => 81 | 24 => 70 | 25 => 99 | 3 => 3 | 39 => 102 | 0 => 0 | 53 => 113 | 55 => 115 | 4 => 4 | 46 => 106 | 45 => 105 | 50 => 64 | 5 => 5 | 9 => 9 | 66 => 121 | 70 => 125 | 76 => 129 | 77 => 49 | n => n, fun | n => n⟩
theorem Try.sortOb : Go.Proofs.SlLaysF0.n6 Try.prog Try.sortOb_ren := {
  mixed := by kernel_rfl
  f6 := ⟨Try.f48.name, by decide, Try.func48.trans (congrArg some (by kernel_rfl))⟩
  f14 := ⟨Try.f52.name, by decide, Try.func52.trans (congrArg some (by kernel_rfl))⟩
  f15 := Try.func51.trans (congrArg some (by kernel_rfl))
  f20 := ⟨Try.f64.name, by decide, Try.func64.trans (congrArg some (by kernel_rfl))⟩
  f21 := ⟨Try.f65.name, by decide, Try.func65.trans (congrArg some (by kernel_rfl))⟩
  f22 := ⟨Try.f66.name, by decide, Try.func66.trans (congrArg some (by kernel_rfl))⟩
  f23 := ⟨Try.f67.name, by decide, Try.func67.trans (congrArg some (by kernel_rfl))⟩
  f24 := ⟨Try.f68.name, by decide, Try.func68.trans (congrArg some (by kernel_rfl))⟩
  f25 := ⟨Try.f69.name, by decide, Try.func69.trans (congrArg some (by kernel_rfl))⟩
  f26 := ⟨Try.f70.name, by decide, Try.func70.trans (congrArg some (by kernel_rfl))⟩
  f27 := ⟨Try.f71.name, by decide, Try.func71.trans (congrArg some (by kernel_rfl))⟩
  f28 := Try.func62.trans (congrArg some (by kernel_rfl))
  f29 := Try.func63.trans (congrArg some (by kernel_rfl))
  f46 := ⟨Try.f78.name, by decide, Try.func78.trans (congrArg some (by kernel_rfl))⟩
  f47 := Try.func73.trans (congrArg some (by kernel_rfl))
  f48 := Try.func74.trans (congrArg some (by kernel_rfl))
  f49 := ⟨Try.f79.name, by decide, Try.func79.trans (congrArg some (by kernel_rfl))⟩
  f50 := ⟨Try.f80.name, by decide, Try.func80.trans (congrArg some (by kernel_rfl))⟩
  f57 := ⟨Try.f82.name, by decide, Try.func82.trans (congrArg some (by kernel_rfl))⟩
  t0 := Try.underlying0
  a0 := Try.isAgg0
  z0 := Try.sizeOf0
  v0 := Try.zeroValue0
  t3 := Try.underlying3
  a3 := Try.isAgg3
  z3 := Try.sizeOf3
  v3 := Try.zeroValue3
  t4 := Try.underlying4
  a4 := Try.isAgg4
  z4 := Try.sizeOf4
  v4 := Try.zeroValue4
  t5 := Try.underlying5
  a5 := Try.isAgg5
  z5 := Try.sizeOf5
  v5 := Try.zeroValue5
  t9 := Try.underlying9
  a9 := Try.isAgg9
  z9 := Try.sizeOf9
  v9 := Try.zeroValue9
  t22 := Try.underlying81
  a22 := Try.isAgg81
  z22 := Try.sizeOf81
  v22 := Try.zeroValue81
  t25 := Try.underlying99
  a25 := Try.isAgg99
  z25 := Try.sizeOf99
  v25 := Try.zeroValue99
  t39 := Try.underlying102
  a39 := Try.isAgg102
  z39 := Try.sizeOf102
  v39 := Try.zeroValue102
  t45 := Try.underlying105
  a45 := Try.isAgg105
  z45 := Try.sizeOf105
  v45 := Try.zeroValue105
  t46 := Try.underlying106
  a46 := Try.isAgg106
  z46 := Try.sizeOf106
  v46 := Try.zeroValue106
  t50 := Try.underlying64
  a50 := Try.isAgg64
  z50 := Try.sizeOf64
  v50 := Try.zeroValue64
  t53 := Try.underlying113
  a53 := Try.isAgg113
  z53 := Try.sizeOf113
  v53 := Try.zeroValue113
  t55 := Try.underlying115
  a55 := Try.isAgg115
  z55 := Try.sizeOf115
  v55 := Try.zeroValue115
  t66 := Try.underlying121
  a66 := Try.isAgg121
  z66 := Try.sizeOf121
  v66 := Try.zeroValue121
  t70 := Try.underlying125
  a70 := Try.isAgg125
  z70 := Try.sizeOf125
  v70 := Try.zeroValue125
  t76 := Try.underlying129
  a76 := Try.isAgg129
  z76 := Try.sizeOf129
  v76 := Try.zeroValue129
  t77 := Try.underlying49
  a77 := Try.isAgg49
  z77 := Try.sizeOf49
  v77 := Try.zeroValue49 }
end Go.Proofs
namespace Go.Proofs.Ytjjkcpmhlcjaoaa
open Go.RowKit Go.Sort Go.Shelf
set_option linter.unusedVariables false
set_option linter.unusedSimpArgs false

section
variable {w0 w : World} {T : List Ck} {e : TypeId} {sz g n cap : Nat} {xs : List Value} {α : Type} [Inhabited α]
theorem uk (enc : α → Value) (w : World) (g : Nat) (d : Array α) (j : Nat) : (putRow enc w g 0 d).heap[j]? = if g = j then (w.heap[j]?).map (onCells (putCells enc 0 d)) else w.heap[j]? := by
  show (w.heap.modify g (onCells (putCells enc 0 d)))[j]? = _
  rw [Array.getElem?_modify]
/-- A row of the call's own whose cells were laid anew. -/
theorem Mg.sorted (enc : α → Value) (hM : Mg w0 w (.row e sz (.slice (some ⟨g, 0, none⟩) n cap) n xs :: T)) (d : Array α) (hd : d.size = n * sz) (q : Nat) (os : Array Obj) :
    Mg w0 (grow (putRow enc (Sort.ahead w q) g 0 d) os) (.row e sz (.slice (some ⟨g, 0, none⟩) n cap) n (d.toList.map enc) :: T) := by
  have hr : w.ownsRow w0.heap.size e sz (.slice (some ⟨g, 0, none⟩) n cap) n xs := hM.has 0 rfl
  obtain ⟨h1, h2⟩ := hr
  rcases h2 with ⟨e0, _⟩ | ⟨g', cap', cur, e0, hB, hc, hn, hm, hs, ht⟩
  · cases e0
  · cases e0
    have hlt := (Array.getElem?_eq_some_iff.1 hc).1
    have hold : ∀ j, j < w.heap.size → (grow (putRow enc (Sort.ahead w q) g 0 d) os).heap[j]? = (putRow enc (Sort.ahead w q) g 0 d).heap[j]? := fun j hj => heap_grow_old _ os (by rw [size_putRow]; exact hj)
    refine hM.turn 0 (c := .row e sz (.slice (some ⟨g, 0, none⟩) n cap) n xs) (c' := .row e sz (.slice (some ⟨g, 0, none⟩) n cap) n (d.toList.map enc)) rfl (by simp) ⟨rfl, rfl, rfl, by rw [size_grow, size_putRow]; exact Nat.le_add_right _ _, fun j hj hne => ?_⟩ ⟨by simp [hd], .inr ⟨g, cap, putCells enc 0 d cur, rfl, hB, ?_, hn, hm, by simp [putCells, hs], ?_⟩⟩ (fun c _ ha => ?_)
    · rw [hold j hj, uk, if_neg (fun k => hne (by rw [← k]; rfl))]
      rfl
    · rw [hold g hlt, uk, if_pos rfl]
      show (w.heap[g]?).map _ = _
      rw [hc]
      rfl
    · have hle : n * sz ≤ cur.size := by rw [hs]; exact Nat.mul_le_mul_right _ hn
      apply List.ext_getElem?
      intro j
      rw [List.getElem?_take]
      by_cases hj : j < n * sz
      · rw [if_pos hj]
        have hjd : j < d.size := by omega
        have hjc : j < cur.size := by omega
        simp only [putCells, Array.getElem?_toList, Array.getElem?_mapIdx, Array.getElem?_eq_getElem hjc, Option.map_some, List.getElem?_map, Array.getElem?_toList, Array.getElem?_eq_getElem hjd]
        rw [if_pos ⟨Nat.zero_le _, by omega⟩, Nat.sub_zero, getElem!_pos d j hjd]
      · rw [if_neg hj, List.getElem?_eq_none (by simp; omega)]
    · cases c with
      | obj g' o' => exact ha
      | row e' sz' v' n' xs' => exact ha
      | bld b' bs' => exact ha
/-- A row holds its cells. -/
theorem qfh (enc : α → Value) (hM : Mg w0 w (.row e sz (.slice (some ⟨g, 0, none⟩) n cap) n xs :: T)) (d : Array α) (hx : d.toList.map enc = xs) : Holds enc w g 0 d ∧ g < w.heap.size := by
  have hr : w.ownsRow w0.heap.size e sz (.slice (some ⟨g, 0, none⟩) n cap) n xs := hM.has 0 rfl
  refine ⟨fun j hj => ?_, (hr.lt g rfl).2⟩
  have hl : j < xs.length := by rw [← hx]; simpa using hj
  have hl2 := hr.1
  refine ⟨?_, World.ownsRow.frozenAt hr _⟩
  rw [Nat.zero_add, World.ownsRow.cellAt hr j (by omega), ← hx, List.getElem?_map]
  rw [getElem!_pos d j hj]
  simp [hj]
end
/-- slices.Sort of a row of numbers of the call's own. -/
theorem sortI_any {w0 w : World} {T : List Ck} {so : Option Addr} {n ca : Nat} {zs : List Int} (hn : n = zs.length) (hl : zs.length ≤ 1000000000) (hM : Mg w0 w (.row 3 1 (.slice so n ca) n (qg zs) :: T)) :
    Calls Try.prog 40 #[.slice so n ca] w fun e w' => e = .returned (.tuple #[]) ∧ Mg w0 w' (.row 3 1 (.slice so n ca) n (qg (zs.mergeSort fun x y => decide (x ≤ y))) :: T) := by
  subst hn
  have hr : w.ownsRow w0.heap.size 3 1 (.slice so zs.length ca) zs.length (qg zs) := hM.has 0 rfl
  rcases hr.2 with ⟨e0, h0⟩ | ⟨g, cap, cur, e0, _⟩
  · have hz : zs = [] := List.length_eq_zero_iff.1 h0
    subst hz
    refine (Try.slices_Sort_int_none so ca w).mono ?_
    rintro e w' ⟨rfl, rfl⟩
    refine ⟨rfl, ?_⟩
    simpa using hM
  · cases e0
    obtain ⟨h1, h2⟩ := qfh (Value.int .i64) hM zs.toArray (by simp [qg])
    refine (Try.slices_Sort_int g 0 ca zs w h1 h2 (by omega)).mono ?_
    rintro e w' ⟨rfl, q, os, rfl⟩
    refine ⟨rfl, ?_⟩
    have := hM.sorted (Value.int .i64) (zs.mergeSort fun x y => decide (x ≤ y)).toArray (by simp) q os
    simpa [qg] using this
/-! ### Objects by their places -/
/-- An object that stands within an area. -/
structure Oa where
  o : Ob
  h : o.p ≤ 65536
instance : Inhabited Oa := ⟨⟨⟨0, 0, 0, 0, []⟩, Nat.zero_le _⟩⟩
def qhh (x : Oa) : List Value := [.int .i64 ((x.1.p : Nat) : Int), x.1.sl]
def cmpO (x y : Oa) : Int := ((x.1.p : Nat) : Int) - ((y.1.p : Nat) : Int)
theorem ltO (x y : Oa) : ltOf cmpO x y = decide (x.1.p < y.1.p) := by
  unfold ltOf cmpO
  by_cases h : x.1.p < y.1.p
  · simp [h]; omega
  · simp [h]; omega
theorem swoO : SWO (ltOf cmpO) where
  irrefl x := by rw [ltO]; simp
  trans x y z h1 h2 := by rw [ltO] at *; simp at *; omega
  ntrans x y z h1 h2 := by rw [ltO] at *; simp at *; omega
set_option maxHeartbeats 1000000 in
theorem closureO (x y : Oa) (W : World) : Calls Try.prog 49 #[.agg #[.int .i64 ((x.1.p : Nat) : Int), x.1.sl], .agg #[.int .i64 ((y.1.p : Nat) : Int), y.1.sl]] W fun e w' => e = .returned (.int .i64 (cmpO x y)) ∧ ∃ q os', w' = grow (W.drewN q) os' := by
  obtain ⟨⟨x1, x2, x3, x4, x5⟩, hx⟩ := x
  obtain ⟨⟨y1, y2, y3, y4, y5⟩, hy⟩ := y
  simp only [Ob.sl, cmpO] at hx hy ⊢
  replace hx : x2 ≤ 65536 := hx
  replace hy : y2 ≤ 65536 := hy
  have hwr : IntKind.i64.wrap (((x2 : Nat) : Int) - ((y2 : Nat) : Int)) = ((x2 : Nat) : Int) - ((y2 : Nat) : Int) := in_i64 (by omega) (by omega)
  go_enter Try.func49, Try.ntmps49
  go_wp2
  go_ret
  exact ⟨rfl, 0, _, by rw [alloc_eq_grow, alloc_eq_grow, grow_grow]; rfl⟩
theorem flat_ob (d : Array Oa) : (flatK qhh 2 d).toList = obC (d.toList.map Oa.o) := by
  apply List.ext_getElem?
  intro j
  have key : ∀ (l : List Oa) (j : Nat), (obC (l.map Oa.o))[j]? = (l[j / 2]?).bind fun x => (qhh x)[j % 2]? := by
    intro l
    induction l with
    | nil => intro j; rfl
    | cons a t ih =>
      intro j
      match j with
      | 0 => rfl
      | 1 => rfl
      | j + 2 =>
        have e1 : (j + 2) / 2 = j / 2 + 1 := by omega
        have e2 : (j + 2) % 2 = j % 2 := by omega
        rw [e1, e2, List.getElem?_cons_succ, ← ih j]
        rfl
  rw [key]
  by_cases hj : j < d.size * 2
  · have h2 : j / 2 < d.size := by omega
    have hm : j % 2 < (qhh d[j / 2]).length := by show j % 2 < 2; omega
    rw [Array.getElem?_toList, Array.getElem?_eq_getElem (by simpa using hj), Array.getElem?_toList, Array.getElem?_eq_getElem h2]
    simp only [Option.bind_some, List.getElem?_eq_getElem hm]
    have := get_flatK qhh 2 d j hj
    rw [getElem!_pos _ j (by simpa using hj), getElem!_pos d (j / 2) h2, getElem!_pos _ (j % 2) hm] at this
    rw [this]
  · rw [List.getElem?_eq_none (by simp; omega), Array.getElem?_toList, Array.getElem?_eq_none (by omega)]
    rfl
theorem cmpLaysO (blk off size : Nat) (w : World) : CmpLays Try.prog 49 #[] qhh 2 cmpO blk off size w := fun _ _ _ _ x y => closureO x y _
/-- slices.SortFunc of a row of objects of the call's own. -/
theorem qfi {w0 w : World} {T : List Ck} {so : Option Addr} {n ca : Nat} {ys : List Ob} (hn : n = ys.length) (hp : ∀ o ∈ ys, o.p ≤ 65536) (hl : ys.length ≤ 1000000000) (hM : Mg w0 w (.row 70 2 (.slice so n ca) n (obC ys) :: T)) :
    Calls Try.prog 48 #[.slice so n ca, .func (.func 49) #[] #[]] w fun e w' => e = .returned (.tuple #[]) ∧ ∃ zs : List Ob, (zs.Perm ys ∧ ByP zs) ∧ Mg w0 w' (.row 70 2 (.slice so n ca) n (obC zs) :: T) := by
  subst hn
  have hr : w.ownsRow w0.heap.size 70 2 (.slice so ys.length ca) ys.length (obC ys) := hM.has 0 rfl
  rcases hr.2 with ⟨e0, h0⟩ | ⟨g, cap, cur, e0, _⟩
  · have hz : ys = [] := List.length_eq_zero_iff.1 h0
    subst hz
    refine Calls.mono (AnyF.slices_SortFunc_none { Try.sortOb with } so ca _ w) ?_
    rintro e w' ⟨rfl, rfl⟩
    exact ⟨rfl, [], ⟨.refl _, .nil⟩, hM⟩
  · cases e0
    obtain ⟨d, hd⟩ : ∃ d : Array Oa, d.toList.map Oa.o = ys := ⟨(ys.attach.map fun o => (⟨o.1, hp o.1 o.2⟩ : Oa)).toArray, by simp [Function.comp_def]⟩
    have hds : d.size = ys.length := by rw [← hd]; simp
    obtain ⟨h1, h2⟩ := qfh id hM (flatK qhh 2 d) (by rw [List.map_id, flat_ob, hd])
    have hcon := AnyQ.slices_SortFunc Try.sortOb 2 Try.isAgg70 Try.sizeOf70 qhh (fun _ => rfl) (fun x v hv => by simp [qhh] at hv; rcases hv with rfl | rfl <;> rfl) cmpO swoO 49 #[] g 0 ca d w (enters_of Try.func49 (by kernel_rfl) rfl) (cmpLaysO g 0 d.size w) h1 h2 (by omega)
    change Calls Try.prog 48 _ _ _ at hcon
    rw [hds] at hcon
    refine hcon.mono ?_
    rintro e w' ⟨rfl, d', q, os, hperm, hsort, rfl⟩
    obtain ⟨hs1, _, hs3⟩ := hperm
    have hz : (d'.toList.map Oa.o).Perm ys := by
      rw [← hd]
      refine List.Perm.map _ ?_
      have e1 : d'.extract 0 ys.length = d' := by rw [Array.extract_eq_self_of_le (by omega)]
      have e2 : d.extract 0 ys.length = d := by rw [Array.extract_eq_self_of_le (by omega)]
      rw [e1, e2] at hs3
      exact hs3
    refine ⟨rfl, d'.toList.map Oa.o, ⟨hz, ?_⟩, ?_⟩
    · unfold ByP
      rw [List.pairwise_map, List.pairwise_iff_getElem]
      intro i j hi hj hij
      simp at hi hj
      have := hsort i j (Nat.zero_le _) hij (by omega)
      rw [ltO, getElem!_pos d' i hi, getElem!_pos d' j hj] at this
      simpa using this
    · have hlen : (d'.toList.map Oa.o).length = ys.length := hz.length_eq
      have := hM.sorted id (flatK qhh 2 d') (by simp; omega) q os
      rw [List.map_id, flat_ob] at this
      exact this
open Go.RowKit
set_option maxRecDepth 100000
theorem HbG_is1_3 : Is1 Try.prog 3 := ⟨⟨_, Try.underlying3, rfl⟩, by kernel_rfl⟩
theorem HbG_is1_57 : Is1 Try.prog 57 := ⟨⟨_, Try.underlying57, rfl⟩, by kernel_rfl⟩
theorem HbG_is1_68 : Is1 Try.prog 68 := ⟨⟨_, Try.underlying68, rfl⟩, by kernel_rfl⟩
theorem HbG_fld_63_0 : FieldAt Try.prog 63 0 0 := ⟨_, _, Try.underlying63, rfl, rfl, by kernel_rfl⟩
theorem HbG_fld_70_0 : FieldAt Try.prog 70 0 0 := ⟨_, _, Try.underlying70, rfl, rfl, by kernel_rfl⟩
theorem HbG_fld_70_1 : FieldAt Try.prog 70 1 1 := ⟨_, _, Try.underlying70, rfl, rfl, by kernel_rfl⟩
theorem HbG_isS_70 : IsS Try.prog 70 2 := ⟨⟨_, Try.underlying70⟩, by kernel_rfl⟩
theorem sweep_any {w0 w : World} {h m last ss ls sc lc : Nat} {sg lg : Option Addr} {gs gl : List (Nat × Nat)} {os : List Ob} {T : List Ck} {ws : List Int} {fm : Nat} (hx : Hx os last) (hol : os.length ≤ 1000000) (hcl : ∀ o ∈ os, o.ws.length ≤ 1000000) (hsw : zr os ≤ 1000000000) (hM0 : Mg w0 w (.obj h (.cells #[.map (some m), .int .i64 (((last : Nat) : Int)), .int .i64 (((ss : Nat) : Int)), .slice sg gs.length sc, .int .i64 (((ls : Nat) : Int)), .slice lg gl.length lc] 63) :: .obj m (qc (os.map Ob.en) last) :: .row 88 2 (.slice sg gs.length sc) gs.length (qa gs) :: .row 88 2 (.slice lg gl.length lc) gl.length (qa gl) :: .obj fm (qc (mkE 0 ws) ws.length) :: T)) : Calls Try.prog 32 #[.pointer (some ⟨h, 0, none⟩), .map (some fm)] w fun e w' => e = .returned (.int .i64 ((zr (yf ws os) : Nat) : Int)) ∧ Mg w0 w' (.obj h (.cells #[.map (some m), .int .i64 (((last : Nat) : Int)), .int .i64 (((ss : Nat) : Int)), .slice sg gs.length sc, .int .i64 (((ls : Nat) : Int)), .slice lg gl.length lc] 63) :: .obj m (qc ((stay ws os).map Ob.en) last) :: .row 88 2 (.slice sg gs.length sc) gs.length (qa gs) :: .row 88 2 (.slice lg gl.length lc) gl.length (qa gl) :: .obj fm (qc (mkE 0 ws) ws.length) :: T) := by
 have M : Mg w0 w (.obj h (.cells #[.map (some m), .int .i64 (((last : Nat) : Int)), .int .i64 (((ss : Nat) : Int)), .slice sg gs.length sc, .int .i64 (((ls : Nat) : Int)), .slice lg gl.length lc] 63) :: .obj m (qc (os.map Ob.en) last) :: .row 88 2 (.slice sg gs.length sc) gs.length (qa gs) :: .row 88 2 (.slice lg gl.length lc) gl.length (qa gl) :: .obj fm (qc (mkE 0 ws) ws.length) :: T) := hM0
 refine qp (l := [(0, .pointer (some ⟨h, 0, none⟩)), (1, .map (some fm))]) Try.func32 rfl Try.ntmps32 rfl rfl ?_
 intro Q hret hnorm hP a A
 refine wsk fun K1 hK1 => wrl (sda A λa A↦?_)
 refine qb (hK1 _ _ (wsk fun K2 hK2 => wrl (sda A λa A↦?_)))
 refine qb (hK2 _ _ (wsk fun K3 hK3 => wsk fun K4 hK4 => wrl (sdm A λa A↦?_)))
 refine sdo A (qu rfl) λa A↦?_
 refine sdo (v := .pointer (some ⟨h, 0, none⟩)) A (qd HbG_fld_63_0 rfl rfl) λa A↦?_
 refine sdo A (qh M HbG_is1_57 rfl 0 rfl rfl) λa A↦?_
 refine yk A M rfl Try.underlying57 rfl 1 rfl rfl rfl rfl ?_
 intro r5 w6 M a A
 replace M : Mg w0 w6 (.obj r5 (.mapIter (some m) last ([]).toArray last) :: .obj h (.cells #[.map (some m), .int .i64 (((last : Nat) : Int)), .int .i64 (((ss : Nat) : Int)), .slice sg gs.length sc, .int .i64 (((ls : Nat) : Int)), .slice lg gl.length lc] 63) :: .obj m (qc (os.map Ob.en) last) :: .row 88 2 (.slice sg gs.length sc) gs.length (qa gs) :: .row 88 2 (.slice lg gl.length lc) gl.length (qa gl) :: .obj fm (qc (mkE 0 ws) ws.length) :: T) := M
 refine qb (hK4 _ _ (wp_block ?_))
 replace M : Mg w0 w6 (.obj fm (qc (mkE 0 ws) ws.length) :: .obj r5 (.mapIter (some m) last ([]).toArray last) :: .obj h (.cells #[.map (some m), .int .i64 (((last : Nat) : Int)), .int .i64 (((ss : Nat) : Int)), .slice sg gs.length sc, .int .i64 (((ls : Nat) : Int)), .slice lg gl.length lc] 63) :: .obj m (qc (os.map Ob.en) last) :: .row 88 2 (.slice sg gs.length sc) gs.length (qa gs) :: .row 88 2 (.slice lg gl.length lc) gl.length (qa gl) :: T) := M.bring 5 rfl rfl
 replace M : Mg w0 w6 (.row 88 2 (.slice lg gl.length lc) gl.length (qa gl) :: .obj fm (qc (mkE 0 ws) ws.length) :: .obj r5 (.mapIter (some m) last ([]).toArray last) :: .obj h (.cells #[.map (some m), .int .i64 (((last : Nat) : Int)), .int .i64 (((ss : Nat) : Int)), .slice sg gs.length sc, .int .i64 (((ls : Nat) : Int)), .slice lg gl.length lc] 63) :: .obj m (qc (os.map Ob.en) last) :: .row 88 2 (.slice sg gs.length sc) gs.length (qa gs) :: T) := M.bring 5 rfl rfl
 replace M : Mg w0 w6 (.row 88 2 (.slice sg gs.length sc) gs.length (qa gs) :: .row 88 2 (.slice lg gl.length lc) gl.length (qa gl) :: .obj fm (qc (mkE 0 ws) ws.length) :: .obj r5 (.mapIter (some m) last ([]).toArray last) :: .obj h (.cells #[.map (some m), .int .i64 (((last : Nat) : Int)), .int .i64 (((ss : Nat) : Int)), .slice sg gs.length sc, .int .i64 (((ls : Nat) : Int)), .slice lg gl.length lc] 63) :: .obj m (qc (os.map Ob.en) last) :: T) := M.bring 5 rfl rfl
 replace M : Mg w0 w6 (.obj m (qc (os.map Ob.en) last) :: .row 88 2 (.slice sg gs.length sc) gs.length (qa gs) :: .row 88 2 (.slice lg gl.length lc) gl.length (qa gl) :: .obj fm (qc (mkE 0 ws) ws.length) :: .obj r5 (.mapIter (some m) last ([]).toArray last) :: .obj h (.cells #[.map (some m), .int .i64 (((last : Nat) : Int)), .int .i64 (((ss : Nat) : Int)), .slice sg gs.length sc, .int .i64 (((ls : Nat) : Int)), .slice lg gl.length lc] 63) :: T) := M.bring 5 rfl rfl
 replace M : Mg w0 w6 (.obj h (.cells #[.map (some m), .int .i64 (((last : Nat) : Int)), .int .i64 (((ss : Nat) : Int)), .slice sg gs.length sc, .int .i64 (((ls : Nat) : Int)), .slice lg gl.length lc] 63) :: .obj m (qc (os.map Ob.en) last) :: .row 88 2 (.slice sg gs.length sc) gs.length (qa gs) :: .row 88 2 (.slice lg gl.length lc) gl.length (qa gl) :: .obj fm (qc (mkE 0 ws) ws.length) :: .obj r5 (.mapIter (some m) last ([]).toArray last) :: T) := M.bring 5 rfl rfl
 replace M : Mg w0 w6 (.obj h (.cells #[.map (some m), .int .i64 (((last : Nat) : Int)), .int .i64 (((ss : Nat) : Int)), .slice sg gs.length sc, .int .i64 (((ls : Nat) : Int)), .slice lg gl.length lc] 63) :: .obj m (qc ((swp ws [] os).map Ob.en) last) :: .row 88 2 (.slice sg gs.length sc) gs.length (qa gs) :: .row 88 2 (.slice lg gl.length lc) gl.length (qa gl) :: .obj fm (qc (mkE 0 ws) ws.length) :: .obj r5 (.mapIter (some m) last ([]).toArray last) :: T) := by rw [swp_nil]; exact M
 refine zh (fun m_ a w1 => ∃ (seen : List Nat) (q : Nat), m_ = 1 + (jb seen os).length ∧ (q = zr (uq ws seen os)) ∧ Sl a 39 [(0, .pointer (some ⟨h, 0, none⟩)), (1, .map (some fm)), (4, .int .i64 0), (5, .int .i64 (((q : Nat) : Int))), (10, .pointer (some ⟨h, 0, none⟩)), (11, .pointer (some ⟨h, 0, none⟩)), (12, .pointer (some ⟨h, 0, none⟩)), (13, .map (some m)), (14, .pointer (some ⟨r5, 0, none⟩))] ∧ Mg w0 w1 (.obj h (.cells #[.map (some m), .int .i64 (((last : Nat) : Int)), .int .i64 (((ss : Nat) : Int)), .slice sg gs.length sc, .int .i64 (((ls : Nat) : Int)), .slice lg gl.length lc] 63) :: .obj m (qc ((swp ws seen os).map Ob.en) last) :: .row 88 2 (.slice sg gs.length sc) gs.length (qa gs) :: .row 88 2 (.slice lg gl.length lc) gl.length (qa gl) :: .obj fm (qc (mkE 0 ws) ws.length) :: .obj r5 (.mapIter (some m) last seen.toArray last) :: T)) _ ⟨[], 0, rfl, (by rw [gone_nil]; rfl), A.keep _ (by repeat' constructor), M⟩ ?_
 clear M A
 rintro m_ a w7 ⟨seen, q, rfl, hinv9, A, M⟩ K8 hK8
 have hq := hinv9
 refine wsk fun K10 hK10 => wrl ?_
 refine uu (seen := seen) (L' := fun e11 => (.obj h (.cells #[.map (some m), .int .i64 (((last : Nat) : Int)), .int .i64 (((ss : Nat) : Int)), .slice sg gs.length sc, .int .i64 (((ls : Nat) : Int)), .slice lg gl.length lc] 63) :: .obj m (qc ((swp ws seen os).map Ob.en) last) :: .row 88 2 (.slice sg gs.length sc) gs.length (qa gs) :: .row 88 2 (.slice lg gl.length lc) gl.length (qa gl) :: .obj fm (qc (mkE 0 ws) ws.length) :: .obj r5 (.mapIter (some m) last ((seen ++ [e11.b])).toArray last) :: T)) A M rfl rfl 5 1 rfl rfl ((hx.sub (ux ws seen os)).old) (Nat.le_refl _) rfl rfl rfl (fun _ => rfl) ?_ ?_
 ·
  intro hz16 a A
  rw [xj] at hz16
  replace hz16 := List.map_eq_nil_iff.1 hz16
  refine sdo A (qk (vs := [.bool false]) rfl rfl) λa A↦?_
  refine qb (hK10 _ _ (wsk fun K17 hK17 => wp_cond_false (A.ev rfl) ?_))
  refine wp_exit (hK3 _ _ (wsk fun K18 hK18 => wrl (sdm A λa A↦?_)))
  refine sda A λa A↦?_
  refine qb (hK18 _ _ (wp_ret (hret _ _ (en1 A rfl (qi rfl) ?_))))
  replace M : Mg w0 w7 (.obj fm (qc (mkE 0 ws) ws.length) :: .obj h (.cells #[.map (some m), .int .i64 (((last : Nat) : Int)), .int .i64 (((ss : Nat) : Int)), .slice sg gs.length sc, .int .i64 (((ls : Nat) : Int)), .slice lg gl.length lc] 63) :: .obj m (qc ((swp ws seen os).map Ob.en) last) :: .row 88 2 (.slice sg gs.length sc) gs.length (qa gs) :: .row 88 2 (.slice lg gl.length lc) gl.length (qa gl) :: .obj r5 (.mapIter (some m) last seen.toArray last) :: T) := M.bring 4 rfl rfl
  replace M : Mg w0 w7 (.row 88 2 (.slice lg gl.length lc) gl.length (qa gl) :: .obj fm (qc (mkE 0 ws) ws.length) :: .obj h (.cells #[.map (some m), .int .i64 (((last : Nat) : Int)), .int .i64 (((ss : Nat) : Int)), .slice sg gs.length sc, .int .i64 (((ls : Nat) : Int)), .slice lg gl.length lc] 63) :: .obj m (qc ((swp ws seen os).map Ob.en) last) :: .row 88 2 (.slice sg gs.length sc) gs.length (qa gs) :: .obj r5 (.mapIter (some m) last seen.toArray last) :: T) := M.bring 4 rfl rfl
  replace M : Mg w0 w7 (.row 88 2 (.slice sg gs.length sc) gs.length (qa gs) :: .row 88 2 (.slice lg gl.length lc) gl.length (qa gl) :: .obj fm (qc (mkE 0 ws) ws.length) :: .obj h (.cells #[.map (some m), .int .i64 (((last : Nat) : Int)), .int .i64 (((ss : Nat) : Int)), .slice sg gs.length sc, .int .i64 (((ls : Nat) : Int)), .slice lg gl.length lc] 63) :: .obj m (qc ((swp ws seen os).map Ob.en) last) :: .obj r5 (.mapIter (some m) last seen.toArray last) :: T) := M.bring 4 rfl rfl
  replace M : Mg w0 w7 (.obj m (qc ((swp ws seen os).map Ob.en) last) :: .row 88 2 (.slice sg gs.length sc) gs.length (qa gs) :: .row 88 2 (.slice lg gl.length lc) gl.length (qa gl) :: .obj fm (qc (mkE 0 ws) ws.length) :: .obj h (.cells #[.map (some m), .int .i64 (((last : Nat) : Int)), .int .i64 (((ss : Nat) : Int)), .slice sg gs.length sc, .int .i64 (((ls : Nat) : Int)), .slice lg gl.length lc] 63) :: .obj r5 (.mapIter (some m) last seen.toArray last) :: T) := M.bring 4 rfl rfl
  replace M : Mg w0 w7 (.obj h (.cells #[.map (some m), .int .i64 (((last : Nat) : Int)), .int .i64 (((ss : Nat) : Int)), .slice sg gs.length sc, .int .i64 (((ls : Nat) : Int)), .slice lg gl.length lc] 63) :: .obj m (qc ((swp ws seen os).map Ob.en) last) :: .row 88 2 (.slice sg gs.length sc) gs.length (qa gs) :: .row 88 2 (.slice lg gl.length lc) gl.length (qa gl) :: .obj fm (qc (mkE 0 ws) ws.length) :: .obj r5 (.mapIter (some m) last seen.toArray last) :: T) := M.bring 4 rfl rfl
  replace M : Mg w0 w7 (.obj h (.cells #[.map (some m), .int .i64 (((last : Nat) : Int)), .int .i64 (((ss : Nat) : Int)), .slice sg gs.length sc, .int .i64 (((ls : Nat) : Int)), .slice lg gl.length lc] 63) :: .obj m (qc ((swp ws seen os).map Ob.en) last) :: .row 88 2 (.slice sg gs.length sc) gs.length (qa gs) :: .row 88 2 (.slice lg gl.length lc) gl.length (qa gl) :: .obj fm (qc (mkE 0 ws) ws.length) :: T) := by
   have h9 := M.sub (cc (cc (cc (cc (cc (cn (.refl _)))))))
   exact h9
  rw [qai] at hz16
  rw [swp_end hz16] at M
  exact ⟨by rw [hq, gone_end hz16], M⟩
 ·
  intro e11 he12 w13 M a A
  rw [xj] at he12
  obtain ⟨o, ho, rfl⟩ := List.mem_map.1 he12
  replace M : Mg w0 w13 (.obj h (.cells #[.map (some m), .int .i64 (((last : Nat) : Int)), .int .i64 (((ss : Nat) : Int)), .slice sg gs.length sc, .int .i64 (((ls : Nat) : Int)), .slice lg gl.length lc] 63) :: .obj m (qc ((swp ws seen os).map Ob.en) last) :: .row 88 2 (.slice sg gs.length sc) gs.length (qa gs) :: .row 88 2 (.slice lg gl.length lc) gl.length (qa gl) :: .obj fm (qc (mkE 0 ws) ws.length) :: .obj r5 (.mapIter (some m) last ((seen ++ [o.x - 1])).toArray last) :: T) := M
  have homem : o ∈ swp ws seen os := (List.mem_filter.1 ho).1
  have ho2 : o ∈ jb seen os := by rw [qai] at ho; exact ho
  have hoos := (List.mem_filter.1 ho2).1
  have hsw := vv (List.filter_sublist (p := fun q => decide (q.x = o.x)) (l := os))
  have hqb : q ≤ zr os := by rw [hq]; exact vv List.filter_sublist
  have hol1 := hcl o hoos
  refine sdo A (qk (vs := [.bool true, .int .i64 (((o.x : Nat) : Int)), .agg #[.int .i64 (((o.p : Nat) : Int)), .slice (some ⟨o.g, 0, none⟩) o.ws.length o.c]]) rfl rfl) λa A↦?_
  refine qb (hK10 _ _ (wsk fun K19 hK19 => wp_cond_true (A.ev rfl) ?_))
  refine wp_skip (hK19 _ _ (wp_block (wsk fun K20 hK20 => wrl (sdo (v := .tuple #[.int .i64 (((o.x : Nat) : Int)), .agg #[.int .i64 (((o.p : Nat) : Int)), .slice (some ⟨o.g, 0, none⟩) o.ws.length o.c]]) A (uv (e := o.en) (seen := seen) M rfl 5 1 rfl rfl (List.mem_map.2 ⟨o, homem, rfl⟩) (hx.sub (ux ws seen os)).nodup) λa A↦?_))))
  iterate 2 refine sdo A (qk (vs := [.int .i64 (((o.x : Nat) : Int)), .agg #[.int .i64 (((o.p : Nat) : Int)), .slice (some ⟨o.g, 0, none⟩) o.ws.length o.c]]) rfl rfl) λa A↦?_
  refine qt (vs := [.int .i64 0, .slice none 0 0]) (t := 70) A M rfl rfl rfl pg (ql (z := .agg #[.int .i64 0, .slice none 0 0]) (by kernel_rfl) rfl) (by decide) ?_
  intro g21 w22 M a A
  refine sda A λa A↦?_
  refine qs (us := [.int .i64 (((o.p : Nat) : Int)), .slice (some ⟨o.g, 0, none⟩) o.ws.length o.c]) (L' := (.obj g21 (.cells #[.int .i64 (((o.p : Nat) : Int)), .slice (some ⟨o.g, 0, none⟩) o.ws.length o.c] 70) :: .obj h (.cells #[.map (some m), .int .i64 (((last : Nat) : Int)), .int .i64 (((ss : Nat) : Int)), .slice sg gs.length sc, .int .i64 (((ls : Nat) : Int)), .slice lg gl.length lc] 63) :: .obj m (qc ((swp ws seen os).map Ob.en) last) :: .row 88 2 (.slice sg gs.length sc) gs.length (qa gs) :: .row 88 2 (.slice lg gl.length lc) gl.length (qa gl) :: .obj fm (qc (mkE 0 ws) ws.length) :: .obj r5 (.mapIter (some m) last ((seen ++ [o.x - 1])).toArray last) :: T)) A M rfl rfl (qo rfl rfl rfl (by kernel_rfl) M 0 rfl rfl rfl) 0 rfl rfl rfl ?_
  intro w23 M
  refine qb (hK20 _ _ (wsk fun K24 hK24 => wrl ?_))
  iterate 2 refine sdm A λa A↦?_
  rcases tf (decide (((o.x : Nat) : Int) ∈ ws)) with hb25 | hb25
  ·
   obtain ⟨e26, he27, hv28⟩ := qha (i := 0) (of_decide_eq_true hb25)
   refine sdo (v := .tuple #[.agg #[], .bool true]) A (kh M Try.underlying78 Try.underlying3 rfl rfl 5 rfl he27 (by rw [hv28]; rfl)) λa A↦?_
   refine sdm A λa A↦?_
   iterate 2 refine sdo A (qk (vs := [.agg #[], .bool true]) rfl rfl) λa A↦?_
   refine qt (vs := []) (t := 94) A M rfl rfl rfl pg (ql (z := .agg #[]) (by kernel_rfl) rfl) (by decide) ?_
   intro g29 w30 M a A
   refine qs (us := []) (L' := (.obj g29 (.cells #[] 94) :: .obj g21 (.cells #[.int .i64 (((o.p : Nat) : Int)), .slice (some ⟨o.g, 0, none⟩) o.ws.length o.c] 70) :: .obj h (.cells #[.map (some m), .int .i64 (((last : Nat) : Int)), .int .i64 (((ss : Nat) : Int)), .slice sg gs.length sc, .int .i64 (((ls : Nat) : Int)), .slice lg gl.length lc] 63) :: .obj m (qc ((swp ws seen os).map Ob.en) last) :: .row 88 2 (.slice sg gs.length sc) gs.length (qa gs) :: .row 88 2 (.slice lg gl.length lc) gl.length (qa gl) :: .obj fm (qc (mkE 0 ws) ws.length) :: .obj r5 (.mapIter (some m) last ((seen ++ [o.x - 1])).toArray last) :: T)) A M rfl rfl (qo rfl rfl rfl (by kernel_rfl) M 0 rfl rfl rfl) 0 rfl rfl rfl ?_
   intro w31 M
   refine sda A λa A↦?_
   refine qb (hK24 _ _ (wsk fun K32 hK32 => wrl (sdm A λa A↦?_)))
   refine sdo (v := .bool false) A (zf rfl zm) λa A↦?_
   refine qb (hK32 _ _ (wp_cond_false (A.ev rfl) ?_))
   refine wp_skip ?_
   replace M : Mg w0 w31 (.obj r5 (.mapIter (some m) last ((seen ++ [o.x - 1])).toArray last) :: .obj g29 (.cells #[] 94) :: .obj g21 (.cells #[.int .i64 (((o.p : Nat) : Int)), .slice (some ⟨o.g, 0, none⟩) o.ws.length o.c] 70) :: .obj h (.cells #[.map (some m), .int .i64 (((last : Nat) : Int)), .int .i64 (((ss : Nat) : Int)), .slice sg gs.length sc, .int .i64 (((ls : Nat) : Int)), .slice lg gl.length lc] 63) :: .obj m (qc ((swp ws seen os).map Ob.en) last) :: .row 88 2 (.slice sg gs.length sc) gs.length (qa gs) :: .row 88 2 (.slice lg gl.length lc) gl.length (qa gl) :: .obj fm (qc (mkE 0 ws) ws.length) :: T) := M.bring 7 rfl rfl
   replace M : Mg w0 w31 (.obj fm (qc (mkE 0 ws) ws.length) :: .obj r5 (.mapIter (some m) last ((seen ++ [o.x - 1])).toArray last) :: .obj g29 (.cells #[] 94) :: .obj g21 (.cells #[.int .i64 (((o.p : Nat) : Int)), .slice (some ⟨o.g, 0, none⟩) o.ws.length o.c] 70) :: .obj h (.cells #[.map (some m), .int .i64 (((last : Nat) : Int)), .int .i64 (((ss : Nat) : Int)), .slice sg gs.length sc, .int .i64 (((ls : Nat) : Int)), .slice lg gl.length lc] 63) :: .obj m (qc ((swp ws seen os).map Ob.en) last) :: .row 88 2 (.slice sg gs.length sc) gs.length (qa gs) :: .row 88 2 (.slice lg gl.length lc) gl.length (qa gl) :: T) := M.bring 7 rfl rfl
   replace M : Mg w0 w31 (.row 88 2 (.slice lg gl.length lc) gl.length (qa gl) :: .obj fm (qc (mkE 0 ws) ws.length) :: .obj r5 (.mapIter (some m) last ((seen ++ [o.x - 1])).toArray last) :: .obj g29 (.cells #[] 94) :: .obj g21 (.cells #[.int .i64 (((o.p : Nat) : Int)), .slice (some ⟨o.g, 0, none⟩) o.ws.length o.c] 70) :: .obj h (.cells #[.map (some m), .int .i64 (((last : Nat) : Int)), .int .i64 (((ss : Nat) : Int)), .slice sg gs.length sc, .int .i64 (((ls : Nat) : Int)), .slice lg gl.length lc] 63) :: .obj m (qc ((swp ws seen os).map Ob.en) last) :: .row 88 2 (.slice sg gs.length sc) gs.length (qa gs) :: T) := M.bring 7 rfl rfl
   replace M : Mg w0 w31 (.row 88 2 (.slice sg gs.length sc) gs.length (qa gs) :: .row 88 2 (.slice lg gl.length lc) gl.length (qa gl) :: .obj fm (qc (mkE 0 ws) ws.length) :: .obj r5 (.mapIter (some m) last ((seen ++ [o.x - 1])).toArray last) :: .obj g29 (.cells #[] 94) :: .obj g21 (.cells #[.int .i64 (((o.p : Nat) : Int)), .slice (some ⟨o.g, 0, none⟩) o.ws.length o.c] 70) :: .obj h (.cells #[.map (some m), .int .i64 (((last : Nat) : Int)), .int .i64 (((ss : Nat) : Int)), .slice sg gs.length sc, .int .i64 (((ls : Nat) : Int)), .slice lg gl.length lc] 63) :: .obj m (qc ((swp ws seen os).map Ob.en) last) :: T) := M.bring 7 rfl rfl
   replace M : Mg w0 w31 (.obj m (qc ((swp ws seen os).map Ob.en) last) :: .row 88 2 (.slice sg gs.length sc) gs.length (qa gs) :: .row 88 2 (.slice lg gl.length lc) gl.length (qa gl) :: .obj fm (qc (mkE 0 ws) ws.length) :: .obj r5 (.mapIter (some m) last ((seen ++ [o.x - 1])).toArray last) :: .obj g29 (.cells #[] 94) :: .obj g21 (.cells #[.int .i64 (((o.p : Nat) : Int)), .slice (some ⟨o.g, 0, none⟩) o.ws.length o.c] 70) :: .obj h (.cells #[.map (some m), .int .i64 (((last : Nat) : Int)), .int .i64 (((ss : Nat) : Int)), .slice sg gs.length sc, .int .i64 (((ls : Nat) : Int)), .slice lg gl.length lc] 63) :: T) := M.bring 7 rfl rfl
   replace M : Mg w0 w31 (.obj h (.cells #[.map (some m), .int .i64 (((last : Nat) : Int)), .int .i64 (((ss : Nat) : Int)), .slice sg gs.length sc, .int .i64 (((ls : Nat) : Int)), .slice lg gl.length lc] 63) :: .obj m (qc ((swp ws seen os).map Ob.en) last) :: .row 88 2 (.slice sg gs.length sc) gs.length (qa gs) :: .row 88 2 (.slice lg gl.length lc) gl.length (qa gl) :: .obj fm (qc (mkE 0 ws) ws.length) :: .obj r5 (.mapIter (some m) last ((seen ++ [o.x - 1])).toArray last) :: .obj g29 (.cells #[] 94) :: .obj g21 (.cells #[.int .i64 (((o.p : Nat) : Int)), .slice (some ⟨o.g, 0, none⟩) o.ws.length o.c] 70) :: T) := M.bring 7 rfl rfl
   replace M : Mg w0 w31 (.obj h (.cells #[.map (some m), .int .i64 (((last : Nat) : Int)), .int .i64 (((ss : Nat) : Int)), .slice sg gs.length sc, .int .i64 (((ls : Nat) : Int)), .slice lg gl.length lc] 63) :: .obj m (qc ((swp ws seen os).map Ob.en) last) :: .row 88 2 (.slice sg gs.length sc) gs.length (qa gs) :: .row 88 2 (.slice lg gl.length lc) gl.length (qa gl) :: .obj fm (qc (mkE 0 ws) ws.length) :: .obj r5 (.mapIter (some m) last ((seen ++ [o.x - 1])).toArray last) :: T) := by
    have h9 := M.sub (cc (cc (cc (cc (cc (cc (cn (cn (.refl _)))))))))
    exact h9
   replace M : Mg w0 w31 (.obj h (.cells #[.map (some m), .int .i64 (((last : Nat) : Int)), .int .i64 (((ss : Nat) : Int)), .slice sg gs.length sc, .int .i64 (((ls : Nat) : Int)), .slice lg gl.length lc] 63) :: .obj m (qc ((swp ws (seen ++ [o.x - 1]) os).map Ob.en) last) :: .row 88 2 (.slice sg gs.length sc) gs.length (qa gs) :: .row 88 2 (.slice lg gl.length lc) gl.length (qa gl) :: .obj fm (qc (mkE 0 ws) ws.length) :: .obj r5 (.mapIter (some m) last ((seen ++ [o.x - 1])).toArray last) :: T) := by rw [swp_keep hx.lo ho2 (of_decide_eq_true hb25)]; exact M
   refine hK8 _ _ _ (by have := jt hx.lo ho2; omega) ⟨seen ++ [o.x - 1], q, rfl, (by rw [sum_keep hx.lo ho2 (of_decide_eq_true hb25)]; exact hq), A.keep _ (by repeat' constructor), M⟩
  ·
   refine sdo (v := .tuple #[.agg #[], .bool false]) A (ut (zv := .agg #[]) M Try.underlying78 Try.underlying3 (by kernel_rfl) rfl rfl 5 rfl (yn (of_decide_eq_false hb25)) rfl) λa A↦?_
   refine sdm A λa A↦?_
   iterate 2 refine sdo A (qk (vs := [.agg #[], .bool false]) rfl rfl) λa A↦?_
   refine qt (vs := []) (t := 94) A M rfl rfl rfl pg (ql (z := .agg #[]) (by kernel_rfl) rfl) (by decide) ?_
   intro g33 w34 M a A
   refine qs (us := []) (L' := (.obj g33 (.cells #[] 94) :: .obj g21 (.cells #[.int .i64 (((o.p : Nat) : Int)), .slice (some ⟨o.g, 0, none⟩) o.ws.length o.c] 70) :: .obj h (.cells #[.map (some m), .int .i64 (((last : Nat) : Int)), .int .i64 (((ss : Nat) : Int)), .slice sg gs.length sc, .int .i64 (((ls : Nat) : Int)), .slice lg gl.length lc] 63) :: .obj m (qc ((swp ws seen os).map Ob.en) last) :: .row 88 2 (.slice sg gs.length sc) gs.length (qa gs) :: .row 88 2 (.slice lg gl.length lc) gl.length (qa gl) :: .obj fm (qc (mkE 0 ws) ws.length) :: .obj r5 (.mapIter (some m) last ((seen ++ [o.x - 1])).toArray last) :: T)) A M rfl rfl (qo rfl rfl rfl (by kernel_rfl) M 0 rfl rfl rfl) 0 rfl rfl rfl ?_
   intro w35 M
   refine sda A λa A↦?_
   refine qb (hK24 _ _ (wsk fun K36 hK36 => wrl (sdm A λa A↦?_)))
   refine sdo (v := .bool true) A (zf rfl zm) λa A↦?_
   refine qb (hK36 _ _ (wp_cond_true (A.ev rfl) ?_))
   refine wsk fun K37 hK37 => wrl (sdm A λa A↦?_)
   refine sdo (v := .pointer (some ⟨g21, 1, none⟩)) A (qd HbG_fld_70_1 rfl rfl) λa A↦?_
   refine sdo A (qh M HbG_is1_68 rfl 1 rfl rfl) λa A↦?_
   refine sdo A (qv Try.underlying68 rfl) λa A↦?_
   refine sdo (v := .int .i64 (((q + o.ws.length : Nat) : Int))) A (qe rfl rfl (ar_add ((in_i64 (by omega) (by omega)).trans (by omega)))) λa A↦?_
   refine sda A λa A↦?_
   refine qb (hK37 _ _ (wrl (sdm A λa A↦?_)))
   refine sdo A (qu rfl) λa A↦?_
   refine sdo (v := .pointer (some ⟨h, 0, none⟩)) A (qd HbG_fld_63_0 rfl rfl) λa A↦?_
   refine sdo A (qh M HbG_is1_57 rfl 2 rfl rfl) λa A↦?_
   refine sdm A λa A↦?_
   refine s_doObjN (L' := (.obj g33 (.cells #[] 94) :: .obj g21 (.cells #[.int .i64 (((o.p : Nat) : Int)), .slice (some ⟨o.g, 0, none⟩) o.ws.length o.c] 70) :: .obj h (.cells #[.map (some m), .int .i64 (((last : Nat) : Int)), .int .i64 (((ss : Nat) : Int)), .slice sg gs.length sc, .int .i64 (((ls : Nat) : Int)), .slice lg gl.length lc] 63) :: .obj m (qc (kz (((o.x : Nat) : Int)) ((swp ws seen os).map Ob.en)) last) :: .row 88 2 (.slice sg gs.length sc) gs.length (qa gs) :: .row 88 2 (.slice lg gl.length lc) gl.length (qa gl) :: .obj fm (qc (mkE 0 ws) ws.length) :: .obj r5 (.mapIter (some m) last ((seen ++ [o.x - 1])).toArray last) :: T)) A M rfl rfl (sets_del M Try.underlying57 Try.underlying3 rfl rfl 3 rfl ((hx.sub (ux ws seen os)).atK homem)) 3 rfl (xo _ _) rfl ?_
   intro w38 M
   refine qb ?_
   replace M : Mg w0 w38 (.obj r5 (.mapIter (some m) last ((seen ++ [o.x - 1])).toArray last) :: .obj g33 (.cells #[] 94) :: .obj g21 (.cells #[.int .i64 (((o.p : Nat) : Int)), .slice (some ⟨o.g, 0, none⟩) o.ws.length o.c] 70) :: .obj h (.cells #[.map (some m), .int .i64 (((last : Nat) : Int)), .int .i64 (((ss : Nat) : Int)), .slice sg gs.length sc, .int .i64 (((ls : Nat) : Int)), .slice lg gl.length lc] 63) :: .obj m (qc (kz (((o.x : Nat) : Int)) ((swp ws seen os).map Ob.en)) last) :: .row 88 2 (.slice sg gs.length sc) gs.length (qa gs) :: .row 88 2 (.slice lg gl.length lc) gl.length (qa gl) :: .obj fm (qc (mkE 0 ws) ws.length) :: T) := M.bring 7 rfl rfl
   replace M : Mg w0 w38 (.obj fm (qc (mkE 0 ws) ws.length) :: .obj r5 (.mapIter (some m) last ((seen ++ [o.x - 1])).toArray last) :: .obj g33 (.cells #[] 94) :: .obj g21 (.cells #[.int .i64 (((o.p : Nat) : Int)), .slice (some ⟨o.g, 0, none⟩) o.ws.length o.c] 70) :: .obj h (.cells #[.map (some m), .int .i64 (((last : Nat) : Int)), .int .i64 (((ss : Nat) : Int)), .slice sg gs.length sc, .int .i64 (((ls : Nat) : Int)), .slice lg gl.length lc] 63) :: .obj m (qc (kz (((o.x : Nat) : Int)) ((swp ws seen os).map Ob.en)) last) :: .row 88 2 (.slice sg gs.length sc) gs.length (qa gs) :: .row 88 2 (.slice lg gl.length lc) gl.length (qa gl) :: T) := M.bring 7 rfl rfl
   replace M : Mg w0 w38 (.row 88 2 (.slice lg gl.length lc) gl.length (qa gl) :: .obj fm (qc (mkE 0 ws) ws.length) :: .obj r5 (.mapIter (some m) last ((seen ++ [o.x - 1])).toArray last) :: .obj g33 (.cells #[] 94) :: .obj g21 (.cells #[.int .i64 (((o.p : Nat) : Int)), .slice (some ⟨o.g, 0, none⟩) o.ws.length o.c] 70) :: .obj h (.cells #[.map (some m), .int .i64 (((last : Nat) : Int)), .int .i64 (((ss : Nat) : Int)), .slice sg gs.length sc, .int .i64 (((ls : Nat) : Int)), .slice lg gl.length lc] 63) :: .obj m (qc (kz (((o.x : Nat) : Int)) ((swp ws seen os).map Ob.en)) last) :: .row 88 2 (.slice sg gs.length sc) gs.length (qa gs) :: T) := M.bring 7 rfl rfl
   replace M : Mg w0 w38 (.row 88 2 (.slice sg gs.length sc) gs.length (qa gs) :: .row 88 2 (.slice lg gl.length lc) gl.length (qa gl) :: .obj fm (qc (mkE 0 ws) ws.length) :: .obj r5 (.mapIter (some m) last ((seen ++ [o.x - 1])).toArray last) :: .obj g33 (.cells #[] 94) :: .obj g21 (.cells #[.int .i64 (((o.p : Nat) : Int)), .slice (some ⟨o.g, 0, none⟩) o.ws.length o.c] 70) :: .obj h (.cells #[.map (some m), .int .i64 (((last : Nat) : Int)), .int .i64 (((ss : Nat) : Int)), .slice sg gs.length sc, .int .i64 (((ls : Nat) : Int)), .slice lg gl.length lc] 63) :: .obj m (qc (kz (((o.x : Nat) : Int)) ((swp ws seen os).map Ob.en)) last) :: T) := M.bring 7 rfl rfl
   replace M : Mg w0 w38 (.obj m (qc (kz (((o.x : Nat) : Int)) ((swp ws seen os).map Ob.en)) last) :: .row 88 2 (.slice sg gs.length sc) gs.length (qa gs) :: .row 88 2 (.slice lg gl.length lc) gl.length (qa gl) :: .obj fm (qc (mkE 0 ws) ws.length) :: .obj r5 (.mapIter (some m) last ((seen ++ [o.x - 1])).toArray last) :: .obj g33 (.cells #[] 94) :: .obj g21 (.cells #[.int .i64 (((o.p : Nat) : Int)), .slice (some ⟨o.g, 0, none⟩) o.ws.length o.c] 70) :: .obj h (.cells #[.map (some m), .int .i64 (((last : Nat) : Int)), .int .i64 (((ss : Nat) : Int)), .slice sg gs.length sc, .int .i64 (((ls : Nat) : Int)), .slice lg gl.length lc] 63) :: T) := M.bring 7 rfl rfl
   replace M : Mg w0 w38 (.obj h (.cells #[.map (some m), .int .i64 (((last : Nat) : Int)), .int .i64 (((ss : Nat) : Int)), .slice sg gs.length sc, .int .i64 (((ls : Nat) : Int)), .slice lg gl.length lc] 63) :: .obj m (qc (kz (((o.x : Nat) : Int)) ((swp ws seen os).map Ob.en)) last) :: .row 88 2 (.slice sg gs.length sc) gs.length (qa gs) :: .row 88 2 (.slice lg gl.length lc) gl.length (qa gl) :: .obj fm (qc (mkE 0 ws) ws.length) :: .obj r5 (.mapIter (some m) last ((seen ++ [o.x - 1])).toArray last) :: .obj g33 (.cells #[] 94) :: .obj g21 (.cells #[.int .i64 (((o.p : Nat) : Int)), .slice (some ⟨o.g, 0, none⟩) o.ws.length o.c] 70) :: T) := M.bring 7 rfl rfl
   replace M : Mg w0 w38 (.obj h (.cells #[.map (some m), .int .i64 (((last : Nat) : Int)), .int .i64 (((ss : Nat) : Int)), .slice sg gs.length sc, .int .i64 (((ls : Nat) : Int)), .slice lg gl.length lc] 63) :: .obj m (qc (kz (((o.x : Nat) : Int)) ((swp ws seen os).map Ob.en)) last) :: .row 88 2 (.slice sg gs.length sc) gs.length (qa gs) :: .row 88 2 (.slice lg gl.length lc) gl.length (qa gl) :: .obj fm (qc (mkE 0 ws) ws.length) :: .obj r5 (.mapIter (some m) last ((seen ++ [o.x - 1])).toArray last) :: T) := by
    have h9 := M.sub (cc (cc (cc (cc (cc (cc (cn (cn (.refl _)))))))))
    exact h9
   replace M : Mg w0 w38 (.obj h (.cells #[.map (some m), .int .i64 (((last : Nat) : Int)), .int .i64 (((ss : Nat) : Int)), .slice sg gs.length sc, .int .i64 (((ls : Nat) : Int)), .slice lg gl.length lc] 63) :: .obj m (qc ((swp ws (seen ++ [o.x - 1]) os).map Ob.en) last) :: .row 88 2 (.slice sg gs.length sc) gs.length (qa gs) :: .row 88 2 (.slice lg gl.length lc) gl.length (qa gl) :: .obj fm (qc (mkE 0 ws) ws.length) :: .obj r5 (.mapIter (some m) last ((seen ++ [o.x - 1])).toArray last) :: T) := by rw [qje (yq hx.rise (ux ws seen os)) homem, ← swp_drop hx.lo ho2 (of_decide_eq_false hb25)] at M; exact M
   refine hK8 _ _ _ (by have := jt hx.lo ho2; omega) ⟨seen ++ [o.x - 1], q + o.ws.length, rfl, (by rw [sumW_drop hx.rise hx.lo ho2 (of_decide_eq_false hb25), hq]), A.keep _ (by repeat' constructor), M⟩
theorem live_any {w0 w : World} {h m last ss ls sc lc : Nat} {sg lg : Option Addr} {gs gl : List (Nat × Nat)} {os : List Ob} {T : List Ck} (hx : Hx os last) (hol : os.length ≤ 1000000) (hnT : zu T) (hM0 : Mg w0 w (.obj h (.cells #[.map (some m), .int .i64 (((last : Nat) : Int)), .int .i64 (((ss : Nat) : Int)), .slice sg gs.length sc, .int .i64 (((ls : Nat) : Int)), .slice lg gl.length lc] 63) :: .obj m (qc (os.map Ob.en) last) :: .row 88 2 (.slice sg gs.length sc) gs.length (qa gs) :: .row 88 2 (.slice lg gl.length lc) gl.length (qa gl) :: T)) : Calls Try.prog 21 #[.pointer (some ⟨h, 0, none⟩)] w fun e w' => ∃ so' ca', e = .returned (.slice so' (hxs os).length ca') ∧ Mg w0 w' (.obj h (.cells #[.map (some m), .int .i64 (((last : Nat) : Int)), .int .i64 (((ss : Nat) : Int)), .slice sg gs.length sc, .int .i64 (((ls : Nat) : Int)), .slice lg gl.length lc] 63) :: .obj m (qc (os.map Ob.en) last) :: .row 88 2 (.slice sg gs.length sc) gs.length (qa gs) :: .row 88 2 (.slice lg gl.length lc) gl.length (qa gl) :: .row 3 1 (.slice so' ((hxs os).length) ca') ((hxs os).length) (qg (hxs os)) :: T) := by
 have M : Mg w0 w (.obj h (.cells #[.map (some m), .int .i64 (((last : Nat) : Int)), .int .i64 (((ss : Nat) : Int)), .slice sg gs.length sc, .int .i64 (((ls : Nat) : Int)), .slice lg gl.length lc] 63) :: .obj m (qc (os.map Ob.en) last) :: .row 88 2 (.slice sg gs.length sc) gs.length (qa gs) :: .row 88 2 (.slice lg gl.length lc) gl.length (qa gl) :: T) := hM0
 refine qp (l := [(0, .pointer (some ⟨h, 0, none⟩))]) Try.func21 rfl Try.ntmps21 rfl rfl ?_
 intro Q hret hnorm hP a A
 refine wsk fun K1 hK1 => wrl (sda A λa A↦?_)
 refine qb (hK1 _ _ (wsk fun K2 hK2 => wsk fun K3 hK3 => wrl (sdm A λa A↦?_)))
 refine sdo (v := .bool false) A (qe rfl rfl (jn Try.underlying24)) λa A↦?_
 refine qb (hK3 _ _ (wp_cond_false (A.ev rfl) ?_))
 refine wp_skip (hK2 _ _ (wsk fun K4 hK4 => wrl (sda A λa A↦?_)))
 refine qb (hK4 _ _ (wsk fun K5 hK5 => wsk fun K6 hK6 => wrl (sdm A λa A↦?_)))
 refine sdo A (qu rfl) λa A↦?_
 refine sdo (v := .pointer (some ⟨h, 0, none⟩)) A (qd HbG_fld_63_0 rfl rfl) λa A↦?_
 refine sdo A (qh M HbG_is1_57 rfl 0 rfl rfl) λa A↦?_
 refine yk A M rfl Try.underlying57 rfl 1 rfl rfl rfl rfl ?_
 intro r7 w8 M a A
 replace M : Mg w0 w8 (.obj r7 (.mapIter (some m) last ([]).toArray last) :: .obj h (.cells #[.map (some m), .int .i64 (((last : Nat) : Int)), .int .i64 (((ss : Nat) : Int)), .slice sg gs.length sc, .int .i64 (((ls : Nat) : Int)), .slice lg gl.length lc] 63) :: .obj m (qc (os.map Ob.en) last) :: .row 88 2 (.slice sg gs.length sc) gs.length (qa gs) :: .row 88 2 (.slice lg gl.length lc) gl.length (qa gl) :: T) := M
 refine qb (hK6 _ _ (wp_block ?_))
 replace M := M.nilRowH (qj (by simp) (qj (by simp) (qj (by simp) (qj (by simp) (qj (by simp) hnT))))) 3 1
 replace M : Mg w0 w8 (.obj r7 (.mapIter (some m) last ([]).toArray last) :: .row 3 1 (.slice none 0 0) 0 (qg []) :: .obj h (.cells #[.map (some m), .int .i64 (((last : Nat) : Int)), .int .i64 (((ss : Nat) : Int)), .slice sg gs.length sc, .int .i64 (((ls : Nat) : Int)), .slice lg gl.length lc] 63) :: .obj m (qc (os.map Ob.en) last) :: .row 88 2 (.slice sg gs.length sc) gs.length (qa gs) :: .row 88 2 (.slice lg gl.length lc) gl.length (qa gl) :: T) := M.bring 1 rfl rfl
 replace M : Mg w0 w8 (.row 3 1 (.slice none 0 0) 0 (qg []) :: .obj r7 (.mapIter (some m) last ([]).toArray last) :: .obj h (.cells #[.map (some m), .int .i64 (((last : Nat) : Int)), .int .i64 (((ss : Nat) : Int)), .slice sg gs.length sc, .int .i64 (((ls : Nat) : Int)), .slice lg gl.length lc] 63) :: .obj m (qc (os.map Ob.en) last) :: .row 88 2 (.slice sg gs.length sc) gs.length (qa gs) :: .row 88 2 (.slice lg gl.length lc) gl.length (qa gl) :: T) := M.bring 1 rfl rfl
 replace M : Mg w0 w8 (.row 88 2 (.slice lg gl.length lc) gl.length (qa gl) :: .row 3 1 (.slice none 0 0) 0 (qg []) :: .obj r7 (.mapIter (some m) last ([]).toArray last) :: .obj h (.cells #[.map (some m), .int .i64 (((last : Nat) : Int)), .int .i64 (((ss : Nat) : Int)), .slice sg gs.length sc, .int .i64 (((ls : Nat) : Int)), .slice lg gl.length lc] 63) :: .obj m (qc (os.map Ob.en) last) :: .row 88 2 (.slice sg gs.length sc) gs.length (qa gs) :: T) := M.bring 5 rfl rfl
 replace M : Mg w0 w8 (.row 88 2 (.slice sg gs.length sc) gs.length (qa gs) :: .row 88 2 (.slice lg gl.length lc) gl.length (qa gl) :: .row 3 1 (.slice none 0 0) 0 (qg []) :: .obj r7 (.mapIter (some m) last ([]).toArray last) :: .obj h (.cells #[.map (some m), .int .i64 (((last : Nat) : Int)), .int .i64 (((ss : Nat) : Int)), .slice sg gs.length sc, .int .i64 (((ls : Nat) : Int)), .slice lg gl.length lc] 63) :: .obj m (qc (os.map Ob.en) last) :: T) := M.bring 5 rfl rfl
 replace M : Mg w0 w8 (.obj m (qc (os.map Ob.en) last) :: .row 88 2 (.slice sg gs.length sc) gs.length (qa gs) :: .row 88 2 (.slice lg gl.length lc) gl.length (qa gl) :: .row 3 1 (.slice none 0 0) 0 (qg []) :: .obj r7 (.mapIter (some m) last ([]).toArray last) :: .obj h (.cells #[.map (some m), .int .i64 (((last : Nat) : Int)), .int .i64 (((ss : Nat) : Int)), .slice sg gs.length sc, .int .i64 (((ls : Nat) : Int)), .slice lg gl.length lc] 63) :: T) := M.bring 5 rfl rfl
 replace M : Mg w0 w8 (.obj h (.cells #[.map (some m), .int .i64 (((last : Nat) : Int)), .int .i64 (((ss : Nat) : Int)), .slice sg gs.length sc, .int .i64 (((ls : Nat) : Int)), .slice lg gl.length lc] 63) :: .obj m (qc (os.map Ob.en) last) :: .row 88 2 (.slice sg gs.length sc) gs.length (qa gs) :: .row 88 2 (.slice lg gl.length lc) gl.length (qa gl) :: .row 3 1 (.slice none 0 0) 0 (qg []) :: .obj r7 (.mapIter (some m) last ([]).toArray last) :: T) := M.bring 5 rfl rfl
 refine zh (fun m_ a w1 => ∃ (seen : List Nat) (ks : List Int) (so_ : Option Addr) (ca_ : Nat) (nk : Nat), m_ = 1 + (jb seen os).length ∧ (ks.Perm (hxs (came (fun _ => true) seen os)) ∧ nk = ks.length) ∧ Sl a 23 [(0, .pointer (some ⟨h, 0, none⟩)), (2, .slice none 0 0), (3, .slice so_ nk ca_), (5, .pointer (some ⟨h, 0, none⟩)), (6, .bool false), (7, .pointer (some ⟨h, 0, none⟩)), (8, .pointer (some ⟨h, 0, none⟩)), (9, .pointer (some ⟨h, 0, none⟩)), (10, .map (some m)), (11, .pointer (some ⟨r7, 0, none⟩))] ∧ Mg w0 w1 (.obj h (.cells #[.map (some m), .int .i64 (((last : Nat) : Int)), .int .i64 (((ss : Nat) : Int)), .slice sg gs.length sc, .int .i64 (((ls : Nat) : Int)), .slice lg gl.length lc] 63) :: .obj m (qc (os.map Ob.en) last) :: .row 88 2 (.slice sg gs.length sc) gs.length (qa gs) :: .row 88 2 (.slice lg gl.length lc) gl.length (qa gl) :: .row 3 1 (.slice so_ nk ca_) nk (qg ks) :: .obj r7 (.mapIter (some m) last seen.toArray last) :: T)) _ ⟨[], [], none, 0, 0, rfl, ⟨(by rw [qba]; exact .refl _), rfl⟩, A.keep _ (by repeat' constructor), M⟩ ?_
 clear M A
 rintro m_ a w9 ⟨seen, ks, so_, ca_, nk, rfl, hinv11, A, M⟩ K10 hK10
 obtain ⟨hk, hnk⟩ := hinv11
 have hkl := live_len hk
 refine wsk fun K12 hK12 => wrl ?_
 refine uu (seen := seen) (L' := fun e13 => (.obj h (.cells #[.map (some m), .int .i64 (((last : Nat) : Int)), .int .i64 (((ss : Nat) : Int)), .slice sg gs.length sc, .int .i64 (((ls : Nat) : Int)), .slice lg gl.length lc] 63) :: .obj m (qc (os.map Ob.en) last) :: .row 88 2 (.slice sg gs.length sc) gs.length (qa gs) :: .row 88 2 (.slice lg gl.length lc) gl.length (qa gl) :: .row 3 1 (.slice so_ nk ca_) nk (qg ks) :: .obj r7 (.mapIter (some m) last ((seen ++ [e13.b])).toArray last) :: T)) A M rfl rfl 5 1 rfl rfl hx.old (Nat.le_refl _) rfl rfl rfl (fun _ => rfl) ?_ ?_
 ·
  intro hz18 a A
  rw [xj] at hz18
  replace hz18 := List.map_eq_nil_iff.1 hz18
  refine sdo A (qk (vs := [.bool false]) rfl rfl) λa A↦?_
  refine qb (hK12 _ _ (wsk fun K19 hK19 => wp_cond_false (A.ev rfl) ?_))
  refine wp_exit (hK5 _ _ (wsk fun K20 hK20 => wrl (sdm A λa A↦?_)))
  replace M : Mg w0 w9 (.row 3 1 (.slice so_ nk ca_) nk (qg ks) :: .obj h (.cells #[.map (some m), .int .i64 (((last : Nat) : Int)), .int .i64 (((ss : Nat) : Int)), .slice sg gs.length sc, .int .i64 (((ls : Nat) : Int)), .slice lg gl.length lc] 63) :: .obj m (qc (os.map Ob.en) last) :: .row 88 2 (.slice sg gs.length sc) gs.length (qa gs) :: .row 88 2 (.slice lg gl.length lc) gl.length (qa gl) :: .obj r7 (.mapIter (some m) last seen.toArray last) :: T) := M.bring 4 rfl rfl
  have hpm := live_end hz18 hk
  refine sct A (ef rfl rfl) (sortI_any hnk (by omega) M) ?_
  rintro _ w22 ⟨rfl, hM21⟩
  rw [sort_hxs hx.rise hpm] at hM21
  replace M : Mg w0 w22 (.row 3 1 (.slice so_ nk ca_) nk (qg (hxs os)) :: .obj h (.cells #[.map (some m), .int .i64 (((last : Nat) : Int)), .int .i64 (((ss : Nat) : Int)), .slice sg gs.length sc, .int .i64 (((ls : Nat) : Int)), .slice lg gl.length lc] 63) :: .obj m (qc (os.map Ob.en) last) :: .row 88 2 (.slice sg gs.length sc) gs.length (qa gs) :: .row 88 2 (.slice lg gl.length lc) gl.length (qa gl) :: .obj r7 (.mapIter (some m) last seen.toArray last) :: T) := hM21
  refine ⟨_, rfl, ?_⟩
  intro a A
  refine qb (hK20 _ _ (wsk fun K23 hK23 => wrl (sdm A λa A↦?_)))
  refine sda A λa A↦?_
  refine qb (hK23 _ _ (wp_ret (hret _ _ (en1 A rfl (qi rfl) ?_))))
  replace M : Mg w0 w22 (.row 88 2 (.slice lg gl.length lc) gl.length (qa gl) :: .row 3 1 (.slice so_ nk ca_) nk (qg (hxs os)) :: .obj h (.cells #[.map (some m), .int .i64 (((last : Nat) : Int)), .int .i64 (((ss : Nat) : Int)), .slice sg gs.length sc, .int .i64 (((ls : Nat) : Int)), .slice lg gl.length lc] 63) :: .obj m (qc (os.map Ob.en) last) :: .row 88 2 (.slice sg gs.length sc) gs.length (qa gs) :: .obj r7 (.mapIter (some m) last seen.toArray last) :: T) := M.bring 4 rfl rfl
  replace M : Mg w0 w22 (.row 88 2 (.slice sg gs.length sc) gs.length (qa gs) :: .row 88 2 (.slice lg gl.length lc) gl.length (qa gl) :: .row 3 1 (.slice so_ nk ca_) nk (qg (hxs os)) :: .obj h (.cells #[.map (some m), .int .i64 (((last : Nat) : Int)), .int .i64 (((ss : Nat) : Int)), .slice sg gs.length sc, .int .i64 (((ls : Nat) : Int)), .slice lg gl.length lc] 63) :: .obj m (qc (os.map Ob.en) last) :: .obj r7 (.mapIter (some m) last seen.toArray last) :: T) := M.bring 4 rfl rfl
  replace M : Mg w0 w22 (.obj m (qc (os.map Ob.en) last) :: .row 88 2 (.slice sg gs.length sc) gs.length (qa gs) :: .row 88 2 (.slice lg gl.length lc) gl.length (qa gl) :: .row 3 1 (.slice so_ nk ca_) nk (qg (hxs os)) :: .obj h (.cells #[.map (some m), .int .i64 (((last : Nat) : Int)), .int .i64 (((ss : Nat) : Int)), .slice sg gs.length sc, .int .i64 (((ls : Nat) : Int)), .slice lg gl.length lc] 63) :: .obj r7 (.mapIter (some m) last seen.toArray last) :: T) := M.bring 4 rfl rfl
  replace M : Mg w0 w22 (.obj h (.cells #[.map (some m), .int .i64 (((last : Nat) : Int)), .int .i64 (((ss : Nat) : Int)), .slice sg gs.length sc, .int .i64 (((ls : Nat) : Int)), .slice lg gl.length lc] 63) :: .obj m (qc (os.map Ob.en) last) :: .row 88 2 (.slice sg gs.length sc) gs.length (qa gs) :: .row 88 2 (.slice lg gl.length lc) gl.length (qa gl) :: .row 3 1 (.slice so_ nk ca_) nk (qg (hxs os)) :: .obj r7 (.mapIter (some m) last seen.toArray last) :: T) := M.bring 4 rfl rfl
  replace M : Mg w0 w22 (.obj h (.cells #[.map (some m), .int .i64 (((last : Nat) : Int)), .int .i64 (((ss : Nat) : Int)), .slice sg gs.length sc, .int .i64 (((ls : Nat) : Int)), .slice lg gl.length lc] 63) :: .obj m (qc (os.map Ob.en) last) :: .row 88 2 (.slice sg gs.length sc) gs.length (qa gs) :: .row 88 2 (.slice lg gl.length lc) gl.length (qa gl) :: .row 3 1 (.slice so_ nk ca_) nk (qg (hxs os)) :: T) := by
   have h9 := M.sub (cc (cc (cc (cc (cc (cn (.refl _)))))))
   exact h9
  have e9 : nk = (hxs os).length := by rw [hnk, hpm.length_eq]
  rw [e9] at M
  exact ⟨_, _, by rw [e9], M⟩
 ·
  intro e13 he14 w15 M a A
  rw [xj] at he14
  obtain ⟨o, ho, rfl⟩ := List.mem_map.1 he14
  replace M : Mg w0 w15 (.obj h (.cells #[.map (some m), .int .i64 (((last : Nat) : Int)), .int .i64 (((ss : Nat) : Int)), .slice sg gs.length sc, .int .i64 (((ls : Nat) : Int)), .slice lg gl.length lc] 63) :: .obj m (qc (os.map Ob.en) last) :: .row 88 2 (.slice sg gs.length sc) gs.length (qa gs) :: .row 88 2 (.slice lg gl.length lc) gl.length (qa gl) :: .row 3 1 (.slice so_ nk ca_) nk (qg ks) :: .obj r7 (.mapIter (some m) last ((seen ++ [o.x - 1])).toArray last) :: T) := M
  have homem : o ∈ os := (List.mem_filter.1 ho).1
  refine sdo A (qk (vs := [.bool true, .int .i64 (((o.x : Nat) : Int)), .agg #[.int .i64 (((o.p : Nat) : Int)), .slice (some ⟨o.g, 0, none⟩) o.ws.length o.c]]) rfl rfl) λa A↦?_
  refine qb (hK12 _ _ (wsk fun K24 hK24 => wp_cond_true (A.ev rfl) ?_))
  refine wp_skip (hK24 _ _ (wp_block (wsk fun K25 hK25 => wrl (sdo (v := .tuple #[.int .i64 (((o.x : Nat) : Int)), .agg #[.int .i64 (((o.p : Nat) : Int)), .slice (some ⟨o.g, 0, none⟩) o.ws.length o.c]]) A (uv (e := o.en) (seen := seen) M rfl 5 1 rfl rfl (List.mem_map.2 ⟨o, homem, rfl⟩) hx.nodup) λa A↦?_))))
  refine sdo A (qk (vs := [.int .i64 (((o.x : Nat) : Int)), .agg #[.int .i64 (((o.p : Nat) : Int)), .slice (some ⟨o.g, 0, none⟩) o.ws.length o.c]]) rfl rfl) λa A↦?_
  refine sda A λa A↦?_
  refine qb (hK25 _ _ (wrl ?_))
  iterate 2 refine sdm A λa A↦?_
  refine jm (e := 3) (sz := 1) (m := 1) (vs := qg [((o.x : Nat) : Int)]) A M rfl rfl rfl (qx rfl (by kernel_rfl)) rfl rfl (.inl (by decide)) ?_
  intro g26 w27 M a A
  refine zz (e := 3) (sz := 1) (k := 5) (q := nk) (m := 1) (xs := qg ks) (news := qg [((o.x : Nat) : Int)]) (L' := fun v28 => (.row 3 1 (.slice (some ⟨g26, 0, none⟩) 1 1) 1 (qg [((o.x : Nat) : Int)]) :: .obj h (.cells #[.map (some m), .int .i64 (((last : Nat) : Int)), .int .i64 (((ss : Nat) : Int)), .slice sg gs.length sc, .int .i64 (((ls : Nat) : Int)), .slice lg gl.length lc] 63) :: .obj m (qc (os.map Ob.en) last) :: .row 88 2 (.slice sg gs.length sc) gs.length (qa gs) :: .row 88 2 (.slice lg gl.length lc) gl.length (qa gl) :: .row 3 1 (v28) (nk + 1) (qg ks ++ qg [((o.x : Nat) : Int)]) :: .obj r7 (.mapIter (some m) last ((seen ++ [o.x - 1])).toArray last) :: T)) A rfl rfl rfl (xn (z := .int .i64 0) (sz := 1) (by_ := 8) Try.underlying33 (by kernel_rfl) rfl rfl rfl M 5 rfl rfl 0 rfl rfl rfl rfl (by omega)) (fun _ => rfl) ?_
  intro v28 w29 M a A
  replace M : Mg w0 w29 (.row 3 1 (.slice (some ⟨g26, 0, none⟩) 1 1) 1 (qg [((o.x : Nat) : Int)]) :: .obj h (.cells #[.map (some m), .int .i64 (((last : Nat) : Int)), .int .i64 (((ss : Nat) : Int)), .slice sg gs.length sc, .int .i64 (((ls : Nat) : Int)), .slice lg gl.length lc] 63) :: .obj m (qc (os.map Ob.en) last) :: .row 88 2 (.slice sg gs.length sc) gs.length (qa gs) :: .row 88 2 (.slice lg gl.length lc) gl.length (qa gl) :: .row 3 1 (v28) (nk + 1) (qg (ks ++ [((o.x : Nat) : Int)])) :: .obj r7 (.mapIter (some m) last ((seen ++ [o.x - 1])).toArray last) :: T) := by rw [vq]; exact M
  obtain ⟨so30, ca31, rfl⟩ := zx (M.has 5 rfl)
  refine sda A λa A↦?_
  refine qb ?_
  replace M : Mg w0 w29 (.obj r7 (.mapIter (some m) last ((seen ++ [o.x - 1])).toArray last) :: .row 3 1 (.slice (some ⟨g26, 0, none⟩) 1 1) 1 (qg [((o.x : Nat) : Int)]) :: .obj h (.cells #[.map (some m), .int .i64 (((last : Nat) : Int)), .int .i64 (((ss : Nat) : Int)), .slice sg gs.length sc, .int .i64 (((ls : Nat) : Int)), .slice lg gl.length lc] 63) :: .obj m (qc (os.map Ob.en) last) :: .row 88 2 (.slice sg gs.length sc) gs.length (qa gs) :: .row 88 2 (.slice lg gl.length lc) gl.length (qa gl) :: .row 3 1 (.slice so30 (nk + 1) ca31) (nk + 1) (qg (ks ++ [((o.x : Nat) : Int)])) :: T) := M.bring 6 rfl rfl
  replace M : Mg w0 w29 (.row 3 1 (.slice so30 (nk + 1) ca31) (nk + 1) (qg (ks ++ [((o.x : Nat) : Int)])) :: .obj r7 (.mapIter (some m) last ((seen ++ [o.x - 1])).toArray last) :: .row 3 1 (.slice (some ⟨g26, 0, none⟩) 1 1) 1 (qg [((o.x : Nat) : Int)]) :: .obj h (.cells #[.map (some m), .int .i64 (((last : Nat) : Int)), .int .i64 (((ss : Nat) : Int)), .slice sg gs.length sc, .int .i64 (((ls : Nat) : Int)), .slice lg gl.length lc] 63) :: .obj m (qc (os.map Ob.en) last) :: .row 88 2 (.slice sg gs.length sc) gs.length (qa gs) :: .row 88 2 (.slice lg gl.length lc) gl.length (qa gl) :: T) := M.bring 6 rfl rfl
  replace M : Mg w0 w29 (.row 88 2 (.slice lg gl.length lc) gl.length (qa gl) :: .row 3 1 (.slice so30 (nk + 1) ca31) (nk + 1) (qg (ks ++ [((o.x : Nat) : Int)])) :: .obj r7 (.mapIter (some m) last ((seen ++ [o.x - 1])).toArray last) :: .row 3 1 (.slice (some ⟨g26, 0, none⟩) 1 1) 1 (qg [((o.x : Nat) : Int)]) :: .obj h (.cells #[.map (some m), .int .i64 (((last : Nat) : Int)), .int .i64 (((ss : Nat) : Int)), .slice sg gs.length sc, .int .i64 (((ls : Nat) : Int)), .slice lg gl.length lc] 63) :: .obj m (qc (os.map Ob.en) last) :: .row 88 2 (.slice sg gs.length sc) gs.length (qa gs) :: T) := M.bring 6 rfl rfl
  replace M : Mg w0 w29 (.row 88 2 (.slice sg gs.length sc) gs.length (qa gs) :: .row 88 2 (.slice lg gl.length lc) gl.length (qa gl) :: .row 3 1 (.slice so30 (nk + 1) ca31) (nk + 1) (qg (ks ++ [((o.x : Nat) : Int)])) :: .obj r7 (.mapIter (some m) last ((seen ++ [o.x - 1])).toArray last) :: .row 3 1 (.slice (some ⟨g26, 0, none⟩) 1 1) 1 (qg [((o.x : Nat) : Int)]) :: .obj h (.cells #[.map (some m), .int .i64 (((last : Nat) : Int)), .int .i64 (((ss : Nat) : Int)), .slice sg gs.length sc, .int .i64 (((ls : Nat) : Int)), .slice lg gl.length lc] 63) :: .obj m (qc (os.map Ob.en) last) :: T) := M.bring 6 rfl rfl
  replace M : Mg w0 w29 (.obj m (qc (os.map Ob.en) last) :: .row 88 2 (.slice sg gs.length sc) gs.length (qa gs) :: .row 88 2 (.slice lg gl.length lc) gl.length (qa gl) :: .row 3 1 (.slice so30 (nk + 1) ca31) (nk + 1) (qg (ks ++ [((o.x : Nat) : Int)])) :: .obj r7 (.mapIter (some m) last ((seen ++ [o.x - 1])).toArray last) :: .row 3 1 (.slice (some ⟨g26, 0, none⟩) 1 1) 1 (qg [((o.x : Nat) : Int)]) :: .obj h (.cells #[.map (some m), .int .i64 (((last : Nat) : Int)), .int .i64 (((ss : Nat) : Int)), .slice sg gs.length sc, .int .i64 (((ls : Nat) : Int)), .slice lg gl.length lc] 63) :: T) := M.bring 6 rfl rfl
  replace M : Mg w0 w29 (.obj h (.cells #[.map (some m), .int .i64 (((last : Nat) : Int)), .int .i64 (((ss : Nat) : Int)), .slice sg gs.length sc, .int .i64 (((ls : Nat) : Int)), .slice lg gl.length lc] 63) :: .obj m (qc (os.map Ob.en) last) :: .row 88 2 (.slice sg gs.length sc) gs.length (qa gs) :: .row 88 2 (.slice lg gl.length lc) gl.length (qa gl) :: .row 3 1 (.slice so30 (nk + 1) ca31) (nk + 1) (qg (ks ++ [((o.x : Nat) : Int)])) :: .obj r7 (.mapIter (some m) last ((seen ++ [o.x - 1])).toArray last) :: .row 3 1 (.slice (some ⟨g26, 0, none⟩) 1 1) 1 (qg [((o.x : Nat) : Int)]) :: T) := M.bring 6 rfl rfl
  replace M : Mg w0 w29 (.obj h (.cells #[.map (some m), .int .i64 (((last : Nat) : Int)), .int .i64 (((ss : Nat) : Int)), .slice sg gs.length sc, .int .i64 (((ls : Nat) : Int)), .slice lg gl.length lc] 63) :: .obj m (qc (os.map Ob.en) last) :: .row 88 2 (.slice sg gs.length sc) gs.length (qa gs) :: .row 88 2 (.slice lg gl.length lc) gl.length (qa gl) :: .row 3 1 (.slice so30 (nk + 1) ca31) (nk + 1) (qg (ks ++ [((o.x : Nat) : Int)])) :: .obj r7 (.mapIter (some m) last ((seen ++ [o.x - 1])).toArray last) :: T) := by
   have h9 := M.sub (cc (cc (cc (cc (cc (cc (cn (.refl _))))))))
   exact h9
  refine hK10 _ _ _ (by have := jt hx.lo ho; omega) ⟨seen ++ [o.x - 1], ks ++ [((o.x : Nat) : Int)], so30, ca31, nk + 1, rfl, ⟨live_step hx.lo hx.rise ho hk, by rw [hnk]; simp⟩, A.keep _ (by repeat' constructor), M⟩
theorem qhi {w0 w : World} {h m last ss ls sc lc : Nat} {sg lg : Option Addr} {gs gl : List (Nat × Nat)} {os : List Ob} {T : List Ck} (hx : Hx os last) (hol : os.length ≤ 1000000) (hcl : ∀ o ∈ os, o.ws.length ≤ 1000000) (hsw : zr os ≤ 1000000000) (hnT : zu T) (hM0 : Mg w0 w (.obj h (.cells #[.map (some m), .int .i64 (((last : Nat) : Int)), .int .i64 (((ss : Nat) : Int)), .slice sg gs.length sc, .int .i64 (((ls : Nat) : Int)), .slice lg gl.length lc] 63) :: .obj m (qc (os.map Ob.en) last) :: .row 88 2 (.slice sg gs.length sc) gs.length (qa gs) :: .row 88 2 (.slice lg gl.length lc) gl.length (qa gl) :: T)) : Calls Try.prog 34 #[.pointer (some ⟨h, 0, none⟩)] w fun e w' => e = .returned (.tuple #[]) ∧ Mg w0 w' (.obj h (.cells #[.map (some m), .int .i64 (((last : Nat) : Int)), .int .i64 (((ss : Nat) : Int)), .slice sg gs.length sc, .int .i64 (((ls : Nat) : Int)), .slice lg gl.length lc] 63) :: .obj m (qc ((mvD 0 os).map Ob.en) last) :: .row 88 2 (.slice sg gs.length sc) gs.length (qa gs) :: .row 88 2 (.slice lg gl.length lc) gl.length (qa gl) :: T) := by
 have hxl := qhc os
 have M : Mg w0 w (.obj h (.cells #[.map (some m), .int .i64 (((last : Nat) : Int)), .int .i64 (((ss : Nat) : Int)), .slice sg gs.length sc, .int .i64 (((ls : Nat) : Int)), .slice lg gl.length lc] 63) :: .obj m (qc (os.map Ob.en) last) :: .row 88 2 (.slice sg gs.length sc) gs.length (qa gs) :: .row 88 2 (.slice lg gl.length lc) gl.length (qa gl) :: T) := hM0
 refine qp (l := [(0, .pointer (some ⟨h, 0, none⟩))]) Try.func34 rfl Try.ntmps34 rfl rfl ?_
 intro Q hret hnorm hP a A
 refine wsk fun K1 hK1 => wrl (sda A λa A↦?_)
 refine qb (hK1 _ _ (wsk fun K2 hK2 => wrl (sdm A λa A↦?_)))
 replace M : Mg w0 w (.row 88 2 (.slice lg gl.length lc) gl.length (qa gl) :: .obj h (.cells #[.map (some m), .int .i64 (((last : Nat) : Int)), .int .i64 (((ss : Nat) : Int)), .slice sg gs.length sc, .int .i64 (((ls : Nat) : Int)), .slice lg gl.length lc] 63) :: .obj m (qc (os.map Ob.en) last) :: .row 88 2 (.slice sg gs.length sc) gs.length (qa gs) :: T) := M.bring 3 rfl rfl
 replace M : Mg w0 w (.row 88 2 (.slice sg gs.length sc) gs.length (qa gs) :: .row 88 2 (.slice lg gl.length lc) gl.length (qa gl) :: .obj h (.cells #[.map (some m), .int .i64 (((last : Nat) : Int)), .int .i64 (((ss : Nat) : Int)), .slice sg gs.length sc, .int .i64 (((ls : Nat) : Int)), .slice lg gl.length lc] 63) :: .obj m (qc (os.map Ob.en) last) :: T) := M.bring 3 rfl rfl
 replace M : Mg w0 w (.obj m (qc (os.map Ob.en) last) :: .row 88 2 (.slice sg gs.length sc) gs.length (qa gs) :: .row 88 2 (.slice lg gl.length lc) gl.length (qa gl) :: .obj h (.cells #[.map (some m), .int .i64 (((last : Nat) : Int)), .int .i64 (((ss : Nat) : Int)), .slice sg gs.length sc, .int .i64 (((ls : Nat) : Int)), .slice lg gl.length lc] 63) :: T) := M.bring 3 rfl rfl
 replace M : Mg w0 w (.obj h (.cells #[.map (some m), .int .i64 (((last : Nat) : Int)), .int .i64 (((ss : Nat) : Int)), .slice sg gs.length sc, .int .i64 (((ls : Nat) : Int)), .slice lg gl.length lc] 63) :: .obj m (qc (os.map Ob.en) last) :: .row 88 2 (.slice sg gs.length sc) gs.length (qa gs) :: .row 88 2 (.slice lg gl.length lc) gl.length (qa gl) :: T) := M.bring 3 rfl rfl
 refine sct A (ef rfl rfl) (live_any (T := (T)) hx hol hnT M) ?_
 rintro _ w4 ⟨so9, ca9, rfl, hM3⟩
 replace M : Mg w0 w4 (.obj h (.cells #[.map (some m), .int .i64 (((last : Nat) : Int)), .int .i64 (((ss : Nat) : Int)), .slice sg gs.length sc, .int .i64 (((ls : Nat) : Int)), .slice lg gl.length lc] 63) :: .obj m (qc (os.map Ob.en) last) :: .row 88 2 (.slice sg gs.length sc) gs.length (qa gs) :: .row 88 2 (.slice lg gl.length lc) gl.length (qa gl) :: .row 3 1 (.slice so9 ((hxs os).length) ca9) ((hxs os).length) (qg (hxs os)) :: T) := hM3
 refine ⟨_, rfl, ?_⟩
 intro a A
 refine sdo A (qv Try.underlying33 rfl) λa A↦?_
 refine sdm A λa A↦?_
 refine qb (hK2 _ _ (wp_block ?_))
 replace M : Mg w0 w4 (.row 3 1 (.slice so9 ((hxs os).length) ca9) ((hxs os).length) (qg (hxs os)) :: .obj h (.cells #[.map (some m), .int .i64 (((last : Nat) : Int)), .int .i64 (((ss : Nat) : Int)), .slice sg gs.length sc, .int .i64 (((ls : Nat) : Int)), .slice lg gl.length lc] 63) :: .obj m (qc (os.map Ob.en) last) :: .row 88 2 (.slice sg gs.length sc) gs.length (qa gs) :: .row 88 2 (.slice lg gl.length lc) gl.length (qa gl) :: T) := M.bring 4 rfl rfl
 replace M : Mg w0 w4 (.row 88 2 (.slice lg gl.length lc) gl.length (qa gl) :: .row 3 1 (.slice so9 ((hxs os).length) ca9) ((hxs os).length) (qg (hxs os)) :: .obj h (.cells #[.map (some m), .int .i64 (((last : Nat) : Int)), .int .i64 (((ss : Nat) : Int)), .slice sg gs.length sc, .int .i64 (((ls : Nat) : Int)), .slice lg gl.length lc] 63) :: .obj m (qc (os.map Ob.en) last) :: .row 88 2 (.slice sg gs.length sc) gs.length (qa gs) :: T) := M.bring 4 rfl rfl
 replace M : Mg w0 w4 (.row 88 2 (.slice sg gs.length sc) gs.length (qa gs) :: .row 88 2 (.slice lg gl.length lc) gl.length (qa gl) :: .row 3 1 (.slice so9 ((hxs os).length) ca9) ((hxs os).length) (qg (hxs os)) :: .obj h (.cells #[.map (some m), .int .i64 (((last : Nat) : Int)), .int .i64 (((ss : Nat) : Int)), .slice sg gs.length sc, .int .i64 (((ls : Nat) : Int)), .slice lg gl.length lc] 63) :: .obj m (qc (os.map Ob.en) last) :: T) := M.bring 4 rfl rfl
 replace M : Mg w0 w4 (.obj m (qc (os.map Ob.en) last) :: .row 88 2 (.slice sg gs.length sc) gs.length (qa gs) :: .row 88 2 (.slice lg gl.length lc) gl.length (qa gl) :: .row 3 1 (.slice so9 ((hxs os).length) ca9) ((hxs os).length) (qg (hxs os)) :: .obj h (.cells #[.map (some m), .int .i64 (((last : Nat) : Int)), .int .i64 (((ss : Nat) : Int)), .slice sg gs.length sc, .int .i64 (((ls : Nat) : Int)), .slice lg gl.length lc] 63) :: T) := M.bring 4 rfl rfl
 replace M : Mg w0 w4 (.obj h (.cells #[.map (some m), .int .i64 (((last : Nat) : Int)), .int .i64 (((ss : Nat) : Int)), .slice sg gs.length sc, .int .i64 (((ls : Nat) : Int)), .slice lg gl.length lc] 63) :: .obj m (qc (os.map Ob.en) last) :: .row 88 2 (.slice sg gs.length sc) gs.length (qa gs) :: .row 88 2 (.slice lg gl.length lc) gl.length (qa gl) :: .row 3 1 (.slice so9 ((hxs os).length) ca9) ((hxs os).length) (qg (hxs os)) :: T) := M.bring 4 rfl rfl
 replace M : Mg w0 w4 (.obj h (.cells #[.map (some m), .int .i64 (((last : Nat) : Int)), .int .i64 (((ss : Nat) : Int)), .slice sg gs.length sc, .int .i64 (((ls : Nat) : Int)), .slice lg gl.length lc] 63) :: .obj m (qc ((cur os 0).map Ob.en) last) :: .row 88 2 (.slice sg gs.length sc) gs.length (qa gs) :: .row 88 2 (.slice lg gl.length lc) gl.length (qa gl) :: .row 3 1 (.slice so9 ((hxs os).length) ca9) ((hxs os).length) (qg (hxs os)) :: T) := by rw [cur_zero]; exact M
 refine zh (fun m_ a w1 => ∃ (i : Nat) (q : Nat), m_ = 1 + (os.length - i) ∧ (i ≤ os.length ∧ q = mvP 0 (os.take i)) ∧ Sl a 37 [(0, .pointer (some ⟨h, 0, none⟩)), (2, .int .i64 (((q : Nat) : Int))), (6, .pointer (some ⟨h, 0, none⟩)), (7, .slice so9 ((hxs os).length) ca9), (8, .int .i64 ((((hxs os).length : Nat) : Int))), (9, .int .i64 (((i : Nat) : Int)))] ∧ Mg w0 w1 (.obj h (.cells #[.map (some m), .int .i64 (((last : Nat) : Int)), .int .i64 (((ss : Nat) : Int)), .slice sg gs.length sc, .int .i64 (((ls : Nat) : Int)), .slice lg gl.length lc] 63) :: .obj m (qc ((cur os i).map Ob.en) last) :: .row 88 2 (.slice sg gs.length sc) gs.length (qa gs) :: .row 88 2 (.slice lg gl.length lc) gl.length (qa gl) :: .row 3 1 (.slice so9 ((hxs os).length) ca9) ((hxs os).length) (qg (hxs os)) :: T)) _ ⟨0, 0, rfl, ⟨Nat.zero_le _, rfl⟩, A.keep _ (by repeat' constructor), M⟩ ?_
 clear M A
 rintro m_ a w5 ⟨i, q, rfl, hinv7, A, M⟩ K6 hK6
 obtain ⟨hi0, hq⟩ := hinv7
 refine wsk fun K8 hK8 => wrl ?_
 rcases tf (decide (((i : Nat) : Int) < (((hxs os).length : Nat) : Int))) with hb9 | hb9
 ·
  have hb9' := of_decide_eq_true hb9
  refine sdc A qm hb9 λa A↦?_
  refine qb (hK8 _ _ (wsk fun K10 hK10 => wp_cond_true (A.ev rfl) ?_))
  refine wp_skip (hK10 _ _ (wsk fun K11 hK11 => wp_block (wsk fun K12 hK12 => ?_)))
  obtain ⟨gr, hgr⟩ := zy (M.has 4 rfl) (show (hxs os).length ≠ 0 by omega)
  obtain ⟨o, ho⟩ : ∃ o, os[i]? = some o := ⟨_, List.getElem?_eq_getElem (show i < os.length by omega)⟩
  have hxi := hxs_at ho
  have hca := cur_at ho
  have hfo : fO ((o.x : Nat) : Int) (cur os i) = some o := fO_at (hx.cur i).rise hca
  have hfs : (fO ((o.x : Nat) : Int) (cur os i)).isSome = true := by rw [hfo]; rfl
  have hom := List.mem_of_getElem? ho
  have hol1 := hcl o hom
  have hqb : q ≤ zr os := by rw [hq]; exact qec
  have hqn := mvP_next ho
  have hqt : mvP 0 (os.take (i + 1)) ≤ zr os := qec
  refine wrl (sdo (v := .pointer (some ⟨gr, i * 1, none⟩)) A (jy (k := i) Try.underlying33 (by kernel_rfl) rfl rfl rfl hgr (by omega)) λa A↦?_)
  refine sdo (v := .int .i64 (((o.x : Nat) : Int))) A (ye (j := i * 1) M 4 rfl hgr (by rw [Nat.mul_one]; exact kj hxi) HbG_is1_3 rfl) λa A↦?_
  refine sda A λa A↦?_
  refine qb (hK12 _ _ (wsk fun K13 hK13 => wrl (sdm A λa A↦?_)))
  refine sdo A (qu rfl) λa A↦?_
  refine sdo (v := .pointer (some ⟨h, 0, none⟩)) A (qd HbG_fld_63_0 rfl rfl) λa A↦?_
  refine sdo A (qh M HbG_is1_57 rfl 0 rfl rfl) λa A↦?_
  refine sdm A λa A↦?_
  have hfok : atK (((o.x : Nat) : Int)) ((cur os i).map Ob.en) = some o.en := by rw [vh, hfo]; rfl
  refine sdo (v := .agg #[.int .i64 (((o.p : Nat) : Int)), .slice (some ⟨o.g, 0, none⟩) o.ws.length o.c]) A (kh M Try.underlying57 Try.underlying3 rfl rfl 1 rfl hfok rfl) λa A↦?_
  refine qt (vs := [.int .i64 0, .slice none 0 0]) (t := 70) A M rfl rfl rfl pg (ql (z := .agg #[.int .i64 0, .slice none 0 0]) (by kernel_rfl) rfl) (by decide) ?_
  intro g16 w17 M a A
  refine qs (us := [.int .i64 (((o.p : Nat) : Int)), .slice (some ⟨o.g, 0, none⟩) o.ws.length o.c]) (L' := (.obj g16 (.cells #[.int .i64 (((o.p : Nat) : Int)), .slice (some ⟨o.g, 0, none⟩) o.ws.length o.c] 70) :: .obj h (.cells #[.map (some m), .int .i64 (((last : Nat) : Int)), .int .i64 (((ss : Nat) : Int)), .slice sg gs.length sc, .int .i64 (((ls : Nat) : Int)), .slice lg gl.length lc] 63) :: .obj m (qc ((cur os i).map Ob.en) last) :: .row 88 2 (.slice sg gs.length sc) gs.length (qa gs) :: .row 88 2 (.slice lg gl.length lc) gl.length (qa gl) :: .row 3 1 (.slice so9 ((hxs os).length) ca9) ((hxs os).length) (qg (hxs os)) :: T)) A M rfl rfl (qo rfl rfl rfl (by kernel_rfl) M 0 rfl rfl rfl) 0 rfl rfl rfl ?_
  intro w18 M
  refine qb (hK13 _ _ (wsk fun K19 hK19 => wsk fun K20 hK20 => wrl (sdo (v := .pointer (some ⟨g16, 1, none⟩)) A (qd HbG_fld_70_1 rfl rfl) λa A↦?_)))
  refine sdo A (qh M HbG_is1_68 rfl 0 rfl rfl) λa A↦?_
  refine sdo A (qv Try.underlying68 rfl) λa A↦?_
  rcases tf (decide (16 < ((o.ws.length : Nat) : Int))) with hb21 | hb21
  ·
   have hb21' := of_decide_eq_true hb21
   refine gcl A M (ef rfl rfl) ((hb21 ▸ xd)) fun w23 hb22 M a A => ?_
   refine qb (hK20 _ _ (wp_cond_true (A.ev rfl) ?_))
   refine wp_exit (hK11 _ _ (wrl (sdo (v := .int .i64 (((i + 1 : Nat) : Int))) A (qe rfl rfl (ar_add ((in_i64 (by omega) (by omega)).trans (by omega)))) λa A↦?_)))
   refine sdm A λa A↦?_
   refine qb ?_
   replace M : Mg w0 w23 (.row 3 1 (.slice so9 ((hxs os).length) ca9) ((hxs os).length) (qg (hxs os)) :: .obj g16 (.cells #[.int .i64 (((o.p : Nat) : Int)), .slice (some ⟨o.g, 0, none⟩) o.ws.length o.c] 70) :: .obj h (.cells #[.map (some m), .int .i64 (((last : Nat) : Int)), .int .i64 (((ss : Nat) : Int)), .slice sg gs.length sc, .int .i64 (((ls : Nat) : Int)), .slice lg gl.length lc] 63) :: .obj m (qc ((cur os i).map Ob.en) last) :: .row 88 2 (.slice sg gs.length sc) gs.length (qa gs) :: .row 88 2 (.slice lg gl.length lc) gl.length (qa gl) :: T) := M.bring 5 rfl rfl
   replace M : Mg w0 w23 (.row 88 2 (.slice lg gl.length lc) gl.length (qa gl) :: .row 3 1 (.slice so9 ((hxs os).length) ca9) ((hxs os).length) (qg (hxs os)) :: .obj g16 (.cells #[.int .i64 (((o.p : Nat) : Int)), .slice (some ⟨o.g, 0, none⟩) o.ws.length o.c] 70) :: .obj h (.cells #[.map (some m), .int .i64 (((last : Nat) : Int)), .int .i64 (((ss : Nat) : Int)), .slice sg gs.length sc, .int .i64 (((ls : Nat) : Int)), .slice lg gl.length lc] 63) :: .obj m (qc ((cur os i).map Ob.en) last) :: .row 88 2 (.slice sg gs.length sc) gs.length (qa gs) :: T) := M.bring 5 rfl rfl
   replace M : Mg w0 w23 (.row 88 2 (.slice sg gs.length sc) gs.length (qa gs) :: .row 88 2 (.slice lg gl.length lc) gl.length (qa gl) :: .row 3 1 (.slice so9 ((hxs os).length) ca9) ((hxs os).length) (qg (hxs os)) :: .obj g16 (.cells #[.int .i64 (((o.p : Nat) : Int)), .slice (some ⟨o.g, 0, none⟩) o.ws.length o.c] 70) :: .obj h (.cells #[.map (some m), .int .i64 (((last : Nat) : Int)), .int .i64 (((ss : Nat) : Int)), .slice sg gs.length sc, .int .i64 (((ls : Nat) : Int)), .slice lg gl.length lc] 63) :: .obj m (qc ((cur os i).map Ob.en) last) :: T) := M.bring 5 rfl rfl
   replace M : Mg w0 w23 (.obj m (qc ((cur os i).map Ob.en) last) :: .row 88 2 (.slice sg gs.length sc) gs.length (qa gs) :: .row 88 2 (.slice lg gl.length lc) gl.length (qa gl) :: .row 3 1 (.slice so9 ((hxs os).length) ca9) ((hxs os).length) (qg (hxs os)) :: .obj g16 (.cells #[.int .i64 (((o.p : Nat) : Int)), .slice (some ⟨o.g, 0, none⟩) o.ws.length o.c] 70) :: .obj h (.cells #[.map (some m), .int .i64 (((last : Nat) : Int)), .int .i64 (((ss : Nat) : Int)), .slice sg gs.length sc, .int .i64 (((ls : Nat) : Int)), .slice lg gl.length lc] 63) :: T) := M.bring 5 rfl rfl
   replace M : Mg w0 w23 (.obj h (.cells #[.map (some m), .int .i64 (((last : Nat) : Int)), .int .i64 (((ss : Nat) : Int)), .slice sg gs.length sc, .int .i64 (((ls : Nat) : Int)), .slice lg gl.length lc] 63) :: .obj m (qc ((cur os i).map Ob.en) last) :: .row 88 2 (.slice sg gs.length sc) gs.length (qa gs) :: .row 88 2 (.slice lg gl.length lc) gl.length (qa gl) :: .row 3 1 (.slice so9 ((hxs os).length) ca9) ((hxs os).length) (qg (hxs os)) :: .obj g16 (.cells #[.int .i64 (((o.p : Nat) : Int)), .slice (some ⟨o.g, 0, none⟩) o.ws.length o.c] 70) :: T) := M.bring 5 rfl rfl
   replace M : Mg w0 w23 (.obj h (.cells #[.map (some m), .int .i64 (((last : Nat) : Int)), .int .i64 (((ss : Nat) : Int)), .slice sg gs.length sc, .int .i64 (((ls : Nat) : Int)), .slice lg gl.length lc] 63) :: .obj m (qc ((cur os i).map Ob.en) last) :: .row 88 2 (.slice sg gs.length sc) gs.length (qa gs) :: .row 88 2 (.slice lg gl.length lc) gl.length (qa gl) :: .row 3 1 (.slice so9 ((hxs os).length) ca9) ((hxs os).length) (qg (hxs os)) :: T) := by
    have h9 := M.sub (cc (cc (cc (cc (cc (cn (.refl _)))))))
    exact h9
   replace M : Mg w0 w23 (.obj h (.cells #[.map (some m), .int .i64 (((last : Nat) : Int)), .int .i64 (((ss : Nat) : Int)), .slice sg gs.length sc, .int .i64 (((ls : Nat) : Int)), .slice lg gl.length lc] 63) :: .obj m (qc ((cur os (i + 1)).map Ob.en) last) :: .row 88 2 (.slice sg gs.length sc) gs.length (qa gs) :: .row 88 2 (.slice lg gl.length lc) gl.length (qa gl) :: .row 3 1 (.slice so9 ((hxs os).length) ca9) ((hxs os).length) (qg (hxs os)) :: T) := by rw [cur_stay ho hb21]; exact M
   refine hK6 _ _ _ (by omega) ⟨i + 1, q, rfl, ⟨by omega, by rw [hqn, if_pos (show big o = true from hb21)]; exact hq⟩, A.keep _ (by repeat' constructor), M⟩
  ·
   have hb21' := of_decide_eq_false hb21
   refine gcl A M (ef rfl rfl) ((hb21 ▸ xd)) fun w25 hb24 M a A => ?_
   refine qb (hK20 _ _ (wp_cond_false (A.ev rfl) ?_))
   refine wp_skip (hK19 _ _ (wsk fun K26 hK26 => wrl (sdm A λa A↦?_)))
   refine sdo (v := .pointer (some ⟨g16, 0, none⟩)) A (qd HbG_fld_70_0 rfl rfl) λa A↦?_
   refine qs (us := [.int .i64 (((q : Nat) : Int)), .slice (some ⟨o.g, 0, none⟩) o.ws.length o.c]) (L' := (.obj g16 (.cells #[.int .i64 (((q : Nat) : Int)), .slice (some ⟨o.g, 0, none⟩) o.ws.length o.c] 70) :: .obj h (.cells #[.map (some m), .int .i64 (((last : Nat) : Int)), .int .i64 (((ss : Nat) : Int)), .slice sg gs.length sc, .int .i64 (((ls : Nat) : Int)), .slice lg gl.length lc] 63) :: .obj m (qc ((cur os i).map Ob.en) last) :: .row 88 2 (.slice sg gs.length sc) gs.length (qa gs) :: .row 88 2 (.slice lg gl.length lc) gl.length (qa gl) :: .row 3 1 (.slice so9 ((hxs os).length) ca9) ((hxs os).length) (qg (hxs os)) :: T)) A M rfl rfl (qo rfl rfl rfl (by kernel_rfl) M 0 rfl rfl rfl) 0 rfl rfl rfl ?_
   intro w27 M
   refine qb (hK26 _ _ (wsk fun K28 hK28 => zn (S := fun w1 => Mg w0 w1 (.obj g16 (.cells #[.int .i64 (((q : Nat) : Int)), .slice (some ⟨o.g, 0, none⟩) o.ws.length o.c] 70) :: .obj h (.cells #[.map (some m), .int .i64 (((last : Nat) : Int)), .int .i64 (((ss : Nat) : Int)), .slice sg gs.length sc, .int .i64 (((ls : Nat) : Int)), .slice lg gl.length lc] 63) :: [])) (by kernel_rfl) ?_))
   replace M := M.drew
   refine qf A 0 rfl rfl rfl rfl hP (M.sub (cc (cc (cn (cn (cn (cn (List.nil_sublist _)))))))) (fun w1 M => qn rfl) λa A↦?_
   refine qf A 1 rfl rfl rfl rfl hP (M.sub (cc (cc (cn (cn (cn (cn (List.nil_sublist _)))))))) (fun w1 M => qu rfl) λa A↦?_
   refine qf (v := .pointer (some ⟨h, 0, none⟩)) A 2 rfl rfl rfl rfl hP (M.sub (cc (cc (cn (cn (cn (cn (List.nil_sublist _)))))))) (fun w1 M => qd HbG_fld_63_0 rfl rfl) λa A↦?_
   refine qf A 3 rfl rfl rfl rfl hP (M.sub (cc (cc (cn (cn (cn (cn (List.nil_sublist _)))))))) (fun w1 M => qh M HbG_is1_57 rfl 1 rfl rfl) λa A↦?_
   refine qf A 4 rfl rfl rfl rfl hP (M.sub (cc (cc (cn (cn (cn (cn (List.nil_sublist _)))))))) (fun w1 M => qn rfl) λa A↦?_
   refine qf A 5 rfl rfl rfl rfl hP (M.sub (cc (cc (cn (cn (cn (cn (List.nil_sublist _)))))))) (fun w1 M => qq M HbG_isS_70 rfl 0 rfl (cs := [.int .i64 (((q : Nat) : Int)), .slice (some ⟨o.g, 0, none⟩) o.ws.length o.c]) rfl rfl) λa A↦?_
   refine zd (by kernel_rfl) (qae (L' := (.obj g16 (.cells #[.int .i64 (((q : Nat) : Int)), .slice (some ⟨o.g, 0, none⟩) o.ws.length o.c] 70) :: .obj h (.cells #[.map (some m), .int .i64 (((last : Nat) : Int)), .int .i64 (((ss : Nat) : Int)), .slice sg gs.length sc, .int .i64 (((ls : Nat) : Int)), .slice lg gl.length lc] 63) :: .obj m (qc (qge (((o.x : Nat) : Int)) (.agg #[.int .i64 (((q : Nat) : Int)), .slice (some ⟨o.g, 0, none⟩) o.ws.length o.c]) ((cur os i).map Ob.en)) last) :: .row 88 2 (.slice sg gs.length sc) gs.length (qa gs) :: .row 88 2 (.slice lg gl.length lc) gl.length (qa gl) :: .row 3 1 (.slice so9 ((hxs os).length) ca9) ((hxs os).length) (qg (hxs os)) :: T)) A M 6 rfl rfl rfl (sets_old M Try.underlying57 Try.underlying3 rfl rfl rfl 2 rfl hfok) 2 rfl (xo _ _) rfl ?_)
   intro w29 M
   refine ⟨(M.sub (cc (cc (cn (cn (cn (cn (List.nil_sublist _)))))))), ?_⟩
   replace M : Mg w0 w29 (.obj g16 (.cells #[.int .i64 (((q : Nat) : Int)), .slice (some ⟨o.g, 0, none⟩) o.ws.length o.c] 70) :: .obj h (.cells #[.map (some m), .int .i64 (((last : Nat) : Int)), .int .i64 (((ss : Nat) : Int)), .slice sg gs.length sc, .int .i64 (((ls : Nat) : Int)), .slice lg gl.length lc] 63) :: .obj m (qc (((cur os i).set i { o with p := q }).map Ob.en) last) :: .row 88 2 (.slice sg gs.length sc) gs.length (qa gs) :: .row 88 2 (.slice lg gl.length lc) gl.length (qa gl) :: .row 3 1 (.slice so9 ((hxs os).length) ca9) ((hxs os).length) (qg (hxs os)) :: T) := by rw [← putK_at (hx.cur i).rise hca { o with p := q } rfl]; exact M
   refine zi (by kernel_rfl) ?_
   refine hK28 _ _ (wrl (sdm A λa A↦?_))
   refine sdo (v := .pointer (some ⟨g16, 1, none⟩)) A (qd HbG_fld_70_1 rfl rfl) λa A↦?_
   refine sdo A (qh M HbG_is1_68 rfl 0 rfl rfl) λa A↦?_
   refine sdo A (qv Try.underlying68 rfl) λa A↦?_
   refine sdo (v := .int .i64 (((q + o.ws.length : Nat) : Int))) A (qe rfl rfl (ar_add ((in_i64 (by omega) (by omega)).trans (by omega)))) λa A↦?_
   refine sda A λa A↦?_
   refine qb (hK11 _ _ (wrl (sdo (v := .int .i64 (((i + 1 : Nat) : Int))) A (qe rfl rfl (ar_add ((in_i64 (by omega) (by omega)).trans (by omega)))) λa A↦?_)))
   refine sdm A λa A↦?_
   refine qb ?_
   replace M : Mg w0 w29 (.row 3 1 (.slice so9 ((hxs os).length) ca9) ((hxs os).length) (qg (hxs os)) :: .obj g16 (.cells #[.int .i64 (((q : Nat) : Int)), .slice (some ⟨o.g, 0, none⟩) o.ws.length o.c] 70) :: .obj h (.cells #[.map (some m), .int .i64 (((last : Nat) : Int)), .int .i64 (((ss : Nat) : Int)), .slice sg gs.length sc, .int .i64 (((ls : Nat) : Int)), .slice lg gl.length lc] 63) :: .obj m (qc (((cur os i).set i { o with p := q }).map Ob.en) last) :: .row 88 2 (.slice sg gs.length sc) gs.length (qa gs) :: .row 88 2 (.slice lg gl.length lc) gl.length (qa gl) :: T) := M.bring 5 rfl rfl
   replace M : Mg w0 w29 (.row 88 2 (.slice lg gl.length lc) gl.length (qa gl) :: .row 3 1 (.slice so9 ((hxs os).length) ca9) ((hxs os).length) (qg (hxs os)) :: .obj g16 (.cells #[.int .i64 (((q : Nat) : Int)), .slice (some ⟨o.g, 0, none⟩) o.ws.length o.c] 70) :: .obj h (.cells #[.map (some m), .int .i64 (((last : Nat) : Int)), .int .i64 (((ss : Nat) : Int)), .slice sg gs.length sc, .int .i64 (((ls : Nat) : Int)), .slice lg gl.length lc] 63) :: .obj m (qc (((cur os i).set i { o with p := q }).map Ob.en) last) :: .row 88 2 (.slice sg gs.length sc) gs.length (qa gs) :: T) := M.bring 5 rfl rfl
   replace M : Mg w0 w29 (.row 88 2 (.slice sg gs.length sc) gs.length (qa gs) :: .row 88 2 (.slice lg gl.length lc) gl.length (qa gl) :: .row 3 1 (.slice so9 ((hxs os).length) ca9) ((hxs os).length) (qg (hxs os)) :: .obj g16 (.cells #[.int .i64 (((q : Nat) : Int)), .slice (some ⟨o.g, 0, none⟩) o.ws.length o.c] 70) :: .obj h (.cells #[.map (some m), .int .i64 (((last : Nat) : Int)), .int .i64 (((ss : Nat) : Int)), .slice sg gs.length sc, .int .i64 (((ls : Nat) : Int)), .slice lg gl.length lc] 63) :: .obj m (qc (((cur os i).set i { o with p := q }).map Ob.en) last) :: T) := M.bring 5 rfl rfl
   replace M : Mg w0 w29 (.obj m (qc (((cur os i).set i { o with p := q }).map Ob.en) last) :: .row 88 2 (.slice sg gs.length sc) gs.length (qa gs) :: .row 88 2 (.slice lg gl.length lc) gl.length (qa gl) :: .row 3 1 (.slice so9 ((hxs os).length) ca9) ((hxs os).length) (qg (hxs os)) :: .obj g16 (.cells #[.int .i64 (((q : Nat) : Int)), .slice (some ⟨o.g, 0, none⟩) o.ws.length o.c] 70) :: .obj h (.cells #[.map (some m), .int .i64 (((last : Nat) : Int)), .int .i64 (((ss : Nat) : Int)), .slice sg gs.length sc, .int .i64 (((ls : Nat) : Int)), .slice lg gl.length lc] 63) :: T) := M.bring 5 rfl rfl
   replace M : Mg w0 w29 (.obj h (.cells #[.map (some m), .int .i64 (((last : Nat) : Int)), .int .i64 (((ss : Nat) : Int)), .slice sg gs.length sc, .int .i64 (((ls : Nat) : Int)), .slice lg gl.length lc] 63) :: .obj m (qc (((cur os i).set i { o with p := q }).map Ob.en) last) :: .row 88 2 (.slice sg gs.length sc) gs.length (qa gs) :: .row 88 2 (.slice lg gl.length lc) gl.length (qa gl) :: .row 3 1 (.slice so9 ((hxs os).length) ca9) ((hxs os).length) (qg (hxs os)) :: .obj g16 (.cells #[.int .i64 (((q : Nat) : Int)), .slice (some ⟨o.g, 0, none⟩) o.ws.length o.c] 70) :: T) := M.bring 5 rfl rfl
   replace M : Mg w0 w29 (.obj h (.cells #[.map (some m), .int .i64 (((last : Nat) : Int)), .int .i64 (((ss : Nat) : Int)), .slice sg gs.length sc, .int .i64 (((ls : Nat) : Int)), .slice lg gl.length lc] 63) :: .obj m (qc (((cur os i).set i { o with p := q }).map Ob.en) last) :: .row 88 2 (.slice sg gs.length sc) gs.length (qa gs) :: .row 88 2 (.slice lg gl.length lc) gl.length (qa gl) :: .row 3 1 (.slice so9 ((hxs os).length) ca9) ((hxs os).length) (qg (hxs os)) :: T) := by
    have h9 := M.sub (cc (cc (cc (cc (cc (cn (.refl _)))))))
    exact h9
   replace M : Mg w0 w29 (.obj h (.cells #[.map (some m), .int .i64 (((last : Nat) : Int)), .int .i64 (((ss : Nat) : Int)), .slice sg gs.length sc, .int .i64 (((ls : Nat) : Int)), .slice lg gl.length lc] 63) :: .obj m (qc ((cur os (i + 1)).map Ob.en) last) :: .row 88 2 (.slice sg gs.length sc) gs.length (qa gs) :: .row 88 2 (.slice lg gl.length lc) gl.length (qa gl) :: .row 3 1 (.slice so9 ((hxs os).length) ca9) ((hxs os).length) (qg (hxs os)) :: T) := by rw [qji ho, if_neg (show ¬ big o = true from by show ¬ decide (16 < ((o.ws.length : Nat) : Int)) = true; rw [hb21]; simp), ← hq]; exact M
   refine hK6 _ _ _ (by omega) ⟨i + 1, q + o.ws.length, rfl, ⟨by omega, by rw [hqn, if_neg (show ¬ big o = true from by show ¬ decide (16 < ((o.ws.length : Nat) : Int)) = true; rw [hb21]; simp), hq]⟩, A.keep _ (by repeat' constructor), M⟩
 ·
  have hb9' := of_decide_eq_false hb9
  refine sdc A qm hb9 λa A↦?_
  refine qb (hK8 _ _ (wsk fun K30 hK30 => wp_cond_false (A.ev rfl) ?_))
  refine wp_exit (hnorm _ _ (kx (v := .tuple #[]) A rfl .nil rfl ?_))
  replace M : Mg w0 w5 (.row 88 2 (.slice lg gl.length lc) gl.length (qa gl) :: .obj h (.cells #[.map (some m), .int .i64 (((last : Nat) : Int)), .int .i64 (((ss : Nat) : Int)), .slice sg gs.length sc, .int .i64 (((ls : Nat) : Int)), .slice lg gl.length lc] 63) :: .obj m (qc ((cur os i).map Ob.en) last) :: .row 88 2 (.slice sg gs.length sc) gs.length (qa gs) :: .row 3 1 (.slice so9 ((hxs os).length) ca9) ((hxs os).length) (qg (hxs os)) :: T) := M.bring 3 rfl rfl
  replace M : Mg w0 w5 (.row 88 2 (.slice sg gs.length sc) gs.length (qa gs) :: .row 88 2 (.slice lg gl.length lc) gl.length (qa gl) :: .obj h (.cells #[.map (some m), .int .i64 (((last : Nat) : Int)), .int .i64 (((ss : Nat) : Int)), .slice sg gs.length sc, .int .i64 (((ls : Nat) : Int)), .slice lg gl.length lc] 63) :: .obj m (qc ((cur os i).map Ob.en) last) :: .row 3 1 (.slice so9 ((hxs os).length) ca9) ((hxs os).length) (qg (hxs os)) :: T) := M.bring 3 rfl rfl
  replace M : Mg w0 w5 (.obj m (qc ((cur os i).map Ob.en) last) :: .row 88 2 (.slice sg gs.length sc) gs.length (qa gs) :: .row 88 2 (.slice lg gl.length lc) gl.length (qa gl) :: .obj h (.cells #[.map (some m), .int .i64 (((last : Nat) : Int)), .int .i64 (((ss : Nat) : Int)), .slice sg gs.length sc, .int .i64 (((ls : Nat) : Int)), .slice lg gl.length lc] 63) :: .row 3 1 (.slice so9 ((hxs os).length) ca9) ((hxs os).length) (qg (hxs os)) :: T) := M.bring 3 rfl rfl
  replace M : Mg w0 w5 (.obj h (.cells #[.map (some m), .int .i64 (((last : Nat) : Int)), .int .i64 (((ss : Nat) : Int)), .slice sg gs.length sc, .int .i64 (((ls : Nat) : Int)), .slice lg gl.length lc] 63) :: .obj m (qc ((cur os i).map Ob.en) last) :: .row 88 2 (.slice sg gs.length sc) gs.length (qa gs) :: .row 88 2 (.slice lg gl.length lc) gl.length (qa gl) :: .row 3 1 (.slice so9 ((hxs os).length) ca9) ((hxs os).length) (qg (hxs os)) :: T) := M.bring 3 rfl rfl
  replace M : Mg w0 w5 (.obj h (.cells #[.map (some m), .int .i64 (((last : Nat) : Int)), .int .i64 (((ss : Nat) : Int)), .slice sg gs.length sc, .int .i64 (((ls : Nat) : Int)), .slice lg gl.length lc] 63) :: .obj m (qc ((cur os i).map Ob.en) last) :: .row 88 2 (.slice sg gs.length sc) gs.length (qa gs) :: .row 88 2 (.slice lg gl.length lc) gl.length (qa gl) :: T) := by
   have h9 := M.sub (cc (cc (cc (cc (cn (.refl _))))))
   exact h9
  rw [cur_all (by omega)] at M
  exact ⟨rfl, M⟩
end Go.Proofs.Ytjjkcpmhlcjaoaa
