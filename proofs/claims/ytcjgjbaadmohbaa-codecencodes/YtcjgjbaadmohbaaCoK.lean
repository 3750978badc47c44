/- Walks of the comparison of bytes, and of the fixed fact. -/
import Derived.Test.YtcjgjbaadmohbaaMs
import Derived.Lib.SlBytesConst
namespace Go.Proofs.Ytcjgjbaadmohbaa
open Go.RowKit
set_option linter.unusedVariables false
set_option linter.unusedSimpArgs false
set_option maxRecDepth 100000
theorem CoK_is1_5 : Is1 Try.prog 5 := ⟨⟨_, Try.underlying5, rfl⟩, by kernel_rfl⟩
theorem does_convC {P : Program} {w w' : World} {v : Value} {l : List (Nat × Value)} {dst : Option Tmp} {ty : TypeId} {pos : String} {after : Array Edge} {guard : Option (Nat × Bool)} {s d : TypeId} {x : Operand} {u : Value} (hx : ev l x = some u) (hr : (convert s d u).run P w = .ok v w') : Does P l ⟨dst, .convert s d x, ty, pos, after, guard⟩ w v w' := fun ρ h => by
  simp only [execOp, h x _ hx, Sem.run_bind, hr, Result.andThen_ok, Sem.run_pure]
theorem rb_const {w : World} : Rb (w.alloc (.cells #[.int .u8 97, .int .u8 13, .int .u8 10, .int .u8 98] BY (4, 5))) (some ⟨w.heap.size, 0, none⟩) [97, 13, 10, 98] := by
  refine ⟨fun _ => ⟨w.heap.size, 0, rfl, (Array.getElem?_eq_some_iff.1 (heap_alloc_new w _)).1, fun j hj => ?_⟩⟩
  rw [cell_of_row _ _ _ _ _ _ (heap_alloc_new w _), Nat.zero_add]
  match j, hj with
  | 0, _ => rfl
  | 1, _ => rfl
  | 2, _ => rfl
  | 3, _ => rfl
theorem same_all {xs ys : List UInt8} (hl : xs.length = ys.length) (h : ∀ j, j < xs.length → xs.getD j 0 = ys.getD j 0) : xs = ys := by
  apply List.ext_getElem hl
  intro j h1 h2
  have := h j h1
  rwa [List.getD_eq_getElem?_getD, List.getD_eq_getElem?_getD, List.getElem?_eq_getElem h1, List.getElem?_eq_getElem h2] at this
theorem same_more {xs ys : List UInt8} {i : Nat} (h : ∀ j, j < i → xs.getD j 0 = ys.getD j 0) (h1 : (((xs.getD i 0).toNat : Nat) : Int) = (((ys.getD i 0).toNat : Nat) : Int)) : ∀ j, j < i + 1 → xs.getD j 0 = ys.getD j 0 := by
  intro j hj
  by_cases e : j = i
  · subst e; exact UInt8.toNat_inj.1 (by omega)
  · exact h j (by omega)
theorem rb_open {w : World} {so : Option Addr} {l : List UInt8} {i : Nat} (h : Rb w so l) (hi : i < l.length) : ∃ b off, so = some ⟨b, off, none⟩ ∧ b < w.heap.size ∧ ∀ j, j < l.length → w.cell? ⟨b, off + j, none⟩ = some (.int .u8 (((l.getD j 0).toNat : Nat) : Int)) :=
  h.pos (fun k => by rw [k] at hi; exact absurd hi (Nat.not_lt_zero _))
theorem same_any {w : World} {so to_ : Option Addr} {ca cb : Nat} {xs ys : List UInt8} (hx : Rb w so xs) (hy : Rb w to_ ys) (hl : xs.length ≤ 1000000000) : Calls Try.prog 14 #[.slice so xs.length ca, .slice to_ ys.length cb] w fun e w' => e = .returned (.bool (decide (xs = ys))) ∧ Below w.heap.size w w' := by
 have hM : Mg w w ([]) := Mg.start w
 refine walk_of (l := [(0, .slice so xs.length ca), (1, .slice to_ ys.length cb)]) Try.func14 rfl Try.ntmps14 rfl rfl ?_
 intro Q hret hnorm hP a hA
 refine wp_seq_k (fun K1 hK1 => ?_)
 refine wp_region_lit ?_
 refine seq_do hA rfl rfl rfl (does_assign rfl) ?_
 intro a hA
 refine seq_end ?_
 refine hK1 _ _ ?_
 refine wp_seq_k (fun K2 hK2 => ?_)
 refine wp_seq_k (fun K3 hK3 => ?_)
 refine wp_region_lit ?_
 refine seq_do hA rfl rfl rfl (does_move rfl) ?_
 intro a hA
 refine seq_do (v := .int .i64 (((xs.length : Nat) : Int))) hA rfl rfl rfl (does_len Try.underlying24 rfl) ?_
 intro a hA
 refine seq_do hA rfl rfl rfl (does_move rfl) ?_
 intro a hA
 refine seq_do (v := .int .i64 (((ys.length : Nat) : Int))) hA rfl rfl rfl (does_len Try.underlying24 rfl) ?_
 intro a hA
 rcases Bool.eq_false_or_eq_true ((((xs.length : Nat) : Int) != ((ys.length : Nat) : Int))) with hb4 | hb4
 · have hb4' := bne_iff_ne.1 hb4
   refine seq_do (v := .bool true) hA rfl rfl rfl (does_bin rfl rfl (fun w => (bin_neq w).trans (by rw [hb4]))) ?_
   intro a hA
   refine seq_end ?_
   refine hK3 _ _ ?_
   refine wp_cond_true (hA.ev rfl) ?_
   refine wp_seq_k (fun K5 hK5 => ?_)
   refine wp_region_lit ?_
   refine seq_do hA rfl rfl rfl (does_assign rfl) ?_
   intro a hA
   refine seq_end ?_
   refine hK5 _ _ ?_
   refine wp_ret ?_
   refine hret _ _ ?_
   refine ends (v := .bool false) hA rfl (.cons (res_tmp rfl) .nil) rfl ?_
   rw [show decide (xs = ys) = false from decide_eq_false (fun h9 => by subst h9; omega)]
   exact ⟨rfl, hM.bel⟩
 · have hb4' := bne_eq_false_iff_eq.1 hb4
   refine seq_do (v := .bool false) hA rfl rfl rfl (does_bin rfl rfl (fun w => (bin_neq w).trans (by rw [hb4]))) ?_
   intro a hA
   refine seq_end ?_
   refine hK3 _ _ ?_
   refine wp_cond_false (hA.ev rfl) ?_
   refine wp_skip ?_
   refine hK2 _ _ ?_
   refine wp_seq_k (fun K6 hK6 => ?_)
   refine wp_seq_k (fun K7 hK7 => ?_)
   refine wp_region_lit ?_
   refine seq_do hA rfl rfl rfl (does_assign rfl) ?_
   intro a hA
   refine seq_end ?_
   refine hK7 _ _ ?_
   refine wp_block ?_
   refine wp_loop_n (fun m_ a w1 => ∃ (i : Nat), m_ = xs.length - i ∧ (i ≤ xs.length ∧ ∀ j, j < i → xs.getD j 0 = ys.getD j 0) ∧ Sl a 26 [(0, .slice so xs.length ca), (1, .slice to_ ys.length cb), (5, .int .i64 (((i : Nat) : Int))), (6, .slice so xs.length ca), (7, .int .i64 (((xs.length : Nat) : Int))), (8, .slice to_ ys.length cb), (9, .int .i64 (((ys.length : Nat) : Int))), (10, .bool false)] ∧ Mg w w1 ([])) _ ⟨0, rfl, ⟨Nat.zero_le _, fun j hj => absurd hj (Nat.not_lt_zero _)⟩, hA.keep _ ⟨rfl, rfl, rfl, rfl, rfl, rfl, rfl, rfl, trivial⟩, hM⟩ ?_
   clear hM hA
   rintro m_ a w8 ⟨i, rfl, hinv10, hA, hM⟩ K9 hK9
   obtain ⟨hi9, hall⟩ := hinv10
   refine wp_seq_k (fun K11 hK11 => ?_)
   refine wp_seq_k (fun K12 hK12 => ?_)
   refine wp_region_lit ?_
   refine seq_do hA rfl rfl rfl (does_move rfl) ?_
   intro a hA
   refine seq_do hA rfl rfl rfl (does_move rfl) ?_
   intro a hA
   refine seq_do (v := .int .i64 (((xs.length : Nat) : Int))) hA rfl rfl rfl (does_len Try.underlying24 rfl) ?_
   intro a hA
   rcases Bool.eq_false_or_eq_true (decide (((i : Nat) : Int) < ((xs.length : Nat) : Int))) with hb13 | hb13
   · have hb13' := of_decide_eq_true hb13
     refine seq_do (v := .bool true) hA rfl rfl rfl (does_bin rfl rfl (fun w => (bin_lss w).trans (by rw [hb13]))) ?_
     intro a hA
     refine seq_end ?_
     refine hK12 _ _ ?_
     refine wp_cond_true (hA.ev rfl) ?_
     refine wp_skip ?_
     refine hK11 _ _ ?_
     refine wp_seq_k (fun K14 hK14 => ?_)
     refine wp_block ?_
     refine wp_seq_k (fun K15 hK15 => ?_)
     obtain ⟨bx, ox, hx1, hx2, hx3⟩ := rb_open (i := i) hx (by omega)
     obtain ⟨by_, oy, hy1, hy2, hy3⟩ := rb_open (i := i) hy (by omega)
     refine wp_draw (S := fun w1 => Mg w w1 ([])) (by kernel_rfl) ?_
     replace hM := hM.drew
     refine any_tk hA 0 rfl rfl rfl rfl hP (hM.sub (List.nil_sublist _)) (fun w1 hM => does_move rfl) ?_
     intro a hA
     refine any_tk hA 1 rfl rfl rfl rfl hP (hM.sub (List.nil_sublist _)) (fun w1 hM => does_move rfl) ?_
     intro a hA
     refine any_tk (v := .pointer (some ⟨bx, ox + i, none⟩)) hA 2 rfl rfl rfl rfl hP (hM.sub (List.nil_sublist _)) (fun w1 hM => does_indexRow Try.underlying24 (by kernel_rfl) rfl rfl rfl hx1 (by omega)) ?_
     intro a hA
     refine any_tk (v := .int .u8 ((((xs.getD i 0).toNat : Nat) : Int))) hA 3 rfl rfl rfl rfl hP (hM.sub (List.nil_sublist _)) (fun w1 hM => m_loadR hM hx2 (hx3 i (by omega)) CoK_is1_5 rfl) ?_
     intro a hA
     refine any_tk hA 4 rfl rfl rfl rfl hP (hM.sub (List.nil_sublist _)) (fun w1 hM => does_move rfl) ?_
     intro a hA
     refine any_tk hA 5 rfl rfl rfl rfl hP (hM.sub (List.nil_sublist _)) (fun w1 hM => does_move rfl) ?_
     intro a hA
     refine any_tk (v := .pointer (some ⟨by_, oy + i, none⟩)) hA 6 rfl rfl rfl rfl hP (hM.sub (List.nil_sublist _)) (fun w1 hM => does_indexRow Try.underlying24 (by kernel_rfl) rfl rfl rfl hy1 (by omega)) ?_
     intro a hA
     refine any_tk (v := .int .u8 ((((ys.getD i 0).toNat : Nat) : Int))) hA 7 rfl rfl rfl rfl hP (hM.sub (List.nil_sublist _)) (fun w1 hM => m_loadR hM hy2 (hy3 i (by omega)) CoK_is1_5 rfl) ?_
     intro a hA
     rcases Bool.eq_false_or_eq_true (((((xs.getD i 0).toNat : Nat) : Int) != (((ys.getD i 0).toNat : Nat) : Int))) with hb16 | hb16
     · have hb16' := bne_iff_ne.1 hb16
       refine any_tk (v := .bool true) hA 8 rfl rfl rfl rfl hP (hM.sub (List.nil_sublist _)) (fun w1 hM => does_bin rfl rfl (fun w => (bin_neq w).trans (by rw [hb16]))) ?_
       intro a hA
       refine any_end (by kernel_rfl) ?_
       refine hK15 _ _ ?_
       refine wp_cond_true (hA.ev rfl) ?_
       refine wp_seq_k (fun K17 hK17 => ?_)
       refine wp_region_lit ?_
       refine seq_do hA rfl rfl rfl (does_assign rfl) ?_
       intro a hA
       refine seq_end ?_
       refine hK17 _ _ ?_
       refine wp_ret ?_
       refine hret _ _ ?_
       refine ends (v := .bool false) hA rfl (.cons (res_tmp rfl) .nil) rfl ?_
       rw [show decide (xs = ys) = false from decide_eq_false (fun h9 => by subst h9; omega)]
       exact ⟨rfl, hM.bel⟩
     · have hb16' := bne_eq_false_iff_eq.1 hb16
       refine any_tk (v := .bool false) hA 8 rfl rfl rfl rfl hP (hM.sub (List.nil_sublist _)) (fun w1 hM => does_bin rfl rfl (fun w => (bin_neq w).trans (by rw [hb16]))) ?_
       intro a hA
       refine any_end (by kernel_rfl) ?_
       refine hK15 _ _ ?_
       refine wp_cond_false (hA.ev rfl) ?_
       refine wp_skip ?_
       refine hK14 _ _ ?_
       refine wp_region_lit ?_
       refine seq_do hA rfl rfl rfl (does_move rfl) ?_
       intro a hA
       refine seq_do (v := .int .i64 (((i + 1 : Nat) : Int))) hA rfl rfl rfl (does_bin rfl rfl (ar_add ((in_i64 (by omega) (by omega)).trans (by omega)))) ?_
       intro a hA
       refine seq_do hA rfl rfl rfl (does_assign rfl) ?_
       intro a hA
       refine seq_end ?_
       refine hK9 _ _ _ (by omega) ⟨i + 1, rfl, ⟨by omega, same_more hall (by omega)⟩, hA.keep _ ⟨rfl, rfl, rfl, rfl, rfl, rfl, rfl, rfl, trivial⟩, hM⟩
   · have hb13' := of_decide_eq_false hb13
     refine seq_do (v := .bool false) hA rfl rfl rfl (does_bin rfl rfl (fun w => (bin_lss w).trans (by rw [hb13]))) ?_
     intro a hA
     refine seq_end ?_
     refine hK12 _ _ ?_
     refine wp_cond_false (hA.ev rfl) ?_
     refine wp_exit ?_
     refine hK6 _ _ ?_
     refine wp_seq_k (fun K18 hK18 => ?_)
     refine wp_region_lit ?_
     refine seq_do hA rfl rfl rfl (does_assign rfl) ?_
     intro a hA
     refine seq_end ?_
     refine hK18 _ _ ?_
     refine wp_ret ?_
     refine hret _ _ ?_
     refine ends (v := .bool true) hA rfl (.cons (res_tmp rfl) .nil) rfl ?_
     rw [show decide (xs = ys) = true from decide_eq_true (same_all (by omega) (fun j hj => hall j (by omega)))]
     exact ⟨rfl, hM.bel⟩
theorem same_own {w0 w : World} {L : List Ck} (hM : Mg w0 w L) (i j : Nat) {v v' : Value} {n n' : Nat} {xs ys : List UInt8} (hi : L[i]? = some (.row BY 1 v n (Lib.byteCells xs))) (hj : L[j]? = some (.row BY 1 v' n' (Lib.byteCells ys))) (hl : xs.length ≤ 1000000000) : Calls Try.prog 14 #[v, v'] w fun e w' => e = .returned (.bool (decide (xs = ys))) ∧ Below w.heap.size w w' := by
  obtain ⟨so, ca, rfl⟩ := owns_slice (hM.has i hi)
  obtain ⟨to_, cb, rfl⟩ := owns_slice (hM.has j hj)
  obtain ⟨h1, rfl⟩ := rb_row hM i hi
  obtain ⟨h2, rfl⟩ := rb_row hM j hj
  exact same_any h1 h2 hl
theorem dec_fixed : decS 1 3 0 [97, 13, 10, 98] = ([97, 10, 98], 0, 0) := by decide +kernel
theorem decode_fixed {w : World} {so : Option Addr} {cap : Nat} (hb : Rb w so [97, 13, 10, 98]) : Calls Try.prog 7 #[.agg #[.int .i64 1, .int .i64 3, .int .i64 0], .slice so 4 cap] w fun e w' => e = .returned (.tuple #[.string ⟨#[97, 10, 98]⟩, .int .i64 0, .int .i64 0]) ∧ Below w.heap.size w w' := by
  have h := decode_any (c := 1) (k := 3) (m := 0) (cap := cap) hb rfl
  rw [dec_fixed] at h
  exact h
theorem awake_any {w : World} : Calls Try.prog 9 #[] w fun e w' => e = .returned (.bool true) ∧ Below w.heap.size w w' := by
 have hM : Mg w w ([]) := Mg.start w
 refine walk_of (l := []) Try.func9 rfl Try.ntmps9 rfl rfl ?_
 intro Q hret hnorm hP a hA
 refine wp_seq_k (fun K1 hK1 => ?_)
 refine wp_region_lit ?_
 refine seq_do hA rfl rfl rfl (does_assign rfl) ?_
 intro a hA
 refine seq_end ?_
 refine hK1 _ _ ?_
 refine wp_seq_k (fun K2 hK2 => ?_)
 refine wp_region_lit ?_
 refine seq_do (v := .agg #[.int .i64 1, .int .i64 3, .int .i64 0]) hA rfl rfl rfl (does_build rfl (fun w => by kernel_rfl)) ?_
 intro a hA
 refine seq_do (v := .slice (some ⟨w.heap.size, 0, none⟩) 4 4) hA rfl rfl rfl (does_buildSlice (w' := w.alloc (.cells #[.int .u8 97, .int .u8 13, .int .u8 10, .int .u8 98] BY)) rfl (by kernel_rfl)) ?_
 intro a hA
 refine seq_do (v := .slice (some ⟨w.heap.size, 0, none⟩) 4 4) hA rfl rfl rfl (does_convC rfl (Lib.run_convert_bytes_const w 24 BY #[.int .u8 97, .int .u8 13, .int .u8 10, .int .u8 98] 4 4 Try.underlying24 Try.underlying5)) ?_
 intro a hA
 replace hM : Mg w (w.alloc (.cells #[.int .u8 97, .int .u8 13, .int .u8 10, .int .u8 98] BY (4, 5))) [] := hM.call ((Below.refl _ w).alloc (Nat.le_refl _) _)
 refine seq_call hA rfl rfl rfl (enters_func rfl rfl (fun w => by kernel_rfl)) (decode_fixed rb_const) ?_
 rintro _ w4 ⟨rfl, hb3⟩
 replace hM := hM.call hb3
 refine ⟨_, rfl, ?_⟩
 intro a hA
 refine seq_do hA rfl rfl rfl (does_move rfl) ?_
 intro a hA
 refine seq_do (v := .string (⟨#[97, 10, 98]⟩)) hA rfl rfl rfl (does_extract (vs := [.string (⟨#[97, 10, 98]⟩), .int .i64 0, .int .i64 0]) rfl rfl) ?_
 intro a hA
 refine seq_do (v := .int .i64 0) hA rfl rfl rfl (does_extract (vs := [.string (⟨#[97, 10, 98]⟩), .int .i64 0, .int .i64 0]) rfl rfl) ?_
 intro a hA
 refine seq_do (v := .int .i64 0) hA rfl rfl rfl (does_extract (vs := [.string (⟨#[97, 10, 98]⟩), .int .i64 0, .int .i64 0]) rfl rfl) ?_
 intro a hA
 refine seq_do hA rfl rfl rfl (does_assign rfl) ?_
 intro a hA
 refine seq_do hA rfl rfl rfl (does_assign rfl) ?_
 intro a hA
 refine seq_do hA rfl rfl rfl (does_assign rfl) ?_
 intro a hA
 refine seq_end ?_
 refine hK2 _ _ ?_
 refine wp_seq_k (fun K5 hK5 => ?_)
 refine wp_region_lit ?_
 refine seq_do hA rfl rfl rfl (does_move rfl) ?_
 intro a hA
 refine seq_do (v := .bool true) hA rfl rfl rfl (does_bin rfl rfl (fun w => by kernel_rfl)) ?_
 intro a hA
 refine seq_do hA rfl rfl rfl (does_move rfl) ?_
 intro a hA
 refine seq_do hA rfl rfl rfl (does_move rfl) ?_
 intro a hA
 refine seq_do (v := .bool true) hA rfl rfl rfl (does_bin rfl rfl (fun w => by kernel_rfl)) ?_
 intro a hA
 refine seq_do (v := .bool true) hA rfl rfl rfl (does_pick rfl rfl rfl rfl) ?_
 intro a hA
 refine seq_do hA rfl rfl rfl (does_move rfl) ?_
 intro a hA
 refine seq_do hA rfl rfl rfl (does_move rfl) ?_
 intro a hA
 refine seq_do (v := .bool true) hA rfl rfl rfl (does_bin rfl rfl (fun w => by kernel_rfl)) ?_
 intro a hA
 refine seq_do (v := .bool true) hA rfl rfl rfl (does_pick rfl rfl rfl rfl) ?_
 intro a hA
 refine seq_do hA rfl rfl rfl (does_assign rfl) ?_
 intro a hA
 refine seq_end ?_
 refine hK5 _ _ ?_
 refine wp_ret ?_
 refine hret _ _ ?_
 refine ends (v := .bool true) hA rfl (.cons (res_tmp rfl) .nil) rfl ?_
 exact ⟨rfl, hM.bel⟩
end Go.Proofs.Ytcjgjbaadmohbaa
