/- Walks of bytes one by one, and in pairs. -/
import Derived.Test.YtcjgjbaadmohbaaCoB
import Derived.Test.YtcjgjbaadmohbaaCoV
namespace Go.Proofs.Ytcjgjbaadmohbaa
open Go.RowKit
set_option linter.unusedVariables false
set_option linter.unusedSimpArgs false
set_option maxRecDepth 100000

theorem highFirst_any {w : World} {s : ByteArray} (hs : 2 ≤ s.size) : Calls Try.prog 82 #[.string s] w fun e w' => e = .returned (.int .i32 ((hi2 (s.data.toList.getD 0 0).toNat (s.data.toList.getD 1 0).toNat : Nat) : Int)) ∧ Below w.heap.size w w' := by
 have hM : Mg w w ([]) := Mg.start w
 refine walk_of (l := [(0, .string s)]) Try.func82 rfl Try.ntmps82 rfl rfl ?_
 intro Q hret hnorm hP a hA
 refine wp_seq_k (fun K1 hK1 => ?_)
 refine wp_region_lit ?_
 refine seq_do hA rfl rfl rfl (does_assign rfl) ?_
 intro a hA
 refine seq_end ?_
 refine hK1 _ _ ?_
 refine wp_seq_k (fun K2 hK2 => ?_)
 refine wp_draw (S := fun w1 => Mg w w1 ([])) (by kernel_rfl) ?_
 replace hM := hM.drew
 refine any_tk hA 0 rfl rfl rfl rfl hP (hM.sub (List.nil_sublist _)) (fun w1 hM => does_move rfl) ?_
 intro a hA
 refine any_tk (v := .int .u8 ((((s.data.toList.getD 0 0).toNat : Nat) : Int))) hA 1 rfl rfl rfl rfl hP (hM.sub (List.nil_sublist _)) (fun w1 hM => does_indexS (i := 0) Try.underlying9 rfl rfl rfl (by omega)) ?_
 intro a hA
 refine any_tk (v := .int .i32 ((((s.data.toList.getD 0 0).toNat : Nat) : Int))) hA 2 rfl rfl rfl rfl hP (hM.sub (List.nil_sublist _)) (fun w1 hM => does_convert rfl (ar_conv Try.underlying5 Try.underlying21 (in_i32 (by omega) (by have h9 := byte_lt s.data.toList 0; omega)))) ?_
 intro a hA
 refine any_tk (v := .int .i32 ((((s.data.toList.getD 0 0).toNat * 256 : Nat) : Int))) hA 3 rfl rfl rfl rfl hP (hM.sub (List.nil_sublist _)) (fun w1 hM => does_bin rfl rfl (ar_shl (n := 8) rfl rfl (show IntKind.i32.wrap ((((s.data.toList.getD 0 0).toNat : Nat) : Int) * 2 ^ 8) = (((s.data.toList.getD 0 0).toNat * 256 : Nat) : Int) from by have h9 := byte_lt s.data.toList 0; rw [show ((2 : Int) ^ 8) = 256 from rfl, in_i32 (by omega) (by omega)]; omega))) ?_
 intro a hA
 refine any_tk hA 4 rfl rfl rfl rfl hP (hM.sub (List.nil_sublist _)) (fun w1 hM => does_move rfl) ?_
 intro a hA
 refine any_tk (v := .int .u8 ((((s.data.toList.getD 1 0).toNat : Nat) : Int))) hA 5 rfl rfl rfl rfl hP (hM.sub (List.nil_sublist _)) (fun w1 hM => does_indexS (i := 1) Try.underlying9 rfl rfl rfl (by omega)) ?_
 intro a hA
 refine any_tk (v := .int .i32 ((((s.data.toList.getD 1 0).toNat : Nat) : Int))) hA 6 rfl rfl rfl rfl hP (hM.sub (List.nil_sublist _)) (fun w1 hM => does_convert rfl (ar_conv Try.underlying5 Try.underlying21 (in_i32 (by omega) (by have h9 := byte_lt s.data.toList 1; omega)))) ?_
 intro a hA
 refine any_tk (v := .int .i32 (((hi2 (s.data.toList.getD 0 0).toNat (s.data.toList.getD 1 0).toNat : Nat) : Int))) hA 7 rfl rfl rfl rfl hP (hM.sub (List.nil_sublist _)) (fun w1 hM => does_bin rfl rfl (ar_or (or_256 (byte_lt _ _) (byte_lt _ _) rfl))) ?_
 intro a hA
 refine any_tk hA 8 rfl rfl rfl rfl hP (hM.sub (List.nil_sublist _)) (fun w1 hM => does_assign rfl) ?_
 intro a hA
 refine any_end (by kernel_rfl) ?_
 refine hK2 _ _ ?_
 refine wp_ret ?_
 refine hret _ _ ?_
 refine ends (v := .int .i32 (((hi2 (s.data.toList.getD 0 0).toNat (s.data.toList.getD 1 0).toNat : Nat) : Int))) hA rfl (.cons (res_tmp rfl) .nil) rfl ?_
 exact ⟨rfl, hM.bel⟩
theorem highFirst_num : NumF Try.prog 82 hi2 := ⟨fun b w => by kernel_rfl, fun b w h => highFirst_any h, fun a b ha hb => by unfold hi2; omega⟩
theorem lowFirst_any {w : World} {s : ByteArray} (hs : 2 ≤ s.size) : Calls Try.prog 83 #[.string s] w fun e w' => e = .returned (.int .i32 ((lo2 (s.data.toList.getD 0 0).toNat (s.data.toList.getD 1 0).toNat : Nat) : Int)) ∧ Below w.heap.size w w' := by
 have hM : Mg w w ([]) := Mg.start w
 refine walk_of (l := [(0, .string s)]) Try.func83 rfl Try.ntmps83 rfl rfl ?_
 intro Q hret hnorm hP a hA
 refine wp_seq_k (fun K1 hK1 => ?_)
 refine wp_region_lit ?_
 refine seq_do hA rfl rfl rfl (does_assign rfl) ?_
 intro a hA
 refine seq_end ?_
 refine hK1 _ _ ?_
 refine wp_seq_k (fun K2 hK2 => ?_)
 refine wp_draw (S := fun w1 => Mg w w1 ([])) (by kernel_rfl) ?_
 replace hM := hM.drew
 refine any_tk hA 0 rfl rfl rfl rfl hP (hM.sub (List.nil_sublist _)) (fun w1 hM => does_move rfl) ?_
 intro a hA
 refine any_tk (v := .int .u8 ((((s.data.toList.getD 1 0).toNat : Nat) : Int))) hA 1 rfl rfl rfl rfl hP (hM.sub (List.nil_sublist _)) (fun w1 hM => does_indexS (i := 1) Try.underlying9 rfl rfl rfl (by omega)) ?_
 intro a hA
 refine any_tk (v := .int .i32 ((((s.data.toList.getD 1 0).toNat : Nat) : Int))) hA 2 rfl rfl rfl rfl hP (hM.sub (List.nil_sublist _)) (fun w1 hM => does_convert rfl (ar_conv Try.underlying5 Try.underlying21 (in_i32 (by omega) (by have h9 := byte_lt s.data.toList 1; omega)))) ?_
 intro a hA
 refine any_tk (v := .int .i32 ((((s.data.toList.getD 1 0).toNat * 256 : Nat) : Int))) hA 3 rfl rfl rfl rfl hP (hM.sub (List.nil_sublist _)) (fun w1 hM => does_bin rfl rfl (ar_shl (n := 8) rfl rfl (show IntKind.i32.wrap ((((s.data.toList.getD 1 0).toNat : Nat) : Int) * 2 ^ 8) = (((s.data.toList.getD 1 0).toNat * 256 : Nat) : Int) from by have h9 := byte_lt s.data.toList 1; rw [show ((2 : Int) ^ 8) = 256 from rfl, in_i32 (by omega) (by omega)]; omega))) ?_
 intro a hA
 refine any_tk hA 4 rfl rfl rfl rfl hP (hM.sub (List.nil_sublist _)) (fun w1 hM => does_move rfl) ?_
 intro a hA
 refine any_tk (v := .int .u8 ((((s.data.toList.getD 0 0).toNat : Nat) : Int))) hA 5 rfl rfl rfl rfl hP (hM.sub (List.nil_sublist _)) (fun w1 hM => does_indexS (i := 0) Try.underlying9 rfl rfl rfl (by omega)) ?_
 intro a hA
 refine any_tk (v := .int .i32 ((((s.data.toList.getD 0 0).toNat : Nat) : Int))) hA 6 rfl rfl rfl rfl hP (hM.sub (List.nil_sublist _)) (fun w1 hM => does_convert rfl (ar_conv Try.underlying5 Try.underlying21 (in_i32 (by omega) (by have h9 := byte_lt s.data.toList 0; omega)))) ?_
 intro a hA
 refine any_tk (v := .int .i32 (((lo2 (s.data.toList.getD 0 0).toNat (s.data.toList.getD 1 0).toNat : Nat) : Int))) hA 7 rfl rfl rfl rfl hP (hM.sub (List.nil_sublist _)) (fun w1 hM => does_bin rfl rfl (ar_or (or_256 (byte_lt _ _) (byte_lt _ _) rfl))) ?_
 intro a hA
 refine any_tk hA 8 rfl rfl rfl rfl hP (hM.sub (List.nil_sublist _)) (fun w1 hM => does_assign rfl) ?_
 intro a hA
 refine any_end (by kernel_rfl) ?_
 refine hK2 _ _ ?_
 refine wp_ret ?_
 refine hret _ _ ?_
 refine ends (v := .int .i32 (((lo2 (s.data.toList.getD 0 0).toNat (s.data.toList.getD 1 0).toNat : Nat) : Int))) hA rfl (.cons (res_tmp rfl) .nil) rfl ?_
 exact ⟨rfl, hM.bel⟩
theorem lowFirst_num : NumF Try.prog 83 lo2 := ⟨fun b w => by kernel_rfl, fun b w h => lowFirst_any h, fun a b ha hb => by unfold lo2; omega⟩
theorem isHigh_any {w : World} {r : Int} {b : Bool} (hb : decide (55296 ≤ r ∧ r < 56320) = b) : Calls Try.prog 92 #[.int .i32 r] w fun e w' => e = .returned (.bool b) ∧ Below w.heap.size w w' := by
 have hM : Mg w w ([]) := Mg.start w
 refine walk_of (l := [(0, .int .i32 r)]) Try.func92 rfl Try.ntmps92 rfl rfl ?_
 intro Q hret hnorm hP a hA
 refine wp_seq_k (fun K1 hK1 => ?_)
 refine wp_region_lit ?_
 refine seq_do hA rfl rfl rfl (does_assign rfl) ?_
 intro a hA
 refine seq_end ?_
 refine hK1 _ _ ?_
 refine wp_seq_k (fun K2 hK2 => ?_)
 refine wp_region_lit ?_
 refine seq_do hA rfl rfl rfl (does_move rfl) ?_
 intro a hA
 rcases Bool.eq_false_or_eq_true (decide (55296 ≤ r)) with hb3 | hb3
 · have hb3' := of_decide_eq_true hb3
   refine seq_do (v := .bool true) hA rfl rfl rfl (does_bin rfl rfl (fun w => (bin_leq w).trans (by rw [hb3]))) ?_
   intro a hA
   refine seq_do hA rfl rfl rfl (does_move rfl) ?_
   intro a hA
   refine seq_do hA rfl rfl rfl (does_move rfl) ?_
   intro a hA
   rcases Bool.eq_false_or_eq_true (decide (r < 56320)) with hb4 | hb4
   · have hb4' := of_decide_eq_true hb4
     refine seq_do (v := .bool true) hA rfl rfl rfl (does_bin rfl rfl (fun w => (bin_lss w).trans (by rw [hb4]))) ?_
     intro a hA
     refine seq_do (v := .bool true) hA rfl rfl rfl (does_pick rfl rfl rfl rfl) ?_
     intro a hA
     refine seq_do hA rfl rfl rfl (does_assign rfl) ?_
     intro a hA
     refine seq_end ?_
     refine hK2 _ _ ?_
     refine wp_ret ?_
     refine hret _ _ ?_
     refine ends (v := .bool true) hA rfl (.cons (res_tmp rfl) .nil) rfl ?_
     subst hb
     exact ⟨by rw [show decide (55296 ≤ r ∧ r < 56320) = true from decide_eq_true (by omega)], hM.bel⟩
   · have hb4' := of_decide_eq_false hb4
     refine seq_do (v := .bool false) hA rfl rfl rfl (does_bin rfl rfl (fun w => (bin_lss w).trans (by rw [hb4]))) ?_
     intro a hA
     refine seq_do (v := .bool false) hA rfl rfl rfl (does_pick rfl rfl rfl rfl) ?_
     intro a hA
     refine seq_do hA rfl rfl rfl (does_assign rfl) ?_
     intro a hA
     refine seq_end ?_
     refine hK2 _ _ ?_
     refine wp_ret ?_
     refine hret _ _ ?_
     refine ends (v := .bool false) hA rfl (.cons (res_tmp rfl) .nil) rfl ?_
     subst hb
     exact ⟨by rw [show decide (55296 ≤ r ∧ r < 56320) = false from decide_eq_false (by omega)], hM.bel⟩
 · have hb3' := of_decide_eq_false hb3
   refine seq_do (v := .bool false) hA rfl rfl rfl (does_bin rfl rfl (fun w => (bin_leq w).trans (by rw [hb3]))) ?_
   intro a hA
   refine seq_do hA rfl rfl rfl (does_move rfl) ?_
   intro a hA
   refine seq_skip hA rfl rfl rfl ?_
   intro a hA
   refine seq_skip hA rfl rfl rfl ?_
   intro a hA
   refine seq_do (v := .bool false) hA rfl rfl rfl (does_pick rfl rfl rfl rfl) ?_
   intro a hA
   refine seq_do hA rfl rfl rfl (does_assign rfl) ?_
   intro a hA
   refine seq_end ?_
   refine hK2 _ _ ?_
   refine wp_ret ?_
   refine hret _ _ ?_
   refine ends (v := .bool false) hA rfl (.cons (res_tmp rfl) .nil) rfl ?_
   subst hb
   exact ⟨by rw [show decide (55296 ≤ r ∧ r < 56320) = false from decide_eq_false (by omega)], hM.bel⟩
theorem isLow_any {w : World} {r : Int} {b : Bool} (hb : decide (56320 ≤ r ∧ r < 57344) = b) : Calls Try.prog 93 #[.int .i32 r] w fun e w' => e = .returned (.bool b) ∧ Below w.heap.size w w' := by
 have hM : Mg w w ([]) := Mg.start w
 refine walk_of (l := [(0, .int .i32 r)]) Try.func93 rfl Try.ntmps93 rfl rfl ?_
 intro Q hret hnorm hP a hA
 refine wp_seq_k (fun K1 hK1 => ?_)
 refine wp_region_lit ?_
 refine seq_do hA rfl rfl rfl (does_assign rfl) ?_
 intro a hA
 refine seq_end ?_
 refine hK1 _ _ ?_
 refine wp_seq_k (fun K2 hK2 => ?_)
 refine wp_region_lit ?_
 refine seq_do hA rfl rfl rfl (does_move rfl) ?_
 intro a hA
 rcases Bool.eq_false_or_eq_true (decide (56320 ≤ r)) with hb3 | hb3
 · have hb3' := of_decide_eq_true hb3
   refine seq_do (v := .bool true) hA rfl rfl rfl (does_bin rfl rfl (fun w => (bin_leq w).trans (by rw [hb3]))) ?_
   intro a hA
   refine seq_do hA rfl rfl rfl (does_move rfl) ?_
   intro a hA
   refine seq_do hA rfl rfl rfl (does_move rfl) ?_
   intro a hA
   rcases Bool.eq_false_or_eq_true (decide (r < 57344)) with hb4 | hb4
   · have hb4' := of_decide_eq_true hb4
     refine seq_do (v := .bool true) hA rfl rfl rfl (does_bin rfl rfl (fun w => (bin_lss w).trans (by rw [hb4]))) ?_
     intro a hA
     refine seq_do (v := .bool true) hA rfl rfl rfl (does_pick rfl rfl rfl rfl) ?_
     intro a hA
     refine seq_do hA rfl rfl rfl (does_assign rfl) ?_
     intro a hA
     refine seq_end ?_
     refine hK2 _ _ ?_
     refine wp_ret ?_
     refine hret _ _ ?_
     refine ends (v := .bool true) hA rfl (.cons (res_tmp rfl) .nil) rfl ?_
     subst hb
     exact ⟨by rw [show decide (56320 ≤ r ∧ r < 57344) = true from decide_eq_true (by omega)], hM.bel⟩
   · have hb4' := of_decide_eq_false hb4
     refine seq_do (v := .bool false) hA rfl rfl rfl (does_bin rfl rfl (fun w => (bin_lss w).trans (by rw [hb4]))) ?_
     intro a hA
     refine seq_do (v := .bool false) hA rfl rfl rfl (does_pick rfl rfl rfl rfl) ?_
     intro a hA
     refine seq_do hA rfl rfl rfl (does_assign rfl) ?_
     intro a hA
     refine seq_end ?_
     refine hK2 _ _ ?_
     refine wp_ret ?_
     refine hret _ _ ?_
     refine ends (v := .bool false) hA rfl (.cons (res_tmp rfl) .nil) rfl ?_
     subst hb
     exact ⟨by rw [show decide (56320 ≤ r ∧ r < 57344) = false from decide_eq_false (by omega)], hM.bel⟩
 · have hb3' := of_decide_eq_false hb3
   refine seq_do (v := .bool false) hA rfl rfl rfl (does_bin rfl rfl (fun w => (bin_leq w).trans (by rw [hb3]))) ?_
   intro a hA
   refine seq_do hA rfl rfl rfl (does_move rfl) ?_
   intro a hA
   refine seq_skip hA rfl rfl rfl ?_
   intro a hA
   refine seq_skip hA rfl rfl rfl ?_
   intro a hA
   refine seq_do (v := .bool false) hA rfl rfl rfl (does_pick rfl rfl rfl rfl) ?_
   intro a hA
   refine seq_do hA rfl rfl rfl (does_assign rfl) ?_
   intro a hA
   refine seq_end ?_
   refine hK2 _ _ ?_
   refine wp_ret ?_
   refine hret _ _ ?_
   refine ends (v := .bool false) hA rfl (.cons (res_tmp rfl) .nil) rfl ?_
   subst hb
   exact ⟨by rw [show decide (56320 ≤ r ∧ r < 57344) = false from decide_eq_false (by omega)], hM.bel⟩
theorem paired_any {w : World} {n m : Nat} (h1 : 55296 ≤ n) (h2 : n < 56320) (h3 : 56320 ≤ m) (h4 : m < 57344) : Calls Try.prog 94 #[.int .i32 ((n : Nat) : Int), .int .i32 ((m : Nat) : Int)] w fun e w' => e = .returned (.int .i32 ((65536 + (n - 55296) * 1024 + (m - 56320) : Nat) : Int)) ∧ Below w.heap.size w w' := by
 have hM : Mg w w ([]) := Mg.start w
 refine walk_of (l := [(0, .int .i32 (((n : Nat) : Int))), (1, .int .i32 (((m : Nat) : Int)))]) Try.func94 rfl Try.ntmps94 rfl rfl ?_
 intro Q hret hnorm hP a hA
 refine wp_seq_k (fun K1 hK1 => ?_)
 refine wp_region_lit ?_
 refine seq_do hA rfl rfl rfl (does_assign rfl) ?_
 intro a hA
 refine seq_end ?_
 refine hK1 _ _ ?_
 refine wp_seq_k (fun K2 hK2 => ?_)
 refine wp_region_lit ?_
 refine seq_do hA rfl rfl rfl (does_move rfl) ?_
 intro a hA
 refine seq_do (v := .int .i32 (((n - 55296 : Nat) : Int))) hA rfl rfl rfl (does_bin rfl rfl (ar_sub ((in_i32 (by omega) (by omega)).trans (by omega)))) ?_
 intro a hA
 refine seq_do (v := .int .i32 ((((n - 55296) * 1024 : Nat) : Int))) hA rfl rfl rfl (does_bin rfl rfl (ar_shl (n := 10) rfl rfl (by rw [show ((2 : Int) ^ 10) = 1024 from rfl, in_i32 (by omega) (by omega)]; omega))) ?_
 intro a hA
 refine seq_do (v := .int .i32 (((65536 + ((n - 55296) * 1024) : Nat) : Int))) hA rfl rfl rfl (does_bin rfl rfl (ar_add ((in_i32 (by omega) (by omega)).trans (by omega)))) ?_
 intro a hA
 refine seq_do hA rfl rfl rfl (does_move rfl) ?_
 intro a hA
 refine seq_do (v := .int .i32 (((m - 56320 : Nat) : Int))) hA rfl rfl rfl (does_bin rfl rfl (ar_sub ((in_i32 (by omega) (by omega)).trans (by omega)))) ?_
 intro a hA
 refine seq_do (v := .int .i32 (((65536 + ((n - 55296) * 1024) + (m - 56320) : Nat) : Int))) hA rfl rfl rfl (does_bin rfl rfl (ar_add ((in_i32 (by omega) (by omega)).trans (by omega)))) ?_
 intro a hA
 refine seq_do hA rfl rfl rfl (does_assign rfl) ?_
 intro a hA
 refine seq_end ?_
 refine hK2 _ _ ?_
 refine wp_ret ?_
 refine hret _ _ ?_
 refine ends (v := .int .i32 (((65536 + ((n - 55296) * 1024) + (m - 56320) : Nat) : Int))) hA rfl (.cons (res_tmp rfl) .nil) rfl ?_
 exact ⟨rfl, hM.bel⟩
theorem first16_any {w : World} {s : ByteArray} {f : FuncId} {g : Nat → Nat → Nat} (hN : NumF Try.prog f g) : Calls Try.prog 84 #[.string s, .func (.func f) #[] #[]] w fun e w' => e = .returned (.tuple #[.int .i32 (first16 g s.data.toList).1, .int .i64 (((first16 g s.data.toList).2 : Nat) : Int)]) ∧ Below w.heap.size w w' := by
 have k1 := hN.lt _ _ (byte_lt s.data.toList 0) (byte_lt s.data.toList 1)
 have k2 := hN.lt _ _ (byte_lt s.data.toList 2) (byte_lt s.data.toList 3)
 have hM : Mg w w ([]) := Mg.start w
 refine walk_of (l := [(0, .string s), (1, .func (.func f) #[] #[])]) Try.func84 rfl Try.ntmps84 rfl rfl ?_
 intro Q hret hnorm hP a hA
 refine wp_seq_k (fun K1 hK1 => ?_)
 refine wp_region_lit ?_
 refine seq_do hA rfl rfl rfl (does_assign rfl) ?_
 intro a hA
 refine seq_do hA rfl rfl rfl (does_assign rfl) ?_
 intro a hA
 refine seq_end ?_
 refine hK1 _ _ ?_
 refine wp_seq_k (fun K2 hK2 => ?_)
 refine wp_seq_k (fun K3 hK3 => ?_)
 refine wp_region_lit ?_
 refine seq_do hA rfl rfl rfl (does_move rfl) ?_
 intro a hA
 refine seq_do (v := .int .i64 (((s.size : Nat) : Int))) hA rfl rfl rfl (does_builtin rfl (len_str Try.underlying9)) ?_
 intro a hA
 rcases Bool.eq_false_or_eq_true (decide (((s.size : Nat) : Int) < 2)) with hb4 | hb4
 · have hb4' := of_decide_eq_true hb4
   refine seq_do (v := .bool true) hA rfl rfl rfl (does_bin rfl rfl (fun w => (bin_lss w).trans (by rw [hb4]))) ?_
   intro a hA
   refine seq_end ?_
   refine hK3 _ _ ?_
   refine wp_cond_true (hA.ev rfl) ?_
   refine wp_seq_k (fun K5 hK5 => ?_)
   refine wp_region_lit ?_
   refine seq_do hA rfl rfl rfl (does_assign rfl) ?_
   intro a hA
   refine seq_do hA rfl rfl rfl (does_assign rfl) ?_
   intro a hA
   refine seq_end ?_
   refine hK5 _ _ ?_
   refine wp_ret ?_
   refine hret _ _ ?_
   refine ends (v := .tuple #[.int .i32 (-1), .int .i64 1]) hA rfl (.cons (res_tmp rfl) (.cons (res_tmp rfl) .nil)) rfl ?_
   exact ⟨by rw [show first16 g s.data.toList = (-1, 1) from by unfold first16; rw [if_pos (by rw [size_toList]; omega)]]; rfl, hM.bel⟩
 · have hb4' := of_decide_eq_false hb4
   refine seq_do (v := .bool false) hA rfl rfl rfl (does_bin rfl rfl (fun w => (bin_lss w).trans (by rw [hb4]))) ?_
   intro a hA
   refine seq_end ?_
   refine hK3 _ _ ?_
   refine wp_cond_false (hA.ev rfl) ?_
   refine wp_skip ?_
   refine hK2 _ _ ?_
   refine wp_seq_k (fun K6 hK6 => ?_)
   refine wp_region_lit ?_
   refine seq_do hA rfl rfl rfl (does_move rfl) ?_
   intro a hA
   refine seq_do hA rfl rfl rfl (does_move rfl) ?_
   intro a hA
   refine seq_call hA rfl rfl rfl (enters_func rfl rfl (fun w => hN.inv _ w)) (hN.run s _ (by omega)) ?_
   rintro _ w8 ⟨rfl, hb7⟩
   replace hM := hM.call hb7
   refine ⟨_, rfl, ?_⟩
   intro a hA
   refine seq_do hA rfl rfl rfl (does_assign rfl) ?_
   intro a hA
   refine seq_end ?_
   refine hK6 _ _ ?_
   refine wp_seq_k (fun K9 hK9 => ?_)
   refine wp_seq_k (fun K10 hK10 => ?_)
   refine wp_region_lit ?_
   refine seq_do hA rfl rfl rfl (does_move rfl) ?_
   intro a hA
   rcases Bool.eq_false_or_eq_true (decide (55296 ≤ (((g (s.data.toList.getD 0 0).toNat (s.data.toList.getD 1 0).toNat) : Nat) : Int) ∧ (((g (s.data.toList.getD 0 0).toNat (s.data.toList.getD 1 0).toNat) : Nat) : Int) < 56320)) with hb11 | hb11
   · have hb11' := of_decide_eq_true hb11
     refine seq_call hA rfl rfl rfl (enters_func rfl rfl (fun w => by kernel_rfl)) (isHigh_any hb11) ?_
     rintro _ w13 ⟨rfl, hb12⟩
     replace hM := hM.call hb12
     refine ⟨_, rfl, ?_⟩
     intro a hA
     refine seq_do (v := .bool false) hA rfl rfl rfl (does_un rfl un_not) ?_
     intro a hA
     refine seq_do hA rfl rfl rfl (does_move rfl) ?_
     intro a hA
     refine seq_skip hA rfl rfl rfl ?_
     intro a hA
     refine seq_skip hA rfl rfl rfl ?_
     intro a hA
     refine seq_skip hA rfl rfl rfl ?_
     intro a hA
     refine seq_do (v := .bool false) hA rfl rfl rfl (does_pick rfl rfl rfl rfl) ?_
     intro a hA
     refine seq_end ?_
     refine hK10 _ _ ?_
     refine wp_cond_false (hA.ev rfl) ?_
     refine wp_skip ?_
     refine hK9 _ _ ?_
     refine wp_seq_k (fun K14 hK14 => ?_)
     refine wp_seq_k (fun K15 hK15 => ?_)
     refine wp_region_lit ?_
     refine seq_do hA rfl rfl rfl (does_move rfl) ?_
     intro a hA
     refine seq_call hA rfl rfl rfl (enters_func rfl rfl (fun w => by kernel_rfl)) (isHigh_any hb11) ?_
     rintro _ w17 ⟨rfl, hb16⟩
     replace hM := hM.call hb16
     refine ⟨_, rfl, ?_⟩
     intro a hA
     refine seq_do hA rfl rfl rfl (does_move rfl) ?_
     intro a hA
     refine seq_do hA rfl rfl rfl (does_move rfl) ?_
     intro a hA
     refine seq_do (v := .int .i64 (((s.size : Nat) : Int))) hA rfl rfl rfl (does_builtin rfl (len_str Try.underlying9)) ?_
     intro a hA
     rcases Bool.eq_false_or_eq_true (decide (4 ≤ ((s.size : Nat) : Int))) with hb18 | hb18
     · have hb18' := of_decide_eq_true hb18
       refine seq_do (v := .bool true) hA rfl rfl rfl (does_bin rfl rfl (fun w => (bin_geq w).trans (by rw [hb18]))) ?_
       intro a hA
       refine seq_do (v := .bool true) hA rfl rfl rfl (does_pick rfl rfl rfl rfl) ?_
       intro a hA
       refine seq_do hA rfl rfl rfl (does_move rfl) ?_
       intro a hA
       refine seq_do hA rfl rfl rfl (does_move rfl) ?_
       intro a hA
       refine seq_do hA rfl rfl rfl (does_move rfl) ?_
       intro a hA
       refine seq_do (v := .string (s.extract 2 s.size)) hA rfl rfl rfl (does_sliceFrom (p := 2) Try.underlying9 rfl rfl (by omega)) ?_
       intro a hA
       refine seq_call hA rfl rfl rfl (enters_func rfl rfl (fun w => hN.inv _ w)) ((show Calls Try.prog f #[.string (s.extract 2 s.size)] _ (fun e w' => e = .returned (.int .i32 (((g (s.data.toList.getD 2 0).toNat (s.data.toList.getD 3 0).toNat) : Nat) : Int)) ∧ _) from (by have h8 := hN.run (s.extract 2 s.size) w17 (by rw [← size_toList, extract_toList, List.length_drop, size_toList]; omega); rw [extract_toList, getD_drop2, getD_drop2] at h8; exact h8))) ?_
       rintro _ w20 ⟨rfl, hb19⟩
       replace hM := hM.call hb19
       refine ⟨_, rfl, ?_⟩
       intro a hA
       rcases Bool.eq_false_or_eq_true (decide (56320 ≤ (((g (s.data.toList.getD 2 0).toNat (s.data.toList.getD 3 0).toNat) : Nat) : Int) ∧ (((g (s.data.toList.getD 2 0).toNat (s.data.toList.getD 3 0).toNat) : Nat) : Int) < 57344)) with hb21 | hb21
       · have hb21' := of_decide_eq_true hb21
         refine seq_call hA rfl rfl rfl (enters_func rfl rfl (fun w => by kernel_rfl)) (isLow_any hb21) ?_
         rintro _ w23 ⟨rfl, hb22⟩
         replace hM := hM.call hb22
         refine ⟨_, rfl, ?_⟩
         intro a hA
         refine seq_do (v := .bool true) hA rfl rfl rfl (does_pick rfl rfl rfl rfl) ?_
         intro a hA
         refine seq_end ?_
         refine hK15 _ _ ?_
         refine wp_cond_true (hA.ev rfl) ?_
         refine wp_seq_k (fun K24 hK24 => ?_)
         refine wp_region_lit ?_
         refine seq_do hA rfl rfl rfl (does_move rfl) ?_
         intro a hA
         refine seq_do hA rfl rfl rfl (does_move rfl) ?_
         intro a hA
         refine seq_do hA rfl rfl rfl (does_move rfl) ?_
         intro a hA
         refine seq_do (v := .string (s.extract 2 s.size)) hA rfl rfl rfl (does_sliceFrom (p := 2) Try.underlying9 rfl rfl (by omega)) ?_
         intro a hA
         refine seq_call hA rfl rfl rfl (enters_func rfl rfl (fun w => hN.inv _ w)) ((show Calls Try.prog f #[.string (s.extract 2 s.size)] _ (fun e w' => e = .returned (.int .i32 (((g (s.data.toList.getD 2 0).toNat (s.data.toList.getD 3 0).toNat) : Nat) : Int)) ∧ _) from (by have h8 := hN.run (s.extract 2 s.size) w23 (by rw [← size_toList, extract_toList, List.length_drop, size_toList]; omega); rw [extract_toList, getD_drop2, getD_drop2] at h8; exact h8))) ?_
         rintro _ w26 ⟨rfl, hb25⟩
         replace hM := hM.call hb25
         refine ⟨_, rfl, ?_⟩
         intro a hA
         refine seq_call hA rfl rfl rfl (enters_func rfl rfl (fun w => by kernel_rfl)) (paired_any (by omega) (by omega) (by omega) (by omega)) ?_
         rintro _ w28 ⟨rfl, hb27⟩
         replace hM := hM.call hb27
         refine ⟨_, rfl, ?_⟩
         intro a hA
         refine seq_do hA rfl rfl rfl (does_assign rfl) ?_
         intro a hA
         refine seq_do hA rfl rfl rfl (does_assign rfl) ?_
         intro a hA
         refine seq_end ?_
         refine hK24 _ _ ?_
         refine wp_ret ?_
         refine hret _ _ ?_
         refine ends (v := .tuple #[.int .i32 (((65536 + ((g (s.data.toList.getD 0 0).toNat (s.data.toList.getD 1 0).toNat) - 55296) * 1024 + ((g (s.data.toList.getD 2 0).toNat (s.data.toList.getD 3 0).toNat) - 56320) : Nat) : Int)), .int .i64 4]) hA rfl (.cons (res_tmp rfl) (.cons (res_tmp rfl) .nil)) rfl ?_
         exact ⟨by rw [show first16 g s.data.toList = (((65536 + ((g (s.data.toList.getD 0 0).toNat (s.data.toList.getD 1 0).toNat) - 55296) * 1024 + ((g (s.data.toList.getD 2 0).toNat (s.data.toList.getD 3 0).toNat) - 56320) : Nat) : Int), 4) from by unfold first16; rw [if_neg (by rw [size_toList]; omega), if_neg (by omega), if_pos (by rw [size_toList]; omega)]]; rfl, hM.bel⟩
       · have hb21' := of_decide_eq_false hb21
         refine seq_call hA rfl rfl rfl (enters_func rfl rfl (fun w => by kernel_rfl)) (isLow_any hb21) ?_
         rintro _ w30 ⟨rfl, hb29⟩
         replace hM := hM.call hb29
         refine ⟨_, rfl, ?_⟩
         intro a hA
         refine seq_do (v := .bool false) hA rfl rfl rfl (does_pick rfl rfl rfl rfl) ?_
         intro a hA
         refine seq_end ?_
         refine hK15 _ _ ?_
         refine wp_cond_false (hA.ev rfl) ?_
         refine wp_skip ?_
         refine hK14 _ _ ?_
         refine wp_seq_k (fun K31 hK31 => ?_)
         refine wp_region_lit ?_
         refine seq_do hA rfl rfl rfl (does_assign rfl) ?_
         intro a hA
         refine seq_do hA rfl rfl rfl (does_assign rfl) ?_
         intro a hA
         refine seq_end ?_
         refine hK31 _ _ ?_
         refine wp_ret ?_
         refine hret _ _ ?_
         refine ends (v := .tuple #[.int .i32 (-1), .int .i64 2]) hA rfl (.cons (res_tmp rfl) (.cons (res_tmp rfl) .nil)) rfl ?_
         exact ⟨by rw [show first16 g s.data.toList = (-1, 2) from by unfold first16; rw [if_neg (by rw [size_toList]; omega), if_neg (by omega), if_neg (by rw [size_toList]; omega)]]; rfl, hM.bel⟩
     · have hb18' := of_decide_eq_false hb18
       refine seq_do (v := .bool false) hA rfl rfl rfl (does_bin rfl rfl (fun w => (bin_geq w).trans (by rw [hb18]))) ?_
       intro a hA
       refine seq_do (v := .bool false) hA rfl rfl rfl (does_pick rfl rfl rfl rfl) ?_
       intro a hA
       refine seq_do hA rfl rfl rfl (does_move rfl) ?_
       intro a hA
       refine seq_skip hA rfl rfl rfl ?_
       intro a hA
       refine seq_skip hA rfl rfl rfl ?_
       intro a hA
       refine seq_skip hA rfl rfl rfl ?_
       intro a hA
       refine seq_skip hA rfl rfl rfl ?_
       intro a hA
       refine seq_skip hA rfl rfl rfl ?_
       intro a hA
       refine seq_do (v := .bool false) hA rfl rfl rfl (does_pick rfl rfl rfl rfl) ?_
       intro a hA
       refine seq_end ?_
       refine hK15 _ _ ?_
       refine wp_cond_false (hA.ev rfl) ?_
       refine wp_skip ?_
       refine hK14 _ _ ?_
       refine wp_seq_k (fun K32 hK32 => ?_)
       refine wp_region_lit ?_
       refine seq_do hA rfl rfl rfl (does_assign rfl) ?_
       intro a hA
       refine seq_do hA rfl rfl rfl (does_assign rfl) ?_
       intro a hA
       refine seq_end ?_
       refine hK32 _ _ ?_
       refine wp_ret ?_
       refine hret _ _ ?_
       refine ends (v := .tuple #[.int .i32 (-1), .int .i64 2]) hA rfl (.cons (res_tmp rfl) (.cons (res_tmp rfl) .nil)) rfl ?_
       exact ⟨by rw [show first16 g s.data.toList = (-1, 2) from by unfold first16; rw [if_neg (by rw [size_toList]; omega), if_neg (by omega), if_neg (by rw [size_toList]; omega)]]; rfl, hM.bel⟩
   · have hb11' := of_decide_eq_false hb11
     refine seq_call hA rfl rfl rfl (enters_func rfl rfl (fun w => by kernel_rfl)) (isHigh_any hb11) ?_
     rintro _ w34 ⟨rfl, hb33⟩
     replace hM := hM.call hb33
     refine ⟨_, rfl, ?_⟩
     intro a hA
     refine seq_do (v := .bool true) hA rfl rfl rfl (does_un rfl un_not) ?_
     intro a hA
     refine seq_do hA rfl rfl rfl (does_move rfl) ?_
     intro a hA
     refine seq_do hA rfl rfl rfl (does_move rfl) ?_
     intro a hA
     rcases Bool.eq_false_or_eq_true (decide (56320 ≤ (((g (s.data.toList.getD 0 0).toNat (s.data.toList.getD 1 0).toNat) : Nat) : Int) ∧ (((g (s.data.toList.getD 0 0).toNat (s.data.toList.getD 1 0).toNat) : Nat) : Int) < 57344)) with hb35 | hb35
     · have hb35' := of_decide_eq_true hb35
       refine seq_call hA rfl rfl rfl (enters_func rfl rfl (fun w => by kernel_rfl)) (isLow_any hb35) ?_
       rintro _ w37 ⟨rfl, hb36⟩
       replace hM := hM.call hb36
       refine ⟨_, rfl, ?_⟩
       intro a hA
       refine seq_do (v := .bool false) hA rfl rfl rfl (does_un rfl un_not) ?_
       intro a hA
       refine seq_do (v := .bool false) hA rfl rfl rfl (does_pick rfl rfl rfl rfl) ?_
       intro a hA
       refine seq_end ?_
       refine hK10 _ _ ?_
       refine wp_cond_false (hA.ev rfl) ?_
       refine wp_skip ?_
       refine hK9 _ _ ?_
       refine wp_seq_k (fun K38 hK38 => ?_)
       refine wp_seq_k (fun K39 hK39 => ?_)
       refine wp_region_lit ?_
       refine seq_do hA rfl rfl rfl (does_move rfl) ?_
       intro a hA
       refine seq_call hA rfl rfl rfl (enters_func rfl rfl (fun w => by kernel_rfl)) (isHigh_any hb11) ?_
       rintro _ w41 ⟨rfl, hb40⟩
       replace hM := hM.call hb40
       refine ⟨_, rfl, ?_⟩
       intro a hA
       refine seq_do hA rfl rfl rfl (does_move rfl) ?_
       intro a hA
       refine seq_skip hA rfl rfl rfl ?_
       intro a hA
       refine seq_skip hA rfl rfl rfl ?_
       intro a hA
       refine seq_skip hA rfl rfl rfl ?_
       intro a hA
       refine seq_do (v := .bool false) hA rfl rfl rfl (does_pick rfl rfl rfl rfl) ?_
       intro a hA
       refine seq_do hA rfl rfl rfl (does_move rfl) ?_
       intro a hA
       refine seq_skip hA rfl rfl rfl ?_
       intro a hA
       refine seq_skip hA rfl rfl rfl ?_
       intro a hA
       refine seq_skip hA rfl rfl rfl ?_
       intro a hA
       refine seq_skip hA rfl rfl rfl ?_
       intro a hA
       refine seq_skip hA rfl rfl rfl ?_
       intro a hA
       refine seq_do (v := .bool false) hA rfl rfl rfl (does_pick rfl rfl rfl rfl) ?_
       intro a hA
       refine seq_end ?_
       refine hK39 _ _ ?_
       refine wp_cond_false (hA.ev rfl) ?_
       refine wp_skip ?_
       refine hK38 _ _ ?_
       refine wp_seq_k (fun K42 hK42 => ?_)
       refine wp_region_lit ?_
       refine seq_do hA rfl rfl rfl (does_assign rfl) ?_
       intro a hA
       refine seq_do hA rfl rfl rfl (does_assign rfl) ?_
       intro a hA
       refine seq_end ?_
       refine hK42 _ _ ?_
       refine wp_ret ?_
       refine hret _ _ ?_
       refine ends (v := .tuple #[.int .i32 (-1), .int .i64 2]) hA rfl (.cons (res_tmp rfl) (.cons (res_tmp rfl) .nil)) rfl ?_
       exact ⟨by rw [show first16 g s.data.toList = (-1, 2) from by unfold first16; rw [if_neg (by rw [size_toList]; omega), if_neg (by omega), if_neg (by rw [size_toList]; omega)]]; rfl, hM.bel⟩
     · have hb35' := of_decide_eq_false hb35
       refine seq_call hA rfl rfl rfl (enters_func rfl rfl (fun w => by kernel_rfl)) (isLow_any hb35) ?_
       rintro _ w44 ⟨rfl, hb43⟩
       replace hM := hM.call hb43
       refine ⟨_, rfl, ?_⟩
       intro a hA
       refine seq_do (v := .bool true) hA rfl rfl rfl (does_un rfl un_not) ?_
       intro a hA
       refine seq_do (v := .bool true) hA rfl rfl rfl (does_pick rfl rfl rfl rfl) ?_
       intro a hA
       refine seq_end ?_
       refine hK10 _ _ ?_
       refine wp_cond_true (hA.ev rfl) ?_
       refine wp_seq_k (fun K45 hK45 => ?_)
       refine wp_region_lit ?_
       refine seq_do hA rfl rfl rfl (does_move rfl) ?_
       intro a hA
       refine seq_do hA rfl rfl rfl (does_assign rfl) ?_
       intro a hA
       refine seq_do hA rfl rfl rfl (does_assign rfl) ?_
       intro a hA
       refine seq_end ?_
       refine hK45 _ _ ?_
       refine wp_ret ?_
       refine hret _ _ ?_
       refine ends (v := .tuple #[.int .i32 ((((g (s.data.toList.getD 0 0).toNat (s.data.toList.getD 1 0).toNat) : Nat) : Int)), .int .i64 2]) hA rfl (.cons (res_tmp rfl) (.cons (res_tmp rfl) .nil)) rfl ?_
       exact ⟨by rw [show first16 g s.data.toList = ((((g (s.data.toList.getD 0 0).toNat (s.data.toList.getD 1 0).toNat) : Nat) : Int), 2) from by unfold first16; rw [if_neg (by rw [size_toList]; omega), if_pos (by omega)]]; rfl, hM.bel⟩
end Go.Proofs.Ytcjgjbaadmohbaa
