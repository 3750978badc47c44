/- Walks of what the document says of sets, and of the law. -/
import Derived.Test.YtbdhfooeanbnlaaEnD
namespace Go.Proofs.Ytbdhfooeanbnlaa
open Go.RowKit Go.Lib Go.Sort
set_option linter.unusedVariables false
set_option linter.unusedSimpArgs false
set_option maxRecDepth 100000
theorem EnE_is1_22 : Is1 Try.prog 22 := ⟨⟨_, Try.underlying22, rfl⟩, by kernel_rfl⟩
theorem EnE_is1_23 : Is1 Try.prog 23 := ⟨⟨_, Try.underlying23, rfl⟩, by kernel_rfl⟩
theorem EnE_is1_4 : Is1 Try.prog 4 := ⟨⟨_, Try.underlying4, rfl⟩, by kernel_rfl⟩
theorem EnE_is1_9 : Is1 Try.prog 9 := ⟨⟨_, Try.underlying9, rfl⟩, by kernel_rfl⟩
theorem EnE_fld_25_0 : FieldAt Try.prog 25 0 0 := ⟨_, _, Try.underlying25, rfl, rfl, by kernel_rfl⟩
theorem EnE_fld_25_1 : FieldAt Try.prog 25 1 1 := ⟨_, _, Try.underlying25, rfl, rfl, by kernel_rfl⟩
theorem EnE_isS_25 : IsS Try.prog 25 2 := ⟨⟨_, Try.underlying25⟩, by kernel_rfl⟩
theorem place_any {w : World} {so : Option Addr} {ca : Nat} {l : List ByteArray} (hR : Rs w so l) (hl : l.length ≤ 8796093021952) {s : ByteArray} : Calls Try.prog 15 #[.slice so l.length ca, .string s] w fun e w' => e = .returned (.int .i64 (idxOfS l s)) ∧ Below w.heap.size w w' := by
 have hM : Mg w w ([]) := Mg.start w
 refine walk_of (l := [(0, .slice so l.length ca), (1, .string s)]) Try.func15 rfl Try.ntmps15 rfl rfl ?_
 intro Q hret hnorm hP a hA
 refine wp_seq_k (fun K1 hK1 => ?_)
 refine wp_region_lit ?_
 refine seq_do hA rfl rfl rfl (does_assign rfl) ?_
 intro a hA
 refine seq_end ?_
 refine hK1 _ _ ?_
 refine wp_seq_k (fun K2 hK2 => ?_)
 refine wp_seq_k (fun K3 hK3 => ?_)
 refine wp_region_lit ?_
 refine seq_do hA rfl rfl rfl (does_assign rfl) ?_
 intro a hA
 refine seq_end ?_
 refine hK3 _ _ ?_
 refine wp_block ?_
 refine wp_loop_n (fun m_ a w1 => ∃ (i : Nat), m_ = 1 + (l.length - i) ∧ (i ≤ l.length ∧ ∀ (j : Nat) u, j < i → l[j]? = some u → u ≠ s) ∧ Sl a 19 [(0, .slice so l.length ca), (1, .string s), (5, .int .i64 (((i : Nat) : Int)))] ∧ Mg w w1 ([])) _ ⟨0, rfl, ⟨Nat.zero_le _, fun j u h => absurd h (Nat.not_lt_zero _)⟩, hA.keep _ ⟨rfl, rfl, rfl, trivial⟩, hM⟩ ?_
 clear hM hA
 rintro m_ a w4 ⟨i, rfl, hinv6, hA, hM⟩ K5 hK5
 obtain ⟨hi0, hin9⟩ := hinv6
 refine wp_seq_k (fun K7 hK7 => ?_)
 refine wp_seq_k (fun K8 hK8 => ?_)
 refine wp_region_lit ?_
 refine seq_do hA rfl rfl rfl (does_move rfl) ?_
 intro a hA
 refine seq_do hA rfl rfl rfl (does_move rfl) ?_
 intro a hA
 refine seq_do (v := .int .i64 (((l.length : Nat) : Int))) hA rfl rfl rfl (does_len Try.underlying22 rfl) ?_
 intro a hA
 rcases Bool.eq_false_or_eq_true (decide (((i : Nat) : Int) < ((l.length : Nat) : Int))) with hb9 | hb9
 · have hb9' := of_decide_eq_true hb9
   refine seq_do (v := .bool true) hA rfl rfl rfl (does_bin rfl rfl (fun w => (bin_lss w).trans (by rw [hb9]))) ?_
   intro a hA
   refine seq_end ?_
   refine hK8 _ _ ?_
   refine wp_cond_true (hA.ev rfl) ?_
   refine wp_skip ?_
   refine hK7 _ _ ?_
   refine wp_seq_k (fun K10 hK10 => ?_)
   refine wp_block ?_
   refine wp_seq_k (fun K11 hK11 => ?_)
   refine wp_region_lit ?_
   refine seq_do hA rfl rfl rfl (does_move rfl) ?_
   intro a hA
   refine seq_do hA rfl rfl rfl (does_move rfl) ?_
   intro a hA
   obtain ⟨bx12, ox13, sx14, hs15, hc16, hi17⟩ := hR.at_ (i := i) (by omega)
   refine seq_do (v := .pointer (some ⟨bx12, ox13 + i, none⟩)) hA rfl rfl rfl (does_indexRow (k := i) Try.underlying22 (by kernel_rfl) rfl rfl (by first | rfl | omega) hs15 (by omega)) ?_
   intro a hA
   refine seq_do hA rfl rfl rfl (m_loadX hM hc16 EnE_is1_9 rfl) ?_
   intro a hA
   refine seq_do hA rfl rfl rfl (does_move rfl) ?_
   intro a hA
   rcases Bool.eq_false_or_eq_true (decide (sx14 = s)) with hb18 | hb18
   · have hb18' := of_decide_eq_true hb18
     refine seq_do (v := .bool true) hA rfl rfl rfl (does_bin rfl rfl (fun w => (bin_eqlS Try.underlying9 w).trans (by rw [hb18]))) ?_
     intro a hA
     refine seq_end ?_
     refine hK11 _ _ ?_
     refine wp_cond_true (hA.ev rfl) ?_
     refine wp_seq_k (fun K19 hK19 => ?_)
     refine wp_region_lit ?_
     refine seq_do hA rfl rfl rfl (does_move rfl) ?_
     intro a hA
     refine seq_do hA rfl rfl rfl (does_assign rfl) ?_
     intro a hA
     refine seq_end ?_
     refine hK19 _ _ ?_
     refine wp_ret ?_
     refine hret _ _ ?_
     refine ends (v := .int .i64 (((i : Nat) : Int))) hA rfl (.cons (res_tmp rfl) .nil) rfl ?_
     exact ⟨by rw [idx_hit (s := s) (by rw [hi17, hb18']) hin9], hM.bel⟩
   · have hb18' := of_decide_eq_false hb18
     refine seq_do (v := .bool false) hA rfl rfl rfl (does_bin rfl rfl (fun w => (bin_eqlS Try.underlying9 w).trans (by rw [hb18]))) ?_
     intro a hA
     refine seq_end ?_
     refine hK11 _ _ ?_
     refine wp_cond_false (hA.ev rfl) ?_
     refine wp_skip ?_
     refine hK10 _ _ ?_
     refine wp_region_lit ?_
     refine seq_do hA rfl rfl rfl (does_move rfl) ?_
     intro a hA
     refine seq_do (v := .int .i64 (((i + 1 : Nat) : Int))) hA rfl rfl rfl (does_bin rfl rfl (ar_add ((in_i64 (by omega) (by omega)).trans (by omega)))) ?_
     intro a hA
     refine seq_do hA rfl rfl rfl (does_assign rfl) ?_
     intro a hA
     refine seq_end ?_
     refine hK5 _ _ _ (by omega) ⟨i + 1, rfl, ⟨by omega, fun j u hj hu => if h9 : j < i then hin9 j u h9 hu else by have h8 : j = i := (by omega); subst h8; rw [hi17] at hu; rw [← Option.some.inj hu]; exact hb18'⟩, hA.keep _ ⟨rfl, rfl, rfl, trivial⟩, hM⟩
 · have hb9' := of_decide_eq_false hb9
   refine seq_do (v := .bool false) hA rfl rfl rfl (does_bin rfl rfl (fun w => (bin_lss w).trans (by rw [hb9]))) ?_
   intro a hA
   refine seq_end ?_
   refine hK8 _ _ ?_
   refine wp_cond_false (hA.ev rfl) ?_
   refine wp_exit ?_
   refine hK2 _ _ ?_
   refine wp_seq_k (fun K20 hK20 => ?_)
   refine wp_region_lit ?_
   refine seq_do hA rfl rfl rfl (does_assign rfl) ?_
   intro a hA
   refine seq_end ?_
   refine hK20 _ _ ?_
   refine wp_ret ?_
   refine hret _ _ ?_
   refine ends (v := .int .i64 (-1)) hA rfl (.cons (res_tmp rfl) .nil) rfl ?_
   exact ⟨by rw [idx_miss (fun j u hj => hin9 j u (by omega))], hM.bel⟩
theorem rtwice_any {w : World} {so : Option Addr} {ca : Nat} {l : List ByteArray} (hR : Rs w so l) (hl : l.length ≤ 8796093021952) : Calls Try.prog 13 #[.slice so l.length ca] w fun e w' => e = .returned (.bool (twS l)) ∧ Below w.heap.size w w' := by
 have hM : Mg w w ([]) := Mg.start w
 refine walk_of (l := [(0, .slice so l.length ca)]) Try.func13 rfl Try.ntmps13 rfl rfl ?_
 intro Q hret hnorm hP a hA
 refine wp_seq_k (fun K1 hK1 => ?_)
 refine wp_region_lit ?_
 refine seq_do hA rfl rfl rfl (does_assign rfl) ?_
 intro a hA
 refine seq_end ?_
 refine hK1 _ _ ?_
 refine wp_seq_k (fun K2 hK2 => ?_)
 refine wp_seq_k (fun K3 hK3 => ?_)
 refine wp_region_lit ?_
 refine seq_do hA rfl rfl rfl (does_assign rfl) ?_
 intro a hA
 refine seq_end ?_
 refine hK3 _ _ ?_
 refine wp_block ?_
 refine wp_loop_n (fun m_ a w1 => ∃ (i : Nat), m_ = 1 + (l.length - i) ∧ (i ≤ l.length ∧ ∀ (j : Nat) u, j < i → l[j]? = some u → ((j : Nat) : Int) ≤ idxOfS l u) ∧ Sl a 18 [(0, .slice so l.length ca), (3, .int .i64 (((i : Nat) : Int)))] ∧ Mg w w1 ([])) _ ⟨0, rfl, ⟨Nat.zero_le _, fun j u h => absurd h (Nat.not_lt_zero _)⟩, hA.keep _ ⟨rfl, rfl, trivial⟩, hM⟩ ?_
 clear hM hA
 rintro m_ a w4 ⟨i, rfl, hinv6, hA, hM⟩ K5 hK5
 obtain ⟨hi0, hin9⟩ := hinv6
 refine wp_seq_k (fun K7 hK7 => ?_)
 refine wp_seq_k (fun K8 hK8 => ?_)
 refine wp_region_lit ?_
 refine seq_do hA rfl rfl rfl (does_move rfl) ?_
 intro a hA
 refine seq_do hA rfl rfl rfl (does_move rfl) ?_
 intro a hA
 refine seq_do (v := .int .i64 (((l.length : Nat) : Int))) hA rfl rfl rfl (does_len Try.underlying22 rfl) ?_
 intro a hA
 rcases Bool.eq_false_or_eq_true (decide (((i : Nat) : Int) < ((l.length : Nat) : Int))) with hb9 | hb9
 · have hb9' := of_decide_eq_true hb9
   refine seq_do (v := .bool true) hA rfl rfl rfl (does_bin rfl rfl (fun w => (bin_lss w).trans (by rw [hb9]))) ?_
   intro a hA
   refine seq_end ?_
   refine hK8 _ _ ?_
   refine wp_cond_true (hA.ev rfl) ?_
   refine wp_skip ?_
   refine hK7 _ _ ?_
   refine wp_seq_k (fun K10 hK10 => ?_)
   refine wp_block ?_
   refine wp_seq_k (fun K11 hK11 => ?_)
   refine wp_region_lit ?_
   refine seq_do hA rfl rfl rfl (does_move rfl) ?_
   intro a hA
   refine seq_do hA rfl rfl rfl (does_move rfl) ?_
   intro a hA
   refine seq_do hA rfl rfl rfl (does_move rfl) ?_
   intro a hA
   obtain ⟨bx12, ox13, sx14, hs15, hc16, hi17⟩ := hR.at_ (i := i) (by omega)
   refine seq_do (v := .pointer (some ⟨bx12, ox13 + i, none⟩)) hA rfl rfl rfl (does_indexRow (k := i) Try.underlying22 (by kernel_rfl) rfl rfl (by first | rfl | omega) hs15 (by omega)) ?_
   intro a hA
   refine seq_do hA rfl rfl rfl (m_loadX hM hc16 EnE_is1_9 rfl) ?_
   intro a hA
   refine seq_call hA rfl rfl rfl (enters_func rfl rfl (fun w => by kernel_rfl)) (place_any (hR.below hM.bel) hl) ?_
   rintro _ w19 ⟨rfl, hb18⟩
   replace hM := hM.call hb18
   refine ⟨_, rfl, ?_⟩
   intro a hA
   refine seq_do hA rfl rfl rfl (does_move rfl) ?_
   intro a hA
   rcases Bool.eq_false_or_eq_true (decide (idxOfS l sx14 < ((i : Nat) : Int))) with hb20 | hb20
   · have hb20' := of_decide_eq_true hb20
     refine seq_do (v := .bool true) hA rfl rfl rfl (does_bin rfl rfl (fun w => (bin_lss w).trans (by rw [hb20]))) ?_
     intro a hA
     refine seq_end ?_
     refine hK11 _ _ ?_
     refine wp_cond_true (hA.ev rfl) ?_
     refine wp_seq_k (fun K21 hK21 => ?_)
     refine wp_region_lit ?_
     refine seq_do hA rfl rfl rfl (does_assign rfl) ?_
     intro a hA
     refine seq_end ?_
     refine hK21 _ _ ?_
     refine wp_ret ?_
     refine hret _ _ ?_
     refine ends (v := .bool true) hA rfl (.cons (res_tmp rfl) .nil) rfl ?_
     refine ⟨?_, hM.bel⟩
     rw [tw_hit hi17 hb20']
   · have hb20' := of_decide_eq_false hb20
     refine seq_do (v := .bool false) hA rfl rfl rfl (does_bin rfl rfl (fun w => (bin_lss w).trans (by rw [hb20]))) ?_
     intro a hA
     refine seq_end ?_
     refine hK11 _ _ ?_
     refine wp_cond_false (hA.ev rfl) ?_
     refine wp_skip ?_
     refine hK10 _ _ ?_
     refine wp_region_lit ?_
     refine seq_do hA rfl rfl rfl (does_move rfl) ?_
     intro a hA
     refine seq_do (v := .int .i64 (((i + 1 : Nat) : Int))) hA rfl rfl rfl (does_bin rfl rfl (ar_add ((in_i64 (by omega) (by omega)).trans (by omega)))) ?_
     intro a hA
     refine seq_do hA rfl rfl rfl (does_assign rfl) ?_
     intro a hA
     refine seq_end ?_
     refine hK5 _ _ _ (by omega) ⟨i + 1, rfl, ⟨by omega, fun j u hj hu => if h9 : j < i then hin9 j u h9 hu else by have h8 : j = i := (by omega); subst h8; rw [hi17] at hu; rw [← Option.some.inj hu]; omega⟩, hA.keep _ ⟨rfl, rfl, trivial⟩, hM⟩
 · have hb9' := of_decide_eq_false hb9
   refine seq_do (v := .bool false) hA rfl rfl rfl (does_bin rfl rfl (fun w => (bin_lss w).trans (by rw [hb9]))) ?_
   intro a hA
   refine seq_end ?_
   refine hK8 _ _ ?_
   refine wp_cond_false (hA.ev rfl) ?_
   refine wp_exit ?_
   refine hK2 _ _ ?_
   refine wp_seq_k (fun K22 hK22 => ?_)
   refine wp_region_lit ?_
   refine seq_do hA rfl rfl rfl (does_assign rfl) ?_
   intro a hA
   refine seq_end ?_
   refine hK22 _ _ ?_
   refine wp_ret ?_
   refine hret _ _ ?_
   refine ends (v := .bool false) hA rfl (.cons (res_tmp rfl) .nil) rfl ?_
   refine ⟨?_, hM.bel⟩
   rw [tw_miss (fun j u hj => hin9 j u (by have := (List.getElem?_eq_some_iff.1 hj).1; omega) hj)]
theorem sameT_any {w : World} {so : Option Addr} {ca : Nat} {l : List ByteArray} (hR : Rs w so l) (hl : l.length ≤ 8796093021952) {so2 : Option Addr} {ca2 : Nat} {l2 : List ByteArray} (hR2 : Rs w so2 l2) (hl2 : l2.length ≤ 8796093021952) : Calls Try.prog 16 #[.slice so l.length ca, .slice so2 l2.length ca2] w fun e w' => e = .returned (.bool (decide (l = l2))) ∧ Below w.heap.size w w' := by
 have hM : Mg w w ([]) := Mg.start w
 refine walk_of (l := [(0, .slice so l.length ca), (1, .slice so2 l2.length ca2)]) Try.func16 rfl Try.ntmps16 rfl rfl ?_
 intro Q hret hnorm hP a hA
 refine wp_seq_k (fun K1 hK1 => ?_)
 refine wp_region_lit ?_
 refine seq_do hA rfl rfl rfl (does_assign rfl) ?_
 intro a hA
 refine seq_end ?_
 refine hK1 _ _ ?_
 refine wp_seq_k (fun K2 hK2 => ?_)
 refine wp_seq_k (fun K3 hK3 => ?_)
 refine wp_region_lit ?_
 refine seq_do hA rfl rfl rfl (does_move rfl) ?_
 intro a hA
 refine seq_do (v := .int .i64 (((l.length : Nat) : Int))) hA rfl rfl rfl (does_len Try.underlying22 rfl) ?_
 intro a hA
 refine seq_do hA rfl rfl rfl (does_move rfl) ?_
 intro a hA
 refine seq_do (v := .int .i64 (((l2.length : Nat) : Int))) hA rfl rfl rfl (does_len Try.underlying22 rfl) ?_
 intro a hA
 rcases Bool.eq_false_or_eq_true ((((l.length : Nat) : Int) != ((l2.length : Nat) : Int))) with hb4 | hb4
 · have hb4' := bne_iff_ne.1 hb4
   refine seq_do (v := .bool true) hA rfl rfl rfl (does_bin rfl rfl (fun w => (bin_neq w).trans (by rw [hb4]))) ?_
   intro a hA
   refine seq_end ?_
   refine hK3 _ _ ?_
   refine wp_cond_true (hA.ev rfl) ?_
   refine wp_seq_k (fun K5 hK5 => ?_)
   refine wp_region_lit ?_
   refine seq_do hA rfl rfl rfl (does_assign rfl) ?_
   intro a hA
   refine seq_end ?_
   refine hK5 _ _ ?_
   refine wp_ret ?_
   refine hret _ _ ?_
   refine ends (v := .bool false) hA rfl (.cons (res_tmp rfl) .nil) rfl ?_
   refine ⟨?_, hM.bel⟩
   rw [decide_eq_false (fun e9 => by rw [e9] at hb4'; exact hb4' rfl)]
 · have hb4' := bne_eq_false_iff_eq.1 hb4
   refine seq_do (v := .bool false) hA rfl rfl rfl (does_bin rfl rfl (fun w => (bin_neq w).trans (by rw [hb4]))) ?_
   intro a hA
   refine seq_end ?_
   refine hK3 _ _ ?_
   refine wp_cond_false (hA.ev rfl) ?_
   refine wp_skip ?_
   refine hK2 _ _ ?_
   refine wp_seq_k (fun K6 hK6 => ?_)
   refine wp_seq_k (fun K7 hK7 => ?_)
   refine wp_region_lit ?_
   refine seq_do hA rfl rfl rfl (does_assign rfl) ?_
   intro a hA
   refine seq_end ?_
   refine hK7 _ _ ?_
   refine wp_block ?_
   refine wp_loop_n (fun m_ a w1 => ∃ (i : Nat), m_ = 1 + (l.length - i) ∧ (i ≤ l.length ∧ ∀ j : Nat, j < i → l[j]? = l2[j]?) ∧ Sl a 26 [(0, .slice so l.length ca), (1, .slice so2 l2.length ca2), (5, .int .i64 (((i : Nat) : Int))), (6, .slice so l.length ca), (7, .int .i64 (((l.length : Nat) : Int))), (8, .slice so2 l2.length ca2), (9, .int .i64 (((l2.length : Nat) : Int))), (10, .bool false)] ∧ Mg w w1 ([])) _ ⟨0, rfl, ⟨Nat.zero_le _, fun j h => absurd h (Nat.not_lt_zero _)⟩, hA.keep _ ⟨rfl, rfl, rfl, rfl, rfl, rfl, rfl, rfl, trivial⟩, hM⟩ ?_
   clear hM hA
   rintro m_ a w8 ⟨i, rfl, hinv10, hA, hM⟩ K9 hK9
   obtain ⟨hi0, hin9⟩ := hinv10
   refine wp_seq_k (fun K11 hK11 => ?_)
   refine wp_seq_k (fun K12 hK12 => ?_)
   refine wp_region_lit ?_
   refine seq_do hA rfl rfl rfl (does_move rfl) ?_
   intro a hA
   refine seq_do hA rfl rfl rfl (does_move rfl) ?_
   intro a hA
   refine seq_do (v := .int .i64 (((l.length : Nat) : Int))) hA rfl rfl rfl (does_len Try.underlying22 rfl) ?_
   intro a hA
   refine seq_do (v := .bool (decide (((i : Nat) : Int) < ((l.length : Nat) : Int)))) hA rfl rfl rfl (does_bin rfl rfl bin_lss) ?_
   intro a hA
   refine seq_end ?_
   refine hK12 _ _ ?_
   refine wp_cond_split (t := decide (((i : Nat) : Int) < ((l.length : Nat) : Int))) (hA.ev rfl) (fun hc13 => ?_) (fun hc13 => ?_)
   · have hc13' := of_decide_eq_true hc13
     refine wp_skip ?_
     refine hK11 _ _ ?_
     refine wp_seq_k (fun K14 hK14 => ?_)
     refine wp_block ?_
     refine wp_seq_k (fun K15 hK15 => ?_)
     refine wp_draw (S := fun w1 => Mg w w1 ([])) (by kernel_rfl) ?_
     replace hM := hM.drew
     refine any_tk hA 0 rfl rfl rfl rfl hP (hM.sub (List.nil_sublist _)) (fun w1 hM => does_move rfl) ?_
     intro a hA
     refine any_tk hA 1 rfl rfl rfl rfl hP (hM.sub (List.nil_sublist _)) (fun w1 hM => does_move rfl) ?_
     intro a hA
     obtain ⟨bx16, ox17, sx18, hs19, hc20, hi21⟩ := hR.at_ (i := i) (by omega)
     refine any_tk (v := .pointer (some ⟨bx16, ox17 + i, none⟩)) hA 2 rfl rfl rfl rfl hP (hM.sub (List.nil_sublist _)) (fun w1 hM => does_indexRow (k := i) Try.underlying22 (by kernel_rfl) rfl rfl (by first | rfl | omega) hs19 (by omega)) ?_
     intro a hA
     refine any_tk hA 3 rfl rfl rfl rfl hP (hM.sub (List.nil_sublist _)) (fun w1 hM => m_loadX hM hc20 EnE_is1_9 rfl) ?_
     intro a hA
     refine any_tk hA 4 rfl rfl rfl rfl hP (hM.sub (List.nil_sublist _)) (fun w1 hM => does_move rfl) ?_
     intro a hA
     refine any_tk hA 5 rfl rfl rfl rfl hP (hM.sub (List.nil_sublist _)) (fun w1 hM => does_move rfl) ?_
     intro a hA
     obtain ⟨bx22, ox23, sx24, hs25, hc26, hi27⟩ := hR2.at_ (i := i) (by omega)
     refine any_tk (v := .pointer (some ⟨bx22, ox23 + i, none⟩)) hA 6 rfl rfl rfl rfl hP (hM.sub (List.nil_sublist _)) (fun w1 hM => does_indexRow (k := i) Try.underlying22 (by kernel_rfl) rfl rfl (by first | rfl | omega) hs25 (by omega)) ?_
     intro a hA
     refine any_tk hA 7 rfl rfl rfl rfl hP (hM.sub (List.nil_sublist _)) (fun w1 hM => m_loadX hM hc26 EnE_is1_9 rfl) ?_
     intro a hA
     rcases Bool.eq_false_or_eq_true (decide (sx18 = sx24)) with hb28 | hb28
     · have hb28' := of_decide_eq_true hb28
       refine any_tk (v := .bool false) hA 8 rfl rfl rfl rfl hP (hM.sub (List.nil_sublist _)) (fun w1 hM => does_bin rfl rfl (fun w => (bin_neqS Try.underlying9 w).trans (by rw [hb28]; rfl))) ?_
       intro a hA
       refine any_end (by kernel_rfl) ?_
       refine hK15 _ _ ?_
       refine wp_cond_false (hA.ev rfl) ?_
       refine wp_skip ?_
       refine hK14 _ _ ?_
       refine wp_region_lit ?_
       refine seq_do hA rfl rfl rfl (does_move rfl) ?_
       intro a hA
       refine seq_do (v := .int .i64 (((i + 1 : Nat) : Int))) hA rfl rfl rfl (does_bin rfl rfl (ar_add ((in_i64 (by omega) (by omega)).trans (by omega)))) ?_
       intro a hA
       refine seq_do hA rfl rfl rfl (does_assign rfl) ?_
       intro a hA
       refine seq_end ?_
       refine hK9 _ _ _ (by omega) ⟨i + 1, rfl, ⟨by omega, fun j hj => if h9 : j < i then hin9 j h9 else by have h8 : j = i := (by omega); subst h8; rw [hi21, hi27, hb28']⟩, hA.keep _ ⟨rfl, rfl, rfl, rfl, rfl, rfl, rfl, rfl, trivial⟩, hM⟩
     · have hb28' := of_decide_eq_false hb28
       refine any_tk (v := .bool true) hA 8 rfl rfl rfl rfl hP (hM.sub (List.nil_sublist _)) (fun w1 hM => does_bin rfl rfl (fun w => (bin_neqS Try.underlying9 w).trans (by rw [hb28]; rfl))) ?_
       intro a hA
       refine any_end (by kernel_rfl) ?_
       refine hK15 _ _ ?_
       refine wp_cond_true (hA.ev rfl) ?_
       refine wp_seq_k (fun K29 hK29 => ?_)
       refine wp_region_lit ?_
       refine seq_do hA rfl rfl rfl (does_assign rfl) ?_
       intro a hA
       refine seq_end ?_
       refine hK29 _ _ ?_
       refine wp_ret ?_
       refine hret _ _ ?_
       refine ends (v := .bool false) hA rfl (.cons (res_tmp rfl) .nil) rfl ?_
       refine ⟨?_, hM.bel⟩
       rw [decide_eq_false (fun e9 => hb28' (by rw [e9, hi27] at hi21; exact (Option.some.inj hi21).symm))]
   · have hc13' := of_decide_eq_false hc13
     refine wp_exit ?_
     refine hK6 _ _ ?_
     refine wp_seq_k (fun K30 hK30 => ?_)
     refine wp_region_lit ?_
     refine seq_do hA rfl rfl rfl (does_assign rfl) ?_
     intro a hA
     refine seq_end ?_
     refine hK30 _ _ ?_
     refine wp_ret ?_
     refine hret _ _ ?_
     refine ends (v := .bool true) hA rfl (.cons (res_tmp rfl) .nil) rfl ?_
     refine ⟨?_, hM.bel⟩
     rw [decide_eq_true (List.ext_getElem? fun j => if h9 : j < i then hin9 j h9 else by rw [List.getElem?_eq_none (by omega), List.getElem?_eq_none (by omega)])]
theorem sameT_as {w : World} {so : Option Addr} {ca : Nat} {l : List ByteArray} (hR : Rs w so l) (hl : l.length ≤ 8796093021952) {so2 : Option Addr} {ca2 : Nat} {l2 : List ByteArray} (hR2 : Rs w so2 l2) (hl2 : l2.length ≤ 8796093021952) {b : Bool} (h : decide (l = l2) = b) : Calls Try.prog 16 #[.slice so l.length ca, .slice so2 l2.length ca2] w fun e w' => e = .returned (.bool b) ∧ Below w.heap.size w w' := h ▸ sameT_any hR hl hR2 hl2
theorem rsound_any {w : World} {so si : Option Addr} {ca ci : Nat} {l : List ByteArray} {bs : List Bool} (hR : Rs w so l) (hB : Rl w si bs) : Calls Try.prog 6 #[.slice so l.length ca, .slice si bs.length ci] w fun e w' => e = .returned (.bool (sndS l bs)) ∧ Below w.heap.size w w' := by
 have hM : Mg w w ([]) := Mg.start w
 refine walk_of (l := [(0, .slice so l.length ca), (1, .slice si bs.length ci)]) Try.func6 rfl Try.ntmps6 rfl rfl ?_
 intro Q hret hnorm hP a hA
 refine wp_seq_k (fun K1 hK1 => ?_)
 refine wp_region_lit ?_
 refine seq_do hA rfl rfl rfl (does_assign rfl) ?_
 intro a hA
 refine seq_end ?_
 refine hK1 _ _ ?_
 refine wp_seq_k (fun K2 hK2 => ?_)
 refine wp_region_lit ?_
 refine seq_do hA rfl rfl rfl (does_move rfl) ?_
 intro a hA
 refine seq_do (v := .int .i64 (((l.length : Nat) : Int))) hA rfl rfl rfl (does_len Try.underlying22 rfl) ?_
 intro a hA
 rcases Bool.eq_false_or_eq_true (decide (((l.length : Nat) : Int) ≤ 64)) with hb3 | hb3
 · have hb3' := of_decide_eq_true hb3
   refine seq_do (v := .bool true) hA rfl rfl rfl (does_bin rfl rfl (fun w => (bin_leq w).trans (by rw [hb3]))) ?_
   intro a hA
   refine seq_do hA rfl rfl rfl (does_move rfl) ?_
   intro a hA
   refine seq_do hA rfl rfl rfl (does_move rfl) ?_
   intro a hA
   refine seq_do (v := .int .i64 (((bs.length : Nat) : Int))) hA rfl rfl rfl (does_len Try.underlying23 rfl) ?_
   intro a hA
   refine seq_do hA rfl rfl rfl (does_move rfl) ?_
   intro a hA
   refine seq_do (v := .int .i64 (((l.length : Nat) : Int))) hA rfl rfl rfl (does_len Try.underlying22 rfl) ?_
   intro a hA
   rcases Bool.eq_false_or_eq_true ((((bs.length : Nat) : Int) == ((l.length : Nat) : Int))) with hb4 | hb4
   · have hb4' := eq_of_beq hb4
     refine seq_do (v := .bool true) hA rfl rfl rfl (does_bin rfl rfl (fun w => (bin_eql w).trans (by rw [hb4]))) ?_
     intro a hA
     refine seq_do (v := .bool true) hA rfl rfl rfl (does_pick rfl rfl rfl rfl) ?_
     intro a hA
     refine seq_do hA rfl rfl rfl (does_move rfl) ?_
     intro a hA
     refine seq_do hA rfl rfl rfl (does_move rfl) ?_
     intro a hA
     rcases Bool.eq_false_or_eq_true (twS l) with hb5 | hb5
     · refine seq_call hA rfl rfl rfl (enters_func rfl rfl (fun w => by kernel_rfl)) ((hb5 ▸ rtwice_any (hR.below hM.bel) (by omega))) ?_
       rintro _ w7 ⟨rfl, hb6⟩
       replace hM := hM.call hb6
       refine ⟨_, rfl, ?_⟩
       intro a hA
       refine seq_do (v := .bool false) hA rfl rfl rfl (does_un rfl un_not) ?_
       intro a hA
       refine seq_do (v := .bool false) hA rfl rfl rfl (does_pick rfl rfl rfl rfl) ?_
       intro a hA
       refine seq_do hA rfl rfl rfl (does_assign rfl) ?_
       intro a hA
       refine seq_end ?_
       refine hK2 _ _ ?_
       refine wp_ret ?_
       refine hret _ _ ?_
       refine ends (v := .bool false) hA rfl (.cons (res_tmp rfl) .nil) rfl ?_
       refine ⟨?_, hM.bel⟩
       rw [show sndS l bs = false from by simp only [sndS, decide_eq_true (show l.length ≤ 64 by omega), decide_eq_true (show bs.length = l.length by omega), hb5, Bool.false_and, Bool.and_false, Bool.true_and, Bool.and_true, Bool.not_false, Bool.not_true]]
     · refine seq_call hA rfl rfl rfl (enters_func rfl rfl (fun w => by kernel_rfl)) ((hb5 ▸ rtwice_any (hR.below hM.bel) (by omega))) ?_
       rintro _ w9 ⟨rfl, hb8⟩
       replace hM := hM.call hb8
       refine ⟨_, rfl, ?_⟩
       intro a hA
       refine seq_do (v := .bool true) hA rfl rfl rfl (does_un rfl un_not) ?_
       intro a hA
       refine seq_do (v := .bool true) hA rfl rfl rfl (does_pick rfl rfl rfl rfl) ?_
       intro a hA
       refine seq_do hA rfl rfl rfl (does_assign rfl) ?_
       intro a hA
       refine seq_end ?_
       refine hK2 _ _ ?_
       refine wp_ret ?_
       refine hret _ _ ?_
       refine ends (v := .bool true) hA rfl (.cons (res_tmp rfl) .nil) rfl ?_
       refine ⟨?_, hM.bel⟩
       rw [show sndS l bs = true from by simp only [sndS, decide_eq_true (show l.length ≤ 64 by omega), decide_eq_true (show bs.length = l.length by omega), hb5, Bool.false_and, Bool.and_false, Bool.true_and, Bool.and_true, Bool.not_false, Bool.not_true]]
   · have hb4' := ne_of_beq_false hb4
     refine seq_do (v := .bool false) hA rfl rfl rfl (does_bin rfl rfl (fun w => (bin_eql w).trans (by rw [hb4]))) ?_
     intro a hA
     refine seq_do (v := .bool false) hA rfl rfl rfl (does_pick rfl rfl rfl rfl) ?_
     intro a hA
     refine seq_do hA rfl rfl rfl (does_move rfl) ?_
     intro a hA
     refine seq_skip hA rfl rfl rfl ?_
     intro a hA
     refine seq_skip hA rfl rfl rfl ?_
     intro a hA
     refine seq_skip hA rfl rfl rfl ?_
     intro a hA
     refine seq_do (v := .bool false) hA rfl rfl rfl (does_pick rfl rfl rfl rfl) ?_
     intro a hA
     refine seq_do hA rfl rfl rfl (does_assign rfl) ?_
     intro a hA
     refine seq_end ?_
     refine hK2 _ _ ?_
     refine wp_ret ?_
     refine hret _ _ ?_
     refine ends (v := .bool false) hA rfl (.cons (res_tmp rfl) .nil) rfl ?_
     refine ⟨?_, hM.bel⟩
     rw [show sndS l bs = false from by simp only [sndS, decide_eq_true (show l.length ≤ 64 by omega), decide_eq_false (show ¬ bs.length = l.length by omega), Bool.false_and, Bool.and_false, Bool.true_and, Bool.and_true, Bool.not_false, Bool.not_true]]
 · have hb3' := of_decide_eq_false hb3
   refine seq_do (v := .bool false) hA rfl rfl rfl (does_bin rfl rfl (fun w => (bin_leq w).trans (by rw [hb3]))) ?_
   intro a hA
   refine seq_do hA rfl rfl rfl (does_move rfl) ?_
   intro a hA
   refine seq_skip hA rfl rfl rfl ?_
   intro a hA
   refine seq_skip hA rfl rfl rfl ?_
   intro a hA
   refine seq_skip hA rfl rfl rfl ?_
   intro a hA
   refine seq_skip hA rfl rfl rfl ?_
   intro a hA
   refine seq_skip hA rfl rfl rfl ?_
   intro a hA
   refine seq_do (v := .bool false) hA rfl rfl rfl (does_pick rfl rfl rfl rfl) ?_
   intro a hA
   refine seq_do hA rfl rfl rfl (does_move rfl) ?_
   intro a hA
   refine seq_skip hA rfl rfl rfl ?_
   intro a hA
   refine seq_skip hA rfl rfl rfl ?_
   intro a hA
   refine seq_skip hA rfl rfl rfl ?_
   intro a hA
   refine seq_do (v := .bool false) hA rfl rfl rfl (does_pick rfl rfl rfl rfl) ?_
   intro a hA
   refine seq_do hA rfl rfl rfl (does_assign rfl) ?_
   intro a hA
   refine seq_end ?_
   refine hK2 _ _ ?_
   refine wp_ret ?_
   refine hret _ _ ?_
   refine ends (v := .bool false) hA rfl (.cons (res_tmp rfl) .nil) rfl ?_
   refine ⟨?_, hM.bel⟩
   rw [show sndS l bs = false from by simp only [sndS, decide_eq_false (show ¬ l.length ≤ 64 by omega), Bool.false_and, Bool.and_false, Bool.true_and, Bool.and_true, Bool.not_false, Bool.not_true]]
theorem rsound_as {w : World} {so si : Option Addr} {ca ci : Nat} {l : List ByteArray} {bs : List Bool} (hR : Rs w so l) (hB : Rl w si bs) {b : Bool} (h : sndS l bs = b) : Calls Try.prog 6 #[.slice so l.length ca, .slice si bs.length ci] w fun e w' => e = .returned (.bool b) ∧ Below w.heap.size w w' := h ▸ rsound_any hR hB
theorem rtwice_as {w : World} {so : Option Addr} {ca : Nat} {l : List ByteArray} (hR : Rs w so l) (hl : l.length ≤ 8796093021952) {b : Bool} (h : twS l = b) : Calls Try.prog 13 #[.slice so l.length ca] w fun e w' => e = .returned (.bool b) ∧ Below w.heap.size w w' := h ▸ rtwice_any hR hl
theorem rhas_any {w : World} {so si : Option Addr} {ca ci : Nat} {l : List ByteArray} {bs : List Bool} (hR : Rs w so l) (hB : Rl w si bs) (hl : l.length ≤ 8796093021952) (hbl : bs.length = l.length) {s : ByteArray} : Calls Try.prog 24 #[.slice so l.length ca, .slice si bs.length ci, .string s] w fun e w' => e = .returned (.bool (hasS l bs s)) ∧ Below w.heap.size w w' := by
 have hge := idx_ge l s
 have hM : Mg w w ([]) := Mg.start w
 refine walk_of (l := [(0, .slice so l.length ca), (1, .slice si bs.length ci), (2, .string s)]) Try.func24 rfl Try.ntmps24 rfl rfl ?_
 intro Q hret hnorm hP a hA
 refine wp_seq_k (fun K1 hK1 => ?_)
 refine wp_region_lit ?_
 refine seq_do hA rfl rfl rfl (does_assign rfl) ?_
 intro a hA
 refine seq_end ?_
 refine hK1 _ _ ?_
 refine wp_seq_k (fun K2 hK2 => ?_)
 refine wp_region_lit ?_
 refine seq_do hA rfl rfl rfl (does_move rfl) ?_
 intro a hA
 refine seq_do hA rfl rfl rfl (does_move rfl) ?_
 intro a hA
 refine seq_call hA rfl rfl rfl (enters_func rfl rfl (fun w => by kernel_rfl)) (place_any (hR.below hM.bel) hl) ?_
 rintro _ w4 ⟨rfl, hb3⟩
 replace hM := hM.call hb3
 refine ⟨_, rfl, ?_⟩
 intro a hA
 refine seq_do hA rfl rfl rfl (does_assign rfl) ?_
 intro a hA
 refine seq_end ?_
 refine hK2 _ _ ?_
 refine wp_seq_k (fun K5 hK5 => ?_)
 refine wp_region_lit ?_
 refine seq_do hA rfl rfl rfl (does_move rfl) ?_
 intro a hA
 rcases Bool.eq_false_or_eq_true (decide (0 ≤ idxOfS l s)) with hb6 | hb6
 · have hb6' := of_decide_eq_true hb6
   refine seq_do (v := .bool true) hA rfl rfl rfl (does_bin rfl rfl (fun w => (bin_geq w).trans (by rw [hb6]))) ?_
   intro a hA
   refine seq_do hA rfl rfl rfl (does_move rfl) ?_
   intro a hA
   refine seq_do hA rfl rfl rfl (does_move rfl) ?_
   intro a hA
   refine seq_do hA rfl rfl rfl (does_move rfl) ?_
   intro a hA
   obtain ⟨bx7, ox8, sx9, hs10, hc11, hi12⟩ := hB.at_ (i := (idxOfS l s).toNat) (by omega)
   refine seq_do (v := .pointer (some ⟨bx7, ox8 + (idxOfS l s).toNat, none⟩)) hA rfl rfl rfl (does_indexRow (k := (idxOfS l s).toNat) Try.underlying23 (by kernel_rfl) rfl rfl (by omega) hs10 (by omega)) ?_
   intro a hA
   rcases sx9 with _ | _
   · refine seq_do (v := .bool false) hA rfl rfl rfl (m_loadX hM hc11 EnE_is1_4 rfl) ?_
     intro a hA
     refine seq_do (v := .bool false) hA rfl rfl rfl (does_pick rfl rfl rfl rfl) ?_
     intro a hA
     refine seq_do hA rfl rfl rfl (does_assign rfl) ?_
     intro a hA
     refine seq_end ?_
     refine hK5 _ _ ?_
     refine wp_ret ?_
     refine hret _ _ ?_
     refine ends (v := .bool false) hA rfl (.cons (res_tmp rfl) .nil) rfl ?_
     refine ⟨?_, hM.bel⟩
     rw [show hasS l bs s = false from by unfold hasS; rw [decide_eq_true (by omega), Bool.true_and, List.getD_eq_getElem?_getD, hi12]; rfl]
   · refine seq_do (v := .bool true) hA rfl rfl rfl (m_loadX hM hc11 EnE_is1_4 rfl) ?_
     intro a hA
     refine seq_do (v := .bool true) hA rfl rfl rfl (does_pick rfl rfl rfl rfl) ?_
     intro a hA
     refine seq_do hA rfl rfl rfl (does_assign rfl) ?_
     intro a hA
     refine seq_end ?_
     refine hK5 _ _ ?_
     refine wp_ret ?_
     refine hret _ _ ?_
     refine ends (v := .bool true) hA rfl (.cons (res_tmp rfl) .nil) rfl ?_
     refine ⟨?_, hM.bel⟩
     rw [show hasS l bs s = true from by unfold hasS; rw [decide_eq_true (by omega), Bool.true_and, List.getD_eq_getElem?_getD, hi12]; rfl]
 · have hb6' := of_decide_eq_false hb6
   refine seq_do (v := .bool false) hA rfl rfl rfl (does_bin rfl rfl (fun w => (bin_geq w).trans (by rw [hb6]))) ?_
   intro a hA
   refine seq_do hA rfl rfl rfl (does_move rfl) ?_
   intro a hA
   refine seq_skip hA rfl rfl rfl ?_
   intro a hA
   refine seq_skip hA rfl rfl rfl ?_
   intro a hA
   refine seq_skip hA rfl rfl rfl ?_
   intro a hA
   refine seq_skip hA rfl rfl rfl ?_
   intro a hA
   refine seq_do (v := .bool false) hA rfl rfl rfl (does_pick rfl rfl rfl rfl) ?_
   intro a hA
   refine seq_do hA rfl rfl rfl (does_assign rfl) ?_
   intro a hA
   refine seq_end ?_
   refine hK5 _ _ ?_
   refine wp_ret ?_
   refine hret _ _ ?_
   refine ends (v := .bool false) hA rfl (.cons (res_tmp rfl) .nil) rfl ?_
   refine ⟨?_, hM.bel⟩
   rw [show hasS l bs s = false from by unfold hasS; rw [decide_eq_false (by omega), Bool.false_and]]
theorem rhas_as {w : World} {so si : Option Addr} {ca ci : Nat} {l : List ByteArray} {bs : List Bool} (hR : Rs w so l) (hB : Rl w si bs) (hl : l.length ≤ 8796093021952) (hbl : bs.length = l.length) {s : ByteArray} {b : Bool} (h : hasS l bs s = b) : Calls Try.prog 24 #[.slice so l.length ca, .slice si bs.length ci, .string s] w fun e w' => e = .returned (.bool b) ∧ Below w.heap.size w w' := h ▸ rhas_any hR hB hl hbl
theorem lmembers_any {w : World} {so si : Option Addr} {ca ci : Nat} {l : List ByteArray} {bs : List Bool} (hR : Rs w so l) (hB : Rl w si bs) (hl : l.length ≤ 1000000) : Calls Try.prog 17 #[.slice so l.length ca, .slice si bs.length ci] w fun e w' => ∃ so' ca', e = .returned (.slice so' (memS l bs).length ca') ∧ Mg w w' [.row 9 1 (.slice so' (memS l bs).length ca') (memS l bs).length (strC (memS l bs))] := by
 have hM : Mg w w ([]) := Mg.start w
 refine walk_of (l := [(0, .slice so l.length ca), (1, .slice si bs.length ci)]) Try.func17 rfl Try.ntmps17 rfl rfl ?_
 intro Q hret hnorm hP a hA
 refine wp_seq_k (fun K1 hK1 => ?_)
 refine wp_region_lit ?_
 refine seq_do hA rfl rfl rfl (does_assign rfl) ?_
 intro a hA
 refine seq_end ?_
 refine hK1 _ _ ?_
 refine wp_seq_k (fun K2 hK2 => ?_)
 refine wp_region_lit ?_
 refine s_litE (e := 9) (sz := 1) (m := 0) (vs := strC []) hA hM rfl rfl rfl (does_buildSlice rfl (by kernel_rfl)) rfl rfl (.inl (by decide)) ?_
 intro g3 w4 hM a hA
 refine seq_do hA rfl rfl rfl (does_assign rfl) ?_
 intro a hA
 refine seq_end ?_
 refine hK2 _ _ ?_
 refine wp_seq_k (fun K5 hK5 => ?_)
 refine wp_seq_k (fun K6 hK6 => ?_)
 refine wp_region_lit ?_
 refine seq_do hA rfl rfl rfl (does_assign rfl) ?_
 intro a hA
 refine seq_end ?_
 refine hK6 _ _ ?_
 refine wp_block ?_
 refine wp_loop_n (fun m_ a w1 => ∃ (i : Nat) (xs : List ByteArray) (so_ : Option Addr) (ca_ : Nat), m_ = 1 + (l.length - i) ∧ (i ≤ l.length ∧ i ≤ bs.length ∧ xs = memT l bs i) ∧ Sl a 32 [(0, .slice so l.length ca), (1, .slice si bs.length ci), (4, .slice none 0 0), (5, .slice so_ xs.length ca_), (6, .int .i64 (((i : Nat) : Int))), (7, .slice (some ⟨g3, 0, none⟩) 0 0)] ∧ Mg w w1 (.row 9 1 (.slice so_ xs.length ca_) xs.length (strC xs) :: [])) _ ⟨0, [], _, 0, rfl, ⟨Nat.zero_le _, Nat.zero_le _, rfl⟩, hA.keep _ ⟨rfl, rfl, rfl, rfl, rfl, rfl, trivial⟩, hM⟩ ?_
 clear hM hA
 rintro m_ a w7 ⟨i, xs, so_, ca_, rfl, hinv9, hA, hM⟩ K8 hK8
 obtain ⟨hi0, hi1, hx9⟩ := hinv9
 have hxl : xs.length ≤ i := by rw [hx9]; exact memT_len l bs i
 refine wp_seq_k (fun K10 hK10 => ?_)
 refine wp_seq_k (fun K11 hK11 => ?_)
 refine wp_region_lit ?_
 refine seq_do hA rfl rfl rfl (does_move rfl) ?_
 intro a hA
 refine seq_do hA rfl rfl rfl (does_move rfl) ?_
 intro a hA
 refine seq_do (v := .int .i64 (((l.length : Nat) : Int))) hA rfl rfl rfl (does_len Try.underlying22 rfl) ?_
 intro a hA
 rcases Bool.eq_false_or_eq_true (decide (((i : Nat) : Int) < ((l.length : Nat) : Int))) with hb12 | hb12
 · have hb12' := of_decide_eq_true hb12
   refine seq_do (v := .bool true) hA rfl rfl rfl (does_bin rfl rfl (fun w => (bin_lss w).trans (by rw [hb12]))) ?_
   intro a hA
   refine seq_do hA rfl rfl rfl (does_move rfl) ?_
   intro a hA
   refine seq_do hA rfl rfl rfl (does_move rfl) ?_
   intro a hA
   refine seq_do hA rfl rfl rfl (does_move rfl) ?_
   intro a hA
   refine seq_do (v := .int .i64 (((bs.length : Nat) : Int))) hA rfl rfl rfl (does_len Try.underlying23 rfl) ?_
   intro a hA
   rcases Bool.eq_false_or_eq_true (decide (((i : Nat) : Int) < ((bs.length : Nat) : Int))) with hb13 | hb13
   · have hb13' := of_decide_eq_true hb13
     refine seq_do (v := .bool true) hA rfl rfl rfl (does_bin rfl rfl (fun w => (bin_lss w).trans (by rw [hb13]))) ?_
     intro a hA
     refine seq_do (v := .bool true) hA rfl rfl rfl (does_pick rfl rfl rfl rfl) ?_
     intro a hA
     refine seq_end ?_
     refine hK11 _ _ ?_
     refine wp_cond_true (hA.ev rfl) ?_
     refine wp_skip ?_
     refine hK10 _ _ ?_
     refine wp_seq_k (fun K14 hK14 => ?_)
     refine wp_block ?_
     refine wp_seq_k (fun K15 hK15 => ?_)
     refine wp_region_lit ?_
     refine seq_do hA rfl rfl rfl (does_move rfl) ?_
     intro a hA
     refine seq_do hA rfl rfl rfl (does_move rfl) ?_
     intro a hA
     obtain ⟨bx16, ox17, sx18, hs19, hc20, hi21⟩ := hB.at_ (i := i) (by omega)
     refine seq_do (v := .pointer (some ⟨bx16, ox17 + i, none⟩)) hA rfl rfl rfl (does_indexRow (k := i) Try.underlying23 (by kernel_rfl) rfl rfl (by first | rfl | omega) hs19 (by omega)) ?_
     intro a hA
     rcases sx18 with _ | _
     · refine seq_do (v := .bool false) hA rfl rfl rfl (m_loadX hM hc20 EnE_is1_4 rfl) ?_
       intro a hA
       refine seq_end ?_
       refine hK15 _ _ ?_
       refine wp_cond_false (hA.ev rfl) ?_
       refine wp_skip ?_
       refine hK14 _ _ ?_
       refine wp_region_lit ?_
       refine seq_do hA rfl rfl rfl (does_move rfl) ?_
       intro a hA
       refine seq_do (v := .int .i64 (((i + 1 : Nat) : Int))) hA rfl rfl rfl (does_bin rfl rfl (ar_add ((in_i64 (by omega) (by omega)).trans (by omega)))) ?_
       intro a hA
       refine seq_do hA rfl rfl rfl (does_assign rfl) ?_
       intro a hA
       refine seq_end ?_
       replace hM : Mg w w7 (.row 9 1 (.slice so_ xs.length ca_) xs.length (strC xs) :: []) := by
         have h9 := hM.sub (.cons_cons _ (.refl _))
         exact h9
       obtain ⟨s9, it9⟩ : ∃ s, l[i]? = some s := ⟨l[i], List.getElem?_eq_getElem (by omega)⟩
       refine hK8 _ _ _ (by omega) ⟨i + 1, xs, so_, ca_, rfl, ⟨by omega, by omega, by rw [memT_step it9 hi21, ← hx9]; simp⟩, hA.keep _ ⟨rfl, rfl, rfl, rfl, rfl, rfl, trivial⟩, hM⟩
     · refine seq_do (v := .bool true) hA rfl rfl rfl (m_loadX hM hc20 EnE_is1_4 rfl) ?_
       intro a hA
       refine seq_end ?_
       refine hK15 _ _ ?_
       refine wp_cond_true (hA.ev rfl) ?_
       refine wp_region_lit ?_
       refine seq_do hA rfl rfl rfl (does_move rfl) ?_
       intro a hA
       refine seq_do hA rfl rfl rfl (does_move rfl) ?_
       intro a hA
       refine seq_do hA rfl rfl rfl (does_move rfl) ?_
       intro a hA
       obtain ⟨bx22, ox23, sx24, hs25, hc26, hi27⟩ := hR.at_ (i := i) (by omega)
       refine seq_do (v := .pointer (some ⟨bx22, ox23 + i, none⟩)) hA rfl rfl rfl (does_indexRow (k := i) Try.underlying22 (by kernel_rfl) rfl rfl (by first | rfl | omega) hs25 (by omega)) ?_
       intro a hA
       refine seq_do hA rfl rfl rfl (m_loadX hM hc26 EnE_is1_9 rfl) ?_
       intro a hA
       refine s_litE (e := 9) (sz := 1) (m := 1) (vs := strC [sx24]) hA hM rfl rfl rfl (does_buildSlice rfl (by kernel_rfl)) rfl rfl (.inl (by decide)) ?_
       intro g28 w29 hM a hA
       refine s_appendE (e := 9) (sz := 1) (k := 1) (q := xs.length) (m := 1) (xs := strC xs) (news := strC [sx24]) (L' := fun v30 => (.row 9 1 (.slice (some ⟨g28, 0, none⟩) 1 1) 1 (strC [sx24]) :: .row 9 1 (v30) (xs.length + 1) (strC xs ++ strC [sx24]) :: [])) hA rfl rfl rfl (m_appX (z := .string ⟨#[]⟩) (sz := 1) (by_ := 16) Try.underlying22 (by kernel_rfl) rfl rfl rfl hM 1 rfl rfl rfl (strC_n [sx24]) (rc_own (hM.has 0 rfl)) (strC_one [sx24]) (by first | omega | (simp only [List.length_nil]; omega))) (fun _ => rfl) ?_
       intro v30 w31 hM a hA
       replace hM : Mg w w31 (.row 9 1 (.slice (some ⟨g28, 0, none⟩) 1 1) 1 (strC [sx24]) :: .row 9 1 (v30) ((xs ++ [sx24]).length) (strC (xs ++ [sx24])) :: []) := by
         rw [← strC_app, List.length_append]; exact hM
       obtain ⟨so32, ca33, rfl⟩ := owns_any (hM.has 1 rfl)
       refine seq_do hA rfl rfl rfl (does_assign rfl) ?_
       intro a hA
       refine seq_end ?_
       refine hK14 _ _ ?_
       refine wp_region_lit ?_
       refine seq_do hA rfl rfl rfl (does_move rfl) ?_
       intro a hA
       refine seq_do (v := .int .i64 (((i + 1 : Nat) : Int))) hA rfl rfl rfl (does_bin rfl rfl (ar_add ((in_i64 (by omega) (by omega)).trans (by omega)))) ?_
       intro a hA
       refine seq_do hA rfl rfl rfl (does_assign rfl) ?_
       intro a hA
       refine seq_end ?_
       replace hM : Mg w w31 (.row 9 1 (.slice so32 ((xs ++ [sx24]).length) ca33) ((xs ++ [sx24]).length) (strC (xs ++ [sx24])) :: []) := by
         have h9 := hM.sub (.cons _ (.cons_cons _ (.refl _)))
         exact h9
       refine hK8 _ _ _ (by omega) ⟨i + 1, xs ++ [sx24], so32, ca33, rfl, ⟨by omega, by omega, by rw [memT_step hi27 hi21, ← hx9]; simp⟩, hA.keep _ ⟨rfl, rfl, rfl, rfl, rfl, rfl, trivial⟩, hM⟩
   · have hb13' := of_decide_eq_false hb13
     refine seq_do (v := .bool false) hA rfl rfl rfl (does_bin rfl rfl (fun w => (bin_lss w).trans (by rw [hb13]))) ?_
     intro a hA
     refine seq_do (v := .bool false) hA rfl rfl rfl (does_pick rfl rfl rfl rfl) ?_
     intro a hA
     refine seq_end ?_
     refine hK11 _ _ ?_
     refine wp_cond_false (hA.ev rfl) ?_
     refine wp_exit ?_
     refine hK5 _ _ ?_
     refine wp_seq_k (fun K34 hK34 => ?_)
     refine wp_region_lit ?_
     refine seq_do hA rfl rfl rfl (does_move rfl) ?_
     intro a hA
     refine seq_do hA rfl rfl rfl (does_assign rfl) ?_
     intro a hA
     refine seq_end ?_
     refine hK34 _ _ ?_
     refine wp_ret ?_
     refine hret _ _ ?_
     refine ends (v := .slice so_ xs.length ca_) hA rfl (.cons (res_tmp rfl) .nil) rfl ?_
     replace hM : Mg w w7 (.row 9 1 (.slice so_ xs.length ca_) xs.length (strC xs) :: []) := by
       have h9 := hM.sub (.cons_cons _ (.refl _))
       exact h9
     have e9 : xs = memS l bs := by rw [hx9, memT_full (by first | exact .inl (by omega) | exact .inr (by omega))]
     subst e9
     exact ⟨_, _, rfl, hM⟩
 · have hb12' := of_decide_eq_false hb12
   refine seq_do (v := .bool false) hA rfl rfl rfl (does_bin rfl rfl (fun w => (bin_lss w).trans (by rw [hb12]))) ?_
   intro a hA
   refine seq_do hA rfl rfl rfl (does_move rfl) ?_
   intro a hA
   refine seq_skip hA rfl rfl rfl ?_
   intro a hA
   refine seq_skip hA rfl rfl rfl ?_
   intro a hA
   refine seq_skip hA rfl rfl rfl ?_
   intro a hA
   refine seq_skip hA rfl rfl rfl ?_
   intro a hA
   refine seq_do (v := .bool false) hA rfl rfl rfl (does_pick rfl rfl rfl rfl) ?_
   intro a hA
   refine seq_end ?_
   refine hK11 _ _ ?_
   refine wp_cond_false (hA.ev rfl) ?_
   refine wp_exit ?_
   refine hK5 _ _ ?_
   refine wp_seq_k (fun K35 hK35 => ?_)
   refine wp_region_lit ?_
   refine seq_do hA rfl rfl rfl (does_move rfl) ?_
   intro a hA
   refine seq_do hA rfl rfl rfl (does_assign rfl) ?_
   intro a hA
   refine seq_end ?_
   refine hK35 _ _ ?_
   refine wp_ret ?_
   refine hret _ _ ?_
   refine ends (v := .slice so_ xs.length ca_) hA rfl (.cons (res_tmp rfl) .nil) rfl ?_
   replace hM : Mg w w7 (.row 9 1 (.slice so_ xs.length ca_) xs.length (strC xs) :: []) := by
     have h9 := hM.sub (.cons_cons _ (.refl _))
     exact h9
   have e9 : xs = memS l bs := by rw [hx9, memT_full (by first | exact .inl (by omega) | exact .inr (by omega))]
   subst e9
   exact ⟨_, _, rfl, hM⟩
theorem is_any {w : World} {so si : Option Addr} {ca ci : Nat} {l : List ByteArray} {bs : List Bool} (hR : Rs w so l) (hB : Rl w si bs) {su : Option Addr} {cu : Nat} (hU : Rs w su l) {sy : Option Addr} {cy : Nat} {ys : List ByteArray} (hY : Rs w sy ys) (hly : ys.length ≤ 8796093021952) (hsd : sndS l bs = true) (hm : memS l bs = ys) : Calls Try.prog 14 #[.agg #[.slice so l.length ca, .slice si bs.length ci], .int .i64 0, .slice su l.length cu, .slice sy ys.length cy] w fun e w' => e = .returned (.bool true) ∧ Below w.heap.size w w' := by
 have h64 := (snd_le hsd).1
 have hM : Mg w w ([]) := Mg.start w
 refine walk_of (l := [(0, .agg #[.slice so l.length ca, .slice si bs.length ci]), (1, .int .i64 0), (2, .slice su l.length cu), (3, .slice sy ys.length cy)]) Try.func14 rfl Try.ntmps14 rfl rfl ?_
 intro Q hret hnorm hP a hA
 refine wp_seq_k (fun K1 hK1 => ?_)
 refine wp_region_lit ?_
 refine s_new (vs := [.slice so l.length ca, .slice si bs.length ci]) (t := 25) hA hM rfl rfl rfl (fun g => .pointer (some ⟨g, 0, none⟩)) (does_box rfl rfl) (by decide) ?_
 intro g2 w3 hM a hA
 refine seq_do hA rfl rfl rfl (does_assign rfl) ?_
 intro a hA
 refine seq_end ?_
 refine hK1 _ _ ?_
 refine wp_seq_k (fun K4 hK4 => ?_)
 refine wp_region_lit ?_
 refine seq_do hA rfl rfl rfl (does_move rfl) ?_
 intro a hA
 refine seq_do (v := .bool true) hA rfl rfl rfl (does_bin rfl rfl (fun w => by kernel_rfl)) ?_
 intro a hA
 refine seq_do hA rfl rfl rfl (does_move rfl) ?_
 intro a hA
 refine seq_do hA rfl rfl rfl (m_loadS hM EnE_isS_25 rfl 0 rfl (cs := [.slice so l.length ca, .slice si bs.length ci]) rfl rfl) ?_
 intro a hA
 refine seq_call hA rfl rfl rfl (enters_func rfl rfl (fun w => by kernel_rfl)) (sound_as (hR.below hM.bel) (hB.below hM.bel) hsd) ?_
 rintro _ w6 ⟨rfl, hb5⟩
 replace hM := hM.call hb5
 refine ⟨_, rfl, ?_⟩
 intro a hA
 refine seq_do (v := .bool true) hA rfl rfl rfl (does_pick rfl rfl rfl rfl) ?_
 intro a hA
 refine seq_do hA rfl rfl rfl (does_move rfl) ?_
 intro a hA
 refine seq_do (v := .pointer (some ⟨g2, 0, none⟩)) hA rfl rfl rfl (does_field EnE_fld_25_0 rfl rfl) ?_
 intro a hA
 refine seq_do hA rfl rfl rfl (m_load1 hM EnE_is1_22 rfl 0 rfl rfl) ?_
 intro a hA
 refine seq_do hA rfl rfl rfl (does_move rfl) ?_
 intro a hA
 refine seq_call hA rfl rfl rfl (enters_func rfl rfl (fun w => by kernel_rfl)) (sameT_as (hR.below hM.bel) (by omega) (hU.below hM.bel) (by omega) (decide_eq_true rfl)) ?_
 rintro _ w8 ⟨rfl, hb7⟩
 replace hM := hM.call hb7
 refine ⟨_, rfl, ?_⟩
 intro a hA
 refine seq_do (v := .bool true) hA rfl rfl rfl (does_pick rfl rfl rfl rfl) ?_
 intro a hA
 refine seq_do hA rfl rfl rfl (does_move rfl) ?_
 intro a hA
 refine seq_do (v := .pointer (some ⟨g2, 0, none⟩)) hA rfl rfl rfl (does_field EnE_fld_25_0 rfl rfl) ?_
 intro a hA
 refine seq_do hA rfl rfl rfl (m_load1 hM EnE_is1_22 rfl 0 rfl rfl) ?_
 intro a hA
 refine seq_do (v := .pointer (some ⟨g2, 1, none⟩)) hA rfl rfl rfl (does_field EnE_fld_25_1 rfl rfl) ?_
 intro a hA
 refine seq_do hA rfl rfl rfl (m_load1 hM EnE_is1_23 rfl 0 rfl rfl) ?_
 intro a hA
 refine seq_call hA rfl rfl rfl (enters_func rfl rfl (fun w => by kernel_rfl)) (lmembers_any (hR.below hM.bel) (hB.below hM.bel) (by omega)) ?_
 rintro _ w12 ⟨so9, ca10, rfl, hM11⟩
 replace hM : Mg w w12 (.row 9 1 (.slice so9 ((memS l bs).length) ca10) ((memS l bs).length) (strC (memS l bs)) :: .obj g2 (.cells #[.slice so l.length ca, .slice si bs.length ci] 25) :: []) := (hM.both hM11 (noBld_cons (by simp) (noBld_quiet quietL_nil)) (noBld_cons (by simp) (noBld_quiet quietL_nil)))
 refine ⟨_, rfl, ?_⟩
 intro a hA
 refine seq_do hA rfl rfl rfl (does_move rfl) ?_
 intro a hA
 refine seq_call hA rfl rfl rfl (enters_func rfl rfl (fun w => by kernel_rfl)) (sameT_as (rc_own (hM.has 0 rfl)) (by have := memS_len l bs; omega) (hY.below hM.bel) hly (decide_eq_true hm)) ?_
 rintro _ w14 ⟨rfl, hb13⟩
 replace hM := hM.call hb13
 refine ⟨_, rfl, ?_⟩
 intro a hA
 refine seq_do (v := .bool true) hA rfl rfl rfl (does_pick rfl rfl rfl rfl) ?_
 intro a hA
 refine seq_do hA rfl rfl rfl (does_assign rfl) ?_
 intro a hA
 refine seq_end ?_
 refine hK4 _ _ ?_
 refine wp_ret ?_
 refine hret _ _ ?_
 refine ends (v := .bool true) hA rfl (.cons (res_tmp rfl) .nil) rfl ?_
 exact ⟨rfl, hM.bel⟩
theorem same_any {w : World} {so si : Option Addr} {ca ci : Nat} {l : List ByteArray} {bs : List Bool} (hR : Rs w so l) (hB : Rl w si bs) {so2 si2 : Option Addr} {ca2 ci2 : Nat} {bs2 : List Bool} (hR2 : Rs w so2 l) (hB2 : Rl w si2 bs2) (h64 : l.length ≤ 64) (hbl : bs.length = l.length) (hbl2 : bs2.length = l.length) (hm : memS l bs = memS l bs2) : Calls Try.prog 26 #[.agg #[.slice so l.length ca, .slice si bs.length ci], .agg #[.slice so2 l.length ca2, .slice si2 bs2.length ci2]] w fun e w' => e = .returned (.bool true) ∧ Below w.heap.size w w' := by
 have hM : Mg w w ([]) := Mg.start w
 refine walk_of (l := [(0, .agg #[.slice so l.length ca, .slice si bs.length ci]), (1, .agg #[.slice so2 l.length ca2, .slice si2 bs2.length ci2])]) Try.func26 rfl Try.ntmps26 rfl rfl ?_
 intro Q hret hnorm hP a hA
 refine wp_seq_k (fun K1 hK1 => ?_)
 refine wp_region_lit ?_
 refine s_new (vs := [.slice so l.length ca, .slice si bs.length ci]) (t := 25) hA hM rfl rfl rfl (fun g => .pointer (some ⟨g, 0, none⟩)) (does_box rfl rfl) (by decide) ?_
 intro g2 w3 hM a hA
 refine s_new (vs := [.slice so2 l.length ca2, .slice si2 bs2.length ci2]) (t := 25) hA hM rfl rfl rfl (fun g => .pointer (some ⟨g, 0, none⟩)) (does_box rfl rfl) (by decide) ?_
 intro g4 w5 hM a hA
 refine seq_do hA rfl rfl rfl (does_assign rfl) ?_
 intro a hA
 refine seq_end ?_
 refine hK1 _ _ ?_
 refine wp_seq_k (fun K6 hK6 => ?_)
 refine wp_draw (S := fun w1 => Mg w w1 (.obj g4 (.cells #[.slice so2 l.length ca2, .slice si2 bs2.length ci2] 25) :: .obj g2 (.cells #[.slice so l.length ca, .slice si bs.length ci] 25) :: [])) (by kernel_rfl) ?_
 replace hM := hM.drew
 refine any_tk (v := .pointer (some ⟨g2, 0, none⟩)) hA 0 rfl rfl rfl rfl hP (hM.sub (.cons_cons _ (.cons_cons _ (List.nil_sublist _)))) (fun w1 hM => does_field EnE_fld_25_0 rfl rfl) ?_
 intro a hA
 refine any_tk hA 1 rfl rfl rfl rfl hP (hM.sub (.cons_cons _ (.cons_cons _ (List.nil_sublist _)))) (fun w1 hM => m_load1 hM EnE_is1_22 rfl 1 rfl rfl) ?_
 intro a hA
 refine any_tk (v := .pointer (some ⟨g4, 0, none⟩)) hA 2 rfl rfl rfl rfl hP (hM.sub (.cons_cons _ (.cons_cons _ (List.nil_sublist _)))) (fun w1 hM => does_field EnE_fld_25_0 rfl rfl) ?_
 intro a hA
 refine any_tk hA 3 rfl rfl rfl rfl hP (hM.sub (.cons_cons _ (.cons_cons _ (List.nil_sublist _)))) (fun w1 hM => m_load1 hM EnE_is1_22 rfl 0 rfl rfl) ?_
 intro a hA
 refine any_one (by kernel_rfl) (op_call hA 4 rfl rfl rfl rfl (enters_func rfl rfl (fun w => by kernel_rfl)) (sameT_as (hR.below hM.bel) (by omega) (hR2.below hM.bel) (by omega) (decide_eq_true rfl)) ?_)
 rintro _ w8 ⟨rfl, hb7⟩
 replace hM := hM.call hb7
 refine ⟨_, rfl, (hM.sub (.cons_cons _ (.cons_cons _ (List.nil_sublist _)))), ?_⟩
 intro a hA
 refine any_tk hA 5 rfl rfl rfl rfl hP (hM.sub (.cons_cons _ (.cons_cons _ (List.nil_sublist _)))) (fun w1 hM => does_move rfl) ?_
 intro a hA
 refine any_tk (v := .pointer (some ⟨g2, 0, none⟩)) hA 6 rfl rfl rfl rfl hP (hM.sub (.cons_cons _ (.cons_cons _ (List.nil_sublist _)))) (fun w1 hM => does_field EnE_fld_25_0 rfl rfl) ?_
 intro a hA
 refine any_tk hA 7 rfl rfl rfl rfl hP (hM.sub (.cons_cons _ (.cons_cons _ (List.nil_sublist _)))) (fun w1 hM => m_load1 hM EnE_is1_22 rfl 1 rfl rfl) ?_
 intro a hA
 refine any_tk (v := .pointer (some ⟨g2, 1, none⟩)) hA 8 rfl rfl rfl rfl hP (hM.sub (.cons_cons _ (.cons_cons _ (List.nil_sublist _)))) (fun w1 hM => does_field EnE_fld_25_1 rfl rfl) ?_
 intro a hA
 refine any_tk hA 9 rfl rfl rfl rfl hP (hM.sub (.cons_cons _ (.cons_cons _ (List.nil_sublist _)))) (fun w1 hM => m_load1 hM EnE_is1_23 rfl 1 rfl rfl) ?_
 intro a hA
 refine any_tk (v := .pointer (some ⟨g4, 0, none⟩)) hA 11 rfl rfl rfl rfl hP (hM.sub (.cons_cons _ (.cons_cons _ (List.nil_sublist _)))) (fun w1 hM => does_field EnE_fld_25_0 rfl rfl) ?_
 intro a hA
 refine any_tk hA 12 rfl rfl rfl rfl hP (hM.sub (.cons_cons _ (.cons_cons _ (List.nil_sublist _)))) (fun w1 hM => m_load1 hM EnE_is1_22 rfl 0 rfl rfl) ?_
 intro a hA
 refine any_tk (v := .pointer (some ⟨g4, 1, none⟩)) hA 13 rfl rfl rfl rfl hP (hM.sub (.cons_cons _ (.cons_cons _ (List.nil_sublist _)))) (fun w1 hM => does_field EnE_fld_25_1 rfl rfl) ?_
 intro a hA
 refine any_tk hA 14 rfl rfl rfl rfl hP (hM.sub (.cons_cons _ (.cons_cons _ (List.nil_sublist _)))) (fun w1 hM => m_load1 hM EnE_is1_23 rfl 0 rfl rfl) ?_
 intro a hA
 refine any_one (by kernel_rfl) (op_call hA 10 rfl rfl rfl rfl (enters_func rfl rfl (fun w => by kernel_rfl)) (lmembers_any (hR.below hM.bel) (hB.below hM.bel) (by omega)) ?_)
 rintro _ w12 ⟨so9, ca10, rfl, hM11⟩
 replace hM : Mg w w12 (.row 9 1 (.slice so9 ((memS l bs).length) ca10) ((memS l bs).length) (strC (memS l bs)) :: .obj g4 (.cells #[.slice so2 l.length ca2, .slice si2 bs2.length ci2] 25) :: .obj g2 (.cells #[.slice so l.length ca, .slice si bs.length ci] 25) :: []) := (hM.both hM11 (noBld_cons (by simp) (noBld_cons (by simp) (noBld_quiet quietL_nil))) (noBld_cons (by simp) (noBld_quiet quietL_nil)))
 refine ⟨_, rfl, (hM.sub (.cons _ (.cons_cons _ (.cons_cons _ (List.nil_sublist _))))), ?_⟩
 intro a hA
 refine any_one (by kernel_rfl) (op_call hA 15 rfl rfl rfl rfl (enters_func rfl rfl (fun w => by kernel_rfl)) (lmembers_any (hR2.below hM.bel) (hB2.below hM.bel) (by omega)) ?_)
 rintro _ w16 ⟨so13, ca14, rfl, hM15⟩
 replace hM : Mg w w16 (.row 9 1 (.slice so13 ((memS l bs2).length) ca14) ((memS l bs2).length) (strC (memS l bs2)) :: .row 9 1 (.slice so9 ((memS l bs).length) ca10) ((memS l bs).length) (strC (memS l bs)) :: .obj g4 (.cells #[.slice so2 l.length ca2, .slice si2 bs2.length ci2] 25) :: .obj g2 (.cells #[.slice so l.length ca, .slice si bs.length ci] 25) :: []) := (hM.both hM15 (noBld_cons (by simp) (noBld_cons (by simp) (noBld_cons (by simp) (noBld_quiet quietL_nil)))) (noBld_cons (by simp) (noBld_quiet quietL_nil)))
 refine ⟨_, rfl, (hM.sub (.cons _ (.cons _ (.cons_cons _ (.cons_cons _ (List.nil_sublist _)))))), ?_⟩
 intro a hA
 refine any_one (by kernel_rfl) (op_call hA 16 rfl rfl rfl rfl (enters_func rfl rfl (fun w => by kernel_rfl)) (sameT_as (rc_own (hM.has 1 rfl)) (by have := memS_len l bs; omega) (rc_own (hM.has 0 rfl)) (by have := memS_len l bs2; omega) (decide_eq_true hm)) ?_)
 rintro _ w18 ⟨rfl, hb17⟩
 replace hM := hM.call hb17
 refine ⟨_, rfl, (hM.sub (.cons _ (.cons _ (.cons_cons _ (.cons_cons _ (List.nil_sublist _)))))), ?_⟩
 intro a hA
 refine any_tk (v := .bool true) hA 17 rfl rfl rfl rfl hP (hM.sub (.cons _ (.cons _ (.cons_cons _ (.cons_cons _ (List.nil_sublist _)))))) (fun w1 hM => does_pick rfl rfl rfl rfl) ?_
 intro a hA
 refine any_tk hA 18 rfl rfl rfl rfl hP (hM.sub (.cons _ (.cons _ (.cons_cons _ (.cons_cons _ (List.nil_sublist _)))))) (fun w1 hM => does_move rfl) ?_
 intro a hA
 refine any_tk (v := .pointer (some ⟨g2, 1, none⟩)) hA 19 rfl rfl rfl rfl hP (hM.sub (.cons _ (.cons _ (.cons_cons _ (.cons_cons _ (List.nil_sublist _)))))) (fun w1 hM => does_field EnE_fld_25_1 rfl rfl) ?_
 intro a hA
 refine any_tk hA 20 rfl rfl rfl rfl hP (hM.sub (.cons _ (.cons _ (.cons_cons _ (.cons_cons _ (List.nil_sublist _)))))) (fun w1 hM => m_load1 hM EnE_is1_23 rfl 1 rfl rfl) ?_
 intro a hA
 refine any_tk (v := .int .i64 (((bs.length : Nat) : Int))) hA 21 rfl rfl rfl rfl hP (hM.sub (.cons _ (.cons _ (.cons_cons _ (.cons_cons _ (List.nil_sublist _)))))) (fun w1 hM => does_len Try.underlying23 rfl) ?_
 intro a hA
 refine any_tk (v := .pointer (some ⟨g4, 1, none⟩)) hA 22 rfl rfl rfl rfl hP (hM.sub (.cons _ (.cons _ (.cons_cons _ (.cons_cons _ (List.nil_sublist _)))))) (fun w1 hM => does_field EnE_fld_25_1 rfl rfl) ?_
 intro a hA
 refine any_tk hA 23 rfl rfl rfl rfl hP (hM.sub (.cons _ (.cons _ (.cons_cons _ (.cons_cons _ (List.nil_sublist _)))))) (fun w1 hM => m_load1 hM EnE_is1_23 rfl 0 rfl rfl) ?_
 intro a hA
 refine any_tk (v := .int .i64 (((bs2.length : Nat) : Int))) hA 24 rfl rfl rfl rfl hP (hM.sub (.cons _ (.cons _ (.cons_cons _ (.cons_cons _ (List.nil_sublist _)))))) (fun w1 hM => does_len Try.underlying23 rfl) ?_
 intro a hA
 refine any_tk (v := .bool true) hA 25 rfl rfl rfl rfl hP (hM.sub (.cons _ (.cons _ (.cons_cons _ (.cons_cons _ (List.nil_sublist _)))))) (fun w1 hM => does_bin rfl rfl (fun w => (bin_eql w).trans (by rw [show ((((bs.length : Nat) : Int) == ((bs2.length : Nat) : Int))) = true from (by rw [hbl, hbl2]; exact beq_self_eq_true _)]))) ?_
 intro a hA
 refine any_tk (v := .bool true) hA 26 rfl rfl rfl rfl hP (hM.sub (.cons _ (.cons _ (.cons_cons _ (.cons_cons _ (List.nil_sublist _)))))) (fun w1 hM => does_pick rfl rfl rfl rfl) ?_
 intro a hA
 refine any_tk hA 27 rfl rfl rfl rfl hP (hM.sub (.cons _ (.cons _ (.cons_cons _ (.cons_cons _ (List.nil_sublist _)))))) (fun w1 hM => does_assign rfl) ?_
 intro a hA
 refine any_end (by kernel_rfl) ?_
 refine hK6 _ _ ?_
 refine wp_ret ?_
 refine hret _ _ ?_
 refine ends (v := .bool true) hA rfl (.cons (res_tmp rfl) .nil) rfl ?_
 exact ⟨rfl, hM.bel⟩
theorem awake_any {w : World} : Calls Try.prog 11 #[] w fun e w' => e = .returned (.bool true) ∧ Below w.heap.size w w' := by
 have hM : Mg w w ([]) := Mg.start w
 refine walk_of (l := []) Try.func11 rfl Try.ntmps11 rfl rfl ?_
 intro Q hret hnorm hP a hA
 refine wp_seq_k (fun K1 hK1 => ?_)
 refine wp_region_lit ?_
 refine seq_do hA rfl rfl rfl (does_assign rfl) ?_
 intro a hA
 refine seq_end ?_
 refine hK1 _ _ ?_
 refine wp_seq_k (fun K2 hK2 => ?_)
 refine wp_region_lit ?_
 refine s_litE (e := 9) (sz := 1) (m := 2) (vs := strC [⟨#[97]⟩, ⟨#[98]⟩]) hA hM rfl rfl rfl (does_buildSlice rfl (by kernel_rfl)) rfl rfl (.inl (by decide)) ?_
 intro g3 w4 hM a hA
 refine seq_call hA rfl rfl rfl (enters_func rfl rfl (fun w => by kernel_rfl)) (new_ok (l := [⟨#[97]⟩, ⟨#[98]⟩]) (rc_own (hM.has 0 rfl)) (by intro s hs; simp at hs; rcases hs with rfl | rfl <;> decide) (by decide) (by decide)) ?_
 rintro _ w10 ⟨so5, ca6, si7, ci8, rfl, hM9⟩
 replace hM : Mg w w10 (.row 9 1 (.slice so5 2 ca6) 2 (strC [⟨#[97]⟩, ⟨#[98]⟩]) :: .row 4 1 (.slice si7 2 ci8) 2 (boolC [true, true]) :: .row 9 1 (.slice (some ⟨g3, 0, none⟩) 2 2) 2 (strC [⟨#[97]⟩, ⟨#[98]⟩]) :: []) := (hM.both hM9 (noBld_cons (by simp) (noBld_quiet quietL_nil)) (noBld_cons (by simp) (noBld_cons (by simp) (noBld_quiet quietL_nil))))
 refine ⟨_, rfl, ?_⟩
 intro a hA
 refine seq_do hA rfl rfl rfl (does_move rfl) ?_
 intro a hA
 refine seq_do (v := .agg #[.slice so5 2 ca6, .slice si7 2 ci8]) hA rfl rfl rfl (does_extract (vs := [.agg #[.slice so5 2 ca6, .slice si7 2 ci8], .int .i64 0]) rfl rfl) ?_
 intro a hA
 refine seq_do (v := .int .i64 0) hA rfl rfl rfl (does_extract (vs := [.agg #[.slice so5 2 ca6, .slice si7 2 ci8], .int .i64 0]) rfl rfl) ?_
 intro a hA
 refine s_new (vs := [.slice none 0 0, .slice none 0 0]) (t := 25) hA hM rfl rfl rfl (fun g => .pointer (some ⟨g, 0, none⟩)) (does_alloc (z := .agg #[.slice none 0 0, .slice none 0 0]) (by kernel_rfl) rfl) (by decide) ?_
 intro g11 w12 hM a hA
 refine s_store (us := [.slice so5 2 ca6, .slice si7 2 ci8]) (L' := (.obj g11 (.cells #[.slice so5 2 ca6, .slice si7 2 ci8] 25) :: .row 9 1 (.slice so5 2 ca6) 2 (strC [⟨#[97]⟩, ⟨#[98]⟩]) :: .row 4 1 (.slice si7 2 ci8) 2 (boolC [true, true]) :: .row 9 1 (.slice (some ⟨g3, 0, none⟩) 2 2) 2 (strC [⟨#[97]⟩, ⟨#[98]⟩]) :: [])) hA hM rfl rfl (m_store rfl rfl rfl (by kernel_rfl) hM 0 rfl rfl rfl) 0 rfl rfl rfl ?_
 intro w13 hM
 refine seq_do hA rfl rfl rfl (does_assign rfl) ?_
 intro a hA
 refine seq_end ?_
 refine hK2 _ _ ?_
 refine wp_seq_k (fun K14 hK14 => ?_)
 refine wp_seq_k (fun K15 hK15 => ?_)
 refine wp_region_lit ?_
 refine seq_do hA rfl rfl rfl (does_move rfl) ?_
 intro a hA
 refine seq_do (v := .bool false) hA rfl rfl rfl (does_bin rfl rfl (fun w => by kernel_rfl)) ?_
 intro a hA
 refine seq_end ?_
 refine hK15 _ _ ?_
 refine wp_cond_false (hA.ev rfl) ?_
 refine wp_skip ?_
 refine hK14 _ _ ?_
 refine wp_seq_k (fun K16 hK16 => ?_)
 refine wp_region_lit ?_
 refine seq_do hA rfl rfl rfl (m_loadS hM EnE_isS_25 rfl 0 rfl (cs := [.slice so5 2 ca6, .slice si7 2 ci8]) rfl rfl) ?_
 intro a hA
 refine seq_call hA rfl rfl rfl (enters_func rfl rfl (fun w => by kernel_rfl)) (list_ok (l := [⟨#[97]⟩, ⟨#[98]⟩]) (bs := [true, true]) (rc_own (hM.has 1 rfl)) (rc_own (hM.has 2 rfl)) (by intro s hs; simp at hs; rcases hs with rfl | rfl <;> decide) (by decide)) ?_
 rintro _ w22 ⟨so17, ca18, rfl, hM19⟩
 rw [show memS [⟨#[97]⟩, ⟨#[98]⟩] [true, true] = [⟨#[97]⟩, ⟨#[98]⟩] from by decide] at hM19 ⊢
 obtain ⟨g20, c21, e9⟩ := row_open (hM19.has 0 rfl) (by decide)
 obtain ⟨rfl, -, rfl⟩ := (by simpa using e9 : so17 = some ⟨g20, 0, none⟩ ∧ True ∧ ca18 = c21)
 replace hM : Mg w w22 (.row 9 1 (.slice (some ⟨g20, 0, none⟩) 2 ca18) 2 (strC [⟨#[97]⟩, ⟨#[98]⟩]) :: .obj g11 (.cells #[.slice so5 2 ca6, .slice si7 2 ci8] 25) :: .row 9 1 (.slice so5 2 ca6) 2 (strC [⟨#[97]⟩, ⟨#[98]⟩]) :: .row 4 1 (.slice si7 2 ci8) 2 (boolC [true, true]) :: .row 9 1 (.slice (some ⟨g3, 0, none⟩) 2 2) 2 (strC [⟨#[97]⟩, ⟨#[98]⟩]) :: []) := (hM.both hM19 (noBld_cons (by simp) (noBld_cons (by simp) (noBld_cons (by simp) (noBld_cons (by simp) (noBld_quiet quietL_nil))))) (noBld_cons (by simp) (noBld_quiet quietL_nil)))
 refine ⟨_, rfl, ?_⟩
 intro a hA
 refine seq_do hA rfl rfl rfl (does_move rfl) ?_
 intro a hA
 refine seq_do (v := .slice (some ⟨g20, 0, none⟩) 2 ca18) hA rfl rfl rfl (does_extract (vs := [.slice (some ⟨g20, 0, none⟩) 2 ca18, .int .i64 0]) rfl rfl) ?_
 intro a hA
 refine seq_do (v := .int .i64 0) hA rfl rfl rfl (does_extract (vs := [.slice (some ⟨g20, 0, none⟩) 2 ca18, .int .i64 0]) rfl rfl) ?_
 intro a hA
 refine seq_do hA rfl rfl rfl (does_assign rfl) ?_
 intro a hA
 refine seq_do hA rfl rfl rfl (does_assign rfl) ?_
 intro a hA
 refine seq_end ?_
 refine hK16 _ _ ?_
 refine wp_seq_k (fun K23 hK23 => ?_)
 refine wp_region_lit ?_
 refine seq_do hA rfl rfl rfl (does_move rfl) ?_
 intro a hA
 refine seq_do (v := .bool true) hA rfl rfl rfl (does_bin rfl rfl (fun w => by kernel_rfl)) ?_
 intro a hA
 refine seq_do hA rfl rfl rfl (does_move rfl) ?_
 intro a hA
 refine seq_do hA rfl rfl rfl (does_move rfl) ?_
 intro a hA
 refine seq_do (v := .int .i64 2) hA rfl rfl rfl (does_len Try.underlying22 rfl) ?_
 intro a hA
 refine seq_do (v := .bool true) hA rfl rfl rfl (does_bin rfl rfl (fun w => by kernel_rfl)) ?_
 intro a hA
 refine seq_do (v := .bool true) hA rfl rfl rfl (does_pick rfl rfl rfl rfl) ?_
 intro a hA
 refine seq_do hA rfl rfl rfl (does_move rfl) ?_
 intro a hA
 refine seq_do hA rfl rfl rfl (does_move rfl) ?_
 intro a hA
 refine seq_do (v := .pointer (some ⟨g20, 1 * 1, none⟩)) hA rfl rfl rfl (does_indexE (k := 1) Try.underlying22 (by kernel_rfl) rfl rfl (by first | rfl | omega) (by first | omega | decide)) ?_
 intro a hA
 refine seq_do hA rfl rfl rfl (m_loadE hM 0 rfl (show (strC [⟨#[97]⟩, ⟨#[98]⟩])[1 * 1]? = some (.string ⟨#[98]⟩) from rfl) EnE_is1_9 rfl) ?_
 intro a hA
 refine seq_do (v := .bool true) hA rfl rfl rfl (does_bin rfl rfl (fun w => by kernel_rfl)) ?_
 intro a hA
 refine seq_do (v := .bool true) hA rfl rfl rfl (does_pick rfl rfl rfl rfl) ?_
 intro a hA
 refine seq_do hA rfl rfl rfl (does_assign rfl) ?_
 intro a hA
 refine seq_end ?_
 refine hK23 _ _ ?_
 refine wp_ret ?_
 refine hret _ _ ?_
 refine ends (v := .bool true) hA rfl (.cons (res_tmp rfl) .nil) rfl ?_
 exact ⟨rfl, hM.bel⟩
end Go.Proofs.Ytbdhfooeanbnlaa
