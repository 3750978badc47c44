/- Walks of small numbers and of sameness. Walks of whole numbers of any sign. Walks of numbers over one bottom. Walks of sums, differences, products and quotients. Walks of Add, Sub, Mul, Div. -/
import Derived.Test.YthlkbnhbmfmchaaGreatPexacts9a
namespace Go.Proofs.YthlkbnhbmfmchaaGreat
open Go.RowKit
set_option linter.unusedVariables false
set_option linter.unusedSimpArgs false
set_option maxRecDepth 100000
theorem BiS_is1_22 : Is1 Tryz.prog 22 := ⟨⟨_, Tryz.underlying22, rfl⟩, by kernel_rfl⟩
theorem BiS_is1_4 : Is1 Tryz.prog 4 := ⟨⟨_, Tryz.underlying4, rfl⟩, by kernel_rfl⟩
theorem BiS_fld_24_0 : FieldAt Tryz.prog 24 0 0 := ⟨_, _, Tryz.underlying24, rfl, rfl, by kernel_rfl⟩
theorem BiS_fld_24_1 : FieldAt Tryz.prog 24 1 1 := ⟨_, _, Tryz.underlying24, rfl, rfl, by kernel_rfl⟩
theorem BiS_fld_24_2 : FieldAt Tryz.prog 24 2 2 := ⟨_, _, Tryz.underlying24, rfl, rfl, by kernel_rfl⟩
theorem BiS_fld_26_0 : FieldAt Tryz.prog 26 0 0 := ⟨_, _, Tryz.underlying26, rfl, rfl, by kernel_rfl⟩
theorem BiS_fld_26_1 : FieldAt Tryz.prog 26 1 3 := ⟨_, _, Tryz.underlying26, rfl, rfl, by kernel_rfl⟩
theorem BiS_isS_24 : IsS Tryz.prog 24 3 := ⟨⟨_, Tryz.underlying24⟩, by kernel_rfl⟩
theorem BiS_isS_26 : IsS Tryz.prog 26 6 := ⟨⟨_, Tryz.underlying26⟩, by kernel_rfl⟩
theorem intP_any {w : World} {k : Nat} (hk : k ≤ 9223372036854775807) : Calls Tryz.prog 24 #[.int .i64 (((k : Nat) : Int))] w (AnsV w (Q6.whole false k)) := by
 have hS : St w w [] [] [] := St.start w
 refine walk_of (l := [(0, .int .i64 (((k : Nat) : Int)))]) Tryz.func24 rfl Tryz.ntmps24 rfl rfl ?_
 intro Q hret hnorm hP a hA
 refine wp_seq_k (fun K1 hK1 => ?_)
 refine wp_region_lit ?_
 refine seq_new (vs := [.bool false, .slice none 0 0, .slice none 0 0, .bool false, .slice none 0 0, .slice none 0 0]) (t := 26) hA hS rfl rfl rfl (fun g => .pointer (some ⟨g, 0, none⟩)) (d_alloc (z := .agg #[.bool false, .slice none 0 0, .slice none 0 0, .bool false, .slice none 0 0, .slice none 0 0]) (by kernel_rfl) rfl) rfl ?_
 intro g2 w3 hS a hA
 refine seq_end ?_
 refine hK1 _ _ ?_
 refine wp_seq_k (fun K4 hK4 => ?_)
 refine wp_region_lit ?_
 refine seq_do hA rfl rfl rfl (d_move rfl) ?_
 intro a hA
 refine seq_do (v := .int .u64 (((k : Nat) : Int))) hA rfl rfl rfl (d_convert rfl (conv_up Tryz.underlying3 Tryz.underlying61 hk)) ?_
 intro a hA
 refine seq_do hA rfl rfl rfl (d_assign rfl) ?_
 intro a hA
 refine seq_end ?_
 refine hK4 _ _ ?_
 refine wp_seq_k (fun K5 hK5 => ?_)
 refine wp_seq_k (fun K6 hK6 => ?_)
 refine wp_region_lit ?_
 refine seq_do hA rfl rfl rfl (d_move rfl) ?_
 intro a hA
 refine seq_do (v := .bool false) hA rfl rfl rfl (d_bin rfl rfl (fun w => (bin_lss w).trans (by rw [show (decide (((k : Nat) : Int) < 0)) = false from decide_eq_false (by omega)]))) ?_
 intro a hA
 refine seq_end ?_
 refine hK6 _ _ ?_
 refine wp_cond_false (hA.ev rfl) ?_
 refine wp_skip ?_
 refine hK5 _ _ ?_
 refine wp_seq_k (fun K7 hK7 => ?_)
 refine wp_region_lit ?_
 refine seq_do hA rfl rfl rfl (d_move rfl) ?_
 intro a hA
 refine seq_do (v := .bool false) hA rfl rfl rfl (d_bin rfl rfl (fun w => (bin_lss w).trans (by rw [show (decide (((k : Nat) : Int) < 0)) = false from decide_eq_false (by omega)]))) ?_
 intro a hA
 refine seq_do hA rfl rfl rfl (d_move rfl) ?_
 intro a hA
 refine seq_call hA rfl rfl rfl (enters_func  rfl rfl (fun w => by kernel_rfl)) (of_any k _ (by omega)) ?_
 rintro _ w12 ⟨ro8, rc9, rfl, ho10, hb11⟩
 replace hS := hS.call hb11
 replace hS := hS.addR ho10.rd
 refine ⟨_, rfl, ?_⟩
 intro a hA
 refine seq_call hA rfl rfl rfl (enters_func  rfl rfl (fun w => by kernel_rfl)) (of_one _) ?_
 rintro _ w17 ⟨ro13, rc14, rfl, ho15, hb16⟩
 replace hS := hS.call hb16
 replace hS := hS.addR ho15.rd
 refine ⟨_, rfl, ?_⟩
 intro a hA
 refine seq_do (v := .agg #[.bool false, .slice ro8 ((words k).length) rc9, .slice ro13 1 rc14]) hA rfl rfl rfl (d_build rfl (fun w => by kernel_rfl)) ?_
 intro a hA
 refine seq_call hA rfl rfl rfl (enters_func  rfl rfl (fun w => by kernel_rfl)) (of_one _) ?_
 rintro _ w22 ⟨ro18, rc19, rfl, ho20, hb21⟩
 replace hS := hS.call hb21
 replace hS := hS.addR ho20.rd
 refine ⟨_, rfl, ?_⟩
 intro a hA
 refine seq_do (v := .agg #[.bool false, .slice none 0 0, .slice ro18 1 rc19]) hA rfl rfl rfl (d_build rfl (fun w => by kernel_rfl)) ?_
 intro a hA
 refine seq_do (v := .agg #[.bool false, .slice ro8 ((words k).length) rc9, .slice ro13 1 rc14, .bool false, .slice none 0 0, .slice ro18 1 rc19]) hA rfl rfl rfl (d_build rfl (fun w => by kernel_rfl)) ?_
 intro a hA
 refine seq_store (us := [.bool false, .slice ro8 ((words k).length) rc9, .slice ro13 1 rc14, .bool false, .slice none 0 0, .slice ro18 1 rc19]) hA hS rfl rfl (sets_store (cs := [.bool false, .slice ro8 ((words k).length) rc9, .slice ro13 1 rc14, .bool false, .slice none 0 0, .slice ro18 1 rc19]) rfl rfl rfl (by kernel_rfl) hS 0 rfl rfl rfl) 0 rfl rfl rfl rfl ?_
 intro w23 hS
 refine seq_end ?_
 refine hK7 _ _ ?_
 refine wp_ret ?_
 refine hret _ _ ?_
 refine ends (v := .agg #[.bool false, .slice ro8 ((words k).length) rc9, .slice ro13 1 rc14, .bool false, .slice none 0 0, .slice ro18 1 rc19]) hA rfl (.cons (res_cell hS BiS_isS_26 rfl 0 rfl (cs := [.bool false, .slice ro8 ((words k).length) rc9, .slice ro13 1 rc14, .bool false, .slice none 0 0, .slice ro18 1 rc19]) rfl rfl) .nil) rfl ?_
 exact ⟨ro8, rc9, ro13, rc14, none, 0, ro18, rc19, rfl, ⟨⟨(hS.rd 2 rfl), ho10.nocap, ho10.caps⟩, ⟨(hS.rd 1 rfl), ho15.nocap, ho15.caps⟩, (Sc.none _), ⟨(hS.rd 0 rfl), ho20.nocap, ho20.caps⟩⟩, hS.bel⟩
theorem intN_any {w : World} {k : Nat} (h0 : 0 < k) (hk : k ≤ 9223372036854775808) : Calls Tryz.prog 24 #[.int .i64 (-((k : Nat) : Int))] w (AnsV w (Q6.whole true k)) := by
 have hS : St w w [] [] [] := St.start w
 refine walk_of (l := [(0, .int .i64 (-((k : Nat) : Int)))]) Tryz.func24 rfl Tryz.ntmps24 rfl rfl ?_
 intro Q hret hnorm hP a hA
 refine wp_seq_k (fun K1 hK1 => ?_)
 refine wp_region_lit ?_
 refine seq_new (vs := [.bool false, .slice none 0 0, .slice none 0 0, .bool false, .slice none 0 0, .slice none 0 0]) (t := 26) hA hS rfl rfl rfl (fun g => .pointer (some ⟨g, 0, none⟩)) (d_alloc (z := .agg #[.bool false, .slice none 0 0, .slice none 0 0, .bool false, .slice none 0 0, .slice none 0 0]) (by kernel_rfl) rfl) rfl ?_
 intro g2 w3 hS a hA
 refine seq_end ?_
 refine hK1 _ _ ?_
 refine wp_seq_k (fun K4 hK4 => ?_)
 refine wp_region_lit ?_
 refine seq_do hA rfl rfl rfl (d_move rfl) ?_
 intro a hA
 refine seq_do (v := .int .u64 (((18446744073709551616 - k : Nat) : Int))) hA rfl rfl rfl (d_convert rfl (conv_neg Tryz.underlying3 Tryz.underlying61 h0 hk)) ?_
 intro a hA
 refine seq_do hA rfl rfl rfl (d_assign rfl) ?_
 intro a hA
 refine seq_end ?_
 refine hK4 _ _ ?_
 refine wp_seq_k (fun K5 hK5 => ?_)
 refine wp_seq_k (fun K6 hK6 => ?_)
 refine wp_region_lit ?_
 refine seq_do hA rfl rfl rfl (d_move rfl) ?_
 intro a hA
 refine seq_do (v := .bool true) hA rfl rfl rfl (d_bin rfl rfl (fun w => (bin_lss w).trans (by rw [show (decide (-((k : Nat) : Int) < 0)) = true from decide_eq_true (by omega)]))) ?_
 intro a hA
 refine seq_end ?_
 refine hK6 _ _ ?_
 refine wp_cond_true (hA.ev rfl) ?_
 refine wp_region_lit ?_
 refine seq_do hA rfl rfl rfl (d_move rfl) ?_
 intro a hA
 refine seq_do (v := .int .u64 (((k : Nat) : Int))) hA rfl rfl rfl (d_un rfl (un_negU h0 hk)) ?_
 intro a hA
 refine seq_do hA rfl rfl rfl (d_assign rfl) ?_
 intro a hA
 refine seq_end ?_
 refine hK5 _ _ ?_
 refine wp_seq_k (fun K7 hK7 => ?_)
 refine wp_region_lit ?_
 refine seq_do hA rfl rfl rfl (d_move rfl) ?_
 intro a hA
 refine seq_do (v := .bool true) hA rfl rfl rfl (d_bin rfl rfl (fun w => (bin_lss w).trans (by rw [show (decide (-((k : Nat) : Int) < 0)) = true from decide_eq_true (by omega)]))) ?_
 intro a hA
 refine seq_do hA rfl rfl rfl (d_move rfl) ?_
 intro a hA
 refine seq_call hA rfl rfl rfl (enters_func  rfl rfl (fun w => by kernel_rfl)) (of_any k _ (by omega)) ?_
 rintro _ w12 ⟨ro8, rc9, rfl, ho10, hb11⟩
 replace hS := hS.call hb11
 replace hS := hS.addR ho10.rd
 refine ⟨_, rfl, ?_⟩
 intro a hA
 refine seq_call hA rfl rfl rfl (enters_func  rfl rfl (fun w => by kernel_rfl)) (of_one _) ?_
 rintro _ w17 ⟨ro13, rc14, rfl, ho15, hb16⟩
 replace hS := hS.call hb16
 replace hS := hS.addR ho15.rd
 refine ⟨_, rfl, ?_⟩
 intro a hA
 refine seq_do (v := .agg #[.bool true, .slice ro8 ((words k).length) rc9, .slice ro13 1 rc14]) hA rfl rfl rfl (d_build rfl (fun w => by kernel_rfl)) ?_
 intro a hA
 refine seq_call hA rfl rfl rfl (enters_func  rfl rfl (fun w => by kernel_rfl)) (of_one _) ?_
 rintro _ w22 ⟨ro18, rc19, rfl, ho20, hb21⟩
 replace hS := hS.call hb21
 replace hS := hS.addR ho20.rd
 refine ⟨_, rfl, ?_⟩
 intro a hA
 refine seq_do (v := .agg #[.bool false, .slice none 0 0, .slice ro18 1 rc19]) hA rfl rfl rfl (d_build rfl (fun w => by kernel_rfl)) ?_
 intro a hA
 refine seq_do (v := .agg #[.bool true, .slice ro8 ((words k).length) rc9, .slice ro13 1 rc14, .bool false, .slice none 0 0, .slice ro18 1 rc19]) hA rfl rfl rfl (d_build rfl (fun w => by kernel_rfl)) ?_
 intro a hA
 refine seq_store (us := [.bool true, .slice ro8 ((words k).length) rc9, .slice ro13 1 rc14, .bool false, .slice none 0 0, .slice ro18 1 rc19]) hA hS rfl rfl (sets_store (cs := [.bool true, .slice ro8 ((words k).length) rc9, .slice ro13 1 rc14, .bool false, .slice none 0 0, .slice ro18 1 rc19]) rfl rfl rfl (by kernel_rfl) hS 0 rfl rfl rfl) 0 rfl rfl rfl rfl ?_
 intro w23 hS
 refine seq_end ?_
 refine hK7 _ _ ?_
 refine wp_ret ?_
 refine hret _ _ ?_
 refine ends (v := .agg #[.bool true, .slice ro8 ((words k).length) rc9, .slice ro13 1 rc14, .bool false, .slice none 0 0, .slice ro18 1 rc19]) hA rfl (.cons (res_cell hS BiS_isS_26 rfl 0 rfl (cs := [.bool true, .slice ro8 ((words k).length) rc9, .slice ro13 1 rc14, .bool false, .slice none 0 0, .slice ro18 1 rc19]) rfl rfl) .nil) rfl ?_
 exact ⟨ro8, rc9, ro13, rc14, none, 0, ro18, rc19, rfl, ⟨⟨(hS.rd 2 rfl), ho10.nocap, ho10.caps⟩, ⟨(hS.rd 1 rfl), ho15.nocap, ho15.caps⟩, (Sc.none _), ⟨(hS.rd 0 rfl), ho20.nocap, ho20.caps⟩⟩, hS.bel⟩
theorem intQ_any {w : World} {n : Int} (h0 : -9223372036854775808 ≤ n) (h1 : n ≤ 9223372036854775807) : Calls Tryz.prog 24 #[.int .i64 n] w (AnsV w (intQ n)) := by
  by_cases h : n < 0
  · obtain ⟨k, hk⟩ := Int.eq_ofNat_of_zero_le (show 0 ≤ -n by omega)
    have e : n = -((k : Nat) : Int) := by omega
    subst e
    have := intN_any (w := w) (k := k) (by omega) (by omega)
    unfold intQ
    rw [decide_eq_true h, show (-((k : Nat) : Int)).natAbs = k from by omega]
    exact this
  · obtain ⟨k, hk⟩ := Int.eq_ofNat_of_zero_le (show 0 ≤ n by omega)
    subst hk
    have := intP_any (w := w) (k := k) (by omega)
    unfold intQ
    rw [decide_eq_false h, Int.natAbs_natCast]
    exact this
theorem sameFr_any {w : World} {b b' : Bool} {t q t' q' : List Nat} {a1 a2 : Option Addr} {ac1 ac2 : Nat} (ha1 : Sc w a1 ac1 t) (ha2 : Sc w a2 ac2 q) {u1 u2 : Option Addr} {uc1 uc2 : Nat} (hu1 : Sc w u1 uc1 t') (hu2 : Sc w u2 uc2 q') (l1 : t.length ≤ 9223372036854775807) (l2 : q.length ≤ 9223372036854775807) (l3 : t'.length ≤ 9223372036854775807) (l4 : q'.length ≤ 9223372036854775807) {r : Bool} (hr : sameF b t q b' t' q' = r) :
    Calls Tryz.prog 56 #[.agg #[.bool b, .slice a1 t.length ac1, .slice a2 q.length ac2], .agg #[.bool b', .slice u1 t'.length uc1, .slice u2 q'.length uc2]] w fun e w' => e = .returned (.bool r) ∧ Below w.heap.size w w' := by
 have hS : St w w [] [(u2, q'), (u1, t'), (a2, q), (a1, t)] [] := ((((St.start w).addR ha1.rd).addR ha2.rd).addR hu1.rd).addR hu2.rd
 refine walk_of (l := [(0, .agg #[.bool b, .slice a1 t.length ac1, .slice a2 q.length ac2]), (1, .agg #[.bool b', .slice u1 t'.length uc1, .slice u2 q'.length uc2])]) Tryz.func56 rfl Tryz.ntmps56 rfl rfl ?_
 intro Q hret hnorm hP a hA
 refine wp_seq_k (fun K1 hK1 => ?_)
 refine wp_region_lit ?_
 refine seq_new (vs := [.bool b, .slice a1 t.length ac1, .slice a2 q.length ac2]) (t := 24) hA hS rfl rfl rfl (fun g => .pointer (some ⟨g, 0, none⟩)) (d_box rfl rfl) rfl ?_
 intro g2 w3 hS a hA
 refine seq_new (vs := [.bool b', .slice u1 t'.length uc1, .slice u2 q'.length uc2]) (t := 24) hA hS rfl rfl rfl (fun g => .pointer (some ⟨g, 0, none⟩)) (d_box rfl rfl) rfl ?_
 intro g4 w5 hS a hA
 refine seq_do hA rfl rfl rfl (d_assign rfl) ?_
 intro a hA
 refine seq_end ?_
 refine hK1 _ _ ?_
 refine wp_seq_k (fun K6 hK6 => ?_)
 refine wp_region_lit ?_
 refine seq_do (v := .pointer (some ⟨g2, 0, none⟩)) hA rfl rfl rfl (d_field BiS_fld_24_0 rfl rfl) ?_
 intro a hA
 refine seq_do hA rfl rfl rfl (d_load1 hS BiS_is1_4 rfl 1 rfl rfl) ?_
 intro a hA
 refine seq_do (v := .pointer (some ⟨g4, 0, none⟩)) hA rfl rfl rfl (d_field BiS_fld_24_0 rfl rfl) ?_
 intro a hA
 refine seq_do hA rfl rfl rfl (d_load1 hS BiS_is1_4 rfl 0 rfl rfl) ?_
 intro a hA
 rcases Bool.eq_false_or_eq_true ((b == b')) with hb7 | hb7
 · have hb7' := eq_of_beq hb7
   refine seq_do (v := .bool true) hA rfl rfl rfl (d_bin rfl rfl (fun w => ((bin_eqlB Tryz.underlying4) w).trans (by rw [hb7]))) ?_
   intro a hA
   refine seq_do hA rfl rfl rfl (d_move rfl) ?_
   intro a hA
   refine seq_do (v := .pointer (some ⟨g2, 1, none⟩)) hA rfl rfl rfl (d_field BiS_fld_24_1 rfl rfl) ?_
   intro a hA
   refine seq_do hA rfl rfl rfl (d_load1 hS BiS_is1_22 rfl 1 rfl rfl) ?_
   intro a hA
   refine seq_do (v := .pointer (some ⟨g4, 1, none⟩)) hA rfl rfl rfl (d_field BiS_fld_24_1 rfl rfl) ?_
   intro a hA
   refine seq_do hA rfl rfl rfl (d_load1 hS BiS_is1_22 rfl 0 rfl rfl) ?_
   intro a hA
   rcases Bool.eq_false_or_eq_true (decide (t = t')) with hb8 | hb8
   · have hb8' := of_decide_eq_true hb8
     refine seq_call hA rfl rfl rfl (enters_func  rfl rfl (fun w => by kernel_rfl)) (equalB_any _ _ (hS.rd 3 rfl) (hS.rd 1 rfl) l1 l3 hb8) ?_
     rintro _ w10 ⟨rfl, hb9⟩
     replace hS := hS.call hb9
     refine ⟨_, rfl, ?_⟩
     intro a hA
     refine seq_do (v := .bool true) hA rfl rfl rfl (d_pick rfl rfl rfl rfl) ?_
     intro a hA
     refine seq_do hA rfl rfl rfl (d_move rfl) ?_
     intro a hA
     refine seq_do (v := .pointer (some ⟨g2, 2, none⟩)) hA rfl rfl rfl (d_field BiS_fld_24_2 rfl rfl) ?_
     intro a hA
     refine seq_do hA rfl rfl rfl (d_load1 hS BiS_is1_22 rfl 1 rfl rfl) ?_
     intro a hA
     refine seq_do (v := .pointer (some ⟨g4, 2, none⟩)) hA rfl rfl rfl (d_field BiS_fld_24_2 rfl rfl) ?_
     intro a hA
     refine seq_do hA rfl rfl rfl (d_load1 hS BiS_is1_22 rfl 0 rfl rfl) ?_
     intro a hA
     rcases Bool.eq_false_or_eq_true (decide (q = q')) with hb11 | hb11
     · have hb11' := of_decide_eq_true hb11
       refine seq_call hA rfl rfl rfl (enters_func  rfl rfl (fun w => by kernel_rfl)) (equalB_any _ _ (hS.rd 2 rfl) (hS.rd 0 rfl) l2 l4 hb11) ?_
       rintro _ w13 ⟨rfl, hb12⟩
       replace hS := hS.call hb12
       refine ⟨_, rfl, ?_⟩
       intro a hA
       refine seq_do (v := .bool true) hA rfl rfl rfl (d_pick rfl rfl rfl rfl) ?_
       intro a hA
       refine seq_do hA rfl rfl rfl (d_assign rfl) ?_
       intro a hA
       refine seq_end ?_
       refine hK6 _ _ ?_
       refine wp_ret ?_
       refine hret _ _ ?_
       refine ends (v := .bool true) hA rfl (.cons (res_tmp rfl) .nil) rfl ?_
       subst hr
       exact ⟨by unfold sameF; rw [hb7, hb8, hb11]; try rfl, hS.bel⟩
     · have hb11' := of_decide_eq_false hb11
       refine seq_call hA rfl rfl rfl (enters_func  rfl rfl (fun w => by kernel_rfl)) (equalB_any _ _ (hS.rd 2 rfl) (hS.rd 0 rfl) l2 l4 hb11) ?_
       rintro _ w15 ⟨rfl, hb14⟩
       replace hS := hS.call hb14
       refine ⟨_, rfl, ?_⟩
       intro a hA
       refine seq_do (v := .bool false) hA rfl rfl rfl (d_pick rfl rfl rfl rfl) ?_
       intro a hA
       refine seq_do hA rfl rfl rfl (d_assign rfl) ?_
       intro a hA
       refine seq_end ?_
       refine hK6 _ _ ?_
       refine wp_ret ?_
       refine hret _ _ ?_
       refine ends (v := .bool false) hA rfl (.cons (res_tmp rfl) .nil) rfl ?_
       subst hr
       exact ⟨by unfold sameF; rw [hb7, hb8, hb11]; try rfl, hS.bel⟩
   · have hb8' := of_decide_eq_false hb8
     refine seq_call hA rfl rfl rfl (enters_func  rfl rfl (fun w => by kernel_rfl)) (equalB_any _ _ (hS.rd 3 rfl) (hS.rd 1 rfl) l1 l3 hb8) ?_
     rintro _ w17 ⟨rfl, hb16⟩
     replace hS := hS.call hb16
     refine ⟨_, rfl, ?_⟩
     intro a hA
     refine seq_do (v := .bool false) hA rfl rfl rfl (d_pick rfl rfl rfl rfl) ?_
     intro a hA
     refine seq_do hA rfl rfl rfl (d_move rfl) ?_
     intro a hA
     refine seq_skip hA rfl rfl rfl ?_
     intro a hA
     refine seq_skip hA rfl rfl rfl ?_
     intro a hA
     refine seq_skip hA rfl rfl rfl ?_
     intro a hA
     refine seq_skip hA rfl rfl rfl ?_
     intro a hA
     refine seq_skip hA rfl rfl rfl ?_
     intro a hA
     refine seq_do (v := .bool false) hA rfl rfl rfl (d_pick rfl rfl rfl rfl) ?_
     intro a hA
     refine seq_do hA rfl rfl rfl (d_assign rfl) ?_
     intro a hA
     refine seq_end ?_
     refine hK6 _ _ ?_
     refine wp_ret ?_
     refine hret _ _ ?_
     refine ends (v := .bool false) hA rfl (.cons (res_tmp rfl) .nil) rfl ?_
     subst hr
     exact ⟨by unfold sameF; rw [hb7, hb8]; try rfl, hS.bel⟩
 · have hb7' := ne_of_beq_false hb7
   refine seq_do (v := .bool false) hA rfl rfl rfl (d_bin rfl rfl (fun w => ((bin_eqlB Tryz.underlying4) w).trans (by rw [hb7]))) ?_
   intro a hA
   refine seq_do hA rfl rfl rfl (d_move rfl) ?_
   intro a hA
   refine seq_skip hA rfl rfl rfl ?_
   intro a hA
   refine seq_skip hA rfl rfl rfl ?_
   intro a hA
   refine seq_skip hA rfl rfl rfl ?_
   intro a hA
   refine seq_skip hA rfl rfl rfl ?_
   intro a hA
   refine seq_skip hA rfl rfl rfl ?_
   intro a hA
   refine seq_do (v := .bool false) hA rfl rfl rfl (d_pick rfl rfl rfl rfl) ?_
   intro a hA
   refine seq_do hA rfl rfl rfl (d_move rfl) ?_
   intro a hA
   refine seq_skip hA rfl rfl rfl ?_
   intro a hA
   refine seq_skip hA rfl rfl rfl ?_
   intro a hA
   refine seq_skip hA rfl rfl rfl ?_
   intro a hA
   refine seq_skip hA rfl rfl rfl ?_
   intro a hA
   refine seq_skip hA rfl rfl rfl ?_
   intro a hA
   refine seq_do (v := .bool false) hA rfl rfl rfl (d_pick rfl rfl rfl rfl) ?_
   intro a hA
   refine seq_do hA rfl rfl rfl (d_assign rfl) ?_
   intro a hA
   refine seq_end ?_
   refine hK6 _ _ ?_
   refine wp_ret ?_
   refine hret _ _ ?_
   refine ends (v := .bool false) hA rfl (.cons (res_tmp rfl) .nil) rfl ?_
   subst hr
   exact ⟨by unfold sameF; rw [hb7]; try rfl, hS.bel⟩
theorem sameQ_any {w : World} {p q : Q6} {a1 a2 a3 a4 : Option Addr} {ac1 ac2 ac3 ac4 : Nat} (ha : Nm w p a1 ac1 a2 ac2 a3 ac3 a4 ac4) (hl : LenQ p) {u1 u2 u3 u4 : Option Addr} {uc1 uc2 uc3 uc4 : Nat} (hu : Nm w q u1 uc1 u2 uc2 u3 uc3 u4 uc4) (hm : LenQ q) {r : Bool} (hr : sameQ p q = r) : Calls Tryz.prog 18 #[numV p a1 ac1 a2 ac2 a3 ac3 a4 ac4, numV q u1 uc1 u2 uc2 u3 uc3 u4 uc4] w fun e w' => e = .returned (.bool r) ∧ Below w.heap.size w w' := by
 have hS : St w w [] [(u4, q.q2), (u3, q.t2), (u2, q.q1), (u1, q.t1), (a4, p.q2), (a3, p.t2), (a2, p.q1), (a1, p.t1)] [] := ((((((((St.start w).addR ha.s1.rd).addR ha.s2.rd).addR ha.s3.rd).addR ha.s4.rd).addR hu.s1.rd).addR hu.s2.rd).addR hu.s3.rd).addR hu.s4.rd
 refine walk_of (l := [(0, .agg #[.bool p.b1, .slice a1 p.t1.length ac1, .slice a2 p.q1.length ac2, .bool p.b2, .slice a3 p.t2.length ac3, .slice a4 p.q2.length ac4]), (1, .agg #[.bool q.b1, .slice u1 q.t1.length uc1, .slice u2 q.q1.length uc2, .bool q.b2, .slice u3 q.t2.length uc3, .slice u4 q.q2.length uc4])]) Tryz.func18 rfl Tryz.ntmps18 rfl rfl ?_
 intro Q hret hnorm hP a hA
 refine wp_seq_k (fun K1 hK1 => ?_)
 refine wp_region_lit ?_
 refine seq_new (vs := [.bool p.b1, .slice a1 p.t1.length ac1, .slice a2 p.q1.length ac2, .bool p.b2, .slice a3 p.t2.length ac3, .slice a4 p.q2.length ac4]) (t := 26) hA hS rfl rfl rfl (fun g => .pointer (some ⟨g, 0, none⟩)) (d_box rfl rfl) rfl ?_
 intro g2 w3 hS a hA
 refine seq_new (vs := [.bool q.b1, .slice u1 q.t1.length uc1, .slice u2 q.q1.length uc2, .bool q.b2, .slice u3 q.t2.length uc3, .slice u4 q.q2.length uc4]) (t := 26) hA hS rfl rfl rfl (fun g => .pointer (some ⟨g, 0, none⟩)) (d_box rfl rfl) rfl ?_
 intro g4 w5 hS a hA
 refine seq_do hA rfl rfl rfl (d_assign rfl) ?_
 intro a hA
 refine seq_end ?_
 refine hK1 _ _ ?_
 refine wp_seq_k (fun K6 hK6 => ?_)
 refine wp_region_lit ?_
 refine seq_do hA rfl rfl rfl (d_loadS hS BiS_isS_26 rfl 1 rfl (cs := [.bool p.b1, .slice a1 p.t1.length ac1, .slice a2 p.q1.length ac2, .bool p.b2, .slice a3 p.t2.length ac3, .slice a4 p.q2.length ac4]) rfl rfl) ?_
 intro a hA
 rcases Bool.eq_false_or_eq_true (soundQ p) with hb7 | hb7
 · refine seq_call hA rfl rfl rfl (enters_func  rfl rfl (fun w => by kernel_rfl)) (soundQ_any (show Nm _ _ a1 ac1 a2 ac2 a3 ac3 a4 ac4 from ⟨⟨(hS.rd 7 rfl), ha.s1.nil, ha.s1.cap⟩, ⟨(hS.rd 6 rfl), ha.s2.nil, ha.s2.cap⟩, ⟨(hS.rd 5 rfl), ha.s3.nil, ha.s3.cap⟩, ⟨(hS.rd 4 rfl), ha.s4.nil, ha.s4.cap⟩⟩) hl hb7) ?_
   rintro _ w9 ⟨rfl, hb8⟩
   replace hS := hS.call hb8
   refine ⟨_, rfl, ?_⟩
   intro a hA
   refine seq_do hA rfl rfl rfl (d_move rfl) ?_
   intro a hA
   refine seq_do hA rfl rfl rfl (d_loadS hS BiS_isS_26 rfl 0 rfl (cs := [.bool q.b1, .slice u1 q.t1.length uc1, .slice u2 q.q1.length uc2, .bool q.b2, .slice u3 q.t2.length uc3, .slice u4 q.q2.length uc4]) rfl rfl) ?_
   intro a hA
   rcases Bool.eq_false_or_eq_true (soundQ q) with hb10 | hb10
   · refine seq_call hA rfl rfl rfl (enters_func  rfl rfl (fun w => by kernel_rfl)) (soundQ_any (show Nm _ _ u1 uc1 u2 uc2 u3 uc3 u4 uc4 from ⟨⟨(hS.rd 3 rfl), hu.s1.nil, hu.s1.cap⟩, ⟨(hS.rd 2 rfl), hu.s2.nil, hu.s2.cap⟩, ⟨(hS.rd 1 rfl), hu.s3.nil, hu.s3.cap⟩, ⟨(hS.rd 0 rfl), hu.s4.nil, hu.s4.cap⟩⟩) hm hb10) ?_
     rintro _ w12 ⟨rfl, hb11⟩
     replace hS := hS.call hb11
     refine ⟨_, rfl, ?_⟩
     intro a hA
     refine seq_do (v := .bool true) hA rfl rfl rfl (d_pick rfl rfl rfl rfl) ?_
     intro a hA
     refine seq_do hA rfl rfl rfl (d_move rfl) ?_
     intro a hA
     refine seq_do (v := .pointer (some ⟨g2, 0, none⟩)) hA rfl rfl rfl (d_field BiS_fld_26_0 rfl rfl) ?_
     intro a hA
     refine seq_do hA rfl rfl rfl (d_loadS hS BiS_isS_24 rfl 1 rfl (cs := [.bool p.b1, .slice a1 p.t1.length ac1, .slice a2 p.q1.length ac2]) rfl rfl) ?_
     intro a hA
     refine seq_do (v := .pointer (some ⟨g4, 0, none⟩)) hA rfl rfl rfl (d_field BiS_fld_26_0 rfl rfl) ?_
     intro a hA
     refine seq_do hA rfl rfl rfl (d_loadS hS BiS_isS_24 rfl 0 rfl (cs := [.bool q.b1, .slice u1 q.t1.length uc1, .slice u2 q.q1.length uc2]) rfl rfl) ?_
     intro a hA
     rcases Bool.eq_false_or_eq_true (sameF p.b1 p.t1 p.q1 q.b1 q.t1 q.q1) with hb13 | hb13
     · refine seq_call hA rfl rfl rfl (enters_func  rfl rfl (fun w => by kernel_rfl)) (sameFr_any ⟨(hS.rd 7 rfl), ha.s1.nil, ha.s1.cap⟩ ⟨(hS.rd 6 rfl), ha.s2.nil, ha.s2.cap⟩ ⟨(hS.rd 3 rfl), hu.s1.nil, hu.s1.cap⟩ ⟨(hS.rd 2 rfl), hu.s2.nil, hu.s2.cap⟩ hl.l1 hl.l2 hm.l1 hm.l2 hb13) ?_
       rintro _ w15 ⟨rfl, hb14⟩
       replace hS := hS.call hb14
       refine ⟨_, rfl, ?_⟩
       intro a hA
       refine seq_do (v := .bool true) hA rfl rfl rfl (d_pick rfl rfl rfl rfl) ?_
       intro a hA
       refine seq_do hA rfl rfl rfl (d_move rfl) ?_
       intro a hA
       refine seq_do (v := .pointer (some ⟨g2, 3, none⟩)) hA rfl rfl rfl (d_field BiS_fld_26_1 rfl rfl) ?_
       intro a hA
       refine seq_do hA rfl rfl rfl (d_loadS hS BiS_isS_24 rfl 1 rfl (cs := [.bool p.b2, .slice a3 p.t2.length ac3, .slice a4 p.q2.length ac4]) rfl rfl) ?_
       intro a hA
       refine seq_do (v := .pointer (some ⟨g4, 3, none⟩)) hA rfl rfl rfl (d_field BiS_fld_26_1 rfl rfl) ?_
       intro a hA
       refine seq_do hA rfl rfl rfl (d_loadS hS BiS_isS_24 rfl 0 rfl (cs := [.bool q.b2, .slice u3 q.t2.length uc3, .slice u4 q.q2.length uc4]) rfl rfl) ?_
       intro a hA
       rcases Bool.eq_false_or_eq_true (sameF p.b2 p.t2 p.q2 q.b2 q.t2 q.q2) with hb16 | hb16
       · refine seq_call hA rfl rfl rfl (enters_func  rfl rfl (fun w => by kernel_rfl)) (sameFr_any ⟨(hS.rd 5 rfl), ha.s3.nil, ha.s3.cap⟩ ⟨(hS.rd 4 rfl), ha.s4.nil, ha.s4.cap⟩ ⟨(hS.rd 1 rfl), hu.s3.nil, hu.s3.cap⟩ ⟨(hS.rd 0 rfl), hu.s4.nil, hu.s4.cap⟩ hl.l3 hl.l4 hm.l3 hm.l4 hb16) ?_
         rintro _ w18 ⟨rfl, hb17⟩
         replace hS := hS.call hb17
         refine ⟨_, rfl, ?_⟩
         intro a hA
         refine seq_do (v := .bool true) hA rfl rfl rfl (d_pick rfl rfl rfl rfl) ?_
         intro a hA
         refine seq_do hA rfl rfl rfl (d_assign rfl) ?_
         intro a hA
         refine seq_end ?_
         refine hK6 _ _ ?_
         refine wp_ret ?_
         refine hret _ _ ?_
         refine ends (v := .bool true) hA rfl (.cons (res_tmp rfl) .nil) rfl ?_
         subst hr
         exact ⟨by unfold sameQ; rw [hb7, hb10, hb13, hb16]; try rfl, hS.bel⟩
       · refine seq_call hA rfl rfl rfl (enters_func  rfl rfl (fun w => by kernel_rfl)) (sameFr_any ⟨(hS.rd 5 rfl), ha.s3.nil, ha.s3.cap⟩ ⟨(hS.rd 4 rfl), ha.s4.nil, ha.s4.cap⟩ ⟨(hS.rd 1 rfl), hu.s3.nil, hu.s3.cap⟩ ⟨(hS.rd 0 rfl), hu.s4.nil, hu.s4.cap⟩ hl.l3 hl.l4 hm.l3 hm.l4 hb16) ?_
         rintro _ w20 ⟨rfl, hb19⟩
         replace hS := hS.call hb19
         refine ⟨_, rfl, ?_⟩
         intro a hA
         refine seq_do (v := .bool false) hA rfl rfl rfl (d_pick rfl rfl rfl rfl) ?_
         intro a hA
         refine seq_do hA rfl rfl rfl (d_assign rfl) ?_
         intro a hA
         refine seq_end ?_
         refine hK6 _ _ ?_
         refine wp_ret ?_
         refine hret _ _ ?_
         refine ends (v := .bool false) hA rfl (.cons (res_tmp rfl) .nil) rfl ?_
         subst hr
         exact ⟨by unfold sameQ; rw [hb7, hb10, hb13, hb16]; try rfl, hS.bel⟩
     · refine seq_call hA rfl rfl rfl (enters_func  rfl rfl (fun w => by kernel_rfl)) (sameFr_any ⟨(hS.rd 7 rfl), ha.s1.nil, ha.s1.cap⟩ ⟨(hS.rd 6 rfl), ha.s2.nil, ha.s2.cap⟩ ⟨(hS.rd 3 rfl), hu.s1.nil, hu.s1.cap⟩ ⟨(hS.rd 2 rfl), hu.s2.nil, hu.s2.cap⟩ hl.l1 hl.l2 hm.l1 hm.l2 hb13) ?_
       rintro _ w22 ⟨rfl, hb21⟩
       replace hS := hS.call hb21
       refine ⟨_, rfl, ?_⟩
       intro a hA
       refine seq_do (v := .bool false) hA rfl rfl rfl (d_pick rfl rfl rfl rfl) ?_
       intro a hA
       refine seq_do hA rfl rfl rfl (d_move rfl) ?_
       intro a hA
       refine seq_skip hA rfl rfl rfl ?_
       intro a hA
       refine seq_skip hA rfl rfl rfl ?_
       intro a hA
       refine seq_skip hA rfl rfl rfl ?_
       intro a hA
       refine seq_skip hA rfl rfl rfl ?_
       intro a hA
       refine seq_skip hA rfl rfl rfl ?_
       intro a hA
       refine seq_do (v := .bool false) hA rfl rfl rfl (d_pick rfl rfl rfl rfl) ?_
       intro a hA
       refine seq_do hA rfl rfl rfl (d_assign rfl) ?_
       intro a hA
       refine seq_end ?_
       refine hK6 _ _ ?_
       refine wp_ret ?_
       refine hret _ _ ?_
       refine ends (v := .bool false) hA rfl (.cons (res_tmp rfl) .nil) rfl ?_
       subst hr
       exact ⟨by unfold sameQ; rw [hb7, hb10, hb13]; try rfl, hS.bel⟩
   · refine seq_call hA rfl rfl rfl (enters_func  rfl rfl (fun w => by kernel_rfl)) (soundQ_any (show Nm _ _ u1 uc1 u2 uc2 u3 uc3 u4 uc4 from ⟨⟨(hS.rd 3 rfl), hu.s1.nil, hu.s1.cap⟩, ⟨(hS.rd 2 rfl), hu.s2.nil, hu.s2.cap⟩, ⟨(hS.rd 1 rfl), hu.s3.nil, hu.s3.cap⟩, ⟨(hS.rd 0 rfl), hu.s4.nil, hu.s4.cap⟩⟩) hm hb10) ?_
     rintro _ w24 ⟨rfl, hb23⟩
     replace hS := hS.call hb23
     refine ⟨_, rfl, ?_⟩
     intro a hA
     refine seq_do (v := .bool false) hA rfl rfl rfl (d_pick rfl rfl rfl rfl) ?_
     intro a hA
     refine seq_do hA rfl rfl rfl (d_move rfl) ?_
     intro a hA
     refine seq_skip hA rfl rfl rfl ?_
     intro a hA
     refine seq_skip hA rfl rfl rfl ?_
     intro a hA
     refine seq_skip hA rfl rfl rfl ?_
     intro a hA
     refine seq_skip hA rfl rfl rfl ?_
     intro a hA
     refine seq_skip hA rfl rfl rfl ?_
     intro a hA
     refine seq_do (v := .bool false) hA rfl rfl rfl (d_pick rfl rfl rfl rfl) ?_
     intro a hA
     refine seq_do hA rfl rfl rfl (d_move rfl) ?_
     intro a hA
     refine seq_skip hA rfl rfl rfl ?_
     intro a hA
     refine seq_skip hA rfl rfl rfl ?_
     intro a hA
     refine seq_skip hA rfl rfl rfl ?_
     intro a hA
     refine seq_skip hA rfl rfl rfl ?_
     intro a hA
     refine seq_skip hA rfl rfl rfl ?_
     intro a hA
     refine seq_do (v := .bool false) hA rfl rfl rfl (d_pick rfl rfl rfl rfl) ?_
     intro a hA
     refine seq_do hA rfl rfl rfl (d_assign rfl) ?_
     intro a hA
     refine seq_end ?_
     refine hK6 _ _ ?_
     refine wp_ret ?_
     refine hret _ _ ?_
     refine ends (v := .bool false) hA rfl (.cons (res_tmp rfl) .nil) rfl ?_
     subst hr
     exact ⟨by unfold sameQ; rw [hb7, hb10]; try rfl, hS.bel⟩
 · refine seq_call hA rfl rfl rfl (enters_func  rfl rfl (fun w => by kernel_rfl)) (soundQ_any (show Nm _ _ a1 ac1 a2 ac2 a3 ac3 a4 ac4 from ⟨⟨(hS.rd 7 rfl), ha.s1.nil, ha.s1.cap⟩, ⟨(hS.rd 6 rfl), ha.s2.nil, ha.s2.cap⟩, ⟨(hS.rd 5 rfl), ha.s3.nil, ha.s3.cap⟩, ⟨(hS.rd 4 rfl), ha.s4.nil, ha.s4.cap⟩⟩) hl hb7) ?_
   rintro _ w26 ⟨rfl, hb25⟩
   replace hS := hS.call hb25
   refine ⟨_, rfl, ?_⟩
   intro a hA
   refine seq_do hA rfl rfl rfl (d_move rfl) ?_
   intro a hA
   refine seq_skip hA rfl rfl rfl ?_
   intro a hA
   refine seq_skip hA rfl rfl rfl ?_
   intro a hA
   refine seq_do (v := .bool false) hA rfl rfl rfl (d_pick rfl rfl rfl rfl) ?_
   intro a hA
   refine seq_do hA rfl rfl rfl (d_move rfl) ?_
   intro a hA
   refine seq_skip hA rfl rfl rfl ?_
   intro a hA
   refine seq_skip hA rfl rfl rfl ?_
   intro a hA
   refine seq_skip hA rfl rfl rfl ?_
   intro a hA
   refine seq_skip hA rfl rfl rfl ?_
   intro a hA
   refine seq_skip hA rfl rfl rfl ?_
   intro a hA
   refine seq_do (v := .bool false) hA rfl rfl rfl (d_pick rfl rfl rfl rfl) ?_
   intro a hA
   refine seq_do hA rfl rfl rfl (d_move rfl) ?_
   intro a hA
   refine seq_skip hA rfl rfl rfl ?_
   intro a hA
   refine seq_skip hA rfl rfl rfl ?_
   intro a hA
   refine seq_skip hA rfl rfl rfl ?_
   intro a hA
   refine seq_skip hA rfl rfl rfl ?_
   intro a hA
   refine seq_skip hA rfl rfl rfl ?_
   intro a hA
   refine seq_do (v := .bool false) hA rfl rfl rfl (d_pick rfl rfl rfl rfl) ?_
   intro a hA
   refine seq_do hA rfl rfl rfl (d_assign rfl) ?_
   intro a hA
   refine seq_end ?_
   refine hK6 _ _ ?_
   refine wp_ret ?_
   refine hret _ _ ?_
   refine ends (v := .bool false) hA rfl (.cons (res_tmp rfl) .nil) rfl ?_
   subst hr
   exact ⟨by unfold sameQ; rw [hb7]; try rfl, hS.bel⟩
end Go.Proofs.YthlkbnhbmfmchaaGreat
namespace Go.Proofs.YthlkbnhbmfmchaaGreat
open Go.RowKit
set_option linter.unusedVariables false
set_option linter.unusedSimpArgs false
set_option maxRecDepth 100000
theorem ExI_is1_22 : Is1 Tryz.prog 22 := ⟨⟨_, Tryz.underlying22, rfl⟩, by kernel_rfl⟩
theorem ExI_is1_4 : Is1 Tryz.prog 4 := ⟨⟨_, Tryz.underlying4, rfl⟩, by kernel_rfl⟩
theorem ExI_fld_53_0 : FieldAt Tryz.prog 53 0 0 := ⟨_, _, Tryz.underlying53, rfl, rfl, by kernel_rfl⟩
theorem ExI_fld_53_1 : FieldAt Tryz.prog 53 1 1 := ⟨_, _, Tryz.underlying53, rfl, rfl, by kernel_rfl⟩
theorem ExI_isS_24 : IsS Tryz.prog 24 3 := ⟨⟨_, Tryz.underlying24⟩, by kernel_rfl⟩
theorem ExI_isS_53 : IsS Tryz.prog 53 2 := ⟨⟨_, Tryz.underlying53⟩, by kernel_rfl⟩
theorem zsigned_any {w : World} {b : Bool} {n : Nat} {z : Int} {so : Option Addr} {c : Nat} (hs : Sc w so c (words n)) (hz : sgn b n = z) : Calls Tryz.prog 95 #[.bool b, .slice so (words n).length c] w (AnsZ w z) := by
 cases b
 · have hS : St w w [] [(so, words n)] [] := (St.start w).addR hs.rd
   refine walk_of (l := [(0, .bool false), (1, .slice so ((words n).length) c)]) Tryz.func95 rfl Tryz.ntmps95 rfl rfl ?_
   intro Q hret hnorm hP a hA
   refine wp_seq_k (fun K1 hK1 => ?_)
   refine wp_region_lit ?_
   refine seq_new (vs := [.bool false, .slice none 0 0]) (t := 53) hA hS rfl rfl rfl (fun g => .pointer (some ⟨g, 0, none⟩)) (d_alloc (z := .agg #[.bool false, .slice none 0 0]) (by kernel_rfl) rfl) rfl ?_
   intro g2 w3 hS a hA
   refine seq_end ?_
   refine hK1 _ _ ?_
   refine wp_seq_k (fun K4 hK4 => ?_)
   refine wp_region_lit ?_
   refine seq_do hA rfl rfl rfl (d_move rfl) ?_
   intro a hA
   refine seq_do hA rfl rfl rfl (d_move rfl) ?_
   intro a hA
   refine seq_skip hA rfl rfl rfl ?_
   intro a hA
   refine seq_skip hA rfl rfl rfl ?_
   intro a hA
   refine seq_skip hA rfl rfl rfl ?_
   intro a hA
   refine seq_do (v := .bool false) hA rfl rfl rfl (d_pick rfl rfl rfl rfl) ?_
   intro a hA
   refine seq_do hA rfl rfl rfl (d_move rfl) ?_
   intro a hA
   refine seq_do (v := .agg #[.bool false, .slice so ((words n).length) c]) hA rfl rfl rfl (d_build rfl (fun w => by kernel_rfl)) ?_
   intro a hA
   refine seq_store (us := [.bool false, .slice so ((words n).length) c]) hA hS rfl rfl (sets_store (cs := [.bool false, .slice so ((words n).length) c]) rfl rfl rfl (by kernel_rfl) hS 0 rfl rfl rfl) 0 rfl rfl rfl rfl ?_
   intro w5 hS
   refine seq_end ?_
   refine hK4 _ _ ?_
   refine wp_ret ?_
   refine hret _ _ ?_
   refine ends (v := .agg #[.bool false, .slice so ((words n).length) c]) hA rfl (.cons (res_cell hS ExI_isS_53 rfl 0 rfl (cs := [.bool false, .slice so ((words n).length) c]) rfl rfl) .nil) rfl ?_
   exact AnsZ.sgn hz (by simp [rb, sgn]) ⟨(hS.rd 0 rfl), hs.nil, hs.cap⟩ hS.bel
 · have hS : St w w [] [(so, words n)] [] := (St.start w).addR hs.rd
   refine walk_of (l := [(0, .bool true), (1, .slice so ((words n).length) c)]) Tryz.func95 rfl Tryz.ntmps95 rfl rfl ?_
   intro Q hret hnorm hP a hA
   refine wp_seq_k (fun K1 hK1 => ?_)
   refine wp_region_lit ?_
   refine seq_new (vs := [.bool false, .slice none 0 0]) (t := 53) hA hS rfl rfl rfl (fun g => .pointer (some ⟨g, 0, none⟩)) (d_alloc (z := .agg #[.bool false, .slice none 0 0]) (by kernel_rfl) rfl) rfl ?_
   intro g2 w3 hS a hA
   refine seq_end ?_
   refine hK1 _ _ ?_
   refine wp_seq_k (fun K4 hK4 => ?_)
   refine wp_region_lit ?_
   refine seq_do hA rfl rfl rfl (d_move rfl) ?_
   intro a hA
   refine seq_do hA rfl rfl rfl (d_move rfl) ?_
   intro a hA
   refine seq_do hA rfl rfl rfl (d_move rfl) ?_
   intro a hA
   refine seq_do (v := .int .i64 ((((words n).length : Nat) : Int))) hA rfl rfl rfl (d_len Tryz.underlying22 rfl) ?_
   intro a hA
   rcases Bool.eq_false_or_eq_true (decide (0 < (((words n).length : Nat) : Int))) with hb5 | hb5
   · have hb5' := of_decide_eq_true hb5
     refine seq_do (v := .bool true) hA rfl rfl rfl (d_bin rfl rfl (fun w => (bin_gtr w).trans (by rw [hb5]))) ?_
     intro a hA
     refine seq_do (v := .bool true) hA rfl rfl rfl (d_pick rfl rfl rfl rfl) ?_
     intro a hA
     refine seq_do hA rfl rfl rfl (d_move rfl) ?_
     intro a hA
     refine seq_do (v := .agg #[.bool true, .slice so ((words n).length) c]) hA rfl rfl rfl (d_build rfl (fun w => by kernel_rfl)) ?_
     intro a hA
     refine seq_store (us := [.bool true, .slice so ((words n).length) c]) hA hS rfl rfl (sets_store (cs := [.bool true, .slice so ((words n).length) c]) rfl rfl rfl (by kernel_rfl) hS 0 rfl rfl rfl) 0 rfl rfl rfl rfl ?_
     intro w6 hS
     refine seq_end ?_
     refine hK4 _ _ ?_
     refine wp_ret ?_
     refine hret _ _ ?_
     refine ends (v := .agg #[.bool true, .slice so ((words n).length) c]) hA rfl (.cons (res_cell hS ExI_isS_53 rfl 0 rfl (cs := [.bool true, .slice so ((words n).length) c]) rfl rfl) .nil) rfl ?_
     exact AnsZ.sgn hz (by have h9 := words_pos_len n; simp only [rb, sgn]; apply decide_eq_true; simp; omega) ⟨(hS.rd 0 rfl), hs.nil, hs.cap⟩ hS.bel
   · have hb5' := of_decide_eq_false hb5
     refine seq_do (v := .bool false) hA rfl rfl rfl (d_bin rfl rfl (fun w => (bin_gtr w).trans (by rw [hb5]))) ?_
     intro a hA
     refine seq_do (v := .bool false) hA rfl rfl rfl (d_pick rfl rfl rfl rfl) ?_
     intro a hA
     refine seq_do hA rfl rfl rfl (d_move rfl) ?_
     intro a hA
     refine seq_do (v := .agg #[.bool false, .slice so ((words n).length) c]) hA rfl rfl rfl (d_build rfl (fun w => by kernel_rfl)) ?_
     intro a hA
     refine seq_store (us := [.bool false, .slice so ((words n).length) c]) hA hS rfl rfl (sets_store (cs := [.bool false, .slice so ((words n).length) c]) rfl rfl rfl (by kernel_rfl) hS 0 rfl rfl rfl) 0 rfl rfl rfl rfl ?_
     intro w7 hS
     refine seq_end ?_
     refine hK4 _ _ ?_
     refine wp_ret ?_
     refine hret _ _ ?_
     refine ends (v := .agg #[.bool false, .slice so ((words n).length) c]) hA rfl (.cons (res_cell hS ExI_isS_53 rfl 0 rfl (cs := [.bool false, .slice so ((words n).length) c]) rfl rfl) .nil) rfl ?_
     exact AnsZ.sgn hz (by have h9 := words_pos_len n; simp only [rb, sgn]; apply decide_eq_false; simp; omega) ⟨(hS.rd 0 rfl), hs.nil, hs.cap⟩ hS.bel
theorem zopp_any {w : World} {x : Int} {so : Option Addr} {soc : Nat} (hso : Sc w so soc (words x.natAbs)) : Calls Tryz.prog 92 #[.agg #[.bool (rb x), .slice so (words x.natAbs).length soc]] w (AnsZ w (-x)) := by
 have hS : St w w [] [(so, words x.natAbs)] [] := (St.start w).addR hso.rd
 refine walk_of (l := [(0, .agg #[.bool ((rb x)), .slice so ((words x.natAbs).length) soc])]) Tryz.func92 rfl Tryz.ntmps92 rfl rfl ?_
 intro Q hret hnorm hP a hA
 refine wp_seq_k (fun K1 hK1 => ?_)
 refine wp_region_lit ?_
 refine seq_new (vs := [.bool ((rb x)), .slice so ((words x.natAbs).length) soc]) (t := 53) hA hS rfl rfl rfl (fun g => .pointer (some ⟨g, 0, none⟩)) (d_box rfl rfl) rfl ?_
 intro g2 w3 hS a hA
 refine seq_new (vs := [.bool false, .slice none 0 0]) (t := 53) hA hS rfl rfl rfl (fun g => .pointer (some ⟨g, 0, none⟩)) (d_alloc (z := .agg #[.bool false, .slice none 0 0]) (by kernel_rfl) rfl) rfl ?_
 intro g4 w5 hS a hA
 refine seq_end ?_
 refine hK1 _ _ ?_
 refine wp_seq_k (fun K6 hK6 => ?_)
 refine wp_region_lit ?_
 refine seq_do (v := .pointer (some ⟨g2, 0, none⟩)) hA rfl rfl rfl (d_field ExI_fld_53_0 rfl rfl) ?_
 intro a hA
 refine seq_do hA rfl rfl rfl (d_load1 hS ExI_is1_4 rfl 1 rfl rfl) ?_
 intro a hA
 refine seq_do (v := .bool (!((rb x)))) hA rfl rfl rfl (d_un rfl un_not) ?_
 intro a hA
 refine seq_do (v := .pointer (some ⟨g2, 1, none⟩)) hA rfl rfl rfl (d_field ExI_fld_53_1 rfl rfl) ?_
 intro a hA
 refine seq_do hA rfl rfl rfl (d_load1 hS ExI_is1_22 rfl 1 rfl rfl) ?_
 intro a hA
 refine seq_call hA rfl rfl rfl (enters_func  rfl rfl (fun w => by kernel_rfl)) (zsigned_any (b := !rb x) (n := x.natAbs) (z := -x) ⟨(hS.rd 0 rfl), hso.nil, hso.cap⟩ (zs_opp x)) ?_
 rintro _ w11 ⟨zo7, zc8, rfl, hs9, hb10⟩
 replace hS := hS.call hb10
 replace hS := hS.addR hs9.rd
 refine ⟨_, rfl, ?_⟩
 intro a hA
 refine seq_store (us := [.bool ((rb (-x))), .slice zo7 ((words (-x).natAbs).length) zc8]) hA hS rfl rfl (sets_store (cs := [.bool ((rb (-x))), .slice zo7 ((words (-x).natAbs).length) zc8]) rfl rfl rfl (by kernel_rfl) hS 0 rfl rfl rfl) 0 rfl rfl rfl rfl ?_
 intro w12 hS
 refine seq_end ?_
 refine hK6 _ _ ?_
 refine wp_ret ?_
 refine hret _ _ ?_
 refine ends (v := .agg #[.bool ((rb (-x))), .slice zo7 ((words (-x).natAbs).length) zc8]) hA rfl (.cons (res_cell hS ExI_isS_53 rfl 0 rfl (cs := [.bool ((rb (-x))), .slice zo7 ((words (-x).natAbs).length) zc8]) rfl rfl) .nil) rfl ?_
 exact ⟨_, _, rfl, ⟨(hS.rd 0 rfl), hs9.nil, hs9.cap⟩, hS.bel⟩
theorem ztimes_any {w : World} {x y : Int} {so : Option Addr} {soc : Nat} (hso : Sc w so soc (words x.natAbs)) {uo : Option Addr} {uoc : Nat} (huo : Sc w uo uoc (words y.natAbs)) (lx : (words x.natAbs).length ≤ 50000) (ly : (words y.natAbs).length ≤ 50000) : Calls Tryz.prog 96 #[.agg #[.bool (rb x), .slice so (words x.natAbs).length soc], .agg #[.bool (rb y), .slice uo (words y.natAbs).length uoc]] w (AnsZ w (x * y)) := by
 have hS : St w w [] [(uo, words y.natAbs), (so, words x.natAbs)] [] := ((St.start w).addR hso.rd).addR huo.rd
 refine walk_of (l := [(0, .agg #[.bool ((rb x)), .slice so ((words x.natAbs).length) soc]), (1, .agg #[.bool ((rb y)), .slice uo ((words y.natAbs).length) uoc])]) Tryz.func96 rfl Tryz.ntmps96 rfl rfl ?_
 intro Q hret hnorm hP a hA
 refine wp_seq_k (fun K1 hK1 => ?_)
 refine wp_region_lit ?_
 refine seq_new (vs := [.bool ((rb x)), .slice so ((words x.natAbs).length) soc]) (t := 53) hA hS rfl rfl rfl (fun g => .pointer (some ⟨g, 0, none⟩)) (d_box rfl rfl) rfl ?_
 intro g2 w3 hS a hA
 refine seq_new (vs := [.bool ((rb y)), .slice uo ((words y.natAbs).length) uoc]) (t := 53) hA hS rfl rfl rfl (fun g => .pointer (some ⟨g, 0, none⟩)) (d_box rfl rfl) rfl ?_
 intro g4 w5 hS a hA
 refine seq_new (vs := [.bool false, .slice none 0 0]) (t := 53) hA hS rfl rfl rfl (fun g => .pointer (some ⟨g, 0, none⟩)) (d_alloc (z := .agg #[.bool false, .slice none 0 0]) (by kernel_rfl) rfl) rfl ?_
 intro g6 w7 hS a hA
 refine seq_end ?_
 refine hK1 _ _ ?_
 refine wp_seq_k (fun K8 hK8 => ?_)
 refine wp_draw (S := fun w1 => St w w1 [(g4, [.bool ((rb y)), .slice uo ((words y.natAbs).length) uoc]), (g2, [.bool ((rb x)), .slice so ((words x.natAbs).length) soc])] [(uo, words y.natAbs), (so, words x.natAbs)] []) (by kernel_rfl) ?_
 replace hS := hS.drew
 refine any_tk (v := .pointer (some ⟨g2, 0, none⟩)) hA 0 rfl rfl rfl rfl hP (hS.partD (.cons _ (.cons_cons _ (.cons_cons _ .slnil))) 0 rfl (.refl _)) (fun w1 hS => d_field ExI_fld_53_0 rfl rfl) ?_
 intro a hA
 refine any_tk hA 1 rfl rfl rfl rfl hP (hS.partD (.cons _ (.cons_cons _ (.cons_cons _ .slnil))) 0 rfl (.refl _)) (fun w1 hS => d_load1 hS ExI_is1_4 rfl 1 rfl rfl) ?_
 intro a hA
 refine any_tk (v := .pointer (some ⟨g4, 0, none⟩)) hA 2 rfl rfl rfl rfl hP (hS.partD (.cons _ (.cons_cons _ (.cons_cons _ .slnil))) 0 rfl (.refl _)) (fun w1 hS => d_field ExI_fld_53_0 rfl rfl) ?_
 intro a hA
 refine any_tk hA 3 rfl rfl rfl rfl hP (hS.partD (.cons _ (.cons_cons _ (.cons_cons _ .slnil))) 0 rfl (.refl _)) (fun w1 hS => d_load1 hS ExI_is1_4 rfl 0 rfl rfl) ?_
 intro a hA
 refine any_tk (v := .bool (!((rb x) == (rb y)))) hA 4 rfl rfl rfl rfl hP (hS.partD (.cons _ (.cons_cons _ (.cons_cons _ .slnil))) 0 rfl (.refl _)) (fun w1 hS => d_bin rfl rfl (bin_neqB Tryz.underlying4)) ?_
 intro a hA
 refine any_tk (v := .pointer (some ⟨g2, 1, none⟩)) hA 5 rfl rfl rfl rfl hP (hS.partD (.cons _ (.cons_cons _ (.cons_cons _ .slnil))) 0 rfl (.refl _)) (fun w1 hS => d_field ExI_fld_53_1 rfl rfl) ?_
 intro a hA
 refine any_tk hA 6 rfl rfl rfl rfl hP (hS.partD (.cons _ (.cons_cons _ (.cons_cons _ .slnil))) 0 rfl (.refl _)) (fun w1 hS => d_load1 hS ExI_is1_22 rfl 1 rfl rfl) ?_
 intro a hA
 refine any_tk (v := .pointer (some ⟨g4, 1, none⟩)) hA 7 rfl rfl rfl rfl hP (hS.partD (.cons _ (.cons_cons _ (.cons_cons _ .slnil))) 0 rfl (.refl _)) (fun w1 hS => d_field ExI_fld_53_1 rfl rfl) ?_
 intro a hA
 refine any_tk hA 8 rfl rfl rfl rfl hP (hS.partD (.cons _ (.cons_cons _ (.cons_cons _ .slnil))) 0 rfl (.refl _)) (fun w1 hS => d_load1 hS ExI_is1_22 rfl 0 rfl rfl) ?_
 intro a hA
 refine any_one (by kernel_rfl) (op_call hA 9 rfl rfl rfl rfl (enters_func  rfl rfl (fun w => by kernel_rfl)) (product_any _ _ (hS.rd 1 rfl) (hS.rd 0 rfl) (by omega) (by omega)) ?_)
 rintro _ w13 ⟨ro9, rc10, rfl, ho11, hb12⟩
 replace hS := hS.call hb12
 replace hS := hS.addR ho11.rd
 refine ⟨_, rfl, (hS.partD (.cons _ (.cons_cons _ (.cons_cons _ .slnil))) 1 rfl (.refl _)), ?_⟩
 intro a hA
 refine any_one (by kernel_rfl) (op_call hA 10 rfl rfl rfl rfl (enters_func  rfl rfl (fun w => by kernel_rfl)) (zsigned_any (b := !(rb x == rb y)) (n := x.natAbs * y.natAbs) (z := x * y) ⟨(hS.rd 0 rfl), ho11.nocap, ho11.caps⟩ (zs_times x y)) ?_)
 rintro _ w18 ⟨zo14, zc15, rfl, hs16, hb17⟩
 replace hS := hS.call hb17
 replace hS := hS.addR hs16.rd
 refine ⟨_, rfl, (hS.partD (.cons _ (.cons_cons _ (.cons_cons _ .slnil))) 2 rfl (.refl _)), ?_⟩
 intro a hA
 refine any_one (by kernel_rfl) (op_store (us := [.bool ((rb (x * y))), .slice zo14 ((words (x * y).natAbs).length) zc15]) hA hS 11 rfl rfl rfl (sets_store (cs := [.bool ((rb (x * y))), .slice zo14 ((words (x * y).natAbs).length) zc15]) rfl rfl rfl (by kernel_rfl) hS 0 rfl rfl rfl) 0 rfl rfl rfl rfl ?_)
 intro w19 hS
 refine ⟨(hS.partD (.cons _ (.cons_cons _ (.cons_cons _ .slnil))) 2 rfl (.refl _)), ?_⟩
 refine any_end (by kernel_rfl) ?_
 refine hK8 _ _ ?_
 refine wp_ret ?_
 refine hret _ _ ?_
 refine ends (v := .agg #[.bool ((rb (x * y))), .slice zo14 ((words (x * y).natAbs).length) zc15]) hA rfl (.cons (res_cell hS ExI_isS_53 rfl 0 rfl (cs := [.bool ((rb (x * y))), .slice zo14 ((words (x * y).natAbs).length) zc15]) rfl rfl) .nil) rfl ?_
 exact ⟨_, _, rfl, ⟨(hS.rd 0 rfl), hs16.nil, hs16.cap⟩, hS.bel⟩
theorem zplus_any {w : World} {x y : Int} {so : Option Addr} {soc : Nat} (hso : Sc w so soc (words x.natAbs)) {uo : Option Addr} {uoc : Nat} (huo : Sc w uo uoc (words y.natAbs)) (lx : (words x.natAbs).length ≤ 50000) (ly : (words y.natAbs).length ≤ 50000) : Calls Tryz.prog 86 #[.agg #[.bool (rb x), .slice so (words x.natAbs).length soc], .agg #[.bool (rb y), .slice uo (words y.natAbs).length uoc]] w (AnsZ w (x + y)) := by
 have hS : St w w [] [(uo, words y.natAbs), (so, words x.natAbs)] [] := ((St.start w).addR hso.rd).addR huo.rd
 refine walk_of (l := [(0, .agg #[.bool ((rb x)), .slice so ((words x.natAbs).length) soc]), (1, .agg #[.bool ((rb y)), .slice uo ((words y.natAbs).length) uoc])]) Tryz.func86 rfl Tryz.ntmps86 rfl rfl ?_
 intro Q hret hnorm hP a hA
 refine wp_seq_k (fun K1 hK1 => ?_)
 refine wp_region_lit ?_
 refine seq_new (vs := [.bool ((rb x)), .slice so ((words x.natAbs).length) soc]) (t := 53) hA hS rfl rfl rfl (fun g => .pointer (some ⟨g, 0, none⟩)) (d_box rfl rfl) rfl ?_
 intro g2 w3 hS a hA
 refine seq_new (vs := [.bool ((rb y)), .slice uo ((words y.natAbs).length) uoc]) (t := 53) hA hS rfl rfl rfl (fun g => .pointer (some ⟨g, 0, none⟩)) (d_box rfl rfl) rfl ?_
 intro g4 w5 hS a hA
 refine seq_new (vs := [.bool false, .slice none 0 0]) (t := 53) hA hS rfl rfl rfl (fun g => .pointer (some ⟨g, 0, none⟩)) (d_alloc (z := .agg #[.bool false, .slice none 0 0]) (by kernel_rfl) rfl) rfl ?_
 intro g6 w7 hS a hA
 refine seq_end ?_
 refine hK1 _ _ ?_
 refine wp_seq_k (fun K8 hK8 => ?_)
 refine wp_seq_k (fun K9 hK9 => ?_)
 refine wp_region_lit ?_
 refine seq_do (v := .pointer (some ⟨g2, 0, none⟩)) hA rfl rfl rfl (d_field ExI_fld_53_0 rfl rfl) ?_
 intro a hA
 refine seq_do hA rfl rfl rfl (d_load1 hS ExI_is1_4 rfl 2 rfl rfl) ?_
 intro a hA
 refine seq_do (v := .pointer (some ⟨g4, 0, none⟩)) hA rfl rfl rfl (d_field ExI_fld_53_0 rfl rfl) ?_
 intro a hA
 refine seq_do hA rfl rfl rfl (d_load1 hS ExI_is1_4 rfl 1 rfl rfl) ?_
 intro a hA
 rcases Bool.eq_false_or_eq_true (((rb x) == (rb y))) with hb10 | hb10
 · have hb10' := eq_of_beq hb10
   refine seq_do (v := .bool true) hA rfl rfl rfl (d_bin rfl rfl (fun w => ((bin_eqlB Tryz.underlying4) w).trans (by rw [hb10]))) ?_
   intro a hA
   refine seq_end ?_
   refine hK9 _ _ ?_
   refine wp_cond_true (hA.ev rfl) ?_
   refine wp_seq_k (fun K11 hK11 => ?_)
   refine wp_draw (S := fun w1 => St w w1 [(g4, [.bool ((rb y)), .slice uo ((words y.natAbs).length) uoc]), (g2, [.bool ((rb x)), .slice so ((words x.natAbs).length) soc])] [(uo, words y.natAbs), (so, words x.natAbs)] []) (by kernel_rfl) ?_
   replace hS := hS.drew
   refine any_tk (v := .pointer (some ⟨g2, 0, none⟩)) hA 0 rfl rfl rfl rfl hP (hS.partD (.cons _ (.cons_cons _ (.cons_cons _ .slnil))) 0 rfl (.refl _)) (fun w1 hS => d_field ExI_fld_53_0 rfl rfl) ?_
   intro a hA
   refine any_tk hA 1 rfl rfl rfl rfl hP (hS.partD (.cons _ (.cons_cons _ (.cons_cons _ .slnil))) 0 rfl (.refl _)) (fun w1 hS => d_load1 hS ExI_is1_4 rfl 1 rfl rfl) ?_
   intro a hA
   refine any_tk (v := .pointer (some ⟨g2, 1, none⟩)) hA 2 rfl rfl rfl rfl hP (hS.partD (.cons _ (.cons_cons _ (.cons_cons _ .slnil))) 0 rfl (.refl _)) (fun w1 hS => d_field ExI_fld_53_1 rfl rfl) ?_
   intro a hA
   refine any_tk hA 3 rfl rfl rfl rfl hP (hS.partD (.cons _ (.cons_cons _ (.cons_cons _ .slnil))) 0 rfl (.refl _)) (fun w1 hS => d_load1 hS ExI_is1_22 rfl 1 rfl rfl) ?_
   intro a hA
   refine any_tk (v := .pointer (some ⟨g4, 1, none⟩)) hA 4 rfl rfl rfl rfl hP (hS.partD (.cons _ (.cons_cons _ (.cons_cons _ .slnil))) 0 rfl (.refl _)) (fun w1 hS => d_field ExI_fld_53_1 rfl rfl) ?_
   intro a hA
   refine any_tk hA 5 rfl rfl rfl rfl hP (hS.partD (.cons _ (.cons_cons _ (.cons_cons _ .slnil))) 0 rfl (.refl _)) (fun w1 hS => d_load1 hS ExI_is1_22 rfl 0 rfl rfl) ?_
   intro a hA
   refine any_one (by kernel_rfl) (op_call hA 6 rfl rfl rfl rfl (enters_func  rfl rfl (fun w => by kernel_rfl)) (sum_any _ _ (hS.rd 1 rfl) (hS.rd 0 rfl) (by omega) (by omega)) ?_)
   rintro _ w16 ⟨ro12, rc13, rfl, ho14, hb15⟩
   replace hS := hS.call hb15
   replace hS := hS.addR ho14.rd
   refine ⟨_, rfl, (hS.partD (.cons _ (.cons_cons _ (.cons_cons _ .slnil))) 1 rfl (.refl _)), ?_⟩
   intro a hA
   refine any_one (by kernel_rfl) (op_call hA 7 rfl rfl rfl rfl (enters_func  rfl rfl (fun w => by kernel_rfl)) (zsigned_any (b := rb x) (n := x.natAbs + y.natAbs) (z := x + y) ⟨(hS.rd 0 rfl), ho14.nocap, ho14.caps⟩ (zs_add hb10)) ?_)
   rintro _ w21 ⟨zo17, zc18, rfl, hs19, hb20⟩
   replace hS := hS.call hb20
   replace hS := hS.addR hs19.rd
   refine ⟨_, rfl, (hS.partD (.cons _ (.cons_cons _ (.cons_cons _ .slnil))) 2 rfl (.refl _)), ?_⟩
   intro a hA
   refine any_one (by kernel_rfl) (op_store (us := [.bool ((rb (x + y))), .slice zo17 ((words (x + y).natAbs).length) zc18]) hA hS 8 rfl rfl rfl (sets_store (cs := [.bool ((rb (x + y))), .slice zo17 ((words (x + y).natAbs).length) zc18]) rfl rfl rfl (by kernel_rfl) hS 0 rfl rfl rfl) 0 rfl rfl rfl rfl ?_)
   intro w22 hS
   refine ⟨(hS.partD (.cons _ (.cons_cons _ (.cons_cons _ .slnil))) 2 rfl (.refl _)), ?_⟩
   refine any_end (by kernel_rfl) ?_
   refine hK11 _ _ ?_
   refine wp_ret ?_
   refine hret _ _ ?_
   refine ends (v := .agg #[.bool ((rb (x + y))), .slice zo17 ((words (x + y).natAbs).length) zc18]) hA rfl (.cons (res_cell hS ExI_isS_53 rfl 0 rfl (cs := [.bool ((rb (x + y))), .slice zo17 ((words (x + y).natAbs).length) zc18]) rfl rfl) .nil) rfl ?_
   exact ⟨_, _, rfl, ⟨(hS.rd 0 rfl), hs19.nil, hs19.cap⟩, hS.bel⟩
 · have hb10' := ne_of_beq_false hb10
   refine seq_do (v := .bool false) hA rfl rfl rfl (d_bin rfl rfl (fun w => ((bin_eqlB Tryz.underlying4) w).trans (by rw [hb10]))) ?_
   intro a hA
   refine seq_end ?_
   refine hK9 _ _ ?_
   refine wp_cond_false (hA.ev rfl) ?_
   refine wp_skip ?_
   refine hK8 _ _ ?_
   refine wp_seq_k (fun K23 hK23 => ?_)
   refine wp_seq_k (fun K24 hK24 => ?_)
   refine wp_region_lit ?_
   refine seq_do (v := .pointer (some ⟨g2, 1, none⟩)) hA rfl rfl rfl (d_field ExI_fld_53_1 rfl rfl) ?_
   intro a hA
   refine seq_do hA rfl rfl rfl (d_load1 hS ExI_is1_22 rfl 2 rfl rfl) ?_
   intro a hA
   refine seq_do (v := .pointer (some ⟨g4, 1, none⟩)) hA rfl rfl rfl (d_field ExI_fld_53_1 rfl rfl) ?_
   intro a hA
   refine seq_do hA rfl rfl rfl (d_load1 hS ExI_is1_22 rfl 1 rfl rfl) ?_
   intro a hA
   rcases Bool.eq_false_or_eq_true (decide (x.natAbs < y.natAbs)) with hb25 | hb25
   · have hb25' := of_decide_eq_true hb25
     refine seq_call hA rfl rfl rfl (enters_func  rfl rfl (fun w => by kernel_rfl)) (order_any _ _ (hS.rd 1 rfl) (hS.rd 0 rfl) (by omega) (by omega)) ?_
     rintro _ w27 ⟨rfl, hb26⟩
     replace hS := hS.call hb26
     refine ⟨_, rfl, ?_⟩
     intro a hA
     refine seq_do (v := .bool true) hA rfl rfl rfl (d_bin rfl rfl (fun w => (bin_lss w).trans (by rw [show (decide (cmpN x.natAbs y.natAbs < 0)) = true from (by have h9 := of_decide_eq_true hb25; apply decide_eq_true; unfold cmpN; split <;> (try split) <;> omega)]))) ?_
     intro a hA
     refine seq_end ?_
     refine hK24 _ _ ?_
     refine wp_cond_true (hA.ev rfl) ?_
     refine wp_region_lit ?_
     refine seq_do hA rfl rfl rfl (d_loadS hS ExI_isS_53 rfl 1 rfl (cs := [.bool ((rb y)), .slice uo ((words y.natAbs).length) uoc]) rfl rfl) ?_
     intro a hA
     refine seq_do hA rfl rfl rfl (d_loadS hS ExI_isS_53 rfl 2 rfl (cs := [.bool ((rb x)), .slice so ((words x.natAbs).length) soc]) rfl rfl) ?_
     intro a hA
     refine seq_store (us := [.bool ((rb y)), .slice uo ((words y.natAbs).length) uoc]) hA hS rfl rfl (sets_store (cs := [.bool ((rb y)), .slice uo ((words y.natAbs).length) uoc]) rfl rfl rfl (by kernel_rfl) hS 2 rfl rfl rfl) 2 rfl rfl rfl rfl ?_
     intro w28 hS
     refine seq_store (us := [.bool ((rb x)), .slice so ((words x.natAbs).length) soc]) hA hS rfl rfl (sets_store (cs := [.bool ((rb x)), .slice so ((words x.natAbs).length) soc]) rfl rfl rfl (by kernel_rfl) hS 1 rfl rfl rfl) 1 rfl rfl rfl rfl ?_
     intro w29 hS
     refine seq_end ?_
     refine hK23 _ _ ?_
     refine wp_seq_k (fun K30 hK30 => ?_)
     refine wp_draw (S := fun w1 => St w w1 [(g4, [.bool ((rb x)), .slice so ((words x.natAbs).length) soc]), (g2, [.bool ((rb y)), .slice uo ((words y.natAbs).length) uoc])] [(uo, words y.natAbs), (so, words x.natAbs)] []) (by kernel_rfl) ?_
     replace hS := hS.drew
     refine any_tk (v := .pointer (some ⟨g2, 0, none⟩)) hA 0 rfl rfl rfl rfl hP (hS.partD (.cons _ (.cons_cons _ (.cons_cons _ .slnil))) 0 rfl (.refl _)) (fun w1 hS => d_field ExI_fld_53_0 rfl rfl) ?_
     intro a hA
     refine any_tk hA 1 rfl rfl rfl rfl hP (hS.partD (.cons _ (.cons_cons _ (.cons_cons _ .slnil))) 0 rfl (.refl _)) (fun w1 hS => d_load1 hS ExI_is1_4 rfl 1 rfl rfl) ?_
     intro a hA
     refine any_tk (v := .pointer (some ⟨g2, 1, none⟩)) hA 2 rfl rfl rfl rfl hP (hS.partD (.cons _ (.cons_cons _ (.cons_cons _ .slnil))) 0 rfl (.refl _)) (fun w1 hS => d_field ExI_fld_53_1 rfl rfl) ?_
     intro a hA
     refine any_tk hA 3 rfl rfl rfl rfl hP (hS.partD (.cons _ (.cons_cons _ (.cons_cons _ .slnil))) 0 rfl (.refl _)) (fun w1 hS => d_load1 hS ExI_is1_22 rfl 1 rfl rfl) ?_
     intro a hA
     refine any_tk (v := .pointer (some ⟨g4, 1, none⟩)) hA 4 rfl rfl rfl rfl hP (hS.partD (.cons _ (.cons_cons _ (.cons_cons _ .slnil))) 0 rfl (.refl _)) (fun w1 hS => d_field ExI_fld_53_1 rfl rfl) ?_
     intro a hA
     refine any_tk hA 5 rfl rfl rfl rfl hP (hS.partD (.cons _ (.cons_cons _ (.cons_cons _ .slnil))) 0 rfl (.refl _)) (fun w1 hS => d_load1 hS ExI_is1_22 rfl 0 rfl rfl) ?_
     intro a hA
     refine any_one (by kernel_rfl) (op_call hA 6 rfl rfl rfl rfl (enters_func  rfl rfl (fun w => by kernel_rfl)) (difference_any _ _ (hS.rd 0 rfl) (hS.rd 1 rfl) (by omega) (by omega)) ?_)
     rintro _ w35 ⟨ro31, rc32, rfl, ho33, hb34⟩
     replace hS := hS.call hb34
     replace hS := hS.addR ho33.rd
     refine ⟨_, rfl, (hS.partD (.cons _ (.cons_cons _ (.cons_cons _ .slnil))) 1 rfl (.refl _)), ?_⟩
     intro a hA
     refine any_one (by kernel_rfl) (op_call hA 7 rfl rfl rfl rfl (enters_func  rfl rfl (fun w => by kernel_rfl)) (zsigned_any (b := rb y) (n := y.natAbs - x.natAbs) (z := x + y) ⟨(hS.rd 0 rfl), ho33.nocap, ho33.caps⟩ (by rw [Int.add_comm]; exact zs_sub (by rw [Bool.beq_comm]; exact hb10) (by omega))) ?_)
     rintro _ w40 ⟨zo36, zc37, rfl, hs38, hb39⟩
     replace hS := hS.call hb39
     replace hS := hS.addR hs38.rd
     refine ⟨_, rfl, (hS.partD (.cons _ (.cons_cons _ (.cons_cons _ .slnil))) 2 rfl (.refl _)), ?_⟩
     intro a hA
     refine any_one (by kernel_rfl) (op_store (us := [.bool ((rb (x + y))), .slice zo36 ((words (x + y).natAbs).length) zc37]) hA hS 8 rfl rfl rfl (sets_store (cs := [.bool ((rb (x + y))), .slice zo36 ((words (x + y).natAbs).length) zc37]) rfl rfl rfl (by kernel_rfl) hS 0 rfl rfl rfl) 0 rfl rfl rfl rfl ?_)
     intro w41 hS
     refine ⟨(hS.partD (.cons _ (.cons_cons _ (.cons_cons _ .slnil))) 2 rfl (.refl _)), ?_⟩
     refine any_end (by kernel_rfl) ?_
     refine hK30 _ _ ?_
     refine wp_ret ?_
     refine hret _ _ ?_
     refine ends (v := .agg #[.bool ((rb (x + y))), .slice zo36 ((words (x + y).natAbs).length) zc37]) hA rfl (.cons (res_cell hS ExI_isS_53 rfl 0 rfl (cs := [.bool ((rb (x + y))), .slice zo36 ((words (x + y).natAbs).length) zc37]) rfl rfl) .nil) rfl ?_
     exact ⟨_, _, rfl, ⟨(hS.rd 0 rfl), hs38.nil, hs38.cap⟩, hS.bel⟩
   · have hb25' := of_decide_eq_false hb25
     refine seq_call hA rfl rfl rfl (enters_func  rfl rfl (fun w => by kernel_rfl)) (order_any _ _ (hS.rd 1 rfl) (hS.rd 0 rfl) (by omega) (by omega)) ?_
     rintro _ w43 ⟨rfl, hb42⟩
     replace hS := hS.call hb42
     refine ⟨_, rfl, ?_⟩
     intro a hA
     refine seq_do (v := .bool false) hA rfl rfl rfl (d_bin rfl rfl (fun w => (bin_lss w).trans (by rw [show (decide (cmpN x.natAbs y.natAbs < 0)) = false from (by have h9 := of_decide_eq_false hb25; apply decide_eq_false; unfold cmpN; split <;> (try split) <;> omega)]))) ?_
     intro a hA
     refine seq_end ?_
     refine hK24 _ _ ?_
     refine wp_cond_false (hA.ev rfl) ?_
     refine wp_skip ?_
     refine hK23 _ _ ?_
     refine wp_seq_k (fun K44 hK44 => ?_)
     refine wp_draw (S := fun w1 => St w w1 [(g4, [.bool ((rb y)), .slice uo ((words y.natAbs).length) uoc]), (g2, [.bool ((rb x)), .slice so ((words x.natAbs).length) soc])] [(uo, words y.natAbs), (so, words x.natAbs)] []) (by kernel_rfl) ?_
     replace hS := hS.drew
     refine any_tk (v := .pointer (some ⟨g2, 0, none⟩)) hA 0 rfl rfl rfl rfl hP (hS.partD (.cons _ (.cons_cons _ (.cons_cons _ .slnil))) 0 rfl (.refl _)) (fun w1 hS => d_field ExI_fld_53_0 rfl rfl) ?_
     intro a hA
     refine any_tk hA 1 rfl rfl rfl rfl hP (hS.partD (.cons _ (.cons_cons _ (.cons_cons _ .slnil))) 0 rfl (.refl _)) (fun w1 hS => d_load1 hS ExI_is1_4 rfl 1 rfl rfl) ?_
     intro a hA
     refine any_tk (v := .pointer (some ⟨g2, 1, none⟩)) hA 2 rfl rfl rfl rfl hP (hS.partD (.cons _ (.cons_cons _ (.cons_cons _ .slnil))) 0 rfl (.refl _)) (fun w1 hS => d_field ExI_fld_53_1 rfl rfl) ?_
     intro a hA
     refine any_tk hA 3 rfl rfl rfl rfl hP (hS.partD (.cons _ (.cons_cons _ (.cons_cons _ .slnil))) 0 rfl (.refl _)) (fun w1 hS => d_load1 hS ExI_is1_22 rfl 1 rfl rfl) ?_
     intro a hA
     refine any_tk (v := .pointer (some ⟨g4, 1, none⟩)) hA 4 rfl rfl rfl rfl hP (hS.partD (.cons _ (.cons_cons _ (.cons_cons _ .slnil))) 0 rfl (.refl _)) (fun w1 hS => d_field ExI_fld_53_1 rfl rfl) ?_
     intro a hA
     refine any_tk hA 5 rfl rfl rfl rfl hP (hS.partD (.cons _ (.cons_cons _ (.cons_cons _ .slnil))) 0 rfl (.refl _)) (fun w1 hS => d_load1 hS ExI_is1_22 rfl 0 rfl rfl) ?_
     intro a hA
     refine any_one (by kernel_rfl) (op_call hA 6 rfl rfl rfl rfl (enters_func  rfl rfl (fun w => by kernel_rfl)) (difference_any _ _ (hS.rd 1 rfl) (hS.rd 0 rfl) (by omega) (by omega)) ?_)
     rintro _ w49 ⟨ro45, rc46, rfl, ho47, hb48⟩
     replace hS := hS.call hb48
     replace hS := hS.addR ho47.rd
     refine ⟨_, rfl, (hS.partD (.cons _ (.cons_cons _ (.cons_cons _ .slnil))) 1 rfl (.refl _)), ?_⟩
     intro a hA
     refine any_one (by kernel_rfl) (op_call hA 7 rfl rfl rfl rfl (enters_func  rfl rfl (fun w => by kernel_rfl)) (zsigned_any (b := rb x) (n := x.natAbs - y.natAbs) (z := x + y) ⟨(hS.rd 0 rfl), ho47.nocap, ho47.caps⟩ (zs_sub hb10 (by omega))) ?_)
     rintro _ w54 ⟨zo50, zc51, rfl, hs52, hb53⟩
     replace hS := hS.call hb53
     replace hS := hS.addR hs52.rd
     refine ⟨_, rfl, (hS.partD (.cons _ (.cons_cons _ (.cons_cons _ .slnil))) 2 rfl (.refl _)), ?_⟩
     intro a hA
     refine any_one (by kernel_rfl) (op_store (us := [.bool ((rb (x + y))), .slice zo50 ((words (x + y).natAbs).length) zc51]) hA hS 8 rfl rfl rfl (sets_store (cs := [.bool ((rb (x + y))), .slice zo50 ((words (x + y).natAbs).length) zc51]) rfl rfl rfl (by kernel_rfl) hS 0 rfl rfl rfl) 0 rfl rfl rfl rfl ?_)
     intro w55 hS
     refine ⟨(hS.partD (.cons _ (.cons_cons _ (.cons_cons _ .slnil))) 2 rfl (.refl _)), ?_⟩
     refine any_end (by kernel_rfl) ?_
     refine hK44 _ _ ?_
     refine wp_ret ?_
     refine hret _ _ ?_
     refine ends (v := .agg #[.bool ((rb (x + y))), .slice zo50 ((words (x + y).natAbs).length) zc51]) hA rfl (.cons (res_cell hS ExI_isS_53 rfl 0 rfl (cs := [.bool ((rb (x + y))), .slice zo50 ((words (x + y).natAbs).length) zc51]) rfl rfl) .nil) rfl ?_
     exact ⟨_, _, rfl, ⟨(hS.rd 0 rfl), hs52.nil, hs52.cap⟩, hS.bel⟩
theorem zscaled_any {w : World} {x : Int} {n : Nat} {so : Option Addr} {soc : Nat} (hso : Sc w so soc (words x.natAbs)) {uo : Option Addr} {uoc : Nat} (huo : Sc w uo uoc (words n)) (lx : (words x.natAbs).length ≤ 50000) (ly : (words n).length ≤ 50000) : Calls Tryz.prog 44 #[.agg #[.bool (rb x), .slice so (words x.natAbs).length soc], .slice uo (words n).length uoc] w (AnsZ w (x * (n : Int))) := by
 have hS : St w w [] [(uo, words n), (so, words x.natAbs)] [] := ((St.start w).addR hso.rd).addR huo.rd
 refine walk_of (l := [(0, .agg #[.bool ((rb x)), .slice so ((words x.natAbs).length) soc]), (1, .slice uo ((words n).length) uoc)]) Tryz.func44 rfl Tryz.ntmps44 rfl rfl ?_
 intro Q hret hnorm hP a hA
 refine wp_seq_k (fun K1 hK1 => ?_)
 refine wp_region_lit ?_
 refine seq_new (vs := [.bool ((rb x)), .slice so ((words x.natAbs).length) soc]) (t := 53) hA hS rfl rfl rfl (fun g => .pointer (some ⟨g, 0, none⟩)) (d_box rfl rfl) rfl ?_
 intro g2 w3 hS a hA
 refine seq_new (vs := [.bool false, .slice none 0 0]) (t := 53) hA hS rfl rfl rfl (fun g => .pointer (some ⟨g, 0, none⟩)) (d_alloc (z := .agg #[.bool false, .slice none 0 0]) (by kernel_rfl) rfl) rfl ?_
 intro g4 w5 hS a hA
 refine seq_end ?_
 refine hK1 _ _ ?_
 refine wp_seq_k (fun K6 hK6 => ?_)
 refine wp_draw (S := fun w1 => St w w1 [(g2, [.bool ((rb x)), .slice so ((words x.natAbs).length) soc])] [(uo, words n), (so, words x.natAbs)] []) (by kernel_rfl) ?_
 replace hS := hS.drew
 refine any_tk hA 0 rfl rfl rfl rfl hP (hS.partD (.cons _ (.cons_cons _ .slnil)) 0 rfl (.refl _)) (fun w1 hS => d_loadS hS ExI_isS_53 rfl 0 rfl (cs := [.bool ((rb x)), .slice so ((words x.natAbs).length) soc]) rfl rfl) ?_
 intro a hA
 refine any_tk hA 1 rfl rfl rfl rfl hP (hS.partD (.cons _ (.cons_cons _ .slnil)) 0 rfl (.refl _)) (fun w1 hS => d_move rfl) ?_
 intro a hA
 refine any_one (by kernel_rfl) (op_call hA 2 rfl rfl rfl rfl (enters_func  rfl rfl (fun w => by kernel_rfl)) (zsigned_any (b := false) (n := n) (z := ((n : Nat) : Int)) ⟨(hS.rd 0 rfl), huo.nil, huo.cap⟩ rfl) ?_)
 rintro _ w11 ⟨zo7, zc8, rfl, hs9, hb10⟩
 replace hS := hS.call hb10
 replace hS := hS.addR hs9.rd
 refine ⟨_, rfl, (hS.partD (.cons _ (.cons_cons _ .slnil)) 1 rfl (.refl _)), ?_⟩
 intro a hA
 refine any_one (by kernel_rfl) (op_call hA 3 rfl rfl rfl rfl (enters_func  rfl rfl (fun w => by kernel_rfl)) (ztimes_any ⟨(hS.rd 2 rfl), hso.nil, hso.cap⟩ ⟨(hS.rd 0 rfl), hs9.nil, hs9.cap⟩ lx (by rw [Int.natAbs_natCast]; exact ly)) ?_)
 rintro _ w16 ⟨zo12, zc13, rfl, hs14, hb15⟩
 replace hS := hS.call hb15
 replace hS := hS.addR hs14.rd
 refine ⟨_, rfl, (hS.partD (.cons _ (.cons_cons _ .slnil)) 2 rfl (.refl _)), ?_⟩
 intro a hA
 refine any_one (by kernel_rfl) (op_store (us := [.bool ((rb (x * ((n : Nat) : Int)))), .slice zo12 ((words (x * ((n : Nat) : Int)).natAbs).length) zc13]) hA hS 4 rfl rfl rfl (sets_store (cs := [.bool ((rb (x * ((n : Nat) : Int)))), .slice zo12 ((words (x * ((n : Nat) : Int)).natAbs).length) zc13]) rfl rfl rfl (by kernel_rfl) hS 0 rfl rfl rfl) 0 rfl rfl rfl rfl ?_)
 intro w17 hS
 refine ⟨(hS.partD (.cons _ (.cons_cons _ .slnil)) 2 rfl (.refl _)), ?_⟩
 refine any_end (by kernel_rfl) ?_
 refine hK6 _ _ ?_
 refine wp_ret ?_
 refine hret _ _ ?_
 refine ends (v := .agg #[.bool ((rb (x * ((n : Nat) : Int)))), .slice zo12 ((words (x * ((n : Nat) : Int)).natAbs).length) zc13]) hA rfl (.cons (res_cell hS ExI_isS_53 rfl 0 rfl (cs := [.bool ((rb (x * ((n : Nat) : Int)))), .slice zo12 ((words (x * ((n : Nat) : Int)).natAbs).length) zc13]) rfl rfl) .nil) rfl ?_
 exact ⟨_, _, rfl, ⟨(hS.rd 0 rfl), hs14.nil, hs14.cap⟩, hS.bel⟩
theorem zlowest_any {w : World} {x : Int} {d : Nat} {so : Option Addr} {soc : Nat} (hso : Sc w so soc (words x.natAbs)) {uo : Option Addr} {uoc : Nat} (huo : Sc w uo uoc (words d)) (lx : (words x.natAbs).length ≤ 50000) (ly : (words d).length ≤ 50000) (hd : d ≠ 0) : Calls Tryz.prog 108 #[.agg #[.bool (rb x), .slice so (words x.natAbs).length soc], .slice uo (words d).length uoc] w (AnsF w (rb x) (words (rt x d)) (words (rq x d))) := by
 have hS : St w w [] [(uo, words d), (so, words x.natAbs)] [] := ((St.start w).addR hso.rd).addR huo.rd
 refine walk_of (l := [(0, .agg #[.bool ((rb x)), .slice so ((words x.natAbs).length) soc]), (1, .slice uo ((words d).length) uoc)]) Tryz.func108 rfl Tryz.ntmps108 rfl rfl ?_
 intro Q hret hnorm hP a hA
 refine wp_seq_k (fun K1 hK1 => ?_)
 refine wp_region_lit ?_
 refine seq_new (vs := [.bool ((rb x)), .slice so ((words x.natAbs).length) soc]) (t := 53) hA hS rfl rfl rfl (fun g => .pointer (some ⟨g, 0, none⟩)) (d_box rfl rfl) rfl ?_
 intro g2 w3 hS a hA
 refine seq_new (vs := [.bool false, .slice none 0 0, .slice none 0 0]) (t := 24) hA hS rfl rfl rfl (fun g => .pointer (some ⟨g, 0, none⟩)) (d_alloc (z := .agg #[.bool false, .slice none 0 0, .slice none 0 0]) (by kernel_rfl) rfl) rfl ?_
 intro g4 w5 hS a hA
 refine seq_end ?_
 refine hK1 _ _ ?_
 refine wp_seq_k (fun K6 hK6 => ?_)
 refine wp_region_lit ?_
 refine seq_do (v := .pointer (some ⟨g2, 1, none⟩)) hA rfl rfl rfl (d_field ExI_fld_53_1 rfl rfl) ?_
 intro a hA
 refine seq_do hA rfl rfl rfl (d_load1 hS ExI_is1_22 rfl 1 rfl rfl) ?_
 intro a hA
 refine seq_do hA rfl rfl rfl (d_move rfl) ?_
 intro a hA
 refine seq_call hA rfl rfl rfl (enters_func  rfl rfl (fun w => by kernel_rfl)) (divisor_any _ _ (hS.rd 1 rfl) (hS.rd 0 rfl) (by omega) (by omega) hso.nil huo.nil) ?_
 rintro _ w11 ⟨ro7, rc8, rfl, ho9, hb10⟩
 replace hS := hS.call hb10
 replace hS := hS.addR ho9.rd
 refine ⟨_, rfl, ?_⟩
 intro a hA
 refine seq_do hA rfl rfl rfl (d_assign rfl) ?_
 intro a hA
 refine seq_end ?_
 refine hK6 _ _ ?_
 refine wp_seq_k (fun K12 hK12 => ?_)
 refine wp_region_lit ?_
 refine seq_do (v := .pointer (some ⟨g2, 1, none⟩)) hA rfl rfl rfl (d_field ExI_fld_53_1 rfl rfl) ?_
 intro a hA
 refine seq_do hA rfl rfl rfl (d_load1 hS ExI_is1_22 rfl 1 rfl rfl) ?_
 intro a hA
 refine seq_do hA rfl rfl rfl (d_move rfl) ?_
 intro a hA
 refine seq_call hA rfl rfl rfl (enters_func  rfl rfl (fun w => by kernel_rfl)) (divide_any _ _ (hS.rd 2 rfl) (hS.rd 0 rfl) (by omega) (Nat.le_trans (gcd_len hd ly) (by decide)) hso.nil (gcd_ne hd)) ?_
 rintro _ w20 ⟨ro13, rc14, uo15, uc16, rfl, ho17, hp18, hb19⟩
 replace hS := hS.call hb19
 replace hS := hS.addR ho17.rd
 replace hS := hS.addR hp18.rd
 refine ⟨_, rfl, ?_⟩
 intro a hA
 refine seq_do hA rfl rfl rfl (d_move rfl) ?_
 intro a hA
 refine seq_do (v := .slice ro13 ((words (rt x d)).length) rc14) hA rfl rfl rfl (d_extract (vs := [.slice ro13 ((words (rt x d)).length) rc14, .slice uo15 ((words (x.natAbs % Nat.gcd x.natAbs d)).length) uc16]) rfl rfl) ?_
 intro a hA
 refine seq_do (v := .slice uo15 ((words (x.natAbs % Nat.gcd x.natAbs d)).length) uc16) hA rfl rfl rfl (d_extract (vs := [.slice ro13 ((words (rt x d)).length) rc14, .slice uo15 ((words (x.natAbs % Nat.gcd x.natAbs d)).length) uc16]) rfl rfl) ?_
 intro a hA
 refine seq_do hA rfl rfl rfl (d_assign rfl) ?_
 intro a hA
 refine seq_do hA rfl rfl rfl (d_assign rfl) ?_
 intro a hA
 refine seq_end ?_
 refine hK12 _ _ ?_
 refine wp_seq_k (fun K21 hK21 => ?_)
 refine wp_region_lit ?_
 refine seq_do hA rfl rfl rfl (d_move rfl) ?_
 intro a hA
 refine seq_do hA rfl rfl rfl (d_move rfl) ?_
 intro a hA
 refine seq_call hA rfl rfl rfl (enters_func  rfl rfl (fun w => by kernel_rfl)) (divide_any _ _ (hS.rd 3 rfl) (hS.rd 2 rfl) (by omega) (Nat.le_trans (gcd_len hd ly) (by decide)) huo.nil (gcd_ne hd)) ?_
 rintro _ w29 ⟨ro22, rc23, uo24, uc25, rfl, ho26, hp27, hb28⟩
 replace hS := hS.call hb28
 replace hS := hS.addR ho26.rd
 replace hS := hS.addR hp27.rd
 refine ⟨_, rfl, ?_⟩
 intro a hA
 refine seq_do hA rfl rfl rfl (d_move rfl) ?_
 intro a hA
 refine seq_do (v := .slice ro22 ((words (rq x d)).length) rc23) hA rfl rfl rfl (d_extract (vs := [.slice ro22 ((words (rq x d)).length) rc23, .slice uo24 ((words (d % Nat.gcd x.natAbs d)).length) uc25]) rfl rfl) ?_
 intro a hA
 refine seq_do (v := .slice uo24 ((words (d % Nat.gcd x.natAbs d)).length) uc25) hA rfl rfl rfl (d_extract (vs := [.slice ro22 ((words (rq x d)).length) rc23, .slice uo24 ((words (d % Nat.gcd x.natAbs d)).length) uc25]) rfl rfl) ?_
 intro a hA
 refine seq_do hA rfl rfl rfl (d_assign rfl) ?_
 intro a hA
 refine seq_do hA rfl rfl rfl (d_assign rfl) ?_
 intro a hA
 refine seq_end ?_
 refine hK21 _ _ ?_
 refine wp_seq_k (fun K30 hK30 => ?_)
 refine wp_region_lit ?_
 refine seq_do (v := .pointer (some ⟨g2, 0, none⟩)) hA rfl rfl rfl (d_field ExI_fld_53_0 rfl rfl) ?_
 intro a hA
 refine seq_do hA rfl rfl rfl (d_load1 hS ExI_is1_4 rfl 1 rfl rfl) ?_
 intro a hA
 refine seq_do hA rfl rfl rfl (d_move rfl) ?_
 intro a hA
 refine seq_do hA rfl rfl rfl (d_move rfl) ?_
 intro a hA
 refine seq_do (v := .agg #[.bool ((rb x)), .slice ro13 ((words (rt x d)).length) rc14, .slice ro22 ((words (rq x d)).length) rc23]) hA rfl rfl rfl (d_build rfl (fun w => by kernel_rfl)) ?_
 intro a hA
 refine seq_store (us := [.bool ((rb x)), .slice ro13 ((words (rt x d)).length) rc14, .slice ro22 ((words (rq x d)).length) rc23]) hA hS rfl rfl (sets_store (cs := [.bool ((rb x)), .slice ro13 ((words (rt x d)).length) rc14, .slice ro22 ((words (rq x d)).length) rc23]) rfl rfl rfl (by kernel_rfl) hS 0 rfl rfl rfl) 0 rfl rfl rfl rfl ?_
 intro w31 hS
 refine seq_end ?_
 refine hK30 _ _ ?_
 refine wp_ret ?_
 refine hret _ _ ?_
 refine ends (v := .agg #[.bool ((rb x)), .slice ro13 ((words (rt x d)).length) rc14, .slice ro22 ((words (rq x d)).length) rc23]) hA rfl (.cons (res_cell hS ExI_isS_24 rfl 0 rfl (cs := [.bool ((rb x)), .slice ro13 ((words (rt x d)).length) rc14, .slice ro22 ((words (rq x d)).length) rc23]) rfl rfl) .nil) rfl ?_
 exact ⟨ro13, rc14, ro22, rc23, rfl, ⟨(hS.rd 3 rfl), ho17.nocap, ho17.caps⟩, ⟨(hS.rd 1 rfl), ho26.nocap, ho26.caps⟩, hS.bel⟩
end Go.Proofs.YthlkbnhbmfmchaaGreat
namespace Go.Proofs.YthlkbnhbmfmchaaGreat
open Go.RowKit
set_option linter.unusedVariables false
set_option linter.unusedSimpArgs false
set_option maxRecDepth 100000
theorem ExJ_is1_22 : Is1 Tryz.prog 22 := ⟨⟨_, Tryz.underlying22, rfl⟩, by kernel_rfl⟩
theorem ExJ_fld_26_0 : FieldAt Tryz.prog 26 0 0 := ⟨_, _, Tryz.underlying26, rfl, rfl, by kernel_rfl⟩
theorem ExJ_fld_26_1 : FieldAt Tryz.prog 26 1 3 := ⟨_, _, Tryz.underlying26, rfl, rfl, by kernel_rfl⟩
theorem ExJ_fld_55_0 : FieldAt Tryz.prog 55 0 0 := ⟨_, _, Tryz.underlying55, rfl, rfl, by kernel_rfl⟩
theorem ExJ_fld_55_1 : FieldAt Tryz.prog 55 1 2 := ⟨_, _, Tryz.underlying55, rfl, rfl, by kernel_rfl⟩
theorem ExJ_fld_55_2 : FieldAt Tryz.prog 55 2 4 := ⟨_, _, Tryz.underlying55, rfl, rfl, by kernel_rfl⟩
theorem ExJ_isS_24 : IsS Tryz.prog 24 3 := ⟨⟨_, Tryz.underlying24⟩, by kernel_rfl⟩
theorem ExJ_isS_26 : IsS Tryz.prog 26 6 := ⟨⟨_, Tryz.underlying26⟩, by kernel_rfl⟩
theorem ExJ_isS_53 : IsS Tryz.prog 53 2 := ⟨⟨_, Tryz.underlying53⟩, by kernel_rfl⟩
theorem ExJ_isS_55 : IsS Tryz.prog 55 5 := ⟨⟨_, Tryz.underlying55⟩, by kernel_rfl⟩
theorem fitsB_any {w : World} {b : Bool} {n m : Nat} {o1 o2 : Option Addr} {c1 c2 : Nat} (h1 : Sc w o1 c1 (words n)) (h2 : Sc w o2 c2 (words m)) (l1 : (words n).length ≤ 9223372036854775807) (l2 : (words m).length ≤ 9223372036854775807) {r : Bool} (hr : (decide ((words n).length ≤ 512) && decide ((words m).length ≤ 512)) = r) :
    Calls Tryz.prog 109 #[.agg #[.bool b, .slice o1 (words n).length c1, .slice o2 (words m).length c2]] w fun e w' => e = .returned (.bool r) ∧ Below w.heap.size w w' := by
  subst hr
  rw [← sound_len, ← sound_len]
  exact fits_any c1 c2 h1.rd h2.rd l1 l2
theorem setQ_pos {x y : Int} {d : Nat} (h1 : (decide ((words (rt x d)).length ≤ 512) && decide ((words (rq x d)).length ≤ 512)) = true) (h2 : (decide ((words (rt y d)).length ≤ 512) && decide ((words (rq y d)).length ≤ 512)) = true) : setQ x y d = (⟨rb x, words (rt x d), words (rq x d), rb y, words (rt y d), words (rq y d)⟩, 0) := by
  simp only [Bool.and_eq_true, decide_eq_true_eq] at h1 h2
  unfold setQ
  rw [if_pos ⟨h1.1, h1.2, h2.1, h2.2⟩]
theorem setQ_neg1 {x y : Int} {d : Nat} (h1 : (decide ((words (rt x d)).length ≤ 512) && decide ((words (rq x d)).length ≤ 512)) = false) : setQ x y d = (Q6.zero, 4) := by
  unfold setQ
  rw [if_neg]
  rintro ⟨a, b, _⟩
  rw [decide_eq_true a, decide_eq_true b] at h1
  cases h1
theorem setQ_neg2 {x y : Int} {d : Nat} (h1 : (decide ((words (rt y d)).length ≤ 512) && decide ((words (rq y d)).length ≤ 512)) = false) : setQ x y d = (Q6.zero, 4) := by
  unfold setQ
  rw [if_neg]
  rintro ⟨_, _, a, b⟩
  rw [decide_eq_true a, decide_eq_true b] at h1
  cases h1
theorem zsettle_any {w : World} {x y : Int} {d : Nat} {a1 a2 a3 : Option Addr} {ac1 ac2 ac3 : Nat} (ha1 : Sc w a1 ac1 (words x.natAbs)) (ha2 : Sc w a2 ac2 (words y.natAbs)) (ha3 : Sc w a3 ac3 (words d)) (l1 : (words x.natAbs).length ≤ 50000) (l2 : (words y.natAbs).length ≤ 50000) (l3 : (words d).length ≤ 50000) (hd : d ≠ 0) : Calls Tryz.prog 63 #[.agg #[.bool (rb x), .slice a1 (words x.natAbs).length ac1, .bool (rb y), .slice a2 (words y.natAbs).length ac2, .slice a3 (words d).length ac3]] w (AnsN w (setQ x y d)) := by
 have hS : St w w [] [(a3, words d), (a2, words y.natAbs), (a1, words x.natAbs)] [] := (((St.start w).addR ha1.rd).addR ha2.rd).addR ha3.rd
 refine walk_of (l := [(0, .agg #[.bool ((rb x)), .slice a1 ((words x.natAbs).length) ac1, .bool ((rb y)), .slice a2 ((words y.natAbs).length) ac2, .slice a3 ((words d).length) ac3])]) Tryz.func63 rfl Tryz.ntmps63 rfl rfl ?_
 intro Q hret hnorm hP a hA
 refine wp_seq_k (fun K1 hK1 => ?_)
 refine wp_region_lit ?_
 refine seq_new (vs := [.bool ((rb x)), .slice a1 ((words x.natAbs).length) ac1, .bool ((rb y)), .slice a2 ((words y.natAbs).length) ac2, .slice a3 ((words d).length) ac3]) (t := 55) hA hS rfl rfl rfl (fun g => .pointer (some ⟨g, 0, none⟩)) (d_box rfl rfl) rfl ?_
 intro g2 w3 hS a hA
 refine seq_new (vs := [.bool false, .slice none 0 0, .slice none 0 0, .bool false, .slice none 0 0, .slice none 0 0]) (t := 26) hA hS rfl rfl rfl (fun g => .pointer (some ⟨g, 0, none⟩)) (d_alloc (z := .agg #[.bool false, .slice none 0 0, .slice none 0 0, .bool false, .slice none 0 0, .slice none 0 0]) (by kernel_rfl) rfl) rfl ?_
 intro g4 w5 hS a hA
 refine seq_do hA rfl rfl rfl (d_assign rfl) ?_
 intro a hA
 refine seq_end ?_
 refine hK1 _ _ ?_
 refine wp_seq_k (fun K6 hK6 => ?_)
 have hJ37 : ∀ a w1, (∃ (J20g : Nat) (J21 : Option Addr) (J22 : Nat) (J23 : Option Addr) (J24 : Nat) (J25 : Option Addr) (J26 : Nat) (J27 : Option Addr) (J28 : Nat), Sl a 28 [(0, .agg #[.bool ((rb x)), .slice a1 ((words x.natAbs).length) ac1, .bool ((rb y)), .slice a2 ((words y.natAbs).length) ac2, .slice a3 ((words d).length) ac3]), (2, .pointer (some ⟨g4, 0, none⟩)), (3, .int .i64 0), (4, .pointer (some ⟨J20g, 0, none⟩))] ∧ St w w1 [(J20g, [.bool ((rb x)), .slice J21 ((words (rt x d)).length) J22, .slice J23 ((words (rq x d)).length) J24, .bool ((rb y)), .slice J25 ((words (rt y d)).length) J26, .slice J27 ((words (rq y d)).length) J28]), (g4, [.bool false, .slice none 0 0, .slice none 0 0, .bool false, .slice none 0 0, .slice none 0 0]), (g2, [.bool ((rb x)), .slice a1 ((words x.natAbs).length) ac1, .bool ((rb y)), .slice a2 ((words y.natAbs).length) ac2, .slice a3 ((words d).length) ac3])] [(J27, words (rq y d)), (J25, words (rt y d)), (J23, words (rq x d)), (J21, words (rt x d)), (a3, words d), (a2, words y.natAbs), (a1, words x.natAbs)] [] ∧ (J27 = none → J28 = 0) ∧ (words (rq y d) : List Nat).length ≤ J28 ∧ (J25 = none → J26 = 0) ∧ (words (rt y d) : List Nat).length ≤ J26 ∧ (J23 = none → J24 = 0) ∧ (words (rq x d) : List Nat).length ≤ J24 ∧ (J21 = none → J22 = 0) ∧ (words (rt x d) : List Nat).length ≤ J22) → K6 a w1 := by
   clear hA hS
   rintro a w38 ⟨J20g, J21, J22, J23, J24, J25, J26, J27, J28, hA, hS, hn29, hc30, hn31, hc32, hn33, hc34, hn35, hc36⟩
   refine hK6 _ _ ?_
   refine wp_seq_k (fun K39 hK39 => ?_)
   refine wp_seq_k (fun K40 hK40 => ?_)
   refine wp_region_lit ?_
   refine seq_do (v := .pointer (some ⟨J20g, 0, none⟩)) hA rfl rfl rfl (d_field ExJ_fld_26_0 rfl rfl) ?_
   intro a hA
   refine seq_do hA rfl rfl rfl (d_loadS hS ExJ_isS_24 rfl 0 rfl (cs := [.bool ((rb x)), .slice J21 ((words (rt x d)).length) J22, .slice J23 ((words (rq x d)).length) J24]) rfl rfl) ?_
   intro a hA
   rcases Bool.eq_false_or_eq_true ((decide ((words (rt x d)).length ≤ 512) && decide ((words (rq x d)).length ≤ 512))) with hb41 | hb41
   · refine seq_call hA rfl rfl rfl (enters_func  rfl rfl (fun w => by kernel_rfl)) (fitsB_any ⟨(hS.rd 3 rfl), hn35, hc36⟩ ⟨(hS.rd 2 rfl), hn33, hc34⟩ (by have h9 := div_len (g := Nat.gcd x.natAbs d) l1; unfold rt; omega) (by have h9 := div_len (g := Nat.gcd x.natAbs d) l3; unfold rq; omega) hb41) ?_
     rintro _ w43 ⟨rfl, hb42⟩
     replace hS := hS.call hb42
     refine ⟨_, rfl, ?_⟩
     intro a hA
     refine seq_do (v := .bool false) hA rfl rfl rfl (d_un rfl un_not) ?_
     intro a hA
     refine seq_do hA rfl rfl rfl (d_move rfl) ?_
     intro a hA
     refine seq_do (v := .pointer (some ⟨J20g, 3, none⟩)) hA rfl rfl rfl (d_field ExJ_fld_26_1 rfl rfl) ?_
     intro a hA
     refine seq_do hA rfl rfl rfl (d_loadS hS ExJ_isS_24 rfl 0 rfl (cs := [.bool ((rb y)), .slice J25 ((words (rt y d)).length) J26, .slice J27 ((words (rq y d)).length) J28]) rfl rfl) ?_
     intro a hA
     rcases Bool.eq_false_or_eq_true ((decide ((words (rt y d)).length ≤ 512) && decide ((words (rq y d)).length ≤ 512))) with hb44 | hb44
     · refine seq_call hA rfl rfl rfl (enters_func  rfl rfl (fun w => by kernel_rfl)) (fitsB_any ⟨(hS.rd 1 rfl), hn31, hc32⟩ ⟨(hS.rd 0 rfl), hn29, hc30⟩ (by have h9 := div_len (g := Nat.gcd y.natAbs d) l2; unfold rt; omega) (by have h9 := div_len (g := Nat.gcd y.natAbs d) l3; unfold rq; omega) hb44) ?_
       rintro _ w46 ⟨rfl, hb45⟩
       replace hS := hS.call hb45
       refine ⟨_, rfl, ?_⟩
       intro a hA
       refine seq_do (v := .bool false) hA rfl rfl rfl (d_un rfl un_not) ?_
       intro a hA
       refine seq_do (v := .bool false) hA rfl rfl rfl (d_pick rfl rfl rfl rfl) ?_
       intro a hA
       refine seq_end ?_
       refine hK40 _ _ ?_
       refine wp_cond_false (hA.ev rfl) ?_
       refine wp_skip ?_
       refine hK39 _ _ ?_
       refine wp_seq_k (fun K47 hK47 => ?_)
       refine wp_region_lit ?_
       refine seq_do hA rfl rfl rfl (d_loadS hS ExJ_isS_26 rfl 0 rfl (cs := [.bool ((rb x)), .slice J21 ((words (rt x d)).length) J22, .slice J23 ((words (rq x d)).length) J24, .bool ((rb y)), .slice J25 ((words (rt y d)).length) J26, .slice J27 ((words (rq y d)).length) J28]) rfl rfl) ?_
       intro a hA
       refine seq_store (us := [.bool ((rb x)), .slice J21 ((words (rt x d)).length) J22, .slice J23 ((words (rq x d)).length) J24, .bool ((rb y)), .slice J25 ((words (rt y d)).length) J26, .slice J27 ((words (rq y d)).length) J28]) hA hS rfl rfl (sets_store (cs := [.bool ((rb x)), .slice J21 ((words (rt x d)).length) J22, .slice J23 ((words (rq x d)).length) J24, .bool ((rb y)), .slice J25 ((words (rt y d)).length) J26, .slice J27 ((words (rq y d)).length) J28]) rfl rfl rfl (by kernel_rfl) hS 1 rfl rfl rfl) 1 rfl rfl rfl rfl ?_
       intro w48 hS
       refine seq_do hA rfl rfl rfl (d_assign rfl) ?_
       intro a hA
       refine seq_end ?_
       refine hK47 _ _ ?_
       refine wp_ret ?_
       refine hret _ _ ?_
       refine ends (v := .tuple #[.agg #[.bool ((rb x)), .slice J21 ((words (rt x d)).length) J22, .slice J23 ((words (rq x d)).length) J24, .bool ((rb y)), .slice J25 ((words (rt y d)).length) J26, .slice J27 ((words (rq y d)).length) J28], .int .i64 0]) hA rfl (.cons (res_cell hS ExJ_isS_26 rfl 1 rfl (cs := [.bool ((rb x)), .slice J21 ((words (rt x d)).length) J22, .slice J23 ((words (rq x d)).length) J24, .bool ((rb y)), .slice J25 ((words (rt y d)).length) J26, .slice J27 ((words (rq y d)).length) J28]) rfl rfl) (.cons (res_tmp rfl) .nil)) rfl ?_
       rw [setQ_pos hb41 hb44]
       exact ⟨J21, J22, J23, J24, J25, J26, J27, J28, rfl, ⟨⟨(hS.rd 3 rfl), hn35, hc36⟩, ⟨(hS.rd 2 rfl), hn33, hc34⟩, ⟨(hS.rd 1 rfl), hn31, hc32⟩, ⟨(hS.rd 0 rfl), hn29, hc30⟩⟩, hS.bel⟩
     · refine seq_call hA rfl rfl rfl (enters_func  rfl rfl (fun w => by kernel_rfl)) (fitsB_any ⟨(hS.rd 1 rfl), hn31, hc32⟩ ⟨(hS.rd 0 rfl), hn29, hc30⟩ (by have h9 := div_len (g := Nat.gcd y.natAbs d) l2; unfold rt; omega) (by have h9 := div_len (g := Nat.gcd y.natAbs d) l3; unfold rq; omega) hb44) ?_
       rintro _ w50 ⟨rfl, hb49⟩
       replace hS := hS.call hb49
       refine ⟨_, rfl, ?_⟩
       intro a hA
       refine seq_do (v := .bool true) hA rfl rfl rfl (d_un rfl un_not) ?_
       intro a hA
       refine seq_do (v := .bool true) hA rfl rfl rfl (d_pick rfl rfl rfl rfl) ?_
       intro a hA
       refine seq_end ?_
       refine hK40 _ _ ?_
       refine wp_cond_true (hA.ev rfl) ?_
       refine wp_seq_k (fun K51 hK51 => ?_)
       refine wp_region_lit ?_
       refine seq_do (v := .agg #[.bool false, .slice none 0 0, .slice none 0 0, .bool false, .slice none 0 0, .slice none 0 0]) hA rfl rfl rfl (d_build rfl (fun w => by kernel_rfl)) ?_
       intro a hA
       refine seq_store (us := [.bool false, .slice none 0 0, .slice none 0 0, .bool false, .slice none 0 0, .slice none 0 0]) hA hS rfl rfl (sets_store (cs := [.bool false, .slice none 0 0, .slice none 0 0, .bool false, .slice none 0 0, .slice none 0 0]) rfl rfl rfl (by kernel_rfl) hS 1 rfl rfl rfl) 1 rfl rfl rfl rfl ?_
       intro w52 hS
       refine seq_do hA rfl rfl rfl (d_assign rfl) ?_
       intro a hA
       refine seq_end ?_
       refine hK51 _ _ ?_
       refine wp_ret ?_
       refine hret _ _ ?_
       refine ends (v := .tuple #[.agg #[.bool false, .slice none 0 0, .slice none 0 0, .bool false, .slice none 0 0, .slice none 0 0], .int .i64 4]) hA rfl (.cons (res_cell hS ExJ_isS_26 rfl 1 rfl (cs := [.bool false, .slice none 0 0, .slice none 0 0, .bool false, .slice none 0 0, .slice none 0 0]) rfl rfl) (.cons (res_tmp rfl) .nil)) rfl ?_
       rw [setQ_neg2 hb44]
       exact ⟨none, 0, none, 0, none, 0, none, 0, rfl, ⟨(Sc.none _), (Sc.none _), (Sc.none _), (Sc.none _)⟩, hS.bel⟩
   · refine seq_call hA rfl rfl rfl (enters_func  rfl rfl (fun w => by kernel_rfl)) (fitsB_any ⟨(hS.rd 3 rfl), hn35, hc36⟩ ⟨(hS.rd 2 rfl), hn33, hc34⟩ (by have h9 := div_len (g := Nat.gcd x.natAbs d) l1; unfold rt; omega) (by have h9 := div_len (g := Nat.gcd x.natAbs d) l3; unfold rq; omega) hb41) ?_
     rintro _ w54 ⟨rfl, hb53⟩
     replace hS := hS.call hb53
     refine ⟨_, rfl, ?_⟩
     intro a hA
     refine seq_do (v := .bool true) hA rfl rfl rfl (d_un rfl un_not) ?_
     intro a hA
     refine seq_do hA rfl rfl rfl (d_move rfl) ?_
     intro a hA
     refine seq_skip hA rfl rfl rfl ?_
     intro a hA
     refine seq_skip hA rfl rfl rfl ?_
     intro a hA
     refine seq_skip hA rfl rfl rfl ?_
     intro a hA
     refine seq_skip hA rfl rfl rfl ?_
     intro a hA
     refine seq_do (v := .bool true) hA rfl rfl rfl (d_pick rfl rfl rfl rfl) ?_
     intro a hA
     refine seq_end ?_
     refine hK40 _ _ ?_
     refine wp_cond_true (hA.ev rfl) ?_
     refine wp_seq_k (fun K55 hK55 => ?_)
     refine wp_region_lit ?_
     refine seq_do (v := .agg #[.bool false, .slice none 0 0, .slice none 0 0, .bool false, .slice none 0 0, .slice none 0 0]) hA rfl rfl rfl (d_build rfl (fun w => by kernel_rfl)) ?_
     intro a hA
     refine seq_store (us := [.bool false, .slice none 0 0, .slice none 0 0, .bool false, .slice none 0 0, .slice none 0 0]) hA hS rfl rfl (sets_store (cs := [.bool false, .slice none 0 0, .slice none 0 0, .bool false, .slice none 0 0, .slice none 0 0]) rfl rfl rfl (by kernel_rfl) hS 1 rfl rfl rfl) 1 rfl rfl rfl rfl ?_
     intro w56 hS
     refine seq_do hA rfl rfl rfl (d_assign rfl) ?_
     intro a hA
     refine seq_end ?_
     refine hK55 _ _ ?_
     refine wp_ret ?_
     refine hret _ _ ?_
     refine ends (v := .tuple #[.agg #[.bool false, .slice none 0 0, .slice none 0 0, .bool false, .slice none 0 0, .slice none 0 0], .int .i64 4]) hA rfl (.cons (res_cell hS ExJ_isS_26 rfl 1 rfl (cs := [.bool false, .slice none 0 0, .slice none 0 0, .bool false, .slice none 0 0, .slice none 0 0]) rfl rfl) (.cons (res_tmp rfl) .nil)) rfl ?_
     rw [setQ_neg1 hb41]
     exact ⟨none, 0, none, 0, none, 0, none, 0, rfl, ⟨(Sc.none _), (Sc.none _), (Sc.none _), (Sc.none _)⟩, hS.bel⟩
 refine wp_draw (S := fun w1 => St w w1 [(g4, [.bool false, .slice none 0 0, .slice none 0 0, .bool false, .slice none 0 0, .slice none 0 0]), (g2, [.bool ((rb x)), .slice a1 ((words x.natAbs).length) ac1, .bool ((rb y)), .slice a2 ((words y.natAbs).length) ac2, .slice a3 ((words d).length) ac3])] [(a3, words d), (a2, words y.natAbs), (a1, words x.natAbs)] []) (by kernel_rfl) ?_
 replace hS := hS.drew
 refine any_tk (v := .pointer (some ⟨g2, 0, none⟩)) hA 0 rfl rfl rfl rfl hP hS (fun w1 hS => d_field ExJ_fld_55_0 rfl rfl) ?_
 intro a hA
 refine any_tk hA 1 rfl rfl rfl rfl hP hS (fun w1 hS => d_loadS hS ExJ_isS_53 rfl 1 rfl (cs := [.bool ((rb x)), .slice a1 ((words x.natAbs).length) ac1]) rfl rfl) ?_
 intro a hA
 refine any_tk (v := .pointer (some ⟨g2, 4, none⟩)) hA 2 rfl rfl rfl rfl hP hS (fun w1 hS => d_field ExJ_fld_55_2 rfl rfl) ?_
 intro a hA
 refine any_tk hA 3 rfl rfl rfl rfl hP hS (fun w1 hS => d_load1 hS ExJ_is1_22 rfl 1 rfl rfl) ?_
 intro a hA
 refine any_tk (v := .pointer (some ⟨g2, 2, none⟩)) hA 5 rfl rfl rfl rfl hP hS (fun w1 hS => d_field ExJ_fld_55_1 rfl rfl) ?_
 intro a hA
 refine any_tk hA 6 rfl rfl rfl rfl hP hS (fun w1 hS => d_loadS hS ExJ_isS_53 rfl 1 rfl (cs := [.bool ((rb y)), .slice a2 ((words y.natAbs).length) ac2]) rfl rfl) ?_
 intro a hA
 refine any_tk (v := .pointer (some ⟨g2, 4, none⟩)) hA 7 rfl rfl rfl rfl hP hS (fun w1 hS => d_field ExJ_fld_55_2 rfl rfl) ?_
 intro a hA
 refine any_tk hA 8 rfl rfl rfl rfl hP hS (fun w1 hS => d_load1 hS ExJ_is1_22 rfl 1 rfl rfl) ?_
 intro a hA
 refine any_many (rs := [4, 11]) (by kernel_rfl) (by simp) ⟨?_, ?_, trivial⟩
 · refine op_call hA 4 rfl rfl rfl rfl (enters_func  rfl rfl (fun w => by kernel_rfl)) (zlowest_any ⟨(hS.rd 2 rfl), ha1.nil, ha1.cap⟩ ⟨(hS.rd 0 rfl), ha3.nil, ha3.cap⟩ l1 l3 hd) ?_
   rintro _ w61 ⟨f57_1, f57_c1, f57_2, f57_c2, rfl, hs58, hs59, hb60⟩
   replace hS := hS.call hb60
   replace hS := hS.addR hs58.rd
   replace hS := hS.addR hs59.rd
   refine ⟨_, rfl, (hS.partD (.refl _) 2 rfl (.refl _)), ?_⟩
   intro a hA
   refine any_many (rs := [9, 11]) (by kernel_rfl) (by simp) ⟨?_, ?_, trivial⟩
   · refine op_call hA 9 rfl rfl rfl rfl (enters_func  rfl rfl (fun w => by kernel_rfl)) (zlowest_any ⟨(hS.rd 3 rfl), ha2.nil, ha2.cap⟩ ⟨(hS.rd 2 rfl), ha3.nil, ha3.cap⟩ l2 l3 hd) ?_
     rintro _ w66 ⟨f62_1, f62_c1, f62_2, f62_c2, rfl, hs63, hs64, hb65⟩
     replace hS := hS.call hb65
     replace hS := hS.addR hs63.rd
     replace hS := hS.addR hs64.rd
     refine ⟨_, rfl, (hS.partD (.refl _) 4 rfl (.refl _)), ?_⟩
     intro a hA
     refine any_tk (v := .agg #[.bool ((rb x)), .slice f57_1 ((words (rt x d)).length) f57_c1, .slice f57_2 ((words (rq x d)).length) f57_c2, .bool ((rb y)), .slice f62_1 ((words (rt y d)).length) f62_c1, .slice f62_2 ((words (rq y d)).length) f62_c2]) hA 10 rfl rfl rfl rfl hP (hS.partD (.refl _) 4 rfl (.refl _)) (fun w1 hS => d_build rfl (fun w => by kernel_rfl)) ?_
     intro a hA
     refine any_one (by kernel_rfl) (op_new (vs := [.bool false, .slice none 0 0, .slice none 0 0, .bool false, .slice none 0 0, .slice none 0 0]) (t := 26) hA hS 11 rfl rfl rfl rfl (fun g => .pointer (some ⟨g, 0, none⟩)) (d_alloc (z := .agg #[.bool false, .slice none 0 0, .slice none 0 0, .bool false, .slice none 0 0, .slice none 0 0]) (by kernel_rfl) rfl) rfl ?_)
     intro g67 w68 hS
     refine ⟨(hS.partD (.cons _ (.cons_cons _ (.cons_cons _ .slnil))) 4 rfl (.refl _)), ?_⟩
     intro a hA
     refine any_one (by kernel_rfl) (op_store (us := [.bool ((rb x)), .slice f57_1 ((words (rt x d)).length) f57_c1, .slice f57_2 ((words (rq x d)).length) f57_c2, .bool ((rb y)), .slice f62_1 ((words (rt y d)).length) f62_c1, .slice f62_2 ((words (rq y d)).length) f62_c2]) hA hS 12 rfl rfl rfl (sets_store (cs := [.bool ((rb x)), .slice f57_1 ((words (rt x d)).length) f57_c1, .slice f57_2 ((words (rq x d)).length) f57_c2, .bool ((rb y)), .slice f62_1 ((words (rt y d)).length) f62_c1, .slice f62_2 ((words (rq y d)).length) f62_c2]) rfl rfl rfl (by kernel_rfl) hS 0 rfl rfl rfl) 0 rfl rfl rfl rfl ?_)
     intro w69 hS
     refine ⟨(hS.partD (.cons _ (.cons_cons _ (.cons_cons _ .slnil))) 4 rfl (.refl _)), ?_⟩
     refine any_end (by kernel_rfl) ?_
     refine hJ37 _ _ ⟨g67, f57_1, f57_c1, f57_2, f57_c2, f62_1, f62_c1, f62_2, f62_c2, hA.keep _ ⟨rfl, rfl, rfl, rfl, trivial⟩, ((hS.pickR [(f62_2, words (rq y d)), (f62_1, words (rt y d)), (f57_2, words (rq x d)), (f57_1, words (rt x d)), (a3, words d), (a2, words y.natAbs), (a1, words x.natAbs)] ⟨⟨0, rfl⟩, ⟨⟨1, rfl⟩, ⟨⟨2, rfl⟩, ⟨⟨3, rfl⟩, ⟨⟨4, rfl⟩, ⟨⟨5, rfl⟩, ⟨⟨6, rfl⟩, trivial⟩⟩⟩⟩⟩⟩⟩).pickL [(g67, [.bool ((rb x)), .slice f57_1 ((words (rt x d)).length) f57_c1, .slice f57_2 ((words (rq x d)).length) f57_c2, .bool ((rb y)), .slice f62_1 ((words (rt y d)).length) f62_c1, .slice f62_2 ((words (rq y d)).length) f62_c2]), (g4, [.bool false, .slice none 0 0, .slice none 0 0, .bool false, .slice none 0 0, .slice none 0 0]), (g2, [.bool ((rb x)), .slice a1 ((words x.natAbs).length) ac1, .bool ((rb y)), .slice a2 ((words y.natAbs).length) ac2, .slice a3 ((words d).length) ac3])] [0, 1, 2] rfl (by decide)), hs64.nil, hs64.cap, hs63.nil, hs63.cap, hs59.nil, hs59.cap, hs58.nil, hs58.cap⟩
   · refine op_new (vs := [.bool false, .slice none 0 0, .slice none 0 0, .bool false, .slice none 0 0, .slice none 0 0]) (t := 26) hA hS 11 rfl rfl rfl rfl (fun g => .pointer (some ⟨g, 0, none⟩)) (d_alloc (z := .agg #[.bool false, .slice none 0 0, .slice none 0 0, .bool false, .slice none 0 0, .slice none 0 0]) (by kernel_rfl) rfl) rfl ?_
     intro g70 w71 hS
     refine ⟨(hS.partD (.cons _ (.cons_cons _ (.cons_cons _ .slnil))) 2 rfl (.refl _)), ?_⟩
     intro a hA
     refine any_one (by kernel_rfl) (op_call hA 9 rfl rfl rfl rfl (enters_func  rfl rfl (fun w => by kernel_rfl)) (zlowest_any ⟨(hS.rd 3 rfl), ha2.nil, ha2.cap⟩ ⟨(hS.rd 2 rfl), ha3.nil, ha3.cap⟩ l2 l3 hd) ?_)
     rintro _ w76 ⟨f72_1, f72_c1, f72_2, f72_c2, rfl, hs73, hs74, hb75⟩
     replace hS := hS.call hb75
     replace hS := hS.addR hs73.rd
     replace hS := hS.addR hs74.rd
     refine ⟨_, rfl, (hS.partD (.cons _ (.cons_cons _ (.cons_cons _ .slnil))) 4 rfl (.refl _)), ?_⟩
     intro a hA
     refine any_tk (v := .agg #[.bool ((rb x)), .slice f57_1 ((words (rt x d)).length) f57_c1, .slice f57_2 ((words (rq x d)).length) f57_c2, .bool ((rb y)), .slice f72_1 ((words (rt y d)).length) f72_c1, .slice f72_2 ((words (rq y d)).length) f72_c2]) hA 10 rfl rfl rfl rfl hP (hS.partD (.cons _ (.cons_cons _ (.cons_cons _ .slnil))) 4 rfl (.refl _)) (fun w1 hS => d_build rfl (fun w => by kernel_rfl)) ?_
     intro a hA
     refine any_one (by kernel_rfl) (op_store (us := [.bool ((rb x)), .slice f57_1 ((words (rt x d)).length) f57_c1, .slice f57_2 ((words (rq x d)).length) f57_c2, .bool ((rb y)), .slice f72_1 ((words (rt y d)).length) f72_c1, .slice f72_2 ((words (rq y d)).length) f72_c2]) hA hS 12 rfl rfl rfl (sets_store (cs := [.bool ((rb x)), .slice f57_1 ((words (rt x d)).length) f57_c1, .slice f57_2 ((words (rq x d)).length) f57_c2, .bool ((rb y)), .slice f72_1 ((words (rt y d)).length) f72_c1, .slice f72_2 ((words (rq y d)).length) f72_c2]) rfl rfl rfl (by kernel_rfl) hS 0 rfl rfl rfl) 0 rfl rfl rfl rfl ?_)
     intro w77 hS
     refine ⟨(hS.partD (.cons _ (.cons_cons _ (.cons_cons _ .slnil))) 4 rfl (.refl _)), ?_⟩
     refine any_end (by kernel_rfl) ?_
     refine hJ37 _ _ ⟨g70, f57_1, f57_c1, f57_2, f57_c2, f72_1, f72_c1, f72_2, f72_c2, hA.keep _ ⟨rfl, rfl, rfl, rfl, trivial⟩, ((hS.pickR [(f72_2, words (rq y d)), (f72_1, words (rt y d)), (f57_2, words (rq x d)), (f57_1, words (rt x d)), (a3, words d), (a2, words y.natAbs), (a1, words x.natAbs)] ⟨⟨0, rfl⟩, ⟨⟨1, rfl⟩, ⟨⟨2, rfl⟩, ⟨⟨3, rfl⟩, ⟨⟨4, rfl⟩, ⟨⟨5, rfl⟩, ⟨⟨6, rfl⟩, trivial⟩⟩⟩⟩⟩⟩⟩).pickL [(g70, [.bool ((rb x)), .slice f57_1 ((words (rt x d)).length) f57_c1, .slice f57_2 ((words (rq x d)).length) f57_c2, .bool ((rb y)), .slice f72_1 ((words (rt y d)).length) f72_c1, .slice f72_2 ((words (rq y d)).length) f72_c2]), (g4, [.bool false, .slice none 0 0, .slice none 0 0, .bool false, .slice none 0 0, .slice none 0 0]), (g2, [.bool ((rb x)), .slice a1 ((words x.natAbs).length) ac1, .bool ((rb y)), .slice a2 ((words y.natAbs).length) ac2, .slice a3 ((words d).length) ac3])] [0, 1, 2] rfl (by decide)), hs74.nil, hs74.cap, hs73.nil, hs73.cap, hs59.nil, hs59.cap, hs58.nil, hs58.cap⟩
 · refine op_new (vs := [.bool false, .slice none 0 0, .slice none 0 0, .bool false, .slice none 0 0, .slice none 0 0]) (t := 26) hA hS 11 rfl rfl rfl rfl (fun g => .pointer (some ⟨g, 0, none⟩)) (d_alloc (z := .agg #[.bool false, .slice none 0 0, .slice none 0 0, .bool false, .slice none 0 0, .slice none 0 0]) (by kernel_rfl) rfl) rfl ?_
   intro g78 w79 hS
   refine ⟨(hS.partD (.cons _ (.cons_cons _ (.cons_cons _ .slnil))) 0 rfl (.refl _)), ?_⟩
   intro a hA
   refine any_one (by kernel_rfl) (op_call hA 4 rfl rfl rfl rfl (enters_func  rfl rfl (fun w => by kernel_rfl)) (zlowest_any ⟨(hS.rd 2 rfl), ha1.nil, ha1.cap⟩ ⟨(hS.rd 0 rfl), ha3.nil, ha3.cap⟩ l1 l3 hd) ?_)
   rintro _ w84 ⟨f80_1, f80_c1, f80_2, f80_c2, rfl, hs81, hs82, hb83⟩
   replace hS := hS.call hb83
   replace hS := hS.addR hs81.rd
   replace hS := hS.addR hs82.rd
   refine ⟨_, rfl, (hS.partD (.cons _ (.cons_cons _ (.cons_cons _ .slnil))) 2 rfl (.refl _)), ?_⟩
   intro a hA
   refine any_one (by kernel_rfl) (op_call hA 9 rfl rfl rfl rfl (enters_func  rfl rfl (fun w => by kernel_rfl)) (zlowest_any ⟨(hS.rd 3 rfl), ha2.nil, ha2.cap⟩ ⟨(hS.rd 2 rfl), ha3.nil, ha3.cap⟩ l2 l3 hd) ?_)
   rintro _ w89 ⟨f85_1, f85_c1, f85_2, f85_c2, rfl, hs86, hs87, hb88⟩
   replace hS := hS.call hb88
   replace hS := hS.addR hs86.rd
   replace hS := hS.addR hs87.rd
   refine ⟨_, rfl, (hS.partD (.cons _ (.cons_cons _ (.cons_cons _ .slnil))) 4 rfl (.refl _)), ?_⟩
   intro a hA
   refine any_tk (v := .agg #[.bool ((rb x)), .slice f80_1 ((words (rt x d)).length) f80_c1, .slice f80_2 ((words (rq x d)).length) f80_c2, .bool ((rb y)), .slice f85_1 ((words (rt y d)).length) f85_c1, .slice f85_2 ((words (rq y d)).length) f85_c2]) hA 10 rfl rfl rfl rfl hP (hS.partD (.cons _ (.cons_cons _ (.cons_cons _ .slnil))) 4 rfl (.refl _)) (fun w1 hS => d_build rfl (fun w => by kernel_rfl)) ?_
   intro a hA
   refine any_one (by kernel_rfl) (op_store (us := [.bool ((rb x)), .slice f80_1 ((words (rt x d)).length) f80_c1, .slice f80_2 ((words (rq x d)).length) f80_c2, .bool ((rb y)), .slice f85_1 ((words (rt y d)).length) f85_c1, .slice f85_2 ((words (rq y d)).length) f85_c2]) hA hS 12 rfl rfl rfl (sets_store (cs := [.bool ((rb x)), .slice f80_1 ((words (rt x d)).length) f80_c1, .slice f80_2 ((words (rq x d)).length) f80_c2, .bool ((rb y)), .slice f85_1 ((words (rt y d)).length) f85_c1, .slice f85_2 ((words (rq y d)).length) f85_c2]) rfl rfl rfl (by kernel_rfl) hS 0 rfl rfl rfl) 0 rfl rfl rfl rfl ?_)
   intro w90 hS
   refine ⟨(hS.partD (.cons _ (.cons_cons _ (.cons_cons _ .slnil))) 4 rfl (.refl _)), ?_⟩
   refine any_end (by kernel_rfl) ?_
   refine hJ37 _ _ ⟨g78, f80_1, f80_c1, f80_2, f80_c2, f85_1, f85_c1, f85_2, f85_c2, hA.keep _ ⟨rfl, rfl, rfl, rfl, trivial⟩, ((hS.pickR [(f85_2, words (rq y d)), (f85_1, words (rt y d)), (f80_2, words (rq x d)), (f80_1, words (rt x d)), (a3, words d), (a2, words y.natAbs), (a1, words x.natAbs)] ⟨⟨0, rfl⟩, ⟨⟨1, rfl⟩, ⟨⟨2, rfl⟩, ⟨⟨3, rfl⟩, ⟨⟨4, rfl⟩, ⟨⟨5, rfl⟩, ⟨⟨6, rfl⟩, trivial⟩⟩⟩⟩⟩⟩⟩).pickL [(g78, [.bool ((rb x)), .slice f80_1 ((words (rt x d)).length) f80_c1, .slice f80_2 ((words (rq x d)).length) f80_c2, .bool ((rb y)), .slice f85_1 ((words (rt y d)).length) f85_c1, .slice f85_2 ((words (rq y d)).length) f85_c2]), (g4, [.bool false, .slice none 0 0, .slice none 0 0, .bool false, .slice none 0 0, .slice none 0 0]), (g2, [.bool ((rb x)), .slice a1 ((words x.natAbs).length) ac1, .bool ((rb y)), .slice a2 ((words y.natAbs).length) ac2, .slice a3 ((words d).length) ac3])] [0, 1, 2] rfl (by decide)), hs87.nil, hs87.cap, hs86.nil, hs86.cap, hs82.nil, hs82.cap, hs81.nil, hs81.cap⟩
theorem zproduct_any {w : World} {x1 y1 x2 y2 : Int} {d1 d2 : Nat} {a1 a2 a3 : Option Addr} {ac1 ac2 ac3 : Nat} (ha1 : Sc w a1 ac1 (words x1.natAbs)) (ha2 : Sc w a2 ac2 (words y1.natAbs)) (ha3 : Sc w a3 ac3 (words d1)) {u1 u2 u3 : Option Addr} {uc1 uc2 uc3 : Nat} (hu1 : Sc w u1 uc1 (words x2.natAbs)) (hu2 : Sc w u2 uc2 (words y2.natAbs)) (hu3 : Sc w u3 uc3 (words d2)) (la1 : (words x1.natAbs).length ≤ 10000) (la2 : (words y1.natAbs).length ≤ 10000) (la3 : (words d1).length ≤ 10000) (lu1 : (words x2.natAbs).length ≤ 10000) (lu2 : (words y2.natAbs).length ≤ 10000) (lu3 : (words d2).length ≤ 10000) : Calls Tryz.prog 100 #[.agg #[.bool (rb x1), .slice a1 (words x1.natAbs).length ac1, .bool (rb y1), .slice a2 (words y1.natAbs).length ac2, .slice a3 (words d1).length ac3], .agg #[.bool (rb x2), .slice u1 (words x2.natAbs).length uc1, .bool (rb y2), .slice u2 (words y2.natAbs).length uc2, .slice u3 (words d2).length uc3]] w (AnsR w (x1 * x2 + -(y1 * y2)) (x1 * y2 + y1 * x2) (d1 * d2)) := by
 have k1 := abs_mul_len la1 lu1
 have k2 := abs_mul_len la2 lu2
 have k3 := abs_mul_len la1 lu2
 have k4 := abs_mul_len la2 lu1
 have k5 : (words (-(y1 * y2)).natAbs).length ≤ 10000 + 10000 := by rw [Int.natAbs_neg]; exact k2
 have hS : St w w [] [(u3, words d2), (u2, words y2.natAbs), (u1, words x2.natAbs), (a3, words d1), (a2, words y1.natAbs), (a1, words x1.natAbs)] [] := ((((((St.start w).addR ha1.rd).addR ha2.rd).addR ha3.rd).addR hu1.rd).addR hu2.rd).addR hu3.rd
 refine walk_of (l := [(0, .agg #[.bool ((rb x1)), .slice a1 ((words x1.natAbs).length) ac1, .bool ((rb y1)), .slice a2 ((words y1.natAbs).length) ac2, .slice a3 ((words d1).length) ac3]), (1, .agg #[.bool ((rb x2)), .slice u1 ((words x2.natAbs).length) uc1, .bool ((rb y2)), .slice u2 ((words y2.natAbs).length) uc2, .slice u3 ((words d2).length) uc3])]) Tryz.func100 rfl Tryz.ntmps100 rfl rfl ?_
 intro Q hret hnorm hP a hA
 refine wp_seq_k (fun K1 hK1 => ?_)
 refine wp_region_lit ?_
 refine seq_new (vs := [.bool ((rb x1)), .slice a1 ((words x1.natAbs).length) ac1, .bool ((rb y1)), .slice a2 ((words y1.natAbs).length) ac2, .slice a3 ((words d1).length) ac3]) (t := 55) hA hS rfl rfl rfl (fun g => .pointer (some ⟨g, 0, none⟩)) (d_box rfl rfl) rfl ?_
 intro g2 w3 hS a hA
 refine seq_new (vs := [.bool ((rb x2)), .slice u1 ((words x2.natAbs).length) uc1, .bool ((rb y2)), .slice u2 ((words y2.natAbs).length) uc2, .slice u3 ((words d2).length) uc3]) (t := 55) hA hS rfl rfl rfl (fun g => .pointer (some ⟨g, 0, none⟩)) (d_box rfl rfl) rfl ?_
 intro g4 w5 hS a hA
 refine seq_new (vs := [.bool false, .slice none 0 0, .bool false, .slice none 0 0, .slice none 0 0]) (t := 55) hA hS rfl rfl rfl (fun g => .pointer (some ⟨g, 0, none⟩)) (d_alloc (z := .agg #[.bool false, .slice none 0 0, .bool false, .slice none 0 0, .slice none 0 0]) (by kernel_rfl) rfl) rfl ?_
 intro g6 w7 hS a hA
 refine seq_end ?_
 refine hK1 _ _ ?_
 refine wp_seq_k (fun K8 hK8 => ?_)
 refine wp_draw (S := fun w1 => St w w1 [(g4, [.bool ((rb x2)), .slice u1 ((words x2.natAbs).length) uc1, .bool ((rb y2)), .slice u2 ((words y2.natAbs).length) uc2, .slice u3 ((words d2).length) uc3]), (g2, [.bool ((rb x1)), .slice a1 ((words x1.natAbs).length) ac1, .bool ((rb y1)), .slice a2 ((words y1.natAbs).length) ac2, .slice a3 ((words d1).length) ac3])] [(u3, words d2), (u2, words y2.natAbs), (u1, words x2.natAbs), (a3, words d1), (a2, words y1.natAbs), (a1, words x1.natAbs)] []) (by kernel_rfl) ?_
 replace hS := hS.drew
 refine any_tk (v := .pointer (some ⟨g2, 0, none⟩)) hA 0 rfl rfl rfl rfl hP (hS.partD (.cons _ (.cons_cons _ (.cons_cons _ .slnil))) 0 rfl (.refl _)) (fun w1 hS => d_field ExJ_fld_55_0 rfl rfl) ?_
 intro a hA
 refine any_tk hA 1 rfl rfl rfl rfl hP (hS.partD (.cons _ (.cons_cons _ (.cons_cons _ .slnil))) 0 rfl (.refl _)) (fun w1 hS => d_loadS hS ExJ_isS_53 rfl 1 rfl (cs := [.bool ((rb x1)), .slice a1 ((words x1.natAbs).length) ac1]) rfl rfl) ?_
 intro a hA
 refine any_tk (v := .pointer (some ⟨g4, 0, none⟩)) hA 2 rfl rfl rfl rfl hP (hS.partD (.cons _ (.cons_cons _ (.cons_cons _ .slnil))) 0 rfl (.refl _)) (fun w1 hS => d_field ExJ_fld_55_0 rfl rfl) ?_
 intro a hA
 refine any_tk hA 3 rfl rfl rfl rfl hP (hS.partD (.cons _ (.cons_cons _ (.cons_cons _ .slnil))) 0 rfl (.refl _)) (fun w1 hS => d_loadS hS ExJ_isS_53 rfl 0 rfl (cs := [.bool ((rb x2)), .slice u1 ((words x2.natAbs).length) uc1]) rfl rfl) ?_
 intro a hA
 refine any_tk (v := .pointer (some ⟨g2, 2, none⟩)) hA 5 rfl rfl rfl rfl hP (hS.partD (.cons _ (.cons_cons _ (.cons_cons _ .slnil))) 0 rfl (.refl _)) (fun w1 hS => d_field ExJ_fld_55_1 rfl rfl) ?_
 intro a hA
 refine any_tk hA 6 rfl rfl rfl rfl hP (hS.partD (.cons _ (.cons_cons _ (.cons_cons _ .slnil))) 0 rfl (.refl _)) (fun w1 hS => d_loadS hS ExJ_isS_53 rfl 1 rfl (cs := [.bool ((rb y1)), .slice a2 ((words y1.natAbs).length) ac2]) rfl rfl) ?_
 intro a hA
 refine any_tk (v := .pointer (some ⟨g4, 2, none⟩)) hA 7 rfl rfl rfl rfl hP (hS.partD (.cons _ (.cons_cons _ (.cons_cons _ .slnil))) 0 rfl (.refl _)) (fun w1 hS => d_field ExJ_fld_55_1 rfl rfl) ?_
 intro a hA
 refine any_tk hA 8 rfl rfl rfl rfl hP (hS.partD (.cons _ (.cons_cons _ (.cons_cons _ .slnil))) 0 rfl (.refl _)) (fun w1 hS => d_loadS hS ExJ_isS_53 rfl 0 rfl (cs := [.bool ((rb y2)), .slice u2 ((words y2.natAbs).length) uc2]) rfl rfl) ?_
 intro a hA
 refine any_tk (v := .pointer (some ⟨g2, 0, none⟩)) hA 12 rfl rfl rfl rfl hP (hS.partD (.cons _ (.cons_cons _ (.cons_cons _ .slnil))) 0 rfl (.refl _)) (fun w1 hS => d_field ExJ_fld_55_0 rfl rfl) ?_
 intro a hA
 refine any_tk hA 13 rfl rfl rfl rfl hP (hS.partD (.cons _ (.cons_cons _ (.cons_cons _ .slnil))) 0 rfl (.refl _)) (fun w1 hS => d_loadS hS ExJ_isS_53 rfl 1 rfl (cs := [.bool ((rb x1)), .slice a1 ((words x1.natAbs).length) ac1]) rfl rfl) ?_
 intro a hA
 refine any_tk (v := .pointer (some ⟨g4, 2, none⟩)) hA 14 rfl rfl rfl rfl hP (hS.partD (.cons _ (.cons_cons _ (.cons_cons _ .slnil))) 0 rfl (.refl _)) (fun w1 hS => d_field ExJ_fld_55_1 rfl rfl) ?_
 intro a hA
 refine any_tk hA 15 rfl rfl rfl rfl hP (hS.partD (.cons _ (.cons_cons _ (.cons_cons _ .slnil))) 0 rfl (.refl _)) (fun w1 hS => d_loadS hS ExJ_isS_53 rfl 0 rfl (cs := [.bool ((rb y2)), .slice u2 ((words y2.natAbs).length) uc2]) rfl rfl) ?_
 intro a hA
 refine any_tk (v := .pointer (some ⟨g2, 2, none⟩)) hA 17 rfl rfl rfl rfl hP (hS.partD (.cons _ (.cons_cons _ (.cons_cons _ .slnil))) 0 rfl (.refl _)) (fun w1 hS => d_field ExJ_fld_55_1 rfl rfl) ?_
 intro a hA
 refine any_tk hA 18 rfl rfl rfl rfl hP (hS.partD (.cons _ (.cons_cons _ (.cons_cons _ .slnil))) 0 rfl (.refl _)) (fun w1 hS => d_loadS hS ExJ_isS_53 rfl 1 rfl (cs := [.bool ((rb y1)), .slice a2 ((words y1.natAbs).length) ac2]) rfl rfl) ?_
 intro a hA
 refine any_tk (v := .pointer (some ⟨g4, 0, none⟩)) hA 19 rfl rfl rfl rfl hP (hS.partD (.cons _ (.cons_cons _ (.cons_cons _ .slnil))) 0 rfl (.refl _)) (fun w1 hS => d_field ExJ_fld_55_0 rfl rfl) ?_
 intro a hA
 refine any_tk hA 20 rfl rfl rfl rfl hP (hS.partD (.cons _ (.cons_cons _ (.cons_cons _ .slnil))) 0 rfl (.refl _)) (fun w1 hS => d_loadS hS ExJ_isS_53 rfl 0 rfl (cs := [.bool ((rb x2)), .slice u1 ((words x2.natAbs).length) uc1]) rfl rfl) ?_
 intro a hA
 refine any_tk (v := .pointer (some ⟨g2, 4, none⟩)) hA 23 rfl rfl rfl rfl hP (hS.partD (.cons _ (.cons_cons _ (.cons_cons _ .slnil))) 0 rfl (.refl _)) (fun w1 hS => d_field ExJ_fld_55_2 rfl rfl) ?_
 intro a hA
 refine any_tk hA 24 rfl rfl rfl rfl hP (hS.partD (.cons _ (.cons_cons _ (.cons_cons _ .slnil))) 0 rfl (.refl _)) (fun w1 hS => d_load1 hS ExJ_is1_22 rfl 1 rfl rfl) ?_
 intro a hA
 refine any_tk (v := .pointer (some ⟨g4, 4, none⟩)) hA 25 rfl rfl rfl rfl hP (hS.partD (.cons _ (.cons_cons _ (.cons_cons _ .slnil))) 0 rfl (.refl _)) (fun w1 hS => d_field ExJ_fld_55_2 rfl rfl) ?_
 intro a hA
 refine any_tk hA 26 rfl rfl rfl rfl hP (hS.partD (.cons _ (.cons_cons _ (.cons_cons _ .slnil))) 0 rfl (.refl _)) (fun w1 hS => d_load1 hS ExJ_is1_22 rfl 0 rfl rfl) ?_
 intro a hA
 refine any_one (by kernel_rfl) (op_call hA 4 rfl rfl rfl rfl (enters_func  rfl rfl (fun w => by kernel_rfl)) (ztimes_any ⟨(hS.rd 5 rfl), ha1.nil, ha1.cap⟩ ⟨(hS.rd 2 rfl), hu1.nil, hu1.cap⟩ (by omega) (by omega)) ?_)
 rintro _ w13 ⟨zo9, zc10, rfl, hs11, hb12⟩
 replace hS := hS.call hb12
 replace hS := hS.addR hs11.rd
 refine ⟨_, rfl, (hS.partD (.cons _ (.cons_cons _ (.cons_cons _ .slnil))) 1 rfl (.refl _)), ?_⟩
 intro a hA
 refine any_one (by kernel_rfl) (op_call hA 9 rfl rfl rfl rfl (enters_func  rfl rfl (fun w => by kernel_rfl)) (ztimes_any ⟨(hS.rd 5 rfl), ha2.nil, ha2.cap⟩ ⟨(hS.rd 2 rfl), hu2.nil, hu2.cap⟩ (by omega) (by omega)) ?_)
 rintro _ w18 ⟨zo14, zc15, rfl, hs16, hb17⟩
 replace hS := hS.call hb17
 replace hS := hS.addR hs16.rd
 refine ⟨_, rfl, (hS.partD (.cons _ (.cons_cons _ (.cons_cons _ .slnil))) 2 rfl (.refl _)), ?_⟩
 intro a hA
 refine any_one (by kernel_rfl) (op_call hA 10 rfl rfl rfl rfl (enters_func  rfl rfl (fun w => by kernel_rfl)) (zopp_any ⟨(hS.rd 0 rfl), hs16.nil, hs16.cap⟩) ?_)
 rintro _ w23 ⟨zo19, zc20, rfl, hs21, hb22⟩
 replace hS := hS.call hb22
 replace hS := hS.addR hs21.rd
 refine ⟨_, rfl, (hS.partD (.cons _ (.cons_cons _ (.cons_cons _ .slnil))) 3 rfl (.refl _)), ?_⟩
 intro a hA
 refine any_one (by kernel_rfl) (op_call hA 11 rfl rfl rfl rfl (enters_func  rfl rfl (fun w => by kernel_rfl)) (zplus_any ⟨(hS.rd 2 rfl), hs11.nil, hs11.cap⟩ ⟨(hS.rd 0 rfl), hs21.nil, hs21.cap⟩ (by omega) (by omega)) ?_)
 rintro _ w28 ⟨zo24, zc25, rfl, hs26, hb27⟩
 replace hS := hS.call hb27
 replace hS := hS.addR hs26.rd
 refine ⟨_, rfl, (hS.partD (.cons _ (.cons_cons _ (.cons_cons _ .slnil))) 4 rfl (.refl _)), ?_⟩
 intro a hA
 refine any_one (by kernel_rfl) (op_call hA 16 rfl rfl rfl rfl (enters_func  rfl rfl (fun w => by kernel_rfl)) (ztimes_any ⟨(hS.rd 9 rfl), ha1.nil, ha1.cap⟩ ⟨(hS.rd 5 rfl), hu2.nil, hu2.cap⟩ (by omega) (by omega)) ?_)
 rintro _ w33 ⟨zo29, zc30, rfl, hs31, hb32⟩
 replace hS := hS.call hb32
 replace hS := hS.addR hs31.rd
 refine ⟨_, rfl, (hS.partD (.cons _ (.cons_cons _ (.cons_cons _ .slnil))) 5 rfl (.refl _)), ?_⟩
 intro a hA
 refine any_one (by kernel_rfl) (op_call hA 21 rfl rfl rfl rfl (enters_func  rfl rfl (fun w => by kernel_rfl)) (ztimes_any ⟨(hS.rd 9 rfl), ha2.nil, ha2.cap⟩ ⟨(hS.rd 7 rfl), hu1.nil, hu1.cap⟩ (by omega) (by omega)) ?_)
 rintro _ w38 ⟨zo34, zc35, rfl, hs36, hb37⟩
 replace hS := hS.call hb37
 replace hS := hS.addR hs36.rd
 refine ⟨_, rfl, (hS.partD (.cons _ (.cons_cons _ (.cons_cons _ .slnil))) 6 rfl (.refl _)), ?_⟩
 intro a hA
 refine any_one (by kernel_rfl) (op_call hA 22 rfl rfl rfl rfl (enters_func  rfl rfl (fun w => by kernel_rfl)) (zplus_any ⟨(hS.rd 1 rfl), hs31.nil, hs31.cap⟩ ⟨(hS.rd 0 rfl), hs36.nil, hs36.cap⟩ (by omega) (by omega)) ?_)
 rintro _ w43 ⟨zo39, zc40, rfl, hs41, hb42⟩
 replace hS := hS.call hb42
 replace hS := hS.addR hs41.rd
 refine ⟨_, rfl, (hS.partD (.cons _ (.cons_cons _ (.cons_cons _ .slnil))) 7 rfl (.refl _)), ?_⟩
 intro a hA
 refine any_one (by kernel_rfl) (op_call hA 27 rfl rfl rfl rfl (enters_func  rfl rfl (fun w => by kernel_rfl)) (product_any _ _ (hS.rd 10 rfl) (hS.rd 7 rfl) (by omega) (by omega)) ?_)
 rintro _ w48 ⟨ro44, rc45, rfl, ho46, hb47⟩
 replace hS := hS.call hb47
 replace hS := hS.addR ho46.rd
 refine ⟨_, rfl, (hS.partD (.cons _ (.cons_cons _ (.cons_cons _ .slnil))) 8 rfl (.refl _)), ?_⟩
 intro a hA
 refine any_tk (v := .agg #[.bool ((rb (x1 * x2 + (-(y1 * y2))))), .slice zo24 ((words (x1 * x2 + (-(y1 * y2))).natAbs).length) zc25, .bool ((rb (x1 * y2 + (y1 * x2)))), .slice zo39 ((words (x1 * y2 + (y1 * x2)).natAbs).length) zc40, .slice ro44 ((words (d1 * d2)).length) rc45]) hA 28 rfl rfl rfl rfl hP (hS.partD (.cons _ (.cons_cons _ (.cons_cons _ .slnil))) 8 rfl (.refl _)) (fun w1 hS => d_build rfl (fun w => by kernel_rfl)) ?_
 intro a hA
 refine any_one (by kernel_rfl) (op_store (us := [.bool ((rb (x1 * x2 + (-(y1 * y2))))), .slice zo24 ((words (x1 * x2 + (-(y1 * y2))).natAbs).length) zc25, .bool ((rb (x1 * y2 + (y1 * x2)))), .slice zo39 ((words (x1 * y2 + (y1 * x2)).natAbs).length) zc40, .slice ro44 ((words (d1 * d2)).length) rc45]) hA hS 29 rfl rfl rfl (sets_store (cs := [.bool ((rb (x1 * x2 + (-(y1 * y2))))), .slice zo24 ((words (x1 * x2 + (-(y1 * y2))).natAbs).length) zc25, .bool ((rb (x1 * y2 + (y1 * x2)))), .slice zo39 ((words (x1 * y2 + (y1 * x2)).natAbs).length) zc40, .slice ro44 ((words (d1 * d2)).length) rc45]) rfl rfl rfl (by kernel_rfl) hS 0 rfl rfl rfl) 0 rfl rfl rfl rfl ?_)
 intro w49 hS
 refine ⟨(hS.partD (.cons _ (.cons_cons _ (.cons_cons _ .slnil))) 8 rfl (.refl _)), ?_⟩
 refine any_end (by kernel_rfl) ?_
 refine hK8 _ _ ?_
 refine wp_ret ?_
 refine hret _ _ ?_
 refine ends (v := .agg #[.bool ((rb (x1 * x2 + (-(y1 * y2))))), .slice zo24 ((words (x1 * x2 + (-(y1 * y2))).natAbs).length) zc25, .bool ((rb (x1 * y2 + (y1 * x2)))), .slice zo39 ((words (x1 * y2 + (y1 * x2)).natAbs).length) zc40, .slice ro44 ((words (d1 * d2)).length) rc45]) hA rfl (.cons (res_cell hS ExJ_isS_55 rfl 0 rfl (cs := [.bool ((rb (x1 * x2 + (-(y1 * y2))))), .slice zo24 ((words (x1 * x2 + (-(y1 * y2))).natAbs).length) zc25, .bool ((rb (x1 * y2 + (y1 * x2)))), .slice zo39 ((words (x1 * y2 + (y1 * x2)).natAbs).length) zc40, .slice ro44 ((words (d1 * d2)).length) rc45]) rfl rfl) .nil) rfl ?_
 exact ⟨zo24, zc25, zo39, zc40, ro44, rc45, rfl, ⟨(hS.rd 4 rfl), hs26.nil, hs26.cap⟩, ⟨(hS.rd 1 rfl), hs41.nil, hs41.cap⟩, ⟨(hS.rd 0 rfl), ho46.nocap, ho46.caps⟩, hS.bel⟩
theorem zsum_any {w : World} {x1 y1 x2 y2 : Int} {d1 d2 : Nat} {a1 a2 a3 : Option Addr} {ac1 ac2 ac3 : Nat} (ha1 : Sc w a1 ac1 (words x1.natAbs)) (ha2 : Sc w a2 ac2 (words y1.natAbs)) (ha3 : Sc w a3 ac3 (words d1)) {u1 u2 u3 : Option Addr} {uc1 uc2 uc3 : Nat} (hu1 : Sc w u1 uc1 (words x2.natAbs)) (hu2 : Sc w u2 uc2 (words y2.natAbs)) (hu3 : Sc w u3 uc3 (words d2)) (la1 : (words x1.natAbs).length ≤ 10000) (la2 : (words y1.natAbs).length ≤ 10000) (la3 : (words d1).length ≤ 10000) (lu1 : (words x2.natAbs).length ≤ 10000) (lu2 : (words y2.natAbs).length ≤ 10000) (lu3 : (words d2).length ≤ 10000) : Calls Tryz.prog 37 #[.agg #[.bool (rb x1), .slice a1 (words x1.natAbs).length ac1, .bool (rb y1), .slice a2 (words y1.natAbs).length ac2, .slice a3 (words d1).length ac3], .agg #[.bool (rb x2), .slice u1 (words x2.natAbs).length uc1, .bool (rb y2), .slice u2 (words y2.natAbs).length uc2, .slice u3 (words d2).length uc3]] w (AnsR w (x1 * ((d2 : Nat) : Int) + x2 * ((d1 : Nat) : Int)) (y1 * ((d2 : Nat) : Int) + y2 * ((d1 : Nat) : Int)) (d1 * d2)) := by
 have n1 : (words ((d1 : Nat) : Int).natAbs).length ≤ 10000 := by rw [Int.natAbs_natCast]; exact la3
 have n2 : (words ((d2 : Nat) : Int).natAbs).length ≤ 10000 := by rw [Int.natAbs_natCast]; exact lu3
 have k1 := abs_mul_len la1 n2
 have k2 := abs_mul_len lu1 n1
 have k3 := abs_mul_len la2 n2
 have k4 := abs_mul_len lu2 n1
 have hS : St w w [] [(u3, words d2), (u2, words y2.natAbs), (u1, words x2.natAbs), (a3, words d1), (a2, words y1.natAbs), (a1, words x1.natAbs)] [] := ((((((St.start w).addR ha1.rd).addR ha2.rd).addR ha3.rd).addR hu1.rd).addR hu2.rd).addR hu3.rd
 refine walk_of (l := [(0, .agg #[.bool ((rb x1)), .slice a1 ((words x1.natAbs).length) ac1, .bool ((rb y1)), .slice a2 ((words y1.natAbs).length) ac2, .slice a3 ((words d1).length) ac3]), (1, .agg #[.bool ((rb x2)), .slice u1 ((words x2.natAbs).length) uc1, .bool ((rb y2)), .slice u2 ((words y2.natAbs).length) uc2, .slice u3 ((words d2).length) uc3])]) Tryz.func37 rfl Tryz.ntmps37 rfl rfl ?_
 intro Q hret hnorm hP a hA
 refine wp_seq_k (fun K1 hK1 => ?_)
 refine wp_region_lit ?_
 refine seq_new (vs := [.bool ((rb x1)), .slice a1 ((words x1.natAbs).length) ac1, .bool ((rb y1)), .slice a2 ((words y1.natAbs).length) ac2, .slice a3 ((words d1).length) ac3]) (t := 55) hA hS rfl rfl rfl (fun g => .pointer (some ⟨g, 0, none⟩)) (d_box rfl rfl) rfl ?_
 intro g2 w3 hS a hA
 refine seq_new (vs := [.bool ((rb x2)), .slice u1 ((words x2.natAbs).length) uc1, .bool ((rb y2)), .slice u2 ((words y2.natAbs).length) uc2, .slice u3 ((words d2).length) uc3]) (t := 55) hA hS rfl rfl rfl (fun g => .pointer (some ⟨g, 0, none⟩)) (d_box rfl rfl) rfl ?_
 intro g4 w5 hS a hA
 refine seq_new (vs := [.bool false, .slice none 0 0, .bool false, .slice none 0 0, .slice none 0 0]) (t := 55) hA hS rfl rfl rfl (fun g => .pointer (some ⟨g, 0, none⟩)) (d_alloc (z := .agg #[.bool false, .slice none 0 0, .bool false, .slice none 0 0, .slice none 0 0]) (by kernel_rfl) rfl) rfl ?_
 intro g6 w7 hS a hA
 refine seq_end ?_
 refine hK1 _ _ ?_
 refine wp_seq_k (fun K8 hK8 => ?_)
 refine wp_draw (S := fun w1 => St w w1 [(g4, [.bool ((rb x2)), .slice u1 ((words x2.natAbs).length) uc1, .bool ((rb y2)), .slice u2 ((words y2.natAbs).length) uc2, .slice u3 ((words d2).length) uc3]), (g2, [.bool ((rb x1)), .slice a1 ((words x1.natAbs).length) ac1, .bool ((rb y1)), .slice a2 ((words y1.natAbs).length) ac2, .slice a3 ((words d1).length) ac3])] [(u3, words d2), (u2, words y2.natAbs), (u1, words x2.natAbs), (a3, words d1), (a2, words y1.natAbs), (a1, words x1.natAbs)] []) (by kernel_rfl) ?_
 replace hS := hS.drew
 refine any_tk (v := .pointer (some ⟨g2, 0, none⟩)) hA 0 rfl rfl rfl rfl hP (hS.partD (.cons _ (.cons_cons _ (.cons_cons _ .slnil))) 0 rfl (.refl _)) (fun w1 hS => d_field ExJ_fld_55_0 rfl rfl) ?_
 intro a hA
 refine any_tk hA 1 rfl rfl rfl rfl hP (hS.partD (.cons _ (.cons_cons _ (.cons_cons _ .slnil))) 0 rfl (.refl _)) (fun w1 hS => d_loadS hS ExJ_isS_53 rfl 1 rfl (cs := [.bool ((rb x1)), .slice a1 ((words x1.natAbs).length) ac1]) rfl rfl) ?_
 intro a hA
 refine any_tk (v := .pointer (some ⟨g4, 4, none⟩)) hA 2 rfl rfl rfl rfl hP (hS.partD (.cons _ (.cons_cons _ (.cons_cons _ .slnil))) 0 rfl (.refl _)) (fun w1 hS => d_field ExJ_fld_55_2 rfl rfl) ?_
 intro a hA
 refine any_tk hA 3 rfl rfl rfl rfl hP (hS.partD (.cons _ (.cons_cons _ (.cons_cons _ .slnil))) 0 rfl (.refl _)) (fun w1 hS => d_load1 hS ExJ_is1_22 rfl 0 rfl rfl) ?_
 intro a hA
 refine any_tk (v := .pointer (some ⟨g4, 0, none⟩)) hA 5 rfl rfl rfl rfl hP (hS.partD (.cons _ (.cons_cons _ (.cons_cons _ .slnil))) 0 rfl (.refl _)) (fun w1 hS => d_field ExJ_fld_55_0 rfl rfl) ?_
 intro a hA
 refine any_tk hA 6 rfl rfl rfl rfl hP (hS.partD (.cons _ (.cons_cons _ (.cons_cons _ .slnil))) 0 rfl (.refl _)) (fun w1 hS => d_loadS hS ExJ_isS_53 rfl 0 rfl (cs := [.bool ((rb x2)), .slice u1 ((words x2.natAbs).length) uc1]) rfl rfl) ?_
 intro a hA
 refine any_tk (v := .pointer (some ⟨g2, 4, none⟩)) hA 7 rfl rfl rfl rfl hP (hS.partD (.cons _ (.cons_cons _ (.cons_cons _ .slnil))) 0 rfl (.refl _)) (fun w1 hS => d_field ExJ_fld_55_2 rfl rfl) ?_
 intro a hA
 refine any_tk hA 8 rfl rfl rfl rfl hP (hS.partD (.cons _ (.cons_cons _ (.cons_cons _ .slnil))) 0 rfl (.refl _)) (fun w1 hS => d_load1 hS ExJ_is1_22 rfl 1 rfl rfl) ?_
 intro a hA
 refine any_tk (v := .pointer (some ⟨g2, 2, none⟩)) hA 11 rfl rfl rfl rfl hP (hS.partD (.cons _ (.cons_cons _ (.cons_cons _ .slnil))) 0 rfl (.refl _)) (fun w1 hS => d_field ExJ_fld_55_1 rfl rfl) ?_
 intro a hA
 refine any_tk hA 12 rfl rfl rfl rfl hP (hS.partD (.cons _ (.cons_cons _ (.cons_cons _ .slnil))) 0 rfl (.refl _)) (fun w1 hS => d_loadS hS ExJ_isS_53 rfl 1 rfl (cs := [.bool ((rb y1)), .slice a2 ((words y1.natAbs).length) ac2]) rfl rfl) ?_
 intro a hA
 refine any_tk (v := .pointer (some ⟨g4, 4, none⟩)) hA 13 rfl rfl rfl rfl hP (hS.partD (.cons _ (.cons_cons _ (.cons_cons _ .slnil))) 0 rfl (.refl _)) (fun w1 hS => d_field ExJ_fld_55_2 rfl rfl) ?_
 intro a hA
 refine any_tk hA 14 rfl rfl rfl rfl hP (hS.partD (.cons _ (.cons_cons _ (.cons_cons _ .slnil))) 0 rfl (.refl _)) (fun w1 hS => d_load1 hS ExJ_is1_22 rfl 0 rfl rfl) ?_
 intro a hA
 refine any_tk (v := .pointer (some ⟨g4, 2, none⟩)) hA 16 rfl rfl rfl rfl hP (hS.partD (.cons _ (.cons_cons _ (.cons_cons _ .slnil))) 0 rfl (.refl _)) (fun w1 hS => d_field ExJ_fld_55_1 rfl rfl) ?_
 intro a hA
 refine any_tk hA 17 rfl rfl rfl rfl hP (hS.partD (.cons _ (.cons_cons _ (.cons_cons _ .slnil))) 0 rfl (.refl _)) (fun w1 hS => d_loadS hS ExJ_isS_53 rfl 0 rfl (cs := [.bool ((rb y2)), .slice u2 ((words y2.natAbs).length) uc2]) rfl rfl) ?_
 intro a hA
 refine any_tk (v := .pointer (some ⟨g2, 4, none⟩)) hA 18 rfl rfl rfl rfl hP (hS.partD (.cons _ (.cons_cons _ (.cons_cons _ .slnil))) 0 rfl (.refl _)) (fun w1 hS => d_field ExJ_fld_55_2 rfl rfl) ?_
 intro a hA
 refine any_tk hA 19 rfl rfl rfl rfl hP (hS.partD (.cons _ (.cons_cons _ (.cons_cons _ .slnil))) 0 rfl (.refl _)) (fun w1 hS => d_load1 hS ExJ_is1_22 rfl 1 rfl rfl) ?_
 intro a hA
 refine any_tk (v := .pointer (some ⟨g2, 4, none⟩)) hA 22 rfl rfl rfl rfl hP (hS.partD (.cons _ (.cons_cons _ (.cons_cons _ .slnil))) 0 rfl (.refl _)) (fun w1 hS => d_field ExJ_fld_55_2 rfl rfl) ?_
 intro a hA
 refine any_tk hA 23 rfl rfl rfl rfl hP (hS.partD (.cons _ (.cons_cons _ (.cons_cons _ .slnil))) 0 rfl (.refl _)) (fun w1 hS => d_load1 hS ExJ_is1_22 rfl 1 rfl rfl) ?_
 intro a hA
 refine any_tk (v := .pointer (some ⟨g4, 4, none⟩)) hA 24 rfl rfl rfl rfl hP (hS.partD (.cons _ (.cons_cons _ (.cons_cons _ .slnil))) 0 rfl (.refl _)) (fun w1 hS => d_field ExJ_fld_55_2 rfl rfl) ?_
 intro a hA
 refine any_tk hA 25 rfl rfl rfl rfl hP (hS.partD (.cons _ (.cons_cons _ (.cons_cons _ .slnil))) 0 rfl (.refl _)) (fun w1 hS => d_load1 hS ExJ_is1_22 rfl 0 rfl rfl) ?_
 intro a hA
 refine any_one (by kernel_rfl) (op_call hA 4 rfl rfl rfl rfl (enters_func  rfl rfl (fun w => by kernel_rfl)) (zscaled_any ⟨(hS.rd 5 rfl), ha1.nil, ha1.cap⟩ ⟨(hS.rd 0 rfl), hu3.nil, hu3.cap⟩ (by omega) (by omega)) ?_)
 rintro _ w13 ⟨zo9, zc10, rfl, hs11, hb12⟩
 replace hS := hS.call hb12
 replace hS := hS.addR hs11.rd
 refine ⟨_, rfl, (hS.partD (.cons _ (.cons_cons _ (.cons_cons _ .slnil))) 1 rfl (.refl _)), ?_⟩
 intro a hA
 refine any_one (by kernel_rfl) (op_call hA 9 rfl rfl rfl rfl (enters_func  rfl rfl (fun w => by kernel_rfl)) (zscaled_any ⟨(hS.rd 3 rfl), hu1.nil, hu1.cap⟩ ⟨(hS.rd 4 rfl), ha3.nil, ha3.cap⟩ (by omega) (by omega)) ?_)
 rintro _ w18 ⟨zo14, zc15, rfl, hs16, hb17⟩
 replace hS := hS.call hb17
 replace hS := hS.addR hs16.rd
 refine ⟨_, rfl, (hS.partD (.cons _ (.cons_cons _ (.cons_cons _ .slnil))) 2 rfl (.refl _)), ?_⟩
 intro a hA
 refine any_one (by kernel_rfl) (op_call hA 10 rfl rfl rfl rfl (enters_func  rfl rfl (fun w => by kernel_rfl)) (zplus_any ⟨(hS.rd 1 rfl), hs11.nil, hs11.cap⟩ ⟨(hS.rd 0 rfl), hs16.nil, hs16.cap⟩ (by omega) (by omega)) ?_)
 rintro _ w23 ⟨zo19, zc20, rfl, hs21, hb22⟩
 replace hS := hS.call hb22
 replace hS := hS.addR hs21.rd
 refine ⟨_, rfl, (hS.partD (.cons _ (.cons_cons _ (.cons_cons _ .slnil))) 3 rfl (.refl _)), ?_⟩
 intro a hA
 refine any_one (by kernel_rfl) (op_call hA 15 rfl rfl rfl rfl (enters_func  rfl rfl (fun w => by kernel_rfl)) (zscaled_any ⟨(hS.rd 7 rfl), ha2.nil, ha2.cap⟩ ⟨(hS.rd 3 rfl), hu3.nil, hu3.cap⟩ (by omega) (by omega)) ?_)
 rintro _ w28 ⟨zo24, zc25, rfl, hs26, hb27⟩
 replace hS := hS.call hb27
 replace hS := hS.addR hs26.rd
 refine ⟨_, rfl, (hS.partD (.cons _ (.cons_cons _ (.cons_cons _ .slnil))) 4 rfl (.refl _)), ?_⟩
 intro a hA
 refine any_one (by kernel_rfl) (op_call hA 20 rfl rfl rfl rfl (enters_func  rfl rfl (fun w => by kernel_rfl)) (zscaled_any ⟨(hS.rd 5 rfl), hu2.nil, hu2.cap⟩ ⟨(hS.rd 7 rfl), ha3.nil, ha3.cap⟩ (by omega) (by omega)) ?_)
 rintro _ w33 ⟨zo29, zc30, rfl, hs31, hb32⟩
 replace hS := hS.call hb32
 replace hS := hS.addR hs31.rd
 refine ⟨_, rfl, (hS.partD (.cons _ (.cons_cons _ (.cons_cons _ .slnil))) 5 rfl (.refl _)), ?_⟩
 intro a hA
 refine any_one (by kernel_rfl) (op_call hA 21 rfl rfl rfl rfl (enters_func  rfl rfl (fun w => by kernel_rfl)) (zplus_any ⟨(hS.rd 1 rfl), hs26.nil, hs26.cap⟩ ⟨(hS.rd 0 rfl), hs31.nil, hs31.cap⟩ (by omega) (by omega)) ?_)
 rintro _ w38 ⟨zo34, zc35, rfl, hs36, hb37⟩
 replace hS := hS.call hb37
 replace hS := hS.addR hs36.rd
 refine ⟨_, rfl, (hS.partD (.cons _ (.cons_cons _ (.cons_cons _ .slnil))) 6 rfl (.refl _)), ?_⟩
 intro a hA
 refine any_one (by kernel_rfl) (op_call hA 26 rfl rfl rfl rfl (enters_func  rfl rfl (fun w => by kernel_rfl)) (product_any _ _ (hS.rd 9 rfl) (hS.rd 6 rfl) (by omega) (by omega)) ?_)
 rintro _ w43 ⟨ro39, rc40, rfl, ho41, hb42⟩
 replace hS := hS.call hb42
 replace hS := hS.addR ho41.rd
 refine ⟨_, rfl, (hS.partD (.cons _ (.cons_cons _ (.cons_cons _ .slnil))) 7 rfl (.refl _)), ?_⟩
 intro a hA
 refine any_tk (v := .agg #[.bool ((rb (x1 * ((d2 : Nat) : Int) + (x2 * ((d1 : Nat) : Int))))), .slice zo19 ((words (x1 * ((d2 : Nat) : Int) + (x2 * ((d1 : Nat) : Int))).natAbs).length) zc20, .bool ((rb (y1 * ((d2 : Nat) : Int) + (y2 * ((d1 : Nat) : Int))))), .slice zo34 ((words (y1 * ((d2 : Nat) : Int) + (y2 * ((d1 : Nat) : Int))).natAbs).length) zc35, .slice ro39 ((words (d1 * d2)).length) rc40]) hA 27 rfl rfl rfl rfl hP (hS.partD (.cons _ (.cons_cons _ (.cons_cons _ .slnil))) 7 rfl (.refl _)) (fun w1 hS => d_build rfl (fun w => by kernel_rfl)) ?_
 intro a hA
 refine any_one (by kernel_rfl) (op_store (us := [.bool ((rb (x1 * ((d2 : Nat) : Int) + (x2 * ((d1 : Nat) : Int))))), .slice zo19 ((words (x1 * ((d2 : Nat) : Int) + (x2 * ((d1 : Nat) : Int))).natAbs).length) zc20, .bool ((rb (y1 * ((d2 : Nat) : Int) + (y2 * ((d1 : Nat) : Int))))), .slice zo34 ((words (y1 * ((d2 : Nat) : Int) + (y2 * ((d1 : Nat) : Int))).natAbs).length) zc35, .slice ro39 ((words (d1 * d2)).length) rc40]) hA hS 28 rfl rfl rfl (sets_store (cs := [.bool ((rb (x1 * ((d2 : Nat) : Int) + (x2 * ((d1 : Nat) : Int))))), .slice zo19 ((words (x1 * ((d2 : Nat) : Int) + (x2 * ((d1 : Nat) : Int))).natAbs).length) zc20, .bool ((rb (y1 * ((d2 : Nat) : Int) + (y2 * ((d1 : Nat) : Int))))), .slice zo34 ((words (y1 * ((d2 : Nat) : Int) + (y2 * ((d1 : Nat) : Int))).natAbs).length) zc35, .slice ro39 ((words (d1 * d2)).length) rc40]) rfl rfl rfl (by kernel_rfl) hS 0 rfl rfl rfl) 0 rfl rfl rfl rfl ?_)
 intro w44 hS
 refine ⟨(hS.partD (.cons _ (.cons_cons _ (.cons_cons _ .slnil))) 7 rfl (.refl _)), ?_⟩
 refine any_end (by kernel_rfl) ?_
 refine hK8 _ _ ?_
 refine wp_ret ?_
 refine hret _ _ ?_
 refine ends (v := .agg #[.bool ((rb (x1 * ((d2 : Nat) : Int) + (x2 * ((d1 : Nat) : Int))))), .slice zo19 ((words (x1 * ((d2 : Nat) : Int) + (x2 * ((d1 : Nat) : Int))).natAbs).length) zc20, .bool ((rb (y1 * ((d2 : Nat) : Int) + (y2 * ((d1 : Nat) : Int))))), .slice zo34 ((words (y1 * ((d2 : Nat) : Int) + (y2 * ((d1 : Nat) : Int))).natAbs).length) zc35, .slice ro39 ((words (d1 * d2)).length) rc40]) hA rfl (.cons (res_cell hS ExJ_isS_55 rfl 0 rfl (cs := [.bool ((rb (x1 * ((d2 : Nat) : Int) + (x2 * ((d1 : Nat) : Int))))), .slice zo19 ((words (x1 * ((d2 : Nat) : Int) + (x2 * ((d1 : Nat) : Int))).natAbs).length) zc20, .bool ((rb (y1 * ((d2 : Nat) : Int) + (y2 * ((d1 : Nat) : Int))))), .slice zo34 ((words (y1 * ((d2 : Nat) : Int) + (y2 * ((d1 : Nat) : Int))).natAbs).length) zc35, .slice ro39 ((words (d1 * d2)).length) rc40]) rfl rfl) .nil) rfl ?_
 exact ⟨zo19, zc20, zo34, zc35, ro39, rc40, rfl, ⟨(hS.rd 4 rfl), hs21.nil, hs21.cap⟩, ⟨(hS.rd 1 rfl), hs36.nil, hs36.cap⟩, ⟨(hS.rd 0 rfl), ho41.nocap, ho41.caps⟩, hS.bel⟩
theorem zdiff_any {w : World} {x1 y1 x2 y2 : Int} {d1 d2 : Nat} {a1 a2 a3 : Option Addr} {ac1 ac2 ac3 : Nat} (ha1 : Sc w a1 ac1 (words x1.natAbs)) (ha2 : Sc w a2 ac2 (words y1.natAbs)) (ha3 : Sc w a3 ac3 (words d1)) {u1 u2 u3 : Option Addr} {uc1 uc2 uc3 : Nat} (hu1 : Sc w u1 uc1 (words x2.natAbs)) (hu2 : Sc w u2 uc2 (words y2.natAbs)) (hu3 : Sc w u3 uc3 (words d2)) (la1 : (words x1.natAbs).length ≤ 10000) (la2 : (words y1.natAbs).length ≤ 10000) (la3 : (words d1).length ≤ 10000) (lu1 : (words x2.natAbs).length ≤ 10000) (lu2 : (words y2.natAbs).length ≤ 10000) (lu3 : (words d2).length ≤ 10000) : Calls Tryz.prog 40 #[.agg #[.bool (rb x1), .slice a1 (words x1.natAbs).length ac1, .bool (rb y1), .slice a2 (words y1.natAbs).length ac2, .slice a3 (words d1).length ac3], .agg #[.bool (rb x2), .slice u1 (words x2.natAbs).length uc1, .bool (rb y2), .slice u2 (words y2.natAbs).length uc2, .slice u3 (words d2).length uc3]] w (AnsR w (x1 * ((d2 : Nat) : Int) + -x2 * ((d1 : Nat) : Int)) (y1 * ((d2 : Nat) : Int) + -y2 * ((d1 : Nat) : Int)) (d1 * d2)) := by
 have hS : St w w [] [(u3, words d2), (u2, words y2.natAbs), (u1, words x2.natAbs), (a3, words d1), (a2, words y1.natAbs), (a1, words x1.natAbs)] [] := ((((((St.start w).addR ha1.rd).addR ha2.rd).addR ha3.rd).addR hu1.rd).addR hu2.rd).addR hu3.rd
 refine walk_of (l := [(0, .agg #[.bool ((rb x1)), .slice a1 ((words x1.natAbs).length) ac1, .bool ((rb y1)), .slice a2 ((words y1.natAbs).length) ac2, .slice a3 ((words d1).length) ac3]), (1, .agg #[.bool ((rb x2)), .slice u1 ((words x2.natAbs).length) uc1, .bool ((rb y2)), .slice u2 ((words y2.natAbs).length) uc2, .slice u3 ((words d2).length) uc3])]) Tryz.func40 rfl Tryz.ntmps40 rfl rfl ?_
 intro Q hret hnorm hP a hA
 refine wp_seq_k (fun K1 hK1 => ?_)
 refine wp_region_lit ?_
 refine seq_new (vs := [.bool ((rb x1)), .slice a1 ((words x1.natAbs).length) ac1, .bool ((rb y1)), .slice a2 ((words y1.natAbs).length) ac2, .slice a3 ((words d1).length) ac3]) (t := 55) hA hS rfl rfl rfl (fun g => .pointer (some ⟨g, 0, none⟩)) (d_box rfl rfl) rfl ?_
 intro g2 w3 hS a hA
 refine seq_new (vs := [.bool ((rb x2)), .slice u1 ((words x2.natAbs).length) uc1, .bool ((rb y2)), .slice u2 ((words y2.natAbs).length) uc2, .slice u3 ((words d2).length) uc3]) (t := 55) hA hS rfl rfl rfl (fun g => .pointer (some ⟨g, 0, none⟩)) (d_box rfl rfl) rfl ?_
 intro g4 w5 hS a hA
 refine seq_new (vs := [.bool false, .slice none 0 0, .bool false, .slice none 0 0, .slice none 0 0]) (t := 55) hA hS rfl rfl rfl (fun g => .pointer (some ⟨g, 0, none⟩)) (d_alloc (z := .agg #[.bool false, .slice none 0 0, .bool false, .slice none 0 0, .slice none 0 0]) (by kernel_rfl) rfl) rfl ?_
 intro g6 w7 hS a hA
 refine seq_end ?_
 refine hK1 _ _ ?_
 refine wp_seq_k (fun K8 hK8 => ?_)
 refine wp_draw (S := fun w1 => St w w1 [(g4, [.bool ((rb x2)), .slice u1 ((words x2.natAbs).length) uc1, .bool ((rb y2)), .slice u2 ((words y2.natAbs).length) uc2, .slice u3 ((words d2).length) uc3]), (g2, [.bool ((rb x1)), .slice a1 ((words x1.natAbs).length) ac1, .bool ((rb y1)), .slice a2 ((words y1.natAbs).length) ac2, .slice a3 ((words d1).length) ac3])] [(u3, words d2), (u2, words y2.natAbs), (u1, words x2.natAbs), (a3, words d1), (a2, words y1.natAbs), (a1, words x1.natAbs)] []) (by kernel_rfl) ?_
 replace hS := hS.drew
 refine any_tk hA 0 rfl rfl rfl rfl hP (hS.partD (.cons _ (.cons_cons _ (.cons_cons _ .slnil))) 0 rfl (.refl _)) (fun w1 hS => d_loadS hS ExJ_isS_55 rfl 1 rfl (cs := [.bool ((rb x1)), .slice a1 ((words x1.natAbs).length) ac1, .bool ((rb y1)), .slice a2 ((words y1.natAbs).length) ac2, .slice a3 ((words d1).length) ac3]) rfl rfl) ?_
 intro a hA
 refine any_tk (v := .pointer (some ⟨g4, 0, none⟩)) hA 1 rfl rfl rfl rfl hP (hS.partD (.cons _ (.cons_cons _ (.cons_cons _ .slnil))) 0 rfl (.refl _)) (fun w1 hS => d_field ExJ_fld_55_0 rfl rfl) ?_
 intro a hA
 refine any_tk hA 2 rfl rfl rfl rfl hP (hS.partD (.cons _ (.cons_cons _ (.cons_cons _ .slnil))) 0 rfl (.refl _)) (fun w1 hS => d_loadS hS ExJ_isS_53 rfl 0 rfl (cs := [.bool ((rb x2)), .slice u1 ((words x2.natAbs).length) uc1]) rfl rfl) ?_
 intro a hA
 refine any_tk (v := .pointer (some ⟨g4, 2, none⟩)) hA 4 rfl rfl rfl rfl hP (hS.partD (.cons _ (.cons_cons _ (.cons_cons _ .slnil))) 0 rfl (.refl _)) (fun w1 hS => d_field ExJ_fld_55_1 rfl rfl) ?_
 intro a hA
 refine any_tk hA 5 rfl rfl rfl rfl hP (hS.partD (.cons _ (.cons_cons _ (.cons_cons _ .slnil))) 0 rfl (.refl _)) (fun w1 hS => d_loadS hS ExJ_isS_53 rfl 0 rfl (cs := [.bool ((rb y2)), .slice u2 ((words y2.natAbs).length) uc2]) rfl rfl) ?_
 intro a hA
 refine any_tk (v := .pointer (some ⟨g4, 4, none⟩)) hA 7 rfl rfl rfl rfl hP (hS.partD (.cons _ (.cons_cons _ (.cons_cons _ .slnil))) 0 rfl (.refl _)) (fun w1 hS => d_field ExJ_fld_55_2 rfl rfl) ?_
 intro a hA
 refine any_tk hA 8 rfl rfl rfl rfl hP (hS.partD (.cons _ (.cons_cons _ (.cons_cons _ .slnil))) 0 rfl (.refl _)) (fun w1 hS => d_load1 hS ExJ_is1_22 rfl 0 rfl rfl) ?_
 intro a hA
 refine any_one (by kernel_rfl) (op_call hA 3 rfl rfl rfl rfl (enters_func  rfl rfl (fun w => by kernel_rfl)) (zopp_any ⟨(hS.rd 2 rfl), hu1.nil, hu1.cap⟩) ?_)
 rintro _ w13 ⟨zo9, zc10, rfl, hs11, hb12⟩
 replace hS := hS.call hb12
 replace hS := hS.addR hs11.rd
 refine ⟨_, rfl, (hS.partD (.cons _ (.cons_cons _ (.cons_cons _ .slnil))) 1 rfl (.refl _)), ?_⟩
 intro a hA
 refine any_one (by kernel_rfl) (op_call hA 6 rfl rfl rfl rfl (enters_func  rfl rfl (fun w => by kernel_rfl)) (zopp_any ⟨(hS.rd 2 rfl), hu2.nil, hu2.cap⟩) ?_)
 rintro _ w18 ⟨zo14, zc15, rfl, hs16, hb17⟩
 replace hS := hS.call hb17
 replace hS := hS.addR hs16.rd
 refine ⟨_, rfl, (hS.partD (.cons _ (.cons_cons _ (.cons_cons _ .slnil))) 2 rfl (.refl _)), ?_⟩
 intro a hA
 refine any_tk (v := .agg #[.bool ((rb (-x2))), .slice zo9 ((words (-x2).natAbs).length) zc10, .bool ((rb (-y2))), .slice zo14 ((words (-y2).natAbs).length) zc15, .slice u3 ((words d2).length) uc3]) hA 9 rfl rfl rfl rfl hP (hS.partD (.cons _ (.cons_cons _ (.cons_cons _ .slnil))) 2 rfl (.refl _)) (fun w1 hS => d_build rfl (fun w => by kernel_rfl)) ?_
 intro a hA
 refine any_one (by kernel_rfl) (op_call hA 10 rfl rfl rfl rfl (enters_func  rfl rfl (fun w => by kernel_rfl)) (zsum_any ⟨(hS.rd 7 rfl), ha1.nil, ha1.cap⟩ ⟨(hS.rd 6 rfl), ha2.nil, ha2.cap⟩ ⟨(hS.rd 5 rfl), ha3.nil, ha3.cap⟩ ⟨(hS.rd 1 rfl), hs11.nil, hs11.cap⟩ ⟨(hS.rd 0 rfl), hs16.nil, hs16.cap⟩ ⟨(hS.rd 2 rfl), hu3.nil, hu3.cap⟩ (by omega) (by omega) (by omega) (by rw [Int.natAbs_neg]; omega) (by rw [Int.natAbs_neg]; omega) (by omega)) ?_)
 rintro _ w24 ⟨p19_1, p19_c1, p19_2, p19_c2, p19_3, p19_c3, rfl, hs20, hs21, hs22, hb23⟩
 replace hS := hS.call hb23
 replace hS := hS.addR hs20.rd
 replace hS := hS.addR hs21.rd
 replace hS := hS.addR hs22.rd
 refine ⟨_, rfl, (hS.partD (.cons _ (.cons_cons _ (.cons_cons _ .slnil))) 5 rfl (.refl _)), ?_⟩
 intro a hA
 refine any_one (by kernel_rfl) (op_store (us := [.bool ((rb (x1 * ((d2 : Nat) : Int) + -x2 * ((d1 : Nat) : Int)))), .slice p19_1 ((words (x1 * ((d2 : Nat) : Int) + -x2 * ((d1 : Nat) : Int)).natAbs).length) p19_c1, .bool ((rb (y1 * ((d2 : Nat) : Int) + -y2 * ((d1 : Nat) : Int)))), .slice p19_2 ((words (y1 * ((d2 : Nat) : Int) + -y2 * ((d1 : Nat) : Int)).natAbs).length) p19_c2, .slice p19_3 ((words (d1 * d2)).length) p19_c3]) hA hS 11 rfl rfl rfl (sets_store (cs := [.bool ((rb (x1 * ((d2 : Nat) : Int) + -x2 * ((d1 : Nat) : Int)))), .slice p19_1 ((words (x1 * ((d2 : Nat) : Int) + -x2 * ((d1 : Nat) : Int)).natAbs).length) p19_c1, .bool ((rb (y1 * ((d2 : Nat) : Int) + -y2 * ((d1 : Nat) : Int)))), .slice p19_2 ((words (y1 * ((d2 : Nat) : Int) + -y2 * ((d1 : Nat) : Int)).natAbs).length) p19_c2, .slice p19_3 ((words (d1 * d2)).length) p19_c3]) rfl rfl rfl (by kernel_rfl) hS 0 rfl rfl rfl) 0 rfl rfl rfl rfl ?_)
 intro w25 hS
 refine ⟨(hS.partD (.cons _ (.cons_cons _ (.cons_cons _ .slnil))) 5 rfl (.refl _)), ?_⟩
 refine any_end (by kernel_rfl) ?_
 refine hK8 _ _ ?_
 refine wp_ret ?_
 refine hret _ _ ?_
 refine ends (v := .agg #[.bool ((rb (x1 * ((d2 : Nat) : Int) + -x2 * ((d1 : Nat) : Int)))), .slice p19_1 ((words (x1 * ((d2 : Nat) : Int) + -x2 * ((d1 : Nat) : Int)).natAbs).length) p19_c1, .bool ((rb (y1 * ((d2 : Nat) : Int) + -y2 * ((d1 : Nat) : Int)))), .slice p19_2 ((words (y1 * ((d2 : Nat) : Int) + -y2 * ((d1 : Nat) : Int)).natAbs).length) p19_c2, .slice p19_3 ((words (d1 * d2)).length) p19_c3]) hA rfl (.cons (res_cell hS ExJ_isS_55 rfl 0 rfl (cs := [.bool ((rb (x1 * ((d2 : Nat) : Int) + -x2 * ((d1 : Nat) : Int)))), .slice p19_1 ((words (x1 * ((d2 : Nat) : Int) + -x2 * ((d1 : Nat) : Int)).natAbs).length) p19_c1, .bool ((rb (y1 * ((d2 : Nat) : Int) + -y2 * ((d1 : Nat) : Int)))), .slice p19_2 ((words (y1 * ((d2 : Nat) : Int) + -y2 * ((d1 : Nat) : Int)).natAbs).length) p19_c2, .slice p19_3 ((words (d1 * d2)).length) p19_c3]) rfl rfl) .nil) rfl ?_
 exact ⟨p19_1, p19_c1, p19_2, p19_c2, p19_3, p19_c3, rfl, ⟨(hS.rd 2 rfl), hs20.nil, hs20.cap⟩, ⟨(hS.rd 1 rfl), hs21.nil, hs21.cap⟩, ⟨(hS.rd 0 rfl), hs22.nil, hs22.cap⟩, hS.bel⟩
end Go.Proofs.YthlkbnhbmfmchaaGreat
namespace Go.Proofs.YthlkbnhbmfmchaaGreat
open Go.RowKit
set_option linter.unusedVariables false
set_option linter.unusedSimpArgs false
set_option maxRecDepth 100000
theorem ExK_is1_22 : Is1 Tryz.prog 22 := ⟨⟨_, Tryz.underlying22, rfl⟩, by kernel_rfl⟩
theorem ExK_is1_4 : Is1 Tryz.prog 4 := ⟨⟨_, Tryz.underlying4, rfl⟩, by kernel_rfl⟩
theorem ExK_fld_24_0 : FieldAt Tryz.prog 24 0 0 := ⟨_, _, Tryz.underlying24, rfl, rfl, by kernel_rfl⟩
theorem ExK_fld_24_1 : FieldAt Tryz.prog 24 1 1 := ⟨_, _, Tryz.underlying24, rfl, rfl, by kernel_rfl⟩
theorem ExK_fld_24_2 : FieldAt Tryz.prog 24 2 2 := ⟨_, _, Tryz.underlying24, rfl, rfl, by kernel_rfl⟩
theorem ExK_fld_26_0 : FieldAt Tryz.prog 26 0 0 := ⟨_, _, Tryz.underlying26, rfl, rfl, by kernel_rfl⟩
theorem ExK_fld_26_1 : FieldAt Tryz.prog 26 1 3 := ⟨_, _, Tryz.underlying26, rfl, rfl, by kernel_rfl⟩
theorem ExK_fld_53_0 : FieldAt Tryz.prog 53 0 0 := ⟨_, _, Tryz.underlying53, rfl, rfl, by kernel_rfl⟩
theorem ExK_fld_53_1 : FieldAt Tryz.prog 53 1 1 := ⟨_, _, Tryz.underlying53, rfl, rfl, by kernel_rfl⟩
theorem ExK_fld_55_0 : FieldAt Tryz.prog 55 0 0 := ⟨_, _, Tryz.underlying55, rfl, rfl, by kernel_rfl⟩
theorem ExK_fld_55_1 : FieldAt Tryz.prog 55 1 2 := ⟨_, _, Tryz.underlying55, rfl, rfl, by kernel_rfl⟩
theorem ExK_fld_55_2 : FieldAt Tryz.prog 55 2 4 := ⟨_, _, Tryz.underlying55, rfl, rfl, by kernel_rfl⟩
theorem ExK_isS_53 : IsS Tryz.prog 53 2 := ⟨⟨_, Tryz.underlying53⟩, by kernel_rfl⟩
theorem ExK_isS_55 : IsS Tryz.prog 55 5 := ⟨⟨_, Tryz.underlying55⟩, by kernel_rfl⟩
theorem zspread_any {w : World} {u v : Rat} {a1 a2 a3 a4 : Option Addr} {ac1 ac2 ac3 ac4 : Nat} (ha : Nm w (Q6.rat u v) a1 ac1 a2 ac2 a3 ac3 a4 ac4) (hu : fitR u) (hv : fitR v) : Calls Tryz.prog 43 #[numV (Q6.rat u v) a1 ac1 a2 ac2 a3 ac3 a4 ac4] w (AnsR w (spX u v) (spY u v) (spD u v)) := by
 have k1 : (words u.num.natAbs).length ≤ 512 := hu.1
 have k2 : (words u.den).length ≤ 512 := hu.2
 have k3 : (words v.num.natAbs).length ≤ 512 := hv.1
 have k4 : (words v.den).length ≤ 512 := hv.2
 have k5 : (words (v.den / spG u v)).length ≤ 512 := div_len hv.2
 have k6 : (words (u.den / spG u v)).length ≤ 512 := div_len hu.2
 have k7 : (words (spG u v)).length ≤ 512 := gcd_len v.den_nz hv.2
 have hS : St w w [] [(a4, words v.den), (a3, words v.num.natAbs), (a2, words u.den), (a1, words u.num.natAbs)] [] := ((((St.start w).addR ha.s1.rd).addR ha.s2.rd).addR ha.s3.rd).addR ha.s4.rd
 refine walk_of (l := [(0, .agg #[.bool (rb u.num), .slice a1 ((words u.num.natAbs).length) ac1, .slice a2 ((words u.den).length) ac2, .bool (rb v.num), .slice a3 ((words v.num.natAbs).length) ac3, .slice a4 ((words v.den).length) ac4])]) Tryz.func43 rfl Tryz.ntmps43 rfl rfl ?_
 intro Q hret hnorm hP a hA
 refine wp_seq_k (fun K1 hK1 => ?_)
 refine wp_region_lit ?_
 refine seq_new (vs := [.bool (rb u.num), .slice a1 ((words u.num.natAbs).length) ac1, .slice a2 ((words u.den).length) ac2, .bool (rb v.num), .slice a3 ((words v.num.natAbs).length) ac3, .slice a4 ((words v.den).length) ac4]) (t := 26) hA hS rfl rfl rfl (fun g => .pointer (some ⟨g, 0, none⟩)) (d_box rfl rfl) rfl ?_
 intro g2 w3 hS a hA
 refine seq_new (vs := [.bool false, .slice none 0 0, .bool false, .slice none 0 0, .slice none 0 0]) (t := 55) hA hS rfl rfl rfl (fun g => .pointer (some ⟨g, 0, none⟩)) (d_alloc (z := .agg #[.bool false, .slice none 0 0, .bool false, .slice none 0 0, .slice none 0 0]) (by kernel_rfl) rfl) rfl ?_
 intro g4 w5 hS a hA
 refine seq_end ?_
 refine hK1 _ _ ?_
 refine wp_seq_k (fun K6 hK6 => ?_)
 refine wp_region_lit ?_
 refine seq_do (v := .pointer (some ⟨g2, 0, none⟩)) hA rfl rfl rfl (d_field ExK_fld_26_0 rfl rfl) ?_
 intro a hA
 refine seq_do (v := .pointer (some ⟨g2, 2, none⟩)) hA rfl rfl rfl (d_field ExK_fld_24_2 rfl rfl) ?_
 intro a hA
 refine seq_do hA rfl rfl rfl (d_load1 hS ExK_is1_22 rfl 1 rfl rfl) ?_
 intro a hA
 refine seq_do (v := .pointer (some ⟨g2, 3, none⟩)) hA rfl rfl rfl (d_field ExK_fld_26_1 rfl rfl) ?_
 intro a hA
 refine seq_do (v := .pointer (some ⟨g2, 5, none⟩)) hA rfl rfl rfl (d_field ExK_fld_24_2 rfl rfl) ?_
 intro a hA
 refine seq_do hA rfl rfl rfl (d_load1 hS ExK_is1_22 rfl 1 rfl rfl) ?_
 intro a hA
 refine seq_call hA rfl rfl rfl (enters_func  rfl rfl (fun w => by kernel_rfl)) (divisor_any _ _ (hS.rd 2 rfl) (hS.rd 0 rfl) (by omega) (by omega) ha.s2.nil ha.s4.nil) ?_
 rintro _ w11 ⟨ro7, rc8, rfl, ho9, hb10⟩
 replace hS := hS.call hb10
 replace hS := hS.addR ho9.rd
 refine ⟨_, rfl, ?_⟩
 intro a hA
 refine seq_do hA rfl rfl rfl (d_assign rfl) ?_
 intro a hA
 refine seq_end ?_
 refine hK6 _ _ ?_
 refine wp_seq_k (fun K12 hK12 => ?_)
 refine wp_region_lit ?_
 refine seq_do (v := .pointer (some ⟨g2, 3, none⟩)) hA rfl rfl rfl (d_field ExK_fld_26_1 rfl rfl) ?_
 intro a hA
 refine seq_do (v := .pointer (some ⟨g2, 5, none⟩)) hA rfl rfl rfl (d_field ExK_fld_24_2 rfl rfl) ?_
 intro a hA
 refine seq_do hA rfl rfl rfl (d_load1 hS ExK_is1_22 rfl 1 rfl rfl) ?_
 intro a hA
 refine seq_do hA rfl rfl rfl (d_move rfl) ?_
 intro a hA
 refine seq_call hA rfl rfl rfl (enters_func  rfl rfl (fun w => by kernel_rfl)) (divide_any _ _ (hS.rd 1 rfl) (hS.rd 0 rfl) (by omega) (Nat.le_trans (gcd_len v.den_nz hv.2) (by decide)) ha.s4.nil (Nat.ne_of_gt (spG_pos u v))) ?_
 rintro _ w20 ⟨ro13, rc14, uo15, uc16, rfl, ho17, hp18, hb19⟩
 replace hS := hS.call hb19
 replace hS := hS.addR ho17.rd
 replace hS := hS.addR hp18.rd
 refine ⟨_, rfl, ?_⟩
 intro a hA
 refine seq_do hA rfl rfl rfl (d_move rfl) ?_
 intro a hA
 refine seq_do (v := .slice ro13 ((words (v.den / spG u v)).length) rc14) hA rfl rfl rfl (d_extract (vs := [.slice ro13 ((words (v.den / spG u v)).length) rc14, .slice uo15 ((words (v.den % spG u v)).length) uc16]) rfl rfl) ?_
 intro a hA
 refine seq_do (v := .slice uo15 ((words (v.den % spG u v)).length) uc16) hA rfl rfl rfl (d_extract (vs := [.slice ro13 ((words (v.den / spG u v)).length) rc14, .slice uo15 ((words (v.den % spG u v)).length) uc16]) rfl rfl) ?_
 intro a hA
 refine seq_do hA rfl rfl rfl (d_assign rfl) ?_
 intro a hA
 refine seq_do hA rfl rfl rfl (d_assign rfl) ?_
 intro a hA
 refine seq_end ?_
 refine hK12 _ _ ?_
 refine wp_seq_k (fun K21 hK21 => ?_)
 refine wp_region_lit ?_
 refine seq_do (v := .pointer (some ⟨g2, 0, none⟩)) hA rfl rfl rfl (d_field ExK_fld_26_0 rfl rfl) ?_
 intro a hA
 refine seq_do (v := .pointer (some ⟨g2, 2, none⟩)) hA rfl rfl rfl (d_field ExK_fld_24_2 rfl rfl) ?_
 intro a hA
 refine seq_do hA rfl rfl rfl (d_load1 hS ExK_is1_22 rfl 1 rfl rfl) ?_
 intro a hA
 refine seq_do hA rfl rfl rfl (d_move rfl) ?_
 intro a hA
 refine seq_call hA rfl rfl rfl (enters_func  rfl rfl (fun w => by kernel_rfl)) (divide_any _ _ (hS.rd 5 rfl) (hS.rd 2 rfl) (by omega) (Nat.le_trans (gcd_len v.den_nz hv.2) (by decide)) ha.s2.nil (Nat.ne_of_gt (spG_pos u v))) ?_
 rintro _ w29 ⟨ro22, rc23, uo24, uc25, rfl, ho26, hp27, hb28⟩
 replace hS := hS.call hb28
 replace hS := hS.addR ho26.rd
 replace hS := hS.addR hp27.rd
 refine ⟨_, rfl, ?_⟩
 intro a hA
 refine seq_do hA rfl rfl rfl (d_move rfl) ?_
 intro a hA
 refine seq_do (v := .slice ro22 ((words (u.den / spG u v)).length) rc23) hA rfl rfl rfl (d_extract (vs := [.slice ro22 ((words (u.den / spG u v)).length) rc23, .slice uo24 ((words (u.den % spG u v)).length) uc25]) rfl rfl) ?_
 intro a hA
 refine seq_do (v := .slice uo24 ((words (u.den % spG u v)).length) uc25) hA rfl rfl rfl (d_extract (vs := [.slice ro22 ((words (u.den / spG u v)).length) rc23, .slice uo24 ((words (u.den % spG u v)).length) uc25]) rfl rfl) ?_
 intro a hA
 refine seq_do hA rfl rfl rfl (d_assign rfl) ?_
 intro a hA
 refine seq_do hA rfl rfl rfl (d_assign rfl) ?_
 intro a hA
 refine seq_end ?_
 refine hK21 _ _ ?_
 refine wp_seq_k (fun K30 hK30 => ?_)
 refine wp_draw (S := fun w1 => St w w1 [(g2, [.bool (rb u.num), .slice a1 ((words u.num.natAbs).length) ac1, .slice a2 ((words u.den).length) ac2, .bool (rb v.num), .slice a3 ((words v.num.natAbs).length) ac3, .slice a4 ((words v.den).length) ac4])] [(uo24, words (u.den % spG u v)), (ro22, words (u.den / spG u v)), (uo15, words (v.den % spG u v)), (ro13, words (v.den / spG u v)), (ro7, words (spG u v)), (a4, words v.den), (a3, words v.num.natAbs), (a2, words u.den), (a1, words u.num.natAbs)] []) (by kernel_rfl) ?_
 replace hS := hS.drew
 refine any_tk (v := .pointer (some ⟨g2, 0, none⟩)) hA 0 rfl rfl rfl rfl hP (hS.partD (.cons _ (.cons_cons _ .slnil)) 0 rfl (.refl _)) (fun w1 hS => d_field ExK_fld_26_0 rfl rfl) ?_
 intro a hA
 refine any_tk (v := .pointer (some ⟨g2, 0, none⟩)) hA 1 rfl rfl rfl rfl hP (hS.partD (.cons _ (.cons_cons _ .slnil)) 0 rfl (.refl _)) (fun w1 hS => d_field ExK_fld_24_0 rfl rfl) ?_
 intro a hA
 refine any_tk hA 2 rfl rfl rfl rfl hP (hS.partD (.cons _ (.cons_cons _ .slnil)) 0 rfl (.refl _)) (fun w1 hS => d_load1 hS ExK_is1_4 rfl 0 rfl rfl) ?_
 intro a hA
 refine any_tk (v := .pointer (some ⟨g2, 0, none⟩)) hA 3 rfl rfl rfl rfl hP (hS.partD (.cons _ (.cons_cons _ .slnil)) 0 rfl (.refl _)) (fun w1 hS => d_field ExK_fld_26_0 rfl rfl) ?_
 intro a hA
 refine any_tk (v := .pointer (some ⟨g2, 1, none⟩)) hA 4 rfl rfl rfl rfl hP (hS.partD (.cons _ (.cons_cons _ .slnil)) 0 rfl (.refl _)) (fun w1 hS => d_field ExK_fld_24_1 rfl rfl) ?_
 intro a hA
 refine any_tk hA 5 rfl rfl rfl rfl hP (hS.partD (.cons _ (.cons_cons _ .slnil)) 0 rfl (.refl _)) (fun w1 hS => d_load1 hS ExK_is1_22 rfl 0 rfl rfl) ?_
 intro a hA
 refine any_tk hA 7 rfl rfl rfl rfl hP (hS.partD (.cons _ (.cons_cons _ .slnil)) 0 rfl (.refl _)) (fun w1 hS => d_move rfl) ?_
 intro a hA
 refine any_tk (v := .pointer (some ⟨g2, 3, none⟩)) hA 9 rfl rfl rfl rfl hP (hS.partD (.cons _ (.cons_cons _ .slnil)) 0 rfl (.refl _)) (fun w1 hS => d_field ExK_fld_26_1 rfl rfl) ?_
 intro a hA
 refine any_tk (v := .pointer (some ⟨g2, 3, none⟩)) hA 10 rfl rfl rfl rfl hP (hS.partD (.cons _ (.cons_cons _ .slnil)) 0 rfl (.refl _)) (fun w1 hS => d_field ExK_fld_24_0 rfl rfl) ?_
 intro a hA
 refine any_tk hA 11 rfl rfl rfl rfl hP (hS.partD (.cons _ (.cons_cons _ .slnil)) 0 rfl (.refl _)) (fun w1 hS => d_load1 hS ExK_is1_4 rfl 0 rfl rfl) ?_
 intro a hA
 refine any_tk (v := .pointer (some ⟨g2, 3, none⟩)) hA 12 rfl rfl rfl rfl hP (hS.partD (.cons _ (.cons_cons _ .slnil)) 0 rfl (.refl _)) (fun w1 hS => d_field ExK_fld_26_1 rfl rfl) ?_
 intro a hA
 refine any_tk (v := .pointer (some ⟨g2, 4, none⟩)) hA 13 rfl rfl rfl rfl hP (hS.partD (.cons _ (.cons_cons _ .slnil)) 0 rfl (.refl _)) (fun w1 hS => d_field ExK_fld_24_1 rfl rfl) ?_
 intro a hA
 refine any_tk hA 14 rfl rfl rfl rfl hP (hS.partD (.cons _ (.cons_cons _ .slnil)) 0 rfl (.refl _)) (fun w1 hS => d_load1 hS ExK_is1_22 rfl 0 rfl rfl) ?_
 intro a hA
 refine any_tk hA 16 rfl rfl rfl rfl hP (hS.partD (.cons _ (.cons_cons _ .slnil)) 0 rfl (.refl _)) (fun w1 hS => d_move rfl) ?_
 intro a hA
 refine any_tk (v := .pointer (some ⟨g2, 0, none⟩)) hA 18 rfl rfl rfl rfl hP (hS.partD (.cons _ (.cons_cons _ .slnil)) 0 rfl (.refl _)) (fun w1 hS => d_field ExK_fld_26_0 rfl rfl) ?_
 intro a hA
 refine any_tk (v := .pointer (some ⟨g2, 2, none⟩)) hA 19 rfl rfl rfl rfl hP (hS.partD (.cons _ (.cons_cons _ .slnil)) 0 rfl (.refl _)) (fun w1 hS => d_field ExK_fld_24_2 rfl rfl) ?_
 intro a hA
 refine any_tk hA 20 rfl rfl rfl rfl hP (hS.partD (.cons _ (.cons_cons _ .slnil)) 0 rfl (.refl _)) (fun w1 hS => d_load1 hS ExK_is1_22 rfl 0 rfl rfl) ?_
 intro a hA
 refine any_tk hA 21 rfl rfl rfl rfl hP (hS.partD (.cons _ (.cons_cons _ .slnil)) 0 rfl (.refl _)) (fun w1 hS => d_move rfl) ?_
 intro a hA
 refine any_one (by kernel_rfl) (op_call hA 6 rfl rfl rfl rfl (enters_func  rfl rfl (fun w => by kernel_rfl)) (zsigned_any (b := rb u.num) (n := u.num.natAbs) (z := u.num) ⟨(hS.rd 8 rfl), ha.s1.nil, ha.s1.cap⟩ (sgn_rb u.num)) ?_)
 rintro _ w35 ⟨zo31, zc32, rfl, hs33, hb34⟩
 replace hS := hS.call hb34
 replace hS := hS.addR hs33.rd
 refine ⟨_, rfl, (hS.partD (.cons _ (.cons_cons _ .slnil)) 1 rfl (.refl _)), ?_⟩
 intro a hA
 refine any_one (by kernel_rfl) (op_call hA 8 rfl rfl rfl rfl (enters_func  rfl rfl (fun w => by kernel_rfl)) (zscaled_any ⟨(hS.rd 0 rfl), hs33.nil, hs33.cap⟩ ⟨(hS.rd 4 rfl), ho17.nocap, ho17.caps⟩ (by omega) (by omega)) ?_)
 rintro _ w40 ⟨zo36, zc37, rfl, hs38, hb39⟩
 replace hS := hS.call hb39
 replace hS := hS.addR hs38.rd
 refine ⟨_, rfl, (hS.partD (.cons _ (.cons_cons _ .slnil)) 2 rfl (.refl _)), ?_⟩
 intro a hA
 refine any_one (by kernel_rfl) (op_call hA 15 rfl rfl rfl rfl (enters_func  rfl rfl (fun w => by kernel_rfl)) (zsigned_any (b := rb v.num) (n := v.num.natAbs) (z := v.num) ⟨(hS.rd 8 rfl), ha.s3.nil, ha.s3.cap⟩ (sgn_rb v.num)) ?_)
 rintro _ w45 ⟨zo41, zc42, rfl, hs43, hb44⟩
 replace hS := hS.call hb44
 replace hS := hS.addR hs43.rd
 refine ⟨_, rfl, (hS.partD (.cons _ (.cons_cons _ .slnil)) 3 rfl (.refl _)), ?_⟩
 intro a hA
 refine any_one (by kernel_rfl) (op_call hA 17 rfl rfl rfl rfl (enters_func  rfl rfl (fun w => by kernel_rfl)) (zscaled_any ⟨(hS.rd 0 rfl), hs43.nil, hs43.cap⟩ ⟨(hS.rd 4 rfl), ho26.nocap, ho26.caps⟩ (by omega) (by omega)) ?_)
 rintro _ w50 ⟨zo46, zc47, rfl, hs48, hb49⟩
 replace hS := hS.call hb49
 replace hS := hS.addR hs48.rd
 refine ⟨_, rfl, (hS.partD (.cons _ (.cons_cons _ .slnil)) 4 rfl (.refl _)), ?_⟩
 intro a hA
 refine any_one (by kernel_rfl) (op_call hA 22 rfl rfl rfl rfl (enters_func  rfl rfl (fun w => by kernel_rfl)) (product_any _ _ (hS.rd 11 rfl) (hS.rd 7 rfl) (by omega) (by omega)) ?_)
 rintro _ w55 ⟨ro51, rc52, rfl, ho53, hb54⟩
 replace hS := hS.call hb54
 replace hS := hS.addR ho53.rd
 refine ⟨_, rfl, (hS.partD (.cons _ (.cons_cons _ .slnil)) 5 rfl (.refl _)), ?_⟩
 intro a hA
 refine any_tk (v := .agg #[.bool ((rb (u.num * ((v.den / spG u v : Nat) : Int)))), .slice zo36 ((words (u.num * ((v.den / spG u v : Nat) : Int)).natAbs).length) zc37, .bool ((rb (v.num * ((u.den / spG u v : Nat) : Int)))), .slice zo46 ((words (v.num * ((u.den / spG u v : Nat) : Int)).natAbs).length) zc47, .slice ro51 ((words (u.den * (v.den / spG u v))).length) rc52]) hA 23 rfl rfl rfl rfl hP (hS.partD (.cons _ (.cons_cons _ .slnil)) 5 rfl (.refl _)) (fun w1 hS => d_build rfl (fun w => by kernel_rfl)) ?_
 intro a hA
 refine any_one (by kernel_rfl) (op_store (us := [.bool ((rb (u.num * ((v.den / spG u v : Nat) : Int)))), .slice zo36 ((words (u.num * ((v.den / spG u v : Nat) : Int)).natAbs).length) zc37, .bool ((rb (v.num * ((u.den / spG u v : Nat) : Int)))), .slice zo46 ((words (v.num * ((u.den / spG u v : Nat) : Int)).natAbs).length) zc47, .slice ro51 ((words (u.den * (v.den / spG u v))).length) rc52]) hA hS 24 rfl rfl rfl (sets_store (cs := [.bool ((rb (u.num * ((v.den / spG u v : Nat) : Int)))), .slice zo36 ((words (u.num * ((v.den / spG u v : Nat) : Int)).natAbs).length) zc37, .bool ((rb (v.num * ((u.den / spG u v : Nat) : Int)))), .slice zo46 ((words (v.num * ((u.den / spG u v : Nat) : Int)).natAbs).length) zc47, .slice ro51 ((words (u.den * (v.den / spG u v))).length) rc52]) rfl rfl rfl (by kernel_rfl) hS 0 rfl rfl rfl) 0 rfl rfl rfl rfl ?_)
 intro w56 hS
 refine ⟨(hS.partD (.cons _ (.cons_cons _ .slnil)) 5 rfl (.refl _)), ?_⟩
 refine any_end (by kernel_rfl) ?_
 refine hK30 _ _ ?_
 refine wp_ret ?_
 refine hret _ _ ?_
 refine ends (v := .agg #[.bool ((rb (u.num * ((v.den / spG u v : Nat) : Int)))), .slice zo36 ((words (u.num * ((v.den / spG u v : Nat) : Int)).natAbs).length) zc37, .bool ((rb (v.num * ((u.den / spG u v : Nat) : Int)))), .slice zo46 ((words (v.num * ((u.den / spG u v : Nat) : Int)).natAbs).length) zc47, .slice ro51 ((words (u.den * (v.den / spG u v))).length) rc52]) hA rfl (.cons (res_cell hS ExK_isS_55 rfl 0 rfl (cs := [.bool ((rb (u.num * ((v.den / spG u v : Nat) : Int)))), .slice zo36 ((words (u.num * ((v.den / spG u v : Nat) : Int)).natAbs).length) zc37, .bool ((rb (v.num * ((u.den / spG u v : Nat) : Int)))), .slice zo46 ((words (v.num * ((u.den / spG u v : Nat) : Int)).natAbs).length) zc47, .slice ro51 ((words (u.den * (v.den / spG u v))).length) rc52]) rfl rfl) .nil) rfl ?_
 exact ⟨zo36, zc37, zo46, zc47, ro51, rc52, rfl, ⟨(hS.rd 3 rfl), hs38.nil, hs38.cap⟩, ⟨(hS.rd 1 rfl), hs48.nil, hs48.cap⟩, ⟨(hS.rd 0 rfl), ho53.nocap, ho53.caps⟩, hS.bel⟩
theorem zinv0_any {w : World} {x y : Int} {d : Nat} {a1 a2 a3 : Option Addr} {ac1 ac2 ac3 : Nat} (ha1 : Sc w a1 ac1 (words x.natAbs)) (ha2 : Sc w a2 ac2 (words y.natAbs)) (ha3 : Sc w a3 ac3 (words d)) (la1 : (words x.natAbs).length ≤ 10000) (la2 : (words y.natAbs).length ≤ 10000) (la3 : (words d).length ≤ 10000) (hy : y = 0) : Calls Tryz.prog 72 #[.agg #[.bool (rb x), .slice a1 (words x.natAbs).length ac1, .bool (rb y), .slice a2 (words y.natAbs).length ac2, .slice a3 (words d).length ac3]] w (AnsR w (ivX x y d) (ivY x y d) (ivD x y)) := by
 have k0 : (words y.natAbs).length = 0 := by rw [hy, Int.natAbs_zero, words_zero]; rfl
 have hS : St w w [] [(a3, words d), (a2, words y.natAbs), (a1, words x.natAbs)] [] := (((St.start w).addR ha1.rd).addR ha2.rd).addR ha3.rd
 refine walk_of (l := [(0, .agg #[.bool ((rb x)), .slice a1 ((words x.natAbs).length) ac1, .bool ((rb y)), .slice a2 ((words y.natAbs).length) ac2, .slice a3 ((words d).length) ac3])]) Tryz.func72 rfl Tryz.ntmps72 rfl rfl ?_
 intro Q hret hnorm hP a hA
 refine wp_seq_k (fun K1 hK1 => ?_)
 refine wp_region_lit ?_
 refine seq_new (vs := [.bool ((rb x)), .slice a1 ((words x.natAbs).length) ac1, .bool ((rb y)), .slice a2 ((words y.natAbs).length) ac2, .slice a3 ((words d).length) ac3]) (t := 55) hA hS rfl rfl rfl (fun g => .pointer (some ⟨g, 0, none⟩)) (d_box rfl rfl) rfl ?_
 intro g2 w3 hS a hA
 refine seq_new (vs := [.bool false, .slice none 0 0, .bool false, .slice none 0 0, .slice none 0 0]) (t := 55) hA hS rfl rfl rfl (fun g => .pointer (some ⟨g, 0, none⟩)) (d_alloc (z := .agg #[.bool false, .slice none 0 0, .bool false, .slice none 0 0, .slice none 0 0]) (by kernel_rfl) rfl) rfl ?_
 intro g4 w5 hS a hA
 refine seq_end ?_
 refine hK1 _ _ ?_
 refine wp_seq_k (fun K6 hK6 => ?_)
 refine wp_seq_k (fun K7 hK7 => ?_)
 refine wp_region_lit ?_
 refine seq_do (v := .pointer (some ⟨g2, 2, none⟩)) hA rfl rfl rfl (d_field ExK_fld_55_1 rfl rfl) ?_
 intro a hA
 refine seq_do (v := .pointer (some ⟨g2, 3, none⟩)) hA rfl rfl rfl (d_field ExK_fld_53_1 rfl rfl) ?_
 intro a hA
 refine seq_do hA rfl rfl rfl (d_load1 hS ExK_is1_22 rfl 1 rfl rfl) ?_
 intro a hA
 refine seq_do (v := .int .i64 ((((words y.natAbs).length : Nat) : Int))) hA rfl rfl rfl (d_len Tryz.underlying22 rfl) ?_
 intro a hA
 refine seq_do (v := .bool true) hA rfl rfl rfl (d_bin rfl rfl (fun w => (bin_eql w).trans (by rw [show (((((words y.natAbs).length : Nat) : Int) == 0)) = true from (by simp only [k0]; rfl)]))) ?_
 intro a hA
 refine seq_end ?_
 refine hK7 _ _ ?_
 refine wp_cond_true (hA.ev rfl) ?_
 refine wp_seq_k (fun K8 hK8 => ?_)
 refine wp_draw (S := fun w1 => St w w1 [(g2, [.bool ((rb x)), .slice a1 ((words x.natAbs).length) ac1, .bool ((rb y)), .slice a2 ((words y.natAbs).length) ac2, .slice a3 ((words d).length) ac3])] [(a3, words d), (a2, words y.natAbs), (a1, words x.natAbs)] []) (by kernel_rfl) ?_
 replace hS := hS.drew
 refine any_tk (v := .pointer (some ⟨g2, 0, none⟩)) hA 0 rfl rfl rfl rfl hP (hS.partD (.cons _ (.cons_cons _ .slnil)) 0 rfl (.refl _)) (fun w1 hS => d_field ExK_fld_55_0 rfl rfl) ?_
 intro a hA
 refine any_tk (v := .pointer (some ⟨g2, 0, none⟩)) hA 1 rfl rfl rfl rfl hP (hS.partD (.cons _ (.cons_cons _ .slnil)) 0 rfl (.refl _)) (fun w1 hS => d_field ExK_fld_53_0 rfl rfl) ?_
 intro a hA
 refine any_tk hA 2 rfl rfl rfl rfl hP (hS.partD (.cons _ (.cons_cons _ .slnil)) 0 rfl (.refl _)) (fun w1 hS => d_load1 hS ExK_is1_4 rfl 0 rfl rfl) ?_
 intro a hA
 refine any_tk (v := .pointer (some ⟨g2, 4, none⟩)) hA 3 rfl rfl rfl rfl hP (hS.partD (.cons _ (.cons_cons _ .slnil)) 0 rfl (.refl _)) (fun w1 hS => d_field ExK_fld_55_2 rfl rfl) ?_
 intro a hA
 refine any_tk hA 4 rfl rfl rfl rfl hP (hS.partD (.cons _ (.cons_cons _ .slnil)) 0 rfl (.refl _)) (fun w1 hS => d_load1 hS ExK_is1_22 rfl 0 rfl rfl) ?_
 intro a hA
 refine any_tk (v := .pointer (some ⟨g2, 0, none⟩)) hA 6 rfl rfl rfl rfl hP (hS.partD (.cons _ (.cons_cons _ .slnil)) 0 rfl (.refl _)) (fun w1 hS => d_field ExK_fld_55_0 rfl rfl) ?_
 intro a hA
 refine any_tk (v := .pointer (some ⟨g2, 1, none⟩)) hA 7 rfl rfl rfl rfl hP (hS.partD (.cons _ (.cons_cons _ .slnil)) 0 rfl (.refl _)) (fun w1 hS => d_field ExK_fld_53_1 rfl rfl) ?_
 intro a hA
 refine any_tk hA 8 rfl rfl rfl rfl hP (hS.partD (.cons _ (.cons_cons _ .slnil)) 0 rfl (.refl _)) (fun w1 hS => d_load1 hS ExK_is1_22 rfl 0 rfl rfl) ?_
 intro a hA
 refine any_one (by kernel_rfl) (op_call hA 5 rfl rfl rfl rfl (enters_func  rfl rfl (fun w => by kernel_rfl)) (zsigned_any (b := rb x) (n := d) (z := sgn (rb x) d) ⟨(hS.rd 0 rfl), ha3.nil, ha3.cap⟩ rfl) ?_)
 rintro _ w13 ⟨zo9, zc10, rfl, hs11, hb12⟩
 replace hS := hS.call hb12
 replace hS := hS.addR hs11.rd
 refine ⟨_, rfl, (hS.partD (.cons _ (.cons_cons _ .slnil)) 1 rfl (.refl _)), ?_⟩
 intro a hA
 refine any_tk (v := .agg #[.bool ((rb (sgn (rb x) d))), .slice zo9 ((words (sgn (rb x) d).natAbs).length) zc10, .bool false, .slice none 0 0, .slice a1 ((words x.natAbs).length) ac1]) hA 9 rfl rfl rfl rfl hP (hS.partD (.cons _ (.cons_cons _ .slnil)) 1 rfl (.refl _)) (fun w1 hS => d_build rfl (fun w => by kernel_rfl)) ?_
 intro a hA
 refine any_one (by kernel_rfl) (op_store (us := [.bool ((rb (sgn (rb x) d))), .slice zo9 ((words (sgn (rb x) d).natAbs).length) zc10, .bool false, .slice none 0 0, .slice a1 ((words x.natAbs).length) ac1]) hA hS 10 rfl rfl rfl (sets_store (cs := [.bool ((rb (sgn (rb x) d))), .slice zo9 ((words (sgn (rb x) d).natAbs).length) zc10, .bool false, .slice none 0 0, .slice a1 ((words x.natAbs).length) ac1]) rfl rfl rfl (by kernel_rfl) hS 0 rfl rfl rfl) 0 rfl rfl rfl rfl ?_)
 intro w14 hS
 refine ⟨(hS.partD (.cons _ (.cons_cons _ .slnil)) 1 rfl (.refl _)), ?_⟩
 refine any_end (by kernel_rfl) ?_
 refine hK8 _ _ ?_
 refine wp_ret ?_
 refine hret _ _ ?_
 refine ends (v := .agg #[.bool ((rb (sgn (rb x) d))), .slice zo9 ((words (sgn (rb x) d).natAbs).length) zc10, .bool false, .slice none 0 0, .slice a1 ((words x.natAbs).length) ac1]) hA rfl (.cons (res_cell hS ExK_isS_55 rfl 0 rfl (cs := [.bool ((rb (sgn (rb x) d))), .slice zo9 ((words (sgn (rb x) d).natAbs).length) zc10, .bool false, .slice none 0 0, .slice a1 ((words x.natAbs).length) ac1]) rfl rfl) .nil) rfl ?_
 rw [show ivX x y d = sgn (rb x) d from if_pos hy, show ivY x y d = 0 from if_pos hy, show ivD x y = x.natAbs from if_pos hy]
 exact ⟨zo9, zc10, none, 0, a1, ac1, by rw [show words (Int.natAbs 0) = [] from words_zero]; rfl, ⟨(hS.rd 0 rfl), hs11.nil, hs11.cap⟩, by rw [show words (Int.natAbs 0) = [] from words_zero]; exact Sc.none _, ⟨(hS.rd 3 rfl), ha1.nil, ha1.cap⟩, hS.bel⟩
theorem zinv1_any {w : World} {x y : Int} {d : Nat} {a1 a2 a3 : Option Addr} {ac1 ac2 ac3 : Nat} (ha1 : Sc w a1 ac1 (words x.natAbs)) (ha2 : Sc w a2 ac2 (words y.natAbs)) (ha3 : Sc w a3 ac3 (words d)) (la1 : (words x.natAbs).length ≤ 10000) (la2 : (words y.natAbs).length ≤ 10000) (la3 : (words d).length ≤ 10000) (hy : y ≠ 0) : Calls Tryz.prog 72 #[.agg #[.bool (rb x), .slice a1 (words x.natAbs).length ac1, .bool (rb y), .slice a2 (words y.natAbs).length ac2, .slice a3 (words d).length ac3]] w (AnsR w (ivX x y d) (ivY x y d) (ivD x y)) := by
 have k0 : (words y.natAbs).length ≠ 0 := by have := (words_len_pos (x := y.natAbs)).2 (by omega); omega
 have k1 := abs_mul_len la1 la1
 have k2 := abs_mul_len la2 la2
 have k3 : (words (-y).natAbs).length ≤ 10000 := by rw [Int.natAbs_neg]; exact la2
 have hS : St w w [] [(a3, words d), (a2, words y.natAbs), (a1, words x.natAbs)] [] := (((St.start w).addR ha1.rd).addR ha2.rd).addR ha3.rd
 refine walk_of (l := [(0, .agg #[.bool ((rb x)), .slice a1 ((words x.natAbs).length) ac1, .bool ((rb y)), .slice a2 ((words y.natAbs).length) ac2, .slice a3 ((words d).length) ac3])]) Tryz.func72 rfl Tryz.ntmps72 rfl rfl ?_
 intro Q hret hnorm hP a hA
 refine wp_seq_k (fun K1 hK1 => ?_)
 refine wp_region_lit ?_
 refine seq_new (vs := [.bool ((rb x)), .slice a1 ((words x.natAbs).length) ac1, .bool ((rb y)), .slice a2 ((words y.natAbs).length) ac2, .slice a3 ((words d).length) ac3]) (t := 55) hA hS rfl rfl rfl (fun g => .pointer (some ⟨g, 0, none⟩)) (d_box rfl rfl) rfl ?_
 intro g2 w3 hS a hA
 refine seq_new (vs := [.bool false, .slice none 0 0, .bool false, .slice none 0 0, .slice none 0 0]) (t := 55) hA hS rfl rfl rfl (fun g => .pointer (some ⟨g, 0, none⟩)) (d_alloc (z := .agg #[.bool false, .slice none 0 0, .bool false, .slice none 0 0, .slice none 0 0]) (by kernel_rfl) rfl) rfl ?_
 intro g4 w5 hS a hA
 refine seq_end ?_
 refine hK1 _ _ ?_
 refine wp_seq_k (fun K6 hK6 => ?_)
 refine wp_seq_k (fun K7 hK7 => ?_)
 refine wp_region_lit ?_
 refine seq_do (v := .pointer (some ⟨g2, 2, none⟩)) hA rfl rfl rfl (d_field ExK_fld_55_1 rfl rfl) ?_
 intro a hA
 refine seq_do (v := .pointer (some ⟨g2, 3, none⟩)) hA rfl rfl rfl (d_field ExK_fld_53_1 rfl rfl) ?_
 intro a hA
 refine seq_do hA rfl rfl rfl (d_load1 hS ExK_is1_22 rfl 1 rfl rfl) ?_
 intro a hA
 refine seq_do (v := .int .i64 ((((words y.natAbs).length : Nat) : Int))) hA rfl rfl rfl (d_len Tryz.underlying22 rfl) ?_
 intro a hA
 refine seq_do (v := .bool false) hA rfl rfl rfl (d_bin rfl rfl (fun w => (bin_eql w).trans (by rw [show (((((words y.natAbs).length : Nat) : Int) == 0)) = false from (by simpa using k0)]))) ?_
 intro a hA
 refine seq_end ?_
 refine hK7 _ _ ?_
 refine wp_cond_false (hA.ev rfl) ?_
 refine wp_skip ?_
 refine hK6 _ _ ?_
 refine wp_seq_k (fun K8 hK8 => ?_)
 have hJ32 : ∀ a w1, (∃ (J27g : Nat) (J28 : Option Addr) (J29 : Nat), Sl a 44 [(0, .agg #[.bool ((rb x)), .slice a1 ((words x.natAbs).length) ac1, .bool ((rb y)), .slice a2 ((words y.natAbs).length) ac2, .slice a3 ((words d).length) ac3]), (1, .pointer (some ⟨g2, 0, none⟩)), (2, .pointer (some ⟨g4, 0, none⟩)), (3, .pointer (some ⟨J27g, 0, none⟩)), (4, .pointer (some ⟨g2, 2, none⟩)), (5, .pointer (some ⟨g2, 3, none⟩)), (6, .slice a2 ((words y.natAbs).length) ac2), (7, .int .i64 ((((words y.natAbs).length : Nat) : Int))), (8, .bool false)] ∧ St w w1 [(J27g, [.bool ((rb (x * x + (y * y)))), .slice J28 ((words (x * x + (y * y)).natAbs).length) J29]), (g4, [.bool false, .slice none 0 0, .bool false, .slice none 0 0, .slice none 0 0]), (g2, [.bool ((rb x)), .slice a1 ((words x.natAbs).length) ac1, .bool ((rb y)), .slice a2 ((words y.natAbs).length) ac2, .slice a3 ((words d).length) ac3])] [(J28, words (x * x + (y * y)).natAbs), (a3, words d), (a2, words y.natAbs), (a1, words x.natAbs)] [] ∧ (J28 = none → J29 = 0) ∧ (words (x * x + (y * y)).natAbs : List Nat).length ≤ J29) → K8 a w1 := by
   clear hA hS
   rintro a w33 ⟨J27g, J28, J29, hA, hS, hn30, hc31⟩
   refine hK8 _ _ ?_
   refine wp_seq_k (fun K34 hK34 => ?_)
   refine wp_draw (S := fun w1 => St w w1 [(J27g, [.bool ((rb (x * x + (y * y)))), .slice J28 ((words (x * x + (y * y)).natAbs).length) J29]), (g2, [.bool ((rb x)), .slice a1 ((words x.natAbs).length) ac1, .bool ((rb y)), .slice a2 ((words y.natAbs).length) ac2, .slice a3 ((words d).length) ac3])] [(J28, words (x * x + (y * y)).natAbs), (a3, words d), (a2, words y.natAbs), (a1, words x.natAbs)] []) (by kernel_rfl) ?_
   replace hS := hS.drew
   refine any_tk (v := .pointer (some ⟨g2, 0, none⟩)) hA 0 rfl rfl rfl rfl hP (hS.partD (.cons_cons _ (.cons _ (.cons_cons _ .slnil))) 0 rfl (.refl _)) (fun w1 hS => d_field ExK_fld_55_0 rfl rfl) ?_
   intro a hA
   refine any_tk hA 1 rfl rfl rfl rfl hP (hS.partD (.cons_cons _ (.cons _ (.cons_cons _ .slnil))) 0 rfl (.refl _)) (fun w1 hS => d_loadS hS ExK_isS_53 rfl 1 rfl (cs := [.bool ((rb x)), .slice a1 ((words x.natAbs).length) ac1]) rfl rfl) ?_
   intro a hA
   refine any_tk (v := .pointer (some ⟨g2, 4, none⟩)) hA 2 rfl rfl rfl rfl hP (hS.partD (.cons_cons _ (.cons _ (.cons_cons _ .slnil))) 0 rfl (.refl _)) (fun w1 hS => d_field ExK_fld_55_2 rfl rfl) ?_
   intro a hA
   refine any_tk hA 3 rfl rfl rfl rfl hP (hS.partD (.cons_cons _ (.cons _ (.cons_cons _ .slnil))) 0 rfl (.refl _)) (fun w1 hS => d_load1 hS ExK_is1_22 rfl 1 rfl rfl) ?_
   intro a hA
   refine any_tk (v := .pointer (some ⟨g2, 2, none⟩)) hA 5 rfl rfl rfl rfl hP (hS.partD (.cons_cons _ (.cons _ (.cons_cons _ .slnil))) 0 rfl (.refl _)) (fun w1 hS => d_field ExK_fld_55_1 rfl rfl) ?_
   intro a hA
   refine any_tk hA 6 rfl rfl rfl rfl hP (hS.partD (.cons_cons _ (.cons _ (.cons_cons _ .slnil))) 0 rfl (.refl _)) (fun w1 hS => d_loadS hS ExK_isS_53 rfl 1 rfl (cs := [.bool ((rb y)), .slice a2 ((words y.natAbs).length) ac2]) rfl rfl) ?_
   intro a hA
   refine any_tk (v := .pointer (some ⟨g2, 4, none⟩)) hA 8 rfl rfl rfl rfl hP (hS.partD (.cons_cons _ (.cons _ (.cons_cons _ .slnil))) 0 rfl (.refl _)) (fun w1 hS => d_field ExK_fld_55_2 rfl rfl) ?_
   intro a hA
   refine any_tk hA 9 rfl rfl rfl rfl hP (hS.partD (.cons_cons _ (.cons _ (.cons_cons _ .slnil))) 0 rfl (.refl _)) (fun w1 hS => d_load1 hS ExK_is1_22 rfl 1 rfl rfl) ?_
   intro a hA
   refine any_tk (v := .pointer (some ⟨J27g, 1, none⟩)) hA 11 rfl rfl rfl rfl hP (hS.partD (.cons_cons _ (.cons _ (.cons_cons _ .slnil))) 0 rfl (.refl _)) (fun w1 hS => d_field ExK_fld_53_1 rfl rfl) ?_
   intro a hA
   refine any_tk hA 12 rfl rfl rfl rfl hP (hS.partD (.cons_cons _ (.cons _ (.cons_cons _ .slnil))) 0 rfl (.refl _)) (fun w1 hS => d_load1 hS ExK_is1_22 rfl 0 rfl rfl) ?_
   intro a hA
   refine any_one (by kernel_rfl) (op_call hA 4 rfl rfl rfl rfl (enters_func  rfl rfl (fun w => by kernel_rfl)) (zscaled_any ⟨(hS.rd 3 rfl), ha1.nil, ha1.cap⟩ ⟨(hS.rd 1 rfl), ha3.nil, ha3.cap⟩ (by omega) (by omega)) ?_)
   rintro _ w39 ⟨zo35, zc36, rfl, hs37, hb38⟩
   replace hS := hS.call hb38
   replace hS := hS.addR hs37.rd
   refine ⟨_, rfl, (hS.partD (.cons_cons _ (.cons _ (.cons_cons _ .slnil))) 1 rfl (.refl _)), ?_⟩
   intro a hA
   refine any_one (by kernel_rfl) (op_call hA 7 rfl rfl rfl rfl (enters_func  rfl rfl (fun w => by kernel_rfl)) (zopp_any ⟨(hS.rd 3 rfl), ha2.nil, ha2.cap⟩) ?_)
   rintro _ w44 ⟨zo40, zc41, rfl, hs42, hb43⟩
   replace hS := hS.call hb43
   replace hS := hS.addR hs42.rd
   refine ⟨_, rfl, (hS.partD (.cons_cons _ (.cons _ (.cons_cons _ .slnil))) 2 rfl (.refl _)), ?_⟩
   intro a hA
   refine any_one (by kernel_rfl) (op_call hA 10 rfl rfl rfl rfl (enters_func  rfl rfl (fun w => by kernel_rfl)) (zscaled_any ⟨(hS.rd 0 rfl), hs42.nil, hs42.cap⟩ ⟨(hS.rd 3 rfl), ha3.nil, ha3.cap⟩ (by omega) (by omega)) ?_)
   rintro _ w49 ⟨zo45, zc46, rfl, hs47, hb48⟩
   replace hS := hS.call hb48
   replace hS := hS.addR hs47.rd
   refine ⟨_, rfl, (hS.partD (.cons_cons _ (.cons _ (.cons_cons _ .slnil))) 3 rfl (.refl _)), ?_⟩
   intro a hA
   refine any_tk (v := .agg #[.bool ((rb (x * ((d : Nat) : Int)))), .slice zo35 ((words (x * ((d : Nat) : Int)).natAbs).length) zc36, .bool ((rb ((-y) * ((d : Nat) : Int)))), .slice zo45 ((words ((-y) * ((d : Nat) : Int)).natAbs).length) zc46, .slice J28 ((words (x * x + (y * y)).natAbs).length) J29]) hA 13 rfl rfl rfl rfl hP (hS.partD (.cons_cons _ (.cons _ (.cons_cons _ .slnil))) 3 rfl (.refl _)) (fun w1 hS => d_build rfl (fun w => by kernel_rfl)) ?_
   intro a hA
   refine any_one (by kernel_rfl) (op_store (us := [.bool ((rb (x * ((d : Nat) : Int)))), .slice zo35 ((words (x * ((d : Nat) : Int)).natAbs).length) zc36, .bool ((rb ((-y) * ((d : Nat) : Int)))), .slice zo45 ((words ((-y) * ((d : Nat) : Int)).natAbs).length) zc46, .slice J28 ((words (x * x + (y * y)).natAbs).length) J29]) hA hS 14 rfl rfl rfl (sets_store (cs := [.bool ((rb (x * ((d : Nat) : Int)))), .slice zo35 ((words (x * ((d : Nat) : Int)).natAbs).length) zc36, .bool ((rb ((-y) * ((d : Nat) : Int)))), .slice zo45 ((words ((-y) * ((d : Nat) : Int)).natAbs).length) zc46, .slice J28 ((words (x * x + (y * y)).natAbs).length) J29]) rfl rfl rfl (by kernel_rfl) hS 1 rfl rfl rfl) 1 rfl rfl rfl rfl ?_)
   intro w50 hS
   refine ⟨(hS.partD (.cons_cons _ (.cons _ (.cons_cons _ .slnil))) 3 rfl (.refl _)), ?_⟩
   refine any_end (by kernel_rfl) ?_
   refine hK34 _ _ ?_
   refine wp_ret ?_
   refine hret _ _ ?_
   refine ends (v := .agg #[.bool ((rb (x * ((d : Nat) : Int)))), .slice zo35 ((words (x * ((d : Nat) : Int)).natAbs).length) zc36, .bool ((rb ((-y) * ((d : Nat) : Int)))), .slice zo45 ((words ((-y) * ((d : Nat) : Int)).natAbs).length) zc46, .slice J28 ((words (x * x + (y * y)).natAbs).length) J29]) hA rfl (.cons (res_cell hS ExK_isS_55 rfl 1 rfl (cs := [.bool ((rb (x * ((d : Nat) : Int)))), .slice zo35 ((words (x * ((d : Nat) : Int)).natAbs).length) zc36, .bool ((rb ((-y) * ((d : Nat) : Int)))), .slice zo45 ((words ((-y) * ((d : Nat) : Int)).natAbs).length) zc46, .slice J28 ((words (x * x + (y * y)).natAbs).length) J29]) rfl rfl) .nil) rfl ?_
   rw [show ivX x y d = x * ((d : Nat) : Int) from if_neg hy, show ivY x y d = -y * ((d : Nat) : Int) from if_neg hy, show ivD x y = (x * x + y * y).natAbs from if_neg hy]
   exact ⟨zo35, zc36, zo45, zc46, J28, J29, rfl, ⟨(hS.rd 2 rfl), hs37.nil, hs37.cap⟩, ⟨(hS.rd 0 rfl), hs47.nil, hs47.cap⟩, ⟨(hS.rd 3 rfl), hn30, hc31⟩, hS.bel⟩
 refine wp_draw (S := fun w1 => St w w1 [(g4, [.bool false, .slice none 0 0, .bool false, .slice none 0 0, .slice none 0 0]), (g2, [.bool ((rb x)), .slice a1 ((words x.natAbs).length) ac1, .bool ((rb y)), .slice a2 ((words y.natAbs).length) ac2, .slice a3 ((words d).length) ac3])] [(a3, words d), (a2, words y.natAbs), (a1, words x.natAbs)] []) (by kernel_rfl) ?_
 replace hS := hS.drew
 refine any_tk (v := .pointer (some ⟨g2, 0, none⟩)) hA 0 rfl rfl rfl rfl hP hS (fun w1 hS => d_field ExK_fld_55_0 rfl rfl) ?_
 intro a hA
 refine any_tk hA 1 rfl rfl rfl rfl hP hS (fun w1 hS => d_loadS hS ExK_isS_53 rfl 1 rfl (cs := [.bool ((rb x)), .slice a1 ((words x.natAbs).length) ac1]) rfl rfl) ?_
 intro a hA
 refine any_tk (v := .pointer (some ⟨g2, 0, none⟩)) hA 2 rfl rfl rfl rfl hP hS (fun w1 hS => d_field ExK_fld_55_0 rfl rfl) ?_
 intro a hA
 refine any_tk hA 3 rfl rfl rfl rfl hP hS (fun w1 hS => d_loadS hS ExK_isS_53 rfl 1 rfl (cs := [.bool ((rb x)), .slice a1 ((words x.natAbs).length) ac1]) rfl rfl) ?_
 intro a hA
 refine any_tk (v := .pointer (some ⟨g2, 2, none⟩)) hA 5 rfl rfl rfl rfl hP hS (fun w1 hS => d_field ExK_fld_55_1 rfl rfl) ?_
 intro a hA
 refine any_tk hA 6 rfl rfl rfl rfl hP hS (fun w1 hS => d_loadS hS ExK_isS_53 rfl 1 rfl (cs := [.bool ((rb y)), .slice a2 ((words y.natAbs).length) ac2]) rfl rfl) ?_
 intro a hA
 refine any_tk (v := .pointer (some ⟨g2, 2, none⟩)) hA 7 rfl rfl rfl rfl hP hS (fun w1 hS => d_field ExK_fld_55_1 rfl rfl) ?_
 intro a hA
 refine any_tk hA 8 rfl rfl rfl rfl hP hS (fun w1 hS => d_loadS hS ExK_isS_53 rfl 1 rfl (cs := [.bool ((rb y)), .slice a2 ((words y.natAbs).length) ac2]) rfl rfl) ?_
 intro a hA
 refine any_many (rs := [4, 11]) (by kernel_rfl) (by simp) ⟨?_, ?_, trivial⟩
 · refine op_call hA 4 rfl rfl rfl rfl (enters_func  rfl rfl (fun w => by kernel_rfl)) (ztimes_any ⟨(hS.rd 2 rfl), ha1.nil, ha1.cap⟩ ⟨(hS.rd 2 rfl), ha1.nil, ha1.cap⟩ (by omega) (by omega)) ?_
   rintro _ w55 ⟨zo51, zc52, rfl, hs53, hb54⟩
   replace hS := hS.call hb54
   replace hS := hS.addR hs53.rd
   refine ⟨_, rfl, (hS.partD (.refl _) 1 rfl (.refl _)), ?_⟩
   intro a hA
   refine any_many (rs := [9, 11]) (by kernel_rfl) (by simp) ⟨?_, ?_, trivial⟩
   · refine op_call hA 9 rfl rfl rfl rfl (enters_func  rfl rfl (fun w => by kernel_rfl)) (ztimes_any ⟨(hS.rd 2 rfl), ha2.nil, ha2.cap⟩ ⟨(hS.rd 2 rfl), ha2.nil, ha2.cap⟩ (by omega) (by omega)) ?_
     rintro _ w60 ⟨zo56, zc57, rfl, hs58, hb59⟩
     replace hS := hS.call hb59
     replace hS := hS.addR hs58.rd
     refine ⟨_, rfl, (hS.partD (.refl _) 2 rfl (.refl _)), ?_⟩
     intro a hA
     refine any_many (rs := [10, 11]) (by kernel_rfl) (by simp) ⟨?_, ?_, trivial⟩
     · refine op_call hA 10 rfl rfl rfl rfl (enters_func  rfl rfl (fun w => by kernel_rfl)) (zplus_any ⟨(hS.rd 1 rfl), hs53.nil, hs53.cap⟩ ⟨(hS.rd 0 rfl), hs58.nil, hs58.cap⟩ (by omega) (by omega)) ?_
       rintro _ w65 ⟨zo61, zc62, rfl, hs63, hb64⟩
       replace hS := hS.call hb64
       replace hS := hS.addR hs63.rd
       refine ⟨_, rfl, (hS.partD (.refl _) 3 rfl (.refl _)), ?_⟩
       intro a hA
       refine any_one (by kernel_rfl) (op_new (vs := [.bool false, .slice none 0 0]) (t := 53) hA hS 11 rfl rfl rfl rfl (fun g => .pointer (some ⟨g, 0, none⟩)) (d_alloc (z := .agg #[.bool false, .slice none 0 0]) (by kernel_rfl) rfl) rfl ?_)
       intro g66 w67 hS
       refine ⟨(hS.partD (.cons _ (.cons_cons _ (.cons_cons _ .slnil))) 3 rfl (.refl _)), ?_⟩
       intro a hA
       refine any_one (by kernel_rfl) (op_store (us := [.bool ((rb (x * x + (y * y)))), .slice zo61 ((words (x * x + (y * y)).natAbs).length) zc62]) hA hS 12 rfl rfl rfl (sets_store (cs := [.bool ((rb (x * x + (y * y)))), .slice zo61 ((words (x * x + (y * y)).natAbs).length) zc62]) rfl rfl rfl (by kernel_rfl) hS 0 rfl rfl rfl) 0 rfl rfl rfl rfl ?_)
       intro w68 hS
       refine ⟨(hS.partD (.cons _ (.cons_cons _ (.cons_cons _ .slnil))) 3 rfl (.refl _)), ?_⟩
       refine any_end (by kernel_rfl) ?_
       refine hJ32 _ _ ⟨g66, zo61, zc62, hA.keep _ ⟨rfl, rfl, rfl, rfl, rfl, rfl, rfl, rfl, rfl, trivial⟩, ((hS.pickR [(zo61, words (x * x + (y * y)).natAbs), (a3, words d), (a2, words y.natAbs), (a1, words x.natAbs)] ⟨⟨0, rfl⟩, ⟨⟨3, rfl⟩, ⟨⟨4, rfl⟩, ⟨⟨5, rfl⟩, trivial⟩⟩⟩⟩).pickL [(g66, [.bool ((rb (x * x + (y * y)))), .slice zo61 ((words (x * x + (y * y)).natAbs).length) zc62]), (g4, [.bool false, .slice none 0 0, .bool false, .slice none 0 0, .slice none 0 0]), (g2, [.bool ((rb x)), .slice a1 ((words x.natAbs).length) ac1, .bool ((rb y)), .slice a2 ((words y.natAbs).length) ac2, .slice a3 ((words d).length) ac3])] [0, 1, 2] rfl (by decide)), hs63.nil, hs63.cap⟩
     · refine op_new (vs := [.bool false, .slice none 0 0]) (t := 53) hA hS 11 rfl rfl rfl rfl (fun g => .pointer (some ⟨g, 0, none⟩)) (d_alloc (z := .agg #[.bool false, .slice none 0 0]) (by kernel_rfl) rfl) rfl ?_
       intro g69 w70 hS
       refine ⟨(hS.partD (.cons _ (.cons_cons _ (.cons_cons _ .slnil))) 2 rfl (.refl _)), ?_⟩
       intro a hA
       refine any_one (by kernel_rfl) (op_call hA 10 rfl rfl rfl rfl (enters_func  rfl rfl (fun w => by kernel_rfl)) (zplus_any ⟨(hS.rd 1 rfl), hs53.nil, hs53.cap⟩ ⟨(hS.rd 0 rfl), hs58.nil, hs58.cap⟩ (by omega) (by omega)) ?_)
       rintro _ w75 ⟨zo71, zc72, rfl, hs73, hb74⟩
       replace hS := hS.call hb74
       replace hS := hS.addR hs73.rd
       refine ⟨_, rfl, (hS.partD (.cons _ (.cons_cons _ (.cons_cons _ .slnil))) 3 rfl (.refl _)), ?_⟩
       intro a hA
       refine any_one (by kernel_rfl) (op_store (us := [.bool ((rb (x * x + (y * y)))), .slice zo71 ((words (x * x + (y * y)).natAbs).length) zc72]) hA hS 12 rfl rfl rfl (sets_store (cs := [.bool ((rb (x * x + (y * y)))), .slice zo71 ((words (x * x + (y * y)).natAbs).length) zc72]) rfl rfl rfl (by kernel_rfl) hS 0 rfl rfl rfl) 0 rfl rfl rfl rfl ?_)
       intro w76 hS
       refine ⟨(hS.partD (.cons _ (.cons_cons _ (.cons_cons _ .slnil))) 3 rfl (.refl _)), ?_⟩
       refine any_end (by kernel_rfl) ?_
       refine hJ32 _ _ ⟨g69, zo71, zc72, hA.keep _ ⟨rfl, rfl, rfl, rfl, rfl, rfl, rfl, rfl, rfl, trivial⟩, ((hS.pickR [(zo71, words (x * x + (y * y)).natAbs), (a3, words d), (a2, words y.natAbs), (a1, words x.natAbs)] ⟨⟨0, rfl⟩, ⟨⟨3, rfl⟩, ⟨⟨4, rfl⟩, ⟨⟨5, rfl⟩, trivial⟩⟩⟩⟩).pickL [(g69, [.bool ((rb (x * x + (y * y)))), .slice zo71 ((words (x * x + (y * y)).natAbs).length) zc72]), (g4, [.bool false, .slice none 0 0, .bool false, .slice none 0 0, .slice none 0 0]), (g2, [.bool ((rb x)), .slice a1 ((words x.natAbs).length) ac1, .bool ((rb y)), .slice a2 ((words y.natAbs).length) ac2, .slice a3 ((words d).length) ac3])] [0, 1, 2] rfl (by decide)), hs73.nil, hs73.cap⟩
   · refine op_new (vs := [.bool false, .slice none 0 0]) (t := 53) hA hS 11 rfl rfl rfl rfl (fun g => .pointer (some ⟨g, 0, none⟩)) (d_alloc (z := .agg #[.bool false, .slice none 0 0]) (by kernel_rfl) rfl) rfl ?_
     intro g77 w78 hS
     refine ⟨(hS.partD (.cons _ (.cons_cons _ (.cons_cons _ .slnil))) 1 rfl (.refl _)), ?_⟩
     intro a hA
     refine any_one (by kernel_rfl) (op_call hA 9 rfl rfl rfl rfl (enters_func  rfl rfl (fun w => by kernel_rfl)) (ztimes_any ⟨(hS.rd 2 rfl), ha2.nil, ha2.cap⟩ ⟨(hS.rd 2 rfl), ha2.nil, ha2.cap⟩ (by omega) (by omega)) ?_)
     rintro _ w83 ⟨zo79, zc80, rfl, hs81, hb82⟩
     replace hS := hS.call hb82
     replace hS := hS.addR hs81.rd
     refine ⟨_, rfl, (hS.partD (.cons _ (.cons_cons _ (.cons_cons _ .slnil))) 2 rfl (.refl _)), ?_⟩
     intro a hA
     refine any_one (by kernel_rfl) (op_call hA 10 rfl rfl rfl rfl (enters_func  rfl rfl (fun w => by kernel_rfl)) (zplus_any ⟨(hS.rd 1 rfl), hs53.nil, hs53.cap⟩ ⟨(hS.rd 0 rfl), hs81.nil, hs81.cap⟩ (by omega) (by omega)) ?_)
     rintro _ w88 ⟨zo84, zc85, rfl, hs86, hb87⟩
     replace hS := hS.call hb87
     replace hS := hS.addR hs86.rd
     refine ⟨_, rfl, (hS.partD (.cons _ (.cons_cons _ (.cons_cons _ .slnil))) 3 rfl (.refl _)), ?_⟩
     intro a hA
     refine any_one (by kernel_rfl) (op_store (us := [.bool ((rb (x * x + (y * y)))), .slice zo84 ((words (x * x + (y * y)).natAbs).length) zc85]) hA hS 12 rfl rfl rfl (sets_store (cs := [.bool ((rb (x * x + (y * y)))), .slice zo84 ((words (x * x + (y * y)).natAbs).length) zc85]) rfl rfl rfl (by kernel_rfl) hS 0 rfl rfl rfl) 0 rfl rfl rfl rfl ?_)
     intro w89 hS
     refine ⟨(hS.partD (.cons _ (.cons_cons _ (.cons_cons _ .slnil))) 3 rfl (.refl _)), ?_⟩
     refine any_end (by kernel_rfl) ?_
     refine hJ32 _ _ ⟨g77, zo84, zc85, hA.keep _ ⟨rfl, rfl, rfl, rfl, rfl, rfl, rfl, rfl, rfl, trivial⟩, ((hS.pickR [(zo84, words (x * x + (y * y)).natAbs), (a3, words d), (a2, words y.natAbs), (a1, words x.natAbs)] ⟨⟨0, rfl⟩, ⟨⟨3, rfl⟩, ⟨⟨4, rfl⟩, ⟨⟨5, rfl⟩, trivial⟩⟩⟩⟩).pickL [(g77, [.bool ((rb (x * x + (y * y)))), .slice zo84 ((words (x * x + (y * y)).natAbs).length) zc85]), (g4, [.bool false, .slice none 0 0, .bool false, .slice none 0 0, .slice none 0 0]), (g2, [.bool ((rb x)), .slice a1 ((words x.natAbs).length) ac1, .bool ((rb y)), .slice a2 ((words y.natAbs).length) ac2, .slice a3 ((words d).length) ac3])] [0, 1, 2] rfl (by decide)), hs86.nil, hs86.cap⟩
 · refine op_new (vs := [.bool false, .slice none 0 0]) (t := 53) hA hS 11 rfl rfl rfl rfl (fun g => .pointer (some ⟨g, 0, none⟩)) (d_alloc (z := .agg #[.bool false, .slice none 0 0]) (by kernel_rfl) rfl) rfl ?_
   intro g90 w91 hS
   refine ⟨(hS.partD (.cons _ (.cons_cons _ (.cons_cons _ .slnil))) 0 rfl (.refl _)), ?_⟩
   intro a hA
   refine any_one (by kernel_rfl) (op_call hA 4 rfl rfl rfl rfl (enters_func  rfl rfl (fun w => by kernel_rfl)) (ztimes_any ⟨(hS.rd 2 rfl), ha1.nil, ha1.cap⟩ ⟨(hS.rd 2 rfl), ha1.nil, ha1.cap⟩ (by omega) (by omega)) ?_)
   rintro _ w96 ⟨zo92, zc93, rfl, hs94, hb95⟩
   replace hS := hS.call hb95
   replace hS := hS.addR hs94.rd
   refine ⟨_, rfl, (hS.partD (.cons _ (.cons_cons _ (.cons_cons _ .slnil))) 1 rfl (.refl _)), ?_⟩
   intro a hA
   refine any_one (by kernel_rfl) (op_call hA 9 rfl rfl rfl rfl (enters_func  rfl rfl (fun w => by kernel_rfl)) (ztimes_any ⟨(hS.rd 2 rfl), ha2.nil, ha2.cap⟩ ⟨(hS.rd 2 rfl), ha2.nil, ha2.cap⟩ (by omega) (by omega)) ?_)
   rintro _ w101 ⟨zo97, zc98, rfl, hs99, hb100⟩
   replace hS := hS.call hb100
   replace hS := hS.addR hs99.rd
   refine ⟨_, rfl, (hS.partD (.cons _ (.cons_cons _ (.cons_cons _ .slnil))) 2 rfl (.refl _)), ?_⟩
   intro a hA
   refine any_one (by kernel_rfl) (op_call hA 10 rfl rfl rfl rfl (enters_func  rfl rfl (fun w => by kernel_rfl)) (zplus_any ⟨(hS.rd 1 rfl), hs94.nil, hs94.cap⟩ ⟨(hS.rd 0 rfl), hs99.nil, hs99.cap⟩ (by omega) (by omega)) ?_)
   rintro _ w106 ⟨zo102, zc103, rfl, hs104, hb105⟩
   replace hS := hS.call hb105
   replace hS := hS.addR hs104.rd
   refine ⟨_, rfl, (hS.partD (.cons _ (.cons_cons _ (.cons_cons _ .slnil))) 3 rfl (.refl _)), ?_⟩
   intro a hA
   refine any_one (by kernel_rfl) (op_store (us := [.bool ((rb (x * x + (y * y)))), .slice zo102 ((words (x * x + (y * y)).natAbs).length) zc103]) hA hS 12 rfl rfl rfl (sets_store (cs := [.bool ((rb (x * x + (y * y)))), .slice zo102 ((words (x * x + (y * y)).natAbs).length) zc103]) rfl rfl rfl (by kernel_rfl) hS 0 rfl rfl rfl) 0 rfl rfl rfl rfl ?_)
   intro w107 hS
   refine ⟨(hS.partD (.cons _ (.cons_cons _ (.cons_cons _ .slnil))) 3 rfl (.refl _)), ?_⟩
   refine any_end (by kernel_rfl) ?_
   refine hJ32 _ _ ⟨g90, zo102, zc103, hA.keep _ ⟨rfl, rfl, rfl, rfl, rfl, rfl, rfl, rfl, rfl, trivial⟩, ((hS.pickR [(zo102, words (x * x + (y * y)).natAbs), (a3, words d), (a2, words y.natAbs), (a1, words x.natAbs)] ⟨⟨0, rfl⟩, ⟨⟨3, rfl⟩, ⟨⟨4, rfl⟩, ⟨⟨5, rfl⟩, trivial⟩⟩⟩⟩).pickL [(g90, [.bool ((rb (x * x + (y * y)))), .slice zo102 ((words (x * x + (y * y)).natAbs).length) zc103]), (g4, [.bool false, .slice none 0 0, .bool false, .slice none 0 0, .slice none 0 0]), (g2, [.bool ((rb x)), .slice a1 ((words x.natAbs).length) ac1, .bool ((rb y)), .slice a2 ((words y.natAbs).length) ac2, .slice a3 ((words d).length) ac3])] [0, 1, 2] rfl (by decide)), hs104.nil, hs104.cap⟩
theorem zinv_any {w : World} {x y : Int} {d : Nat} {a1 a2 a3 : Option Addr} {ac1 ac2 ac3 : Nat} (ha1 : Sc w a1 ac1 (words x.natAbs)) (ha2 : Sc w a2 ac2 (words y.natAbs)) (ha3 : Sc w a3 ac3 (words d)) (la1 : (words x.natAbs).length ≤ 10000) (la2 : (words y.natAbs).length ≤ 10000) (la3 : (words d).length ≤ 10000) : Calls Tryz.prog 72 #[.agg #[.bool (rb x), .slice a1 (words x.natAbs).length ac1, .bool (rb y), .slice a2 (words y.natAbs).length ac2, .slice a3 (words d).length ac3]] w (AnsR w (ivX x y d) (ivY x y d) (ivD x y)) := by
  by_cases hy : y = 0
  · exact zinv0_any ha1 ha2 ha3 la1 la2 la3 hy
  · exact zinv1_any ha1 ha2 ha3 la1 la2 la3 hy
theorem zsettle_as {w : World} {x y : Int} {d : Nat} {a1 a2 a3 : Option Addr} {ac1 ac2 ac3 : Nat} (ha1 : Sc w a1 ac1 (words x.natAbs)) (ha2 : Sc w a2 ac2 (words y.natAbs)) (ha3 : Sc w a3 ac3 (words d)) {r : Q6 × Int} (h : setQ x y d = r) (l1 : (words x.natAbs).length ≤ 50000) (l2 : (words y.natAbs).length ≤ 50000) (l3 : (words d).length ≤ 50000) (hd : d ≠ 0) : Calls Tryz.prog 63 #[.agg #[.bool (rb x), .slice a1 (words x.natAbs).length ac1, .bool (rb y), .slice a2 (words y.natAbs).length ac2, .slice a3 (words d).length ac3]] w (AnsN w r) := h ▸ zsettle_any ha1 ha2 ha3 l1 l2 l3 hd
end Go.Proofs.YthlkbnhbmfmchaaGreat
namespace Go.Proofs.YthlkbnhbmfmchaaGreat
open Go.RowKit
set_option linter.unusedVariables false
set_option linter.unusedSimpArgs false
set_option maxRecDepth 100000
theorem ExL_isS_26 : IsS Tryz.prog 26 6 := ⟨⟨_, Tryz.underlying26⟩, by kernel_rfl⟩
theorem neg_len {x : Int} {k : Nat} (h : (words x.natAbs).length ≤ k) : (words (-x).natAbs).length ≤ k := by rw [Int.natAbs_neg]; exact h
theorem reckonE1_any {F : FuncId} {w : World} {p q : Q6} {a1 a2 a3 a4 : Option Addr} {ac1 ac2 ac3 ac4 : Nat} (ha : Nm w p a1 ac1 a2 ac2 a3 ac3 a4 ac4) (hl : LenQ p) {u1 u2 u3 u4 : Option Addr} {uc1 uc2 uc3 uc4 : Nat} (hb : Nm w q u1 uc1 u2 uc2 u3 uc3 u4 uc4) (hm : LenQ q) (h1 : soundQ p = false) : Calls Tryz.prog 36 #[.func (.func F) #[] #[], numV p a1 ac1 a2 ac2 a3 ac3 a4 ac4, numV q u1 uc1 u2 uc2 u3 uc3 u4 uc4] w (AnsN w (Q6.zero, 2)) := by
 have hS : St w w [] [(u4, q.q2), (u3, q.t2), (u2, q.q1), (u1, q.t1), (a4, p.q2), (a3, p.t2), (a2, p.q1), (a1, p.t1)] [] := ((((((((St.start w).addR ha.s1.rd).addR ha.s2.rd).addR ha.s3.rd).addR ha.s4.rd).addR hb.s1.rd).addR hb.s2.rd).addR hb.s3.rd).addR hb.s4.rd
 refine walk_of (l := [(0, .func (.func F) #[] #[]), (1, .agg #[.bool p.b1, .slice a1 p.t1.length ac1, .slice a2 p.q1.length ac2, .bool p.b2, .slice a3 p.t2.length ac3, .slice a4 p.q2.length ac4]), (2, .agg #[.bool q.b1, .slice u1 q.t1.length uc1, .slice u2 q.q1.length uc2, .bool q.b2, .slice u3 q.t2.length uc3, .slice u4 q.q2.length uc4])]) Tryz.func36 rfl Tryz.ntmps36 rfl rfl ?_
 intro Q hret hnorm hP a hA
 refine wp_seq_k (fun K1 hK1 => ?_)
 refine wp_region_lit ?_
 refine seq_new (vs := [.bool p.b1, .slice a1 p.t1.length ac1, .slice a2 p.q1.length ac2, .bool p.b2, .slice a3 p.t2.length ac3, .slice a4 p.q2.length ac4]) (t := 26) hA hS rfl rfl rfl (fun g => .pointer (some ⟨g, 0, none⟩)) (d_box rfl rfl) rfl ?_
 intro g2 w3 hS a hA
 refine seq_new (vs := [.bool q.b1, .slice u1 q.t1.length uc1, .slice u2 q.q1.length uc2, .bool q.b2, .slice u3 q.t2.length uc3, .slice u4 q.q2.length uc4]) (t := 26) hA hS rfl rfl rfl (fun g => .pointer (some ⟨g, 0, none⟩)) (d_box rfl rfl) rfl ?_
 intro g4 w5 hS a hA
 refine seq_new (vs := [.bool false, .slice none 0 0, .slice none 0 0, .bool false, .slice none 0 0, .slice none 0 0]) (t := 26) hA hS rfl rfl rfl (fun g => .pointer (some ⟨g, 0, none⟩)) (d_alloc (z := .agg #[.bool false, .slice none 0 0, .slice none 0 0, .bool false, .slice none 0 0, .slice none 0 0]) (by kernel_rfl) rfl) rfl ?_
 intro g6 w7 hS a hA
 refine seq_do hA rfl rfl rfl (d_assign rfl) ?_
 intro a hA
 refine seq_end ?_
 refine hK1 _ _ ?_
 refine wp_seq_k (fun K8 hK8 => ?_)
 refine wp_seq_k (fun K9 hK9 => ?_)
 refine wp_region_lit ?_
 refine seq_do hA rfl rfl rfl (d_loadS hS ExL_isS_26 rfl 2 rfl (cs := [.bool p.b1, .slice a1 p.t1.length ac1, .slice a2 p.q1.length ac2, .bool p.b2, .slice a3 p.t2.length ac3, .slice a4 p.q2.length ac4]) rfl rfl) ?_
 intro a hA
 refine seq_call hA rfl rfl rfl (enters_func  rfl rfl (fun w => by kernel_rfl)) (soundQ_any (show Nm _ p a1 ac1 a2 ac2 a3 ac3 a4 ac4 from ⟨⟨(hS.rd 7 rfl), ha.s1.nil, ha.s1.cap⟩, ⟨(hS.rd 6 rfl), ha.s2.nil, ha.s2.cap⟩, ⟨(hS.rd 5 rfl), ha.s3.nil, ha.s3.cap⟩, ⟨(hS.rd 4 rfl), ha.s4.nil, ha.s4.cap⟩⟩) hl h1) ?_
 rintro _ w11 ⟨rfl, hb10⟩
 replace hS := hS.call hb10
 refine ⟨_, rfl, ?_⟩
 intro a hA
 refine seq_do (v := .bool true) hA rfl rfl rfl (d_un rfl un_not) ?_
 intro a hA
 refine seq_do hA rfl rfl rfl (d_move rfl) ?_
 intro a hA
 refine seq_skip hA rfl rfl rfl ?_
 intro a hA
 refine seq_skip hA rfl rfl rfl ?_
 intro a hA
 refine seq_skip hA rfl rfl rfl ?_
 intro a hA
 refine seq_do (v := .bool true) hA rfl rfl rfl (d_pick rfl rfl rfl rfl) ?_
 intro a hA
 refine seq_end ?_
 refine hK9 _ _ ?_
 refine wp_cond_true (hA.ev rfl) ?_
 refine wp_seq_k (fun K12 hK12 => ?_)
 refine wp_region_lit ?_
 refine seq_do (v := .agg #[.bool false, .slice none 0 0, .slice none 0 0, .bool false, .slice none 0 0, .slice none 0 0]) hA rfl rfl rfl (d_build rfl (fun w => by kernel_rfl)) ?_
 intro a hA
 refine seq_store (us := [.bool false, .slice none 0 0, .slice none 0 0, .bool false, .slice none 0 0, .slice none 0 0]) hA hS rfl rfl (sets_store (cs := [.bool false, .slice none 0 0, .slice none 0 0, .bool false, .slice none 0 0, .slice none 0 0]) rfl rfl rfl (by kernel_rfl) hS 0 rfl rfl rfl) 0 rfl rfl rfl rfl ?_
 intro w13 hS
 refine seq_do hA rfl rfl rfl (d_assign rfl) ?_
 intro a hA
 refine seq_end ?_
 refine hK12 _ _ ?_
 refine wp_ret ?_
 refine hret _ _ ?_
 refine ends (v := .tuple #[.agg #[.bool false, .slice none 0 0, .slice none 0 0, .bool false, .slice none 0 0, .slice none 0 0], .int .i64 2]) hA rfl (.cons (res_cell hS ExL_isS_26 rfl 0 rfl (cs := [.bool false, .slice none 0 0, .slice none 0 0, .bool false, .slice none 0 0, .slice none 0 0]) rfl rfl) (.cons (res_tmp rfl) .nil)) rfl ?_
 exact ⟨none, 0, none, 0, none, 0, none, 0, rfl, ⟨(Sc.none _), (Sc.none _), (Sc.none _), (Sc.none _)⟩, hS.bel⟩
theorem reckonE2_any {F : FuncId} {w : World} {p q : Q6} {a1 a2 a3 a4 : Option Addr} {ac1 ac2 ac3 ac4 : Nat} (ha : Nm w p a1 ac1 a2 ac2 a3 ac3 a4 ac4) (hl : LenQ p) {u1 u2 u3 u4 : Option Addr} {uc1 uc2 uc3 uc4 : Nat} (hb : Nm w q u1 uc1 u2 uc2 u3 uc3 u4 uc4) (hm : LenQ q) (h1 : soundQ p = true) (h2 : soundQ q = false) : Calls Tryz.prog 36 #[.func (.func F) #[] #[], numV p a1 ac1 a2 ac2 a3 ac3 a4 ac4, numV q u1 uc1 u2 uc2 u3 uc3 u4 uc4] w (AnsN w (Q6.zero, 2)) := by
 have hS : St w w [] [(u4, q.q2), (u3, q.t2), (u2, q.q1), (u1, q.t1), (a4, p.q2), (a3, p.t2), (a2, p.q1), (a1, p.t1)] [] := ((((((((St.start w).addR ha.s1.rd).addR ha.s2.rd).addR ha.s3.rd).addR ha.s4.rd).addR hb.s1.rd).addR hb.s2.rd).addR hb.s3.rd).addR hb.s4.rd
 refine walk_of (l := [(0, .func (.func F) #[] #[]), (1, .agg #[.bool p.b1, .slice a1 p.t1.length ac1, .slice a2 p.q1.length ac2, .bool p.b2, .slice a3 p.t2.length ac3, .slice a4 p.q2.length ac4]), (2, .agg #[.bool q.b1, .slice u1 q.t1.length uc1, .slice u2 q.q1.length uc2, .bool q.b2, .slice u3 q.t2.length uc3, .slice u4 q.q2.length uc4])]) Tryz.func36 rfl Tryz.ntmps36 rfl rfl ?_
 intro Q hret hnorm hP a hA
 refine wp_seq_k (fun K1 hK1 => ?_)
 refine wp_region_lit ?_
 refine seq_new (vs := [.bool p.b1, .slice a1 p.t1.length ac1, .slice a2 p.q1.length ac2, .bool p.b2, .slice a3 p.t2.length ac3, .slice a4 p.q2.length ac4]) (t := 26) hA hS rfl rfl rfl (fun g => .pointer (some ⟨g, 0, none⟩)) (d_box rfl rfl) rfl ?_
 intro g2 w3 hS a hA
 refine seq_new (vs := [.bool q.b1, .slice u1 q.t1.length uc1, .slice u2 q.q1.length uc2, .bool q.b2, .slice u3 q.t2.length uc3, .slice u4 q.q2.length uc4]) (t := 26) hA hS rfl rfl rfl (fun g => .pointer (some ⟨g, 0, none⟩)) (d_box rfl rfl) rfl ?_
 intro g4 w5 hS a hA
 refine seq_new (vs := [.bool false, .slice none 0 0, .slice none 0 0, .bool false, .slice none 0 0, .slice none 0 0]) (t := 26) hA hS rfl rfl rfl (fun g => .pointer (some ⟨g, 0, none⟩)) (d_alloc (z := .agg #[.bool false, .slice none 0 0, .slice none 0 0, .bool false, .slice none 0 0, .slice none 0 0]) (by kernel_rfl) rfl) rfl ?_
 intro g6 w7 hS a hA
 refine seq_do hA rfl rfl rfl (d_assign rfl) ?_
 intro a hA
 refine seq_end ?_
 refine hK1 _ _ ?_
 refine wp_seq_k (fun K8 hK8 => ?_)
 refine wp_seq_k (fun K9 hK9 => ?_)
 refine wp_region_lit ?_
 refine seq_do hA rfl rfl rfl (d_loadS hS ExL_isS_26 rfl 2 rfl (cs := [.bool p.b1, .slice a1 p.t1.length ac1, .slice a2 p.q1.length ac2, .bool p.b2, .slice a3 p.t2.length ac3, .slice a4 p.q2.length ac4]) rfl rfl) ?_
 intro a hA
 refine seq_call hA rfl rfl rfl (enters_func  rfl rfl (fun w => by kernel_rfl)) (soundQ_any (show Nm _ p a1 ac1 a2 ac2 a3 ac3 a4 ac4 from ⟨⟨(hS.rd 7 rfl), ha.s1.nil, ha.s1.cap⟩, ⟨(hS.rd 6 rfl), ha.s2.nil, ha.s2.cap⟩, ⟨(hS.rd 5 rfl), ha.s3.nil, ha.s3.cap⟩, ⟨(hS.rd 4 rfl), ha.s4.nil, ha.s4.cap⟩⟩) hl h1) ?_
 rintro _ w11 ⟨rfl, hb10⟩
 replace hS := hS.call hb10
 refine ⟨_, rfl, ?_⟩
 intro a hA
 refine seq_do (v := .bool false) hA rfl rfl rfl (d_un rfl un_not) ?_
 intro a hA
 refine seq_do hA rfl rfl rfl (d_move rfl) ?_
 intro a hA
 refine seq_do hA rfl rfl rfl (d_loadS hS ExL_isS_26 rfl 1 rfl (cs := [.bool q.b1, .slice u1 q.t1.length uc1, .slice u2 q.q1.length uc2, .bool q.b2, .slice u3 q.t2.length uc3, .slice u4 q.q2.length uc4]) rfl rfl) ?_
 intro a hA
 refine seq_call hA rfl rfl rfl (enters_func  rfl rfl (fun w => by kernel_rfl)) (soundQ_any (show Nm _ q u1 uc1 u2 uc2 u3 uc3 u4 uc4 from ⟨⟨(hS.rd 3 rfl), hb.s1.nil, hb.s1.cap⟩, ⟨(hS.rd 2 rfl), hb.s2.nil, hb.s2.cap⟩, ⟨(hS.rd 1 rfl), hb.s3.nil, hb.s3.cap⟩, ⟨(hS.rd 0 rfl), hb.s4.nil, hb.s4.cap⟩⟩) hm h2) ?_
 rintro _ w13 ⟨rfl, hb12⟩
 replace hS := hS.call hb12
 refine ⟨_, rfl, ?_⟩
 intro a hA
 refine seq_do (v := .bool true) hA rfl rfl rfl (d_un rfl un_not) ?_
 intro a hA
 refine seq_do (v := .bool true) hA rfl rfl rfl (d_pick rfl rfl rfl rfl) ?_
 intro a hA
 refine seq_end ?_
 refine hK9 _ _ ?_
 refine wp_cond_true (hA.ev rfl) ?_
 refine wp_seq_k (fun K14 hK14 => ?_)
 refine wp_region_lit ?_
 refine seq_do (v := .agg #[.bool false, .slice none 0 0, .slice none 0 0, .bool false, .slice none 0 0, .slice none 0 0]) hA rfl rfl rfl (d_build rfl (fun w => by kernel_rfl)) ?_
 intro a hA
 refine seq_store (us := [.bool false, .slice none 0 0, .slice none 0 0, .bool false, .slice none 0 0, .slice none 0 0]) hA hS rfl rfl (sets_store (cs := [.bool false, .slice none 0 0, .slice none 0 0, .bool false, .slice none 0 0, .slice none 0 0]) rfl rfl rfl (by kernel_rfl) hS 0 rfl rfl rfl) 0 rfl rfl rfl rfl ?_
 intro w15 hS
 refine seq_do hA rfl rfl rfl (d_assign rfl) ?_
 intro a hA
 refine seq_end ?_
 refine hK14 _ _ ?_
 refine wp_ret ?_
 refine hret _ _ ?_
 refine ends (v := .tuple #[.agg #[.bool false, .slice none 0 0, .slice none 0 0, .bool false, .slice none 0 0, .slice none 0 0], .int .i64 2]) hA rfl (.cons (res_cell hS ExL_isS_26 rfl 0 rfl (cs := [.bool false, .slice none 0 0, .slice none 0 0, .bool false, .slice none 0 0, .slice none 0 0]) rfl rfl) (.cons (res_tmp rfl) .nil)) rfl ?_
 exact ⟨none, 0, none, 0, none, 0, none, 0, rfl, ⟨(Sc.none _), (Sc.none _), (Sc.none _), (Sc.none _)⟩, hS.bel⟩
theorem divE1_any {w : World} {p q : Q6} {a1 a2 a3 a4 : Option Addr} {ac1 ac2 ac3 ac4 : Nat} (ha : Nm w p a1 ac1 a2 ac2 a3 ac3 a4 ac4) (hl : LenQ p) {u1 u2 u3 u4 : Option Addr} {uc1 uc2 uc3 uc4 : Nat} (hb : Nm w q u1 uc1 u2 uc2 u3 uc3 u4 uc4) (hm : LenQ q) (h1 : soundQ p = false) : Calls Tryz.prog 54 #[numV p a1 ac1 a2 ac2 a3 ac3 a4 ac4, numV q u1 uc1 u2 uc2 u3 uc3 u4 uc4] w (AnsN w (Q6.zero, 2)) := by
 have hS : St w w [] [(u4, q.q2), (u3, q.t2), (u2, q.q1), (u1, q.t1), (a4, p.q2), (a3, p.t2), (a2, p.q1), (a1, p.t1)] [] := ((((((((St.start w).addR ha.s1.rd).addR ha.s2.rd).addR ha.s3.rd).addR ha.s4.rd).addR hb.s1.rd).addR hb.s2.rd).addR hb.s3.rd).addR hb.s4.rd
 refine walk_of (l := [(0, .agg #[.bool p.b1, .slice a1 p.t1.length ac1, .slice a2 p.q1.length ac2, .bool p.b2, .slice a3 p.t2.length ac3, .slice a4 p.q2.length ac4]), (1, .agg #[.bool q.b1, .slice u1 q.t1.length uc1, .slice u2 q.q1.length uc2, .bool q.b2, .slice u3 q.t2.length uc3, .slice u4 q.q2.length uc4])]) Tryz.func54 rfl Tryz.ntmps54 rfl rfl ?_
 intro Q hret hnorm hP a hA
 refine wp_seq_k (fun K1 hK1 => ?_)
 refine wp_region_lit ?_
 refine seq_new (vs := [.bool p.b1, .slice a1 p.t1.length ac1, .slice a2 p.q1.length ac2, .bool p.b2, .slice a3 p.t2.length ac3, .slice a4 p.q2.length ac4]) (t := 26) hA hS rfl rfl rfl (fun g => .pointer (some ⟨g, 0, none⟩)) (d_box rfl rfl) rfl ?_
 intro g2 w3 hS a hA
 refine seq_new (vs := [.bool q.b1, .slice u1 q.t1.length uc1, .slice u2 q.q1.length uc2, .bool q.b2, .slice u3 q.t2.length uc3, .slice u4 q.q2.length uc4]) (t := 26) hA hS rfl rfl rfl (fun g => .pointer (some ⟨g, 0, none⟩)) (d_box rfl rfl) rfl ?_
 intro g4 w5 hS a hA
 refine seq_new (vs := [.bool false, .slice none 0 0, .slice none 0 0, .bool false, .slice none 0 0, .slice none 0 0]) (t := 26) hA hS rfl rfl rfl (fun g => .pointer (some ⟨g, 0, none⟩)) (d_alloc (z := .agg #[.bool false, .slice none 0 0, .slice none 0 0, .bool false, .slice none 0 0, .slice none 0 0]) (by kernel_rfl) rfl) rfl ?_
 intro g6 w7 hS a hA
 refine seq_do hA rfl rfl rfl (d_assign rfl) ?_
 intro a hA
 refine seq_end ?_
 refine hK1 _ _ ?_
 refine wp_seq_k (fun K8 hK8 => ?_)
 refine wp_seq_k (fun K9 hK9 => ?_)
 refine wp_region_lit ?_
 refine seq_do hA rfl rfl rfl (d_loadS hS ExL_isS_26 rfl 2 rfl (cs := [.bool p.b1, .slice a1 p.t1.length ac1, .slice a2 p.q1.length ac2, .bool p.b2, .slice a3 p.t2.length ac3, .slice a4 p.q2.length ac4]) rfl rfl) ?_
 intro a hA
 refine seq_call hA rfl rfl rfl (enters_func  rfl rfl (fun w => by kernel_rfl)) (soundQ_any (show Nm _ p a1 ac1 a2 ac2 a3 ac3 a4 ac4 from ⟨⟨(hS.rd 7 rfl), ha.s1.nil, ha.s1.cap⟩, ⟨(hS.rd 6 rfl), ha.s2.nil, ha.s2.cap⟩, ⟨(hS.rd 5 rfl), ha.s3.nil, ha.s3.cap⟩, ⟨(hS.rd 4 rfl), ha.s4.nil, ha.s4.cap⟩⟩) hl h1) ?_
 rintro _ w11 ⟨rfl, hb10⟩
 replace hS := hS.call hb10
 refine ⟨_, rfl, ?_⟩
 intro a hA
 refine seq_do (v := .bool true) hA rfl rfl rfl (d_un rfl un_not) ?_
 intro a hA
 refine seq_do hA rfl rfl rfl (d_move rfl) ?_
 intro a hA
 refine seq_skip hA rfl rfl rfl ?_
 intro a hA
 refine seq_skip hA rfl rfl rfl ?_
 intro a hA
 refine seq_skip hA rfl rfl rfl ?_
 intro a hA
 refine seq_do (v := .bool true) hA rfl rfl rfl (d_pick rfl rfl rfl rfl) ?_
 intro a hA
 refine seq_end ?_
 refine hK9 _ _ ?_
 refine wp_cond_true (hA.ev rfl) ?_
 refine wp_seq_k (fun K12 hK12 => ?_)
 refine wp_region_lit ?_
 refine seq_do (v := .agg #[.bool false, .slice none 0 0, .slice none 0 0, .bool false, .slice none 0 0, .slice none 0 0]) hA rfl rfl rfl (d_build rfl (fun w => by kernel_rfl)) ?_
 intro a hA
 refine seq_store (us := [.bool false, .slice none 0 0, .slice none 0 0, .bool false, .slice none 0 0, .slice none 0 0]) hA hS rfl rfl (sets_store (cs := [.bool false, .slice none 0 0, .slice none 0 0, .bool false, .slice none 0 0, .slice none 0 0]) rfl rfl rfl (by kernel_rfl) hS 0 rfl rfl rfl) 0 rfl rfl rfl rfl ?_
 intro w13 hS
 refine seq_do hA rfl rfl rfl (d_assign rfl) ?_
 intro a hA
 refine seq_end ?_
 refine hK12 _ _ ?_
 refine wp_ret ?_
 refine hret _ _ ?_
 refine ends (v := .tuple #[.agg #[.bool false, .slice none 0 0, .slice none 0 0, .bool false, .slice none 0 0, .slice none 0 0], .int .i64 2]) hA rfl (.cons (res_cell hS ExL_isS_26 rfl 0 rfl (cs := [.bool false, .slice none 0 0, .slice none 0 0, .bool false, .slice none 0 0, .slice none 0 0]) rfl rfl) (.cons (res_tmp rfl) .nil)) rfl ?_
 exact ⟨none, 0, none, 0, none, 0, none, 0, rfl, ⟨(Sc.none _), (Sc.none _), (Sc.none _), (Sc.none _)⟩, hS.bel⟩
theorem divE2_any {w : World} {p q : Q6} {a1 a2 a3 a4 : Option Addr} {ac1 ac2 ac3 ac4 : Nat} (ha : Nm w p a1 ac1 a2 ac2 a3 ac3 a4 ac4) (hl : LenQ p) {u1 u2 u3 u4 : Option Addr} {uc1 uc2 uc3 uc4 : Nat} (hb : Nm w q u1 uc1 u2 uc2 u3 uc3 u4 uc4) (hm : LenQ q) (h1 : soundQ p = true) (h2 : soundQ q = false) : Calls Tryz.prog 54 #[numV p a1 ac1 a2 ac2 a3 ac3 a4 ac4, numV q u1 uc1 u2 uc2 u3 uc3 u4 uc4] w (AnsN w (Q6.zero, 2)) := by
 have hS : St w w [] [(u4, q.q2), (u3, q.t2), (u2, q.q1), (u1, q.t1), (a4, p.q2), (a3, p.t2), (a2, p.q1), (a1, p.t1)] [] := ((((((((St.start w).addR ha.s1.rd).addR ha.s2.rd).addR ha.s3.rd).addR ha.s4.rd).addR hb.s1.rd).addR hb.s2.rd).addR hb.s3.rd).addR hb.s4.rd
 refine walk_of (l := [(0, .agg #[.bool p.b1, .slice a1 p.t1.length ac1, .slice a2 p.q1.length ac2, .bool p.b2, .slice a3 p.t2.length ac3, .slice a4 p.q2.length ac4]), (1, .agg #[.bool q.b1, .slice u1 q.t1.length uc1, .slice u2 q.q1.length uc2, .bool q.b2, .slice u3 q.t2.length uc3, .slice u4 q.q2.length uc4])]) Tryz.func54 rfl Tryz.ntmps54 rfl rfl ?_
 intro Q hret hnorm hP a hA
 refine wp_seq_k (fun K1 hK1 => ?_)
 refine wp_region_lit ?_
 refine seq_new (vs := [.bool p.b1, .slice a1 p.t1.length ac1, .slice a2 p.q1.length ac2, .bool p.b2, .slice a3 p.t2.length ac3, .slice a4 p.q2.length ac4]) (t := 26) hA hS rfl rfl rfl (fun g => .pointer (some ⟨g, 0, none⟩)) (d_box rfl rfl) rfl ?_
 intro g2 w3 hS a hA
 refine seq_new (vs := [.bool q.b1, .slice u1 q.t1.length uc1, .slice u2 q.q1.length uc2, .bool q.b2, .slice u3 q.t2.length uc3, .slice u4 q.q2.length uc4]) (t := 26) hA hS rfl rfl rfl (fun g => .pointer (some ⟨g, 0, none⟩)) (d_box rfl rfl) rfl ?_
 intro g4 w5 hS a hA
 refine seq_new (vs := [.bool false, .slice none 0 0, .slice none 0 0, .bool false, .slice none 0 0, .slice none 0 0]) (t := 26) hA hS rfl rfl rfl (fun g => .pointer (some ⟨g, 0, none⟩)) (d_alloc (z := .agg #[.bool false, .slice none 0 0, .slice none 0 0, .bool false, .slice none 0 0, .slice none 0 0]) (by kernel_rfl) rfl) rfl ?_
 intro g6 w7 hS a hA
 refine seq_do hA rfl rfl rfl (d_assign rfl) ?_
 intro a hA
 refine seq_end ?_
 refine hK1 _ _ ?_
 refine wp_seq_k (fun K8 hK8 => ?_)
 refine wp_seq_k (fun K9 hK9 => ?_)
 refine wp_region_lit ?_
 refine seq_do hA rfl rfl rfl (d_loadS hS ExL_isS_26 rfl 2 rfl (cs := [.bool p.b1, .slice a1 p.t1.length ac1, .slice a2 p.q1.length ac2, .bool p.b2, .slice a3 p.t2.length ac3, .slice a4 p.q2.length ac4]) rfl rfl) ?_
 intro a hA
 refine seq_call hA rfl rfl rfl (enters_func  rfl rfl (fun w => by kernel_rfl)) (soundQ_any (show Nm _ p a1 ac1 a2 ac2 a3 ac3 a4 ac4 from ⟨⟨(hS.rd 7 rfl), ha.s1.nil, ha.s1.cap⟩, ⟨(hS.rd 6 rfl), ha.s2.nil, ha.s2.cap⟩, ⟨(hS.rd 5 rfl), ha.s3.nil, ha.s3.cap⟩, ⟨(hS.rd 4 rfl), ha.s4.nil, ha.s4.cap⟩⟩) hl h1) ?_
 rintro _ w11 ⟨rfl, hb10⟩
 replace hS := hS.call hb10
 refine ⟨_, rfl, ?_⟩
 intro a hA
 refine seq_do (v := .bool false) hA rfl rfl rfl (d_un rfl un_not) ?_
 intro a hA
 refine seq_do hA rfl rfl rfl (d_move rfl) ?_
 intro a hA
 refine seq_do hA rfl rfl rfl (d_loadS hS ExL_isS_26 rfl 1 rfl (cs := [.bool q.b1, .slice u1 q.t1.length uc1, .slice u2 q.q1.length uc2, .bool q.b2, .slice u3 q.t2.length uc3, .slice u4 q.q2.length uc4]) rfl rfl) ?_
 intro a hA
 refine seq_call hA rfl rfl rfl (enters_func  rfl rfl (fun w => by kernel_rfl)) (soundQ_any (show Nm _ q u1 uc1 u2 uc2 u3 uc3 u4 uc4 from ⟨⟨(hS.rd 3 rfl), hb.s1.nil, hb.s1.cap⟩, ⟨(hS.rd 2 rfl), hb.s2.nil, hb.s2.cap⟩, ⟨(hS.rd 1 rfl), hb.s3.nil, hb.s3.cap⟩, ⟨(hS.rd 0 rfl), hb.s4.nil, hb.s4.cap⟩⟩) hm h2) ?_
 rintro _ w13 ⟨rfl, hb12⟩
 replace hS := hS.call hb12
 refine ⟨_, rfl, ?_⟩
 intro a hA
 refine seq_do (v := .bool true) hA rfl rfl rfl (d_un rfl un_not) ?_
 intro a hA
 refine seq_do (v := .bool true) hA rfl rfl rfl (d_pick rfl rfl rfl rfl) ?_
 intro a hA
 refine seq_end ?_
 refine hK9 _ _ ?_
 refine wp_cond_true (hA.ev rfl) ?_
 refine wp_seq_k (fun K14 hK14 => ?_)
 refine wp_region_lit ?_
 refine seq_do (v := .agg #[.bool false, .slice none 0 0, .slice none 0 0, .bool false, .slice none 0 0, .slice none 0 0]) hA rfl rfl rfl (d_build rfl (fun w => by kernel_rfl)) ?_
 intro a hA
 refine seq_store (us := [.bool false, .slice none 0 0, .slice none 0 0, .bool false, .slice none 0 0, .slice none 0 0]) hA hS rfl rfl (sets_store (cs := [.bool false, .slice none 0 0, .slice none 0 0, .bool false, .slice none 0 0, .slice none 0 0]) rfl rfl rfl (by kernel_rfl) hS 0 rfl rfl rfl) 0 rfl rfl rfl rfl ?_
 intro w15 hS
 refine seq_do hA rfl rfl rfl (d_assign rfl) ?_
 intro a hA
 refine seq_end ?_
 refine hK14 _ _ ?_
 refine wp_ret ?_
 refine hret _ _ ?_
 refine ends (v := .tuple #[.agg #[.bool false, .slice none 0 0, .slice none 0 0, .bool false, .slice none 0 0, .slice none 0 0], .int .i64 2]) hA rfl (.cons (res_cell hS ExL_isS_26 rfl 0 rfl (cs := [.bool false, .slice none 0 0, .slice none 0 0, .bool false, .slice none 0 0, .slice none 0 0]) rfl rfl) (.cons (res_tmp rfl) .nil)) rfl ?_
 exact ⟨none, 0, none, 0, none, 0, none, 0, rfl, ⟨(Sc.none _), (Sc.none _), (Sc.none _), (Sc.none _)⟩, hS.bel⟩
theorem reckonA_any {w : World} {u v x y : Rat} {a1 a2 a3 a4 : Option Addr} {ac1 ac2 ac3 ac4 : Nat} (ha : Nm w (Q6.rat u v) a1 ac1 a2 ac2 a3 ac3 a4 ac4) {u1 u2 u3 u4 : Option Addr} {uc1 uc2 uc3 uc4 : Nat} (hb : Nm w (Q6.rat x y) u1 uc1 u2 uc2 u3 uc3 u4 uc4) (hu : fitR u) (hv : fitR v) (hx : fitR x) (hy : fitR y) : Calls Tryz.prog 36 #[.func (.func 37) #[] #[], numV (Q6.rat u v) a1 ac1 a2 ac2 a3 ac3 a4 ac4, numV (Q6.rat x y) u1 uc1 u2 uc2 u3 uc3 u4 uc4] w (AnsN w (ratS (u + x) (v + y))) := by
 have hS : St w w [] [(u4, words y.den), (u3, words y.num.natAbs), (u2, words x.den), (u1, words x.num.natAbs), (a4, words v.den), (a3, words v.num.natAbs), (a2, words u.den), (a1, words u.num.natAbs)] [] := ((((((((St.start w).addR ha.s1.rd).addR ha.s2.rd).addR ha.s3.rd).addR ha.s4.rd).addR hb.s1.rd).addR hb.s2.rd).addR hb.s3.rd).addR hb.s4.rd
 refine walk_of (l := [(0, .func (.func 37) #[] #[]), (1, .agg #[.bool (rb u.num), .slice a1 ((words u.num.natAbs).length) ac1, .slice a2 ((words u.den).length) ac2, .bool (rb v.num), .slice a3 ((words v.num.natAbs).length) ac3, .slice a4 ((words v.den).length) ac4]), (2, .agg #[.bool (rb x.num), .slice u1 ((words x.num.natAbs).length) uc1, .slice u2 ((words x.den).length) uc2, .bool (rb y.num), .slice u3 ((words y.num.natAbs).length) uc3, .slice u4 ((words y.den).length) uc4])]) Tryz.func36 rfl Tryz.ntmps36 rfl rfl ?_
 intro Q hret hnorm hP a hA
 refine wp_seq_k (fun K1 hK1 => ?_)
 refine wp_region_lit ?_
 refine seq_new (vs := [.bool (rb u.num), .slice a1 ((words u.num.natAbs).length) ac1, .slice a2 ((words u.den).length) ac2, .bool (rb v.num), .slice a3 ((words v.num.natAbs).length) ac3, .slice a4 ((words v.den).length) ac4]) (t := 26) hA hS rfl rfl rfl (fun g => .pointer (some ⟨g, 0, none⟩)) (d_box rfl rfl) rfl ?_
 intro g2 w3 hS a hA
 refine seq_new (vs := [.bool (rb x.num), .slice u1 ((words x.num.natAbs).length) uc1, .slice u2 ((words x.den).length) uc2, .bool (rb y.num), .slice u3 ((words y.num.natAbs).length) uc3, .slice u4 ((words y.den).length) uc4]) (t := 26) hA hS rfl rfl rfl (fun g => .pointer (some ⟨g, 0, none⟩)) (d_box rfl rfl) rfl ?_
 intro g4 w5 hS a hA
 refine seq_new (vs := [.bool false, .slice none 0 0, .slice none 0 0, .bool false, .slice none 0 0, .slice none 0 0]) (t := 26) hA hS rfl rfl rfl (fun g => .pointer (some ⟨g, 0, none⟩)) (d_alloc (z := .agg #[.bool false, .slice none 0 0, .slice none 0 0, .bool false, .slice none 0 0, .slice none 0 0]) (by kernel_rfl) rfl) rfl ?_
 intro g6 w7 hS a hA
 refine seq_do hA rfl rfl rfl (d_assign rfl) ?_
 intro a hA
 refine seq_end ?_
 refine hK1 _ _ ?_
 refine wp_seq_k (fun K8 hK8 => ?_)
 refine wp_seq_k (fun K9 hK9 => ?_)
 refine wp_region_lit ?_
 refine seq_do hA rfl rfl rfl (d_loadS hS ExL_isS_26 rfl 2 rfl (cs := [.bool (rb u.num), .slice a1 ((words u.num.natAbs).length) ac1, .slice a2 ((words u.den).length) ac2, .bool (rb v.num), .slice a3 ((words v.num.natAbs).length) ac3, .slice a4 ((words v.den).length) ac4]) rfl rfl) ?_
 intro a hA
 refine seq_call hA rfl rfl rfl (enters_func  rfl rfl (fun w => by kernel_rfl)) (soundQ_any (show Nm _ (Q6.rat u v) a1 ac1 a2 ac2 a3 ac3 a4 ac4 from ⟨⟨(hS.rd 7 rfl), ha.s1.nil, ha.s1.cap⟩, ⟨(hS.rd 6 rfl), ha.s2.nil, ha.s2.cap⟩, ⟨(hS.rd 5 rfl), ha.s3.nil, ha.s3.cap⟩, ⟨(hS.rd 4 rfl), ha.s4.nil, ha.s4.cap⟩⟩) (lenQ_rat hu hv) (soundQ_rat hu hv)) ?_
 rintro _ w11 ⟨rfl, hb10⟩
 replace hS := hS.call hb10
 refine ⟨_, rfl, ?_⟩
 intro a hA
 refine seq_do (v := .bool false) hA rfl rfl rfl (d_un rfl un_not) ?_
 intro a hA
 refine seq_do hA rfl rfl rfl (d_move rfl) ?_
 intro a hA
 refine seq_do hA rfl rfl rfl (d_loadS hS ExL_isS_26 rfl 1 rfl (cs := [.bool (rb x.num), .slice u1 ((words x.num.natAbs).length) uc1, .slice u2 ((words x.den).length) uc2, .bool (rb y.num), .slice u3 ((words y.num.natAbs).length) uc3, .slice u4 ((words y.den).length) uc4]) rfl rfl) ?_
 intro a hA
 refine seq_call hA rfl rfl rfl (enters_func  rfl rfl (fun w => by kernel_rfl)) (soundQ_any (show Nm _ (Q6.rat x y) u1 uc1 u2 uc2 u3 uc3 u4 uc4 from ⟨⟨(hS.rd 3 rfl), hb.s1.nil, hb.s1.cap⟩, ⟨(hS.rd 2 rfl), hb.s2.nil, hb.s2.cap⟩, ⟨(hS.rd 1 rfl), hb.s3.nil, hb.s3.cap⟩, ⟨(hS.rd 0 rfl), hb.s4.nil, hb.s4.cap⟩⟩) (lenQ_rat hx hy) (soundQ_rat hx hy)) ?_
 rintro _ w13 ⟨rfl, hb12⟩
 replace hS := hS.call hb12
 refine ⟨_, rfl, ?_⟩
 intro a hA
 refine seq_do (v := .bool false) hA rfl rfl rfl (d_un rfl un_not) ?_
 intro a hA
 refine seq_do (v := .bool false) hA rfl rfl rfl (d_pick rfl rfl rfl rfl) ?_
 intro a hA
 refine seq_end ?_
 refine hK9 _ _ ?_
 refine wp_cond_false (hA.ev rfl) ?_
 refine wp_skip ?_
 refine hK8 _ _ ?_
 refine wp_seq_k (fun K14 hK14 => ?_)
 refine wp_draw (S := fun w1 => St w w1 [(g4, [.bool (rb x.num), .slice u1 ((words x.num.natAbs).length) uc1, .slice u2 ((words x.den).length) uc2, .bool (rb y.num), .slice u3 ((words y.num.natAbs).length) uc3, .slice u4 ((words y.den).length) uc4]), (g2, [.bool (rb u.num), .slice a1 ((words u.num.natAbs).length) ac1, .slice a2 ((words u.den).length) ac2, .bool (rb v.num), .slice a3 ((words v.num.natAbs).length) ac3, .slice a4 ((words v.den).length) ac4])] [(u4, words y.den), (u3, words y.num.natAbs), (u2, words x.den), (u1, words x.num.natAbs), (a4, words v.den), (a3, words v.num.natAbs), (a2, words u.den), (a1, words u.num.natAbs)] []) (by kernel_rfl) ?_
 replace hS := hS.drew
 refine any_tk hA 0 rfl rfl rfl rfl hP (hS.partD (.cons _ (.cons_cons _ (.cons_cons _ .slnil))) 0 rfl (.refl _)) (fun w1 hS => d_move rfl) ?_
 intro a hA
 refine any_tk hA 1 rfl rfl rfl rfl hP (hS.partD (.cons _ (.cons_cons _ (.cons_cons _ .slnil))) 0 rfl (.refl _)) (fun w1 hS => d_loadS hS ExL_isS_26 rfl 1 rfl (cs := [.bool (rb u.num), .slice a1 ((words u.num.natAbs).length) ac1, .slice a2 ((words u.den).length) ac2, .bool (rb v.num), .slice a3 ((words v.num.natAbs).length) ac3, .slice a4 ((words v.den).length) ac4]) rfl rfl) ?_
 intro a hA
 refine any_tk hA 3 rfl rfl rfl rfl hP (hS.partD (.cons _ (.cons_cons _ (.cons_cons _ .slnil))) 0 rfl (.refl _)) (fun w1 hS => d_loadS hS ExL_isS_26 rfl 0 rfl (cs := [.bool (rb x.num), .slice u1 ((words x.num.natAbs).length) uc1, .slice u2 ((words x.den).length) uc2, .bool (rb y.num), .slice u3 ((words y.num.natAbs).length) uc3, .slice u4 ((words y.den).length) uc4]) rfl rfl) ?_
 intro a hA
 refine any_one (by kernel_rfl) (op_call hA 2 rfl rfl rfl rfl (enters_func  rfl rfl (fun w => by kernel_rfl)) (zspread_any (show Nm _ (Q6.rat u v) a1 ac1 a2 ac2 a3 ac3 a4 ac4 from ⟨⟨(hS.rd 7 rfl), ha.s1.nil, ha.s1.cap⟩, ⟨(hS.rd 6 rfl), ha.s2.nil, ha.s2.cap⟩, ⟨(hS.rd 5 rfl), ha.s3.nil, ha.s3.cap⟩, ⟨(hS.rd 4 rfl), ha.s4.nil, ha.s4.cap⟩⟩) hu hv) ?_)
 rintro _ w20 ⟨p15_1, p15_c1, p15_2, p15_c2, p15_3, p15_c3, rfl, hs16, hs17, hs18, hb19⟩
 replace hS := hS.call hb19
 replace hS := hS.addR hs16.rd
 replace hS := hS.addR hs17.rd
 replace hS := hS.addR hs18.rd
 refine ⟨_, rfl, (hS.partD (.cons _ (.cons_cons _ (.cons_cons _ .slnil))) 3 rfl (.refl _)), ?_⟩
 intro a hA
 refine any_one (by kernel_rfl) (op_call hA 4 rfl rfl rfl rfl (enters_func  rfl rfl (fun w => by kernel_rfl)) (zspread_any (show Nm _ (Q6.rat x y) u1 uc1 u2 uc2 u3 uc3 u4 uc4 from ⟨⟨(hS.rd 6 rfl), hb.s1.nil, hb.s1.cap⟩, ⟨(hS.rd 5 rfl), hb.s2.nil, hb.s2.cap⟩, ⟨(hS.rd 4 rfl), hb.s3.nil, hb.s3.cap⟩, ⟨(hS.rd 3 rfl), hb.s4.nil, hb.s4.cap⟩⟩) hx hy) ?_)
 rintro _ w26 ⟨p21_1, p21_c1, p21_2, p21_c2, p21_3, p21_c3, rfl, hs22, hs23, hs24, hb25⟩
 replace hS := hS.call hb25
 replace hS := hS.addR hs22.rd
 replace hS := hS.addR hs23.rd
 replace hS := hS.addR hs24.rd
 refine ⟨_, rfl, (hS.partD (.cons _ (.cons_cons _ (.cons_cons _ .slnil))) 6 rfl (.refl _)), ?_⟩
 intro a hA
 refine any_one (by kernel_rfl) (op_call hA 5 rfl rfl rfl rfl (enters_func  rfl rfl (fun w => by kernel_rfl)) (zsum_any ⟨(hS.rd 5 rfl), hs16.nil, hs16.cap⟩ ⟨(hS.rd 4 rfl), hs17.nil, hs17.cap⟩ ⟨(hS.rd 3 rfl), hs18.nil, hs18.cap⟩ ⟨(hS.rd 2 rfl), hs22.nil, hs22.cap⟩ ⟨(hS.rd 1 rfl), hs23.nil, hs23.cap⟩ ⟨(hS.rd 0 rfl), hs24.nil, hs24.cap⟩ (Nat.le_trans (spX_len hu hv) (by decide)) (Nat.le_trans (spY_len hu hv) (by decide)) (Nat.le_trans (spD_len hu hv) (by decide)) (Nat.le_trans (spX_len hx hy) (by decide)) (Nat.le_trans (spY_len hx hy) (by decide)) (Nat.le_trans (spD_len hx hy) (by decide))) ?_)
 rintro _ w32 ⟨p27_1, p27_c1, p27_2, p27_c2, p27_3, p27_c3, rfl, hs28, hs29, hs30, hb31⟩
 replace hS := hS.call hb31
 replace hS := hS.addR hs28.rd
 replace hS := hS.addR hs29.rd
 replace hS := hS.addR hs30.rd
 refine ⟨_, rfl, (hS.partD (.cons _ (.cons_cons _ (.cons_cons _ .slnil))) 9 rfl (.refl _)), ?_⟩
 intro a hA
 refine any_one (by kernel_rfl) (op_call hA 6 rfl rfl rfl rfl (enters_func  rfl rfl (fun w => by kernel_rfl)) (zsettle_as ⟨(hS.rd 2 rfl), hs28.nil, hs28.cap⟩ ⟨(hS.rd 1 rfl), hs29.nil, hs29.cap⟩ ⟨(hS.rd 0 rfl), hs30.nil, hs30.cap⟩ (set_add (spD_ne u v) (spD_ne x y) (spX_mk u v) (spY_mk u v) (spX_mk x y) (spY_mk x y)) (Nat.le_trans (abs_add_len (abs_mul_len (spX_len hu hv) (nat_abs_len (spD_len hx hy))) (abs_mul_len (spX_len hx hy) (nat_abs_len (spD_len hu hv)))) (by decide)) (Nat.le_trans (abs_add_len (abs_mul_len (spY_len hu hv) (nat_abs_len (spD_len hx hy))) (abs_mul_len (spY_len hx hy) (nat_abs_len (spD_len hu hv)))) (by decide)) (Nat.le_trans (words_mul_length (spD_len hu hv) (spD_len hx hy)) (by decide)) (Nat.mul_ne_zero (spD_ne u v) (spD_ne x y))) ?_)
 rintro _ w36 ⟨p33_1, p33_c1, p33_2, p33_c2, p33_3, p33_c3, p33_4, p33_c4, rfl, hn34, hb35⟩
 replace hS := hS.call hb35
 replace hS := hS.addR hn34.s1.rd
 replace hS := hS.addR hn34.s2.rd
 replace hS := hS.addR hn34.s3.rd
 replace hS := hS.addR hn34.s4.rd
 refine ⟨_, rfl, (hS.partD (.cons _ (.cons_cons _ (.cons_cons _ .slnil))) 13 rfl (.refl _)), ?_⟩
 intro a hA
 refine any_tk (v := .agg #[.bool ((ratS (u + x) (v + y)).1.b1), .slice p33_1 (((ratS (u + x) (v + y)).1.t1).length) p33_c1, .slice p33_2 (((ratS (u + x) (v + y)).1.q1).length) p33_c2, .bool ((ratS (u + x) (v + y)).1.b2), .slice p33_3 (((ratS (u + x) (v + y)).1.t2).length) p33_c3, .slice p33_4 (((ratS (u + x) (v + y)).1.q2).length) p33_c4]) hA 7 rfl rfl rfl rfl hP (hS.partD (.cons _ (.cons_cons _ (.cons_cons _ .slnil))) 13 rfl (.refl _)) (fun w1 hS => d_extract (vs := [.agg #[.bool ((ratS (u + x) (v + y)).1.b1), .slice p33_1 (((ratS (u + x) (v + y)).1.t1).length) p33_c1, .slice p33_2 (((ratS (u + x) (v + y)).1.q1).length) p33_c2, .bool ((ratS (u + x) (v + y)).1.b2), .slice p33_3 (((ratS (u + x) (v + y)).1.t2).length) p33_c3, .slice p33_4 (((ratS (u + x) (v + y)).1.q2).length) p33_c4], .int .i64 ((ratS (u + x) (v + y)).2)]) rfl rfl) ?_
 intro a hA
 refine any_tk (v := .int .i64 ((ratS (u + x) (v + y)).2)) hA 8 rfl rfl rfl rfl hP (hS.partD (.cons _ (.cons_cons _ (.cons_cons _ .slnil))) 13 rfl (.refl _)) (fun w1 hS => d_extract (vs := [.agg #[.bool ((ratS (u + x) (v + y)).1.b1), .slice p33_1 (((ratS (u + x) (v + y)).1.t1).length) p33_c1, .slice p33_2 (((ratS (u + x) (v + y)).1.q1).length) p33_c2, .bool ((ratS (u + x) (v + y)).1.b2), .slice p33_3 (((ratS (u + x) (v + y)).1.t2).length) p33_c3, .slice p33_4 (((ratS (u + x) (v + y)).1.q2).length) p33_c4], .int .i64 ((ratS (u + x) (v + y)).2)]) rfl rfl) ?_
 intro a hA
 refine any_one (by kernel_rfl) (op_store (us := [.bool ((ratS (u + x) (v + y)).1.b1), .slice p33_1 (((ratS (u + x) (v + y)).1.t1).length) p33_c1, .slice p33_2 (((ratS (u + x) (v + y)).1.q1).length) p33_c2, .bool ((ratS (u + x) (v + y)).1.b2), .slice p33_3 (((ratS (u + x) (v + y)).1.t2).length) p33_c3, .slice p33_4 (((ratS (u + x) (v + y)).1.q2).length) p33_c4]) hA hS 9 rfl rfl rfl (sets_store (cs := [.bool ((ratS (u + x) (v + y)).1.b1), .slice p33_1 (((ratS (u + x) (v + y)).1.t1).length) p33_c1, .slice p33_2 (((ratS (u + x) (v + y)).1.q1).length) p33_c2, .bool ((ratS (u + x) (v + y)).1.b2), .slice p33_3 (((ratS (u + x) (v + y)).1.t2).length) p33_c3, .slice p33_4 (((ratS (u + x) (v + y)).1.q2).length) p33_c4]) rfl rfl rfl (by kernel_rfl) hS 0 rfl rfl rfl) 0 rfl rfl rfl rfl ?_)
 intro w37 hS
 refine ⟨(hS.partD (.cons _ (.cons_cons _ (.cons_cons _ .slnil))) 13 rfl (.refl _)), ?_⟩
 refine any_tk hA 10 rfl rfl rfl rfl hP (hS.partD (.cons _ (.cons_cons _ (.cons_cons _ .slnil))) 13 rfl (.refl _)) (fun w1 hS => d_assign rfl) ?_
 intro a hA
 refine any_end (by kernel_rfl) ?_
 refine hK14 _ _ ?_
 refine wp_ret ?_
 refine hret _ _ ?_
 refine ends (v := .tuple #[.agg #[.bool ((ratS (u + x) (v + y)).1.b1), .slice p33_1 (((ratS (u + x) (v + y)).1.t1).length) p33_c1, .slice p33_2 (((ratS (u + x) (v + y)).1.q1).length) p33_c2, .bool ((ratS (u + x) (v + y)).1.b2), .slice p33_3 (((ratS (u + x) (v + y)).1.t2).length) p33_c3, .slice p33_4 (((ratS (u + x) (v + y)).1.q2).length) p33_c4], .int .i64 ((ratS (u + x) (v + y)).2)]) hA rfl (.cons (res_cell hS ExL_isS_26 rfl 0 rfl (cs := [.bool ((ratS (u + x) (v + y)).1.b1), .slice p33_1 (((ratS (u + x) (v + y)).1.t1).length) p33_c1, .slice p33_2 (((ratS (u + x) (v + y)).1.q1).length) p33_c2, .bool ((ratS (u + x) (v + y)).1.b2), .slice p33_3 (((ratS (u + x) (v + y)).1.t2).length) p33_c3, .slice p33_4 (((ratS (u + x) (v + y)).1.q2).length) p33_c4]) rfl rfl) (.cons (res_tmp rfl) .nil)) rfl ?_
 exact ⟨p33_1, p33_c1, p33_2, p33_c2, p33_3, p33_c3, p33_4, p33_c4, rfl, ⟨⟨(hS.rd 3 rfl), hn34.s1.nil, hn34.s1.cap⟩, ⟨(hS.rd 2 rfl), hn34.s2.nil, hn34.s2.cap⟩, ⟨(hS.rd 1 rfl), hn34.s3.nil, hn34.s3.cap⟩, ⟨(hS.rd 0 rfl), hn34.s4.nil, hn34.s4.cap⟩⟩, hS.bel⟩
theorem reckonAQ_any {w : World} {p q : Q6} {a1 a2 a3 a4 : Option Addr} {ac1 ac2 ac3 ac4 : Nat} (ha : Nm w p a1 ac1 a2 ac2 a3 ac3 a4 ac4) (hl : LenQ p) {u1 u2 u3 u4 : Option Addr} {uc1 uc2 uc3 uc4 : Nat} (hb : Nm w q u1 uc1 u2 uc2 u3 uc3 u4 uc4) (hm : LenQ q) : Calls Tryz.prog 36 #[.func (.func 37) #[] #[], numV p a1 ac1 a2 ac2 a3 ac3 a4 ac4, numV q u1 uc1 u2 uc2 u3 uc3 u4 uc4] w (AnsN w (addQ p q)) := by
  rcases sound_cases ha with h1 | ⟨u, v, rfl, hu, hv⟩
  · rw [show addQ p q = (Q6.zero, 2) from if_neg (fun k => by rw [h1] at k; cases k.1)]
    exact reckonE1_any ha hl hb hm h1
  · rcases sound_cases hb with h2 | ⟨x, y, rfl, hx, hy⟩
    · rw [show addQ _ q = (Q6.zero, 2) from if_neg (fun k => by rw [h2] at k; cases k.2)]
      exact reckonE2_any ha hl hb hm (soundQ_rat hu hv) h2
    · rw [addQ_rat hu hv hx hy]
      exact reckonA_any ha hb hu hv hx hy
theorem addQ_any {w : World} {p q : Q6} {a1 a2 a3 a4 : Option Addr} {ac1 ac2 ac3 ac4 : Nat} (ha : Nm w p a1 ac1 a2 ac2 a3 ac3 a4 ac4) (hl : LenQ p) {u1 u2 u3 u4 : Option Addr} {uc1 uc2 uc3 uc4 : Nat} (hb : Nm w q u1 uc1 u2 uc2 u3 uc3 u4 uc4) (hm : LenQ q) : Calls Tryz.prog 8 #[numV p a1 ac1 a2 ac2 a3 ac3 a4 ac4, numV q u1 uc1 u2 uc2 u3 uc3 u4 uc4] w (AnsN w (addQ p q)) := by
 have hS : St w w [] [(u4, q.q2), (u3, q.t2), (u2, q.q1), (u1, q.t1), (a4, p.q2), (a3, p.t2), (a2, p.q1), (a1, p.t1)] [] := ((((((((St.start w).addR ha.s1.rd).addR ha.s2.rd).addR ha.s3.rd).addR ha.s4.rd).addR hb.s1.rd).addR hb.s2.rd).addR hb.s3.rd).addR hb.s4.rd
 refine walk_of (l := [(0, .agg #[.bool p.b1, .slice a1 p.t1.length ac1, .slice a2 p.q1.length ac2, .bool p.b2, .slice a3 p.t2.length ac3, .slice a4 p.q2.length ac4]), (1, .agg #[.bool q.b1, .slice u1 q.t1.length uc1, .slice u2 q.q1.length uc2, .bool q.b2, .slice u3 q.t2.length uc3, .slice u4 q.q2.length uc4])]) Tryz.func8 rfl Tryz.ntmps8 rfl rfl ?_
 intro Q hret hnorm hP a hA
 refine wp_seq_k (fun K1 hK1 => ?_)
 refine wp_region_lit ?_
 refine seq_new (vs := [.bool p.b1, .slice a1 p.t1.length ac1, .slice a2 p.q1.length ac2, .bool p.b2, .slice a3 p.t2.length ac3, .slice a4 p.q2.length ac4]) (t := 26) hA hS rfl rfl rfl (fun g => .pointer (some ⟨g, 0, none⟩)) (d_box rfl rfl) rfl ?_
 intro g2 w3 hS a hA
 refine seq_new (vs := [.bool q.b1, .slice u1 q.t1.length uc1, .slice u2 q.q1.length uc2, .bool q.b2, .slice u3 q.t2.length uc3, .slice u4 q.q2.length uc4]) (t := 26) hA hS rfl rfl rfl (fun g => .pointer (some ⟨g, 0, none⟩)) (d_box rfl rfl) rfl ?_
 intro g4 w5 hS a hA
 refine seq_new (vs := [.bool false, .slice none 0 0, .slice none 0 0, .bool false, .slice none 0 0, .slice none 0 0]) (t := 26) hA hS rfl rfl rfl (fun g => .pointer (some ⟨g, 0, none⟩)) (d_alloc (z := .agg #[.bool false, .slice none 0 0, .slice none 0 0, .bool false, .slice none 0 0, .slice none 0 0]) (by kernel_rfl) rfl) rfl ?_
 intro g6 w7 hS a hA
 refine seq_do hA rfl rfl rfl (d_assign rfl) ?_
 intro a hA
 refine seq_end ?_
 refine hK1 _ _ ?_
 refine wp_seq_k (fun K8 hK8 => ?_)
 refine wp_region_lit ?_
 refine seq_do hA rfl rfl rfl (d_loadS hS ExL_isS_26 rfl 2 rfl (cs := [.bool p.b1, .slice a1 p.t1.length ac1, .slice a2 p.q1.length ac2, .bool p.b2, .slice a3 p.t2.length ac3, .slice a4 p.q2.length ac4]) rfl rfl) ?_
 intro a hA
 refine seq_do hA rfl rfl rfl (d_loadS hS ExL_isS_26 rfl 1 rfl (cs := [.bool q.b1, .slice u1 q.t1.length uc1, .slice u2 q.q1.length uc2, .bool q.b2, .slice u3 q.t2.length uc3, .slice u4 q.q2.length uc4]) rfl rfl) ?_
 intro a hA
 refine seq_call hA rfl rfl rfl (enters_func  rfl rfl (fun w => by kernel_rfl)) (reckonAQ_any (show Nm _ p a1 ac1 a2 ac2 a3 ac3 a4 ac4 from ⟨⟨(hS.rd 7 rfl), ha.s1.nil, ha.s1.cap⟩, ⟨(hS.rd 6 rfl), ha.s2.nil, ha.s2.cap⟩, ⟨(hS.rd 5 rfl), ha.s3.nil, ha.s3.cap⟩, ⟨(hS.rd 4 rfl), ha.s4.nil, ha.s4.cap⟩⟩) hl (show Nm _ q u1 uc1 u2 uc2 u3 uc3 u4 uc4 from ⟨⟨(hS.rd 3 rfl), hb.s1.nil, hb.s1.cap⟩, ⟨(hS.rd 2 rfl), hb.s2.nil, hb.s2.cap⟩, ⟨(hS.rd 1 rfl), hb.s3.nil, hb.s3.cap⟩, ⟨(hS.rd 0 rfl), hb.s4.nil, hb.s4.cap⟩⟩) hm) ?_
 rintro _ w12 ⟨p9_1, p9_c1, p9_2, p9_c2, p9_3, p9_c3, p9_4, p9_c4, rfl, hn10, hb11⟩
 replace hS := hS.call hb11
 replace hS := hS.addR hn10.s1.rd
 replace hS := hS.addR hn10.s2.rd
 replace hS := hS.addR hn10.s3.rd
 replace hS := hS.addR hn10.s4.rd
 refine ⟨_, rfl, ?_⟩
 intro a hA
 refine seq_do (v := .agg #[.bool ((addQ p q).1.b1), .slice p9_1 (((addQ p q).1.t1).length) p9_c1, .slice p9_2 (((addQ p q).1.q1).length) p9_c2, .bool ((addQ p q).1.b2), .slice p9_3 (((addQ p q).1.t2).length) p9_c3, .slice p9_4 (((addQ p q).1.q2).length) p9_c4]) hA rfl rfl rfl (d_extract (vs := [.agg #[.bool ((addQ p q).1.b1), .slice p9_1 (((addQ p q).1.t1).length) p9_c1, .slice p9_2 (((addQ p q).1.q1).length) p9_c2, .bool ((addQ p q).1.b2), .slice p9_3 (((addQ p q).1.t2).length) p9_c3, .slice p9_4 (((addQ p q).1.q2).length) p9_c4], .int .i64 ((addQ p q).2)]) rfl rfl) ?_
 intro a hA
 refine seq_do (v := .int .i64 ((addQ p q).2)) hA rfl rfl rfl (d_extract (vs := [.agg #[.bool ((addQ p q).1.b1), .slice p9_1 (((addQ p q).1.t1).length) p9_c1, .slice p9_2 (((addQ p q).1.q1).length) p9_c2, .bool ((addQ p q).1.b2), .slice p9_3 (((addQ p q).1.t2).length) p9_c3, .slice p9_4 (((addQ p q).1.q2).length) p9_c4], .int .i64 ((addQ p q).2)]) rfl rfl) ?_
 intro a hA
 refine seq_store (us := [.bool ((addQ p q).1.b1), .slice p9_1 (((addQ p q).1.t1).length) p9_c1, .slice p9_2 (((addQ p q).1.q1).length) p9_c2, .bool ((addQ p q).1.b2), .slice p9_3 (((addQ p q).1.t2).length) p9_c3, .slice p9_4 (((addQ p q).1.q2).length) p9_c4]) hA hS rfl rfl (sets_store (cs := [.bool ((addQ p q).1.b1), .slice p9_1 (((addQ p q).1.t1).length) p9_c1, .slice p9_2 (((addQ p q).1.q1).length) p9_c2, .bool ((addQ p q).1.b2), .slice p9_3 (((addQ p q).1.t2).length) p9_c3, .slice p9_4 (((addQ p q).1.q2).length) p9_c4]) rfl rfl rfl (by kernel_rfl) hS 0 rfl rfl rfl) 0 rfl rfl rfl rfl ?_
 intro w13 hS
 refine seq_do hA rfl rfl rfl (d_assign rfl) ?_
 intro a hA
 refine seq_end ?_
 refine hK8 _ _ ?_
 refine wp_ret ?_
 refine hret _ _ ?_
 refine ends (v := .tuple #[.agg #[.bool ((addQ p q).1.b1), .slice p9_1 (((addQ p q).1.t1).length) p9_c1, .slice p9_2 (((addQ p q).1.q1).length) p9_c2, .bool ((addQ p q).1.b2), .slice p9_3 (((addQ p q).1.t2).length) p9_c3, .slice p9_4 (((addQ p q).1.q2).length) p9_c4], .int .i64 ((addQ p q).2)]) hA rfl (.cons (res_cell hS ExL_isS_26 rfl 0 rfl (cs := [.bool ((addQ p q).1.b1), .slice p9_1 (((addQ p q).1.t1).length) p9_c1, .slice p9_2 (((addQ p q).1.q1).length) p9_c2, .bool ((addQ p q).1.b2), .slice p9_3 (((addQ p q).1.t2).length) p9_c3, .slice p9_4 (((addQ p q).1.q2).length) p9_c4]) rfl rfl) (.cons (res_tmp rfl) .nil)) rfl ?_
 exact ⟨p9_1, p9_c1, p9_2, p9_c2, p9_3, p9_c3, p9_4, p9_c4, rfl, ⟨⟨(hS.rd 3 rfl), hn10.s1.nil, hn10.s1.cap⟩, ⟨(hS.rd 2 rfl), hn10.s2.nil, hn10.s2.cap⟩, ⟨(hS.rd 1 rfl), hn10.s3.nil, hn10.s3.cap⟩, ⟨(hS.rd 0 rfl), hn10.s4.nil, hn10.s4.cap⟩⟩, hS.bel⟩
theorem reckonS_any {w : World} {u v x y : Rat} {a1 a2 a3 a4 : Option Addr} {ac1 ac2 ac3 ac4 : Nat} (ha : Nm w (Q6.rat u v) a1 ac1 a2 ac2 a3 ac3 a4 ac4) {u1 u2 u3 u4 : Option Addr} {uc1 uc2 uc3 uc4 : Nat} (hb : Nm w (Q6.rat x y) u1 uc1 u2 uc2 u3 uc3 u4 uc4) (hu : fitR u) (hv : fitR v) (hx : fitR x) (hy : fitR y) : Calls Tryz.prog 36 #[.func (.func 40) #[] #[], numV (Q6.rat u v) a1 ac1 a2 ac2 a3 ac3 a4 ac4, numV (Q6.rat x y) u1 uc1 u2 uc2 u3 uc3 u4 uc4] w (AnsN w (ratS (u - x) (v - y))) := by
 have hS : St w w [] [(u4, words y.den), (u3, words y.num.natAbs), (u2, words x.den), (u1, words x.num.natAbs), (a4, words v.den), (a3, words v.num.natAbs), (a2, words u.den), (a1, words u.num.natAbs)] [] := ((((((((St.start w).addR ha.s1.rd).addR ha.s2.rd).addR ha.s3.rd).addR ha.s4.rd).addR hb.s1.rd).addR hb.s2.rd).addR hb.s3.rd).addR hb.s4.rd
 refine walk_of (l := [(0, .func (.func 40) #[] #[]), (1, .agg #[.bool (rb u.num), .slice a1 ((words u.num.natAbs).length) ac1, .slice a2 ((words u.den).length) ac2, .bool (rb v.num), .slice a3 ((words v.num.natAbs).length) ac3, .slice a4 ((words v.den).length) ac4]), (2, .agg #[.bool (rb x.num), .slice u1 ((words x.num.natAbs).length) uc1, .slice u2 ((words x.den).length) uc2, .bool (rb y.num), .slice u3 ((words y.num.natAbs).length) uc3, .slice u4 ((words y.den).length) uc4])]) Tryz.func36 rfl Tryz.ntmps36 rfl rfl ?_
 intro Q hret hnorm hP a hA
 refine wp_seq_k (fun K1 hK1 => ?_)
 refine wp_region_lit ?_
 refine seq_new (vs := [.bool (rb u.num), .slice a1 ((words u.num.natAbs).length) ac1, .slice a2 ((words u.den).length) ac2, .bool (rb v.num), .slice a3 ((words v.num.natAbs).length) ac3, .slice a4 ((words v.den).length) ac4]) (t := 26) hA hS rfl rfl rfl (fun g => .pointer (some ⟨g, 0, none⟩)) (d_box rfl rfl) rfl ?_
 intro g2 w3 hS a hA
 refine seq_new (vs := [.bool (rb x.num), .slice u1 ((words x.num.natAbs).length) uc1, .slice u2 ((words x.den).length) uc2, .bool (rb y.num), .slice u3 ((words y.num.natAbs).length) uc3, .slice u4 ((words y.den).length) uc4]) (t := 26) hA hS rfl rfl rfl (fun g => .pointer (some ⟨g, 0, none⟩)) (d_box rfl rfl) rfl ?_
 intro g4 w5 hS a hA
 refine seq_new (vs := [.bool false, .slice none 0 0, .slice none 0 0, .bool false, .slice none 0 0, .slice none 0 0]) (t := 26) hA hS rfl rfl rfl (fun g => .pointer (some ⟨g, 0, none⟩)) (d_alloc (z := .agg #[.bool false, .slice none 0 0, .slice none 0 0, .bool false, .slice none 0 0, .slice none 0 0]) (by kernel_rfl) rfl) rfl ?_
 intro g6 w7 hS a hA
 refine seq_do hA rfl rfl rfl (d_assign rfl) ?_
 intro a hA
 refine seq_end ?_
 refine hK1 _ _ ?_
 refine wp_seq_k (fun K8 hK8 => ?_)
 refine wp_seq_k (fun K9 hK9 => ?_)
 refine wp_region_lit ?_
 refine seq_do hA rfl rfl rfl (d_loadS hS ExL_isS_26 rfl 2 rfl (cs := [.bool (rb u.num), .slice a1 ((words u.num.natAbs).length) ac1, .slice a2 ((words u.den).length) ac2, .bool (rb v.num), .slice a3 ((words v.num.natAbs).length) ac3, .slice a4 ((words v.den).length) ac4]) rfl rfl) ?_
 intro a hA
 refine seq_call hA rfl rfl rfl (enters_func  rfl rfl (fun w => by kernel_rfl)) (soundQ_any (show Nm _ (Q6.rat u v) a1 ac1 a2 ac2 a3 ac3 a4 ac4 from ⟨⟨(hS.rd 7 rfl), ha.s1.nil, ha.s1.cap⟩, ⟨(hS.rd 6 rfl), ha.s2.nil, ha.s2.cap⟩, ⟨(hS.rd 5 rfl), ha.s3.nil, ha.s3.cap⟩, ⟨(hS.rd 4 rfl), ha.s4.nil, ha.s4.cap⟩⟩) (lenQ_rat hu hv) (soundQ_rat hu hv)) ?_
 rintro _ w11 ⟨rfl, hb10⟩
 replace hS := hS.call hb10
 refine ⟨_, rfl, ?_⟩
 intro a hA
 refine seq_do (v := .bool false) hA rfl rfl rfl (d_un rfl un_not) ?_
 intro a hA
 refine seq_do hA rfl rfl rfl (d_move rfl) ?_
 intro a hA
 refine seq_do hA rfl rfl rfl (d_loadS hS ExL_isS_26 rfl 1 rfl (cs := [.bool (rb x.num), .slice u1 ((words x.num.natAbs).length) uc1, .slice u2 ((words x.den).length) uc2, .bool (rb y.num), .slice u3 ((words y.num.natAbs).length) uc3, .slice u4 ((words y.den).length) uc4]) rfl rfl) ?_
 intro a hA
 refine seq_call hA rfl rfl rfl (enters_func  rfl rfl (fun w => by kernel_rfl)) (soundQ_any (show Nm _ (Q6.rat x y) u1 uc1 u2 uc2 u3 uc3 u4 uc4 from ⟨⟨(hS.rd 3 rfl), hb.s1.nil, hb.s1.cap⟩, ⟨(hS.rd 2 rfl), hb.s2.nil, hb.s2.cap⟩, ⟨(hS.rd 1 rfl), hb.s3.nil, hb.s3.cap⟩, ⟨(hS.rd 0 rfl), hb.s4.nil, hb.s4.cap⟩⟩) (lenQ_rat hx hy) (soundQ_rat hx hy)) ?_
 rintro _ w13 ⟨rfl, hb12⟩
 replace hS := hS.call hb12
 refine ⟨_, rfl, ?_⟩
 intro a hA
 refine seq_do (v := .bool false) hA rfl rfl rfl (d_un rfl un_not) ?_
 intro a hA
 refine seq_do (v := .bool false) hA rfl rfl rfl (d_pick rfl rfl rfl rfl) ?_
 intro a hA
 refine seq_end ?_
 refine hK9 _ _ ?_
 refine wp_cond_false (hA.ev rfl) ?_
 refine wp_skip ?_
 refine hK8 _ _ ?_
 refine wp_seq_k (fun K14 hK14 => ?_)
 refine wp_draw (S := fun w1 => St w w1 [(g4, [.bool (rb x.num), .slice u1 ((words x.num.natAbs).length) uc1, .slice u2 ((words x.den).length) uc2, .bool (rb y.num), .slice u3 ((words y.num.natAbs).length) uc3, .slice u4 ((words y.den).length) uc4]), (g2, [.bool (rb u.num), .slice a1 ((words u.num.natAbs).length) ac1, .slice a2 ((words u.den).length) ac2, .bool (rb v.num), .slice a3 ((words v.num.natAbs).length) ac3, .slice a4 ((words v.den).length) ac4])] [(u4, words y.den), (u3, words y.num.natAbs), (u2, words x.den), (u1, words x.num.natAbs), (a4, words v.den), (a3, words v.num.natAbs), (a2, words u.den), (a1, words u.num.natAbs)] []) (by kernel_rfl) ?_
 replace hS := hS.drew
 refine any_tk hA 0 rfl rfl rfl rfl hP (hS.partD (.cons _ (.cons_cons _ (.cons_cons _ .slnil))) 0 rfl (.refl _)) (fun w1 hS => d_move rfl) ?_
 intro a hA
 refine any_tk hA 1 rfl rfl rfl rfl hP (hS.partD (.cons _ (.cons_cons _ (.cons_cons _ .slnil))) 0 rfl (.refl _)) (fun w1 hS => d_loadS hS ExL_isS_26 rfl 1 rfl (cs := [.bool (rb u.num), .slice a1 ((words u.num.natAbs).length) ac1, .slice a2 ((words u.den).length) ac2, .bool (rb v.num), .slice a3 ((words v.num.natAbs).length) ac3, .slice a4 ((words v.den).length) ac4]) rfl rfl) ?_
 intro a hA
 refine any_tk hA 3 rfl rfl rfl rfl hP (hS.partD (.cons _ (.cons_cons _ (.cons_cons _ .slnil))) 0 rfl (.refl _)) (fun w1 hS => d_loadS hS ExL_isS_26 rfl 0 rfl (cs := [.bool (rb x.num), .slice u1 ((words x.num.natAbs).length) uc1, .slice u2 ((words x.den).length) uc2, .bool (rb y.num), .slice u3 ((words y.num.natAbs).length) uc3, .slice u4 ((words y.den).length) uc4]) rfl rfl) ?_
 intro a hA
 refine any_one (by kernel_rfl) (op_call hA 2 rfl rfl rfl rfl (enters_func  rfl rfl (fun w => by kernel_rfl)) (zspread_any (show Nm _ (Q6.rat u v) a1 ac1 a2 ac2 a3 ac3 a4 ac4 from ⟨⟨(hS.rd 7 rfl), ha.s1.nil, ha.s1.cap⟩, ⟨(hS.rd 6 rfl), ha.s2.nil, ha.s2.cap⟩, ⟨(hS.rd 5 rfl), ha.s3.nil, ha.s3.cap⟩, ⟨(hS.rd 4 rfl), ha.s4.nil, ha.s4.cap⟩⟩) hu hv) ?_)
 rintro _ w20 ⟨p15_1, p15_c1, p15_2, p15_c2, p15_3, p15_c3, rfl, hs16, hs17, hs18, hb19⟩
 replace hS := hS.call hb19
 replace hS := hS.addR hs16.rd
 replace hS := hS.addR hs17.rd
 replace hS := hS.addR hs18.rd
 refine ⟨_, rfl, (hS.partD (.cons _ (.cons_cons _ (.cons_cons _ .slnil))) 3 rfl (.refl _)), ?_⟩
 intro a hA
 refine any_one (by kernel_rfl) (op_call hA 4 rfl rfl rfl rfl (enters_func  rfl rfl (fun w => by kernel_rfl)) (zspread_any (show Nm _ (Q6.rat x y) u1 uc1 u2 uc2 u3 uc3 u4 uc4 from ⟨⟨(hS.rd 6 rfl), hb.s1.nil, hb.s1.cap⟩, ⟨(hS.rd 5 rfl), hb.s2.nil, hb.s2.cap⟩, ⟨(hS.rd 4 rfl), hb.s3.nil, hb.s3.cap⟩, ⟨(hS.rd 3 rfl), hb.s4.nil, hb.s4.cap⟩⟩) hx hy) ?_)
 rintro _ w26 ⟨p21_1, p21_c1, p21_2, p21_c2, p21_3, p21_c3, rfl, hs22, hs23, hs24, hb25⟩
 replace hS := hS.call hb25
 replace hS := hS.addR hs22.rd
 replace hS := hS.addR hs23.rd
 replace hS := hS.addR hs24.rd
 refine ⟨_, rfl, (hS.partD (.cons _ (.cons_cons _ (.cons_cons _ .slnil))) 6 rfl (.refl _)), ?_⟩
 intro a hA
 refine any_one (by kernel_rfl) (op_call hA 5 rfl rfl rfl rfl (enters_func  rfl rfl (fun w => by kernel_rfl)) (zdiff_any ⟨(hS.rd 5 rfl), hs16.nil, hs16.cap⟩ ⟨(hS.rd 4 rfl), hs17.nil, hs17.cap⟩ ⟨(hS.rd 3 rfl), hs18.nil, hs18.cap⟩ ⟨(hS.rd 2 rfl), hs22.nil, hs22.cap⟩ ⟨(hS.rd 1 rfl), hs23.nil, hs23.cap⟩ ⟨(hS.rd 0 rfl), hs24.nil, hs24.cap⟩ (Nat.le_trans (spX_len hu hv) (by decide)) (Nat.le_trans (spY_len hu hv) (by decide)) (Nat.le_trans (spD_len hu hv) (by decide)) (Nat.le_trans (spX_len hx hy) (by decide)) (Nat.le_trans (spY_len hx hy) (by decide)) (Nat.le_trans (spD_len hx hy) (by decide))) ?_)
 rintro _ w32 ⟨p27_1, p27_c1, p27_2, p27_c2, p27_3, p27_c3, rfl, hs28, hs29, hs30, hb31⟩
 replace hS := hS.call hb31
 replace hS := hS.addR hs28.rd
 replace hS := hS.addR hs29.rd
 replace hS := hS.addR hs30.rd
 refine ⟨_, rfl, (hS.partD (.cons _ (.cons_cons _ (.cons_cons _ .slnil))) 9 rfl (.refl _)), ?_⟩
 intro a hA
 refine any_one (by kernel_rfl) (op_call hA 6 rfl rfl rfl rfl (enters_func  rfl rfl (fun w => by kernel_rfl)) (zsettle_as ⟨(hS.rd 2 rfl), hs28.nil, hs28.cap⟩ ⟨(hS.rd 1 rfl), hs29.nil, hs29.cap⟩ ⟨(hS.rd 0 rfl), hs30.nil, hs30.cap⟩ (set_sub (spD_ne u v) (spD_ne x y) (spX_mk u v) (spY_mk u v) (spX_mk x y) (spY_mk x y)) (Nat.le_trans (abs_add_len (abs_mul_len (spX_len hu hv) (nat_abs_len (spD_len hx hy))) (abs_mul_len (neg_len (spX_len hx hy)) (nat_abs_len (spD_len hu hv)))) (by decide)) (Nat.le_trans (abs_add_len (abs_mul_len (spY_len hu hv) (nat_abs_len (spD_len hx hy))) (abs_mul_len (neg_len (spY_len hx hy)) (nat_abs_len (spD_len hu hv)))) (by decide)) (Nat.le_trans (words_mul_length (spD_len hu hv) (spD_len hx hy)) (by decide)) (Nat.mul_ne_zero (spD_ne u v) (spD_ne x y))) ?_)
 rintro _ w36 ⟨p33_1, p33_c1, p33_2, p33_c2, p33_3, p33_c3, p33_4, p33_c4, rfl, hn34, hb35⟩
 replace hS := hS.call hb35
 replace hS := hS.addR hn34.s1.rd
 replace hS := hS.addR hn34.s2.rd
 replace hS := hS.addR hn34.s3.rd
 replace hS := hS.addR hn34.s4.rd
 refine ⟨_, rfl, (hS.partD (.cons _ (.cons_cons _ (.cons_cons _ .slnil))) 13 rfl (.refl _)), ?_⟩
 intro a hA
 refine any_tk (v := .agg #[.bool ((ratS (u - x) (v - y)).1.b1), .slice p33_1 (((ratS (u - x) (v - y)).1.t1).length) p33_c1, .slice p33_2 (((ratS (u - x) (v - y)).1.q1).length) p33_c2, .bool ((ratS (u - x) (v - y)).1.b2), .slice p33_3 (((ratS (u - x) (v - y)).1.t2).length) p33_c3, .slice p33_4 (((ratS (u - x) (v - y)).1.q2).length) p33_c4]) hA 7 rfl rfl rfl rfl hP (hS.partD (.cons _ (.cons_cons _ (.cons_cons _ .slnil))) 13 rfl (.refl _)) (fun w1 hS => d_extract (vs := [.agg #[.bool ((ratS (u - x) (v - y)).1.b1), .slice p33_1 (((ratS (u - x) (v - y)).1.t1).length) p33_c1, .slice p33_2 (((ratS (u - x) (v - y)).1.q1).length) p33_c2, .bool ((ratS (u - x) (v - y)).1.b2), .slice p33_3 (((ratS (u - x) (v - y)).1.t2).length) p33_c3, .slice p33_4 (((ratS (u - x) (v - y)).1.q2).length) p33_c4], .int .i64 ((ratS (u - x) (v - y)).2)]) rfl rfl) ?_
 intro a hA
 refine any_tk (v := .int .i64 ((ratS (u - x) (v - y)).2)) hA 8 rfl rfl rfl rfl hP (hS.partD (.cons _ (.cons_cons _ (.cons_cons _ .slnil))) 13 rfl (.refl _)) (fun w1 hS => d_extract (vs := [.agg #[.bool ((ratS (u - x) (v - y)).1.b1), .slice p33_1 (((ratS (u - x) (v - y)).1.t1).length) p33_c1, .slice p33_2 (((ratS (u - x) (v - y)).1.q1).length) p33_c2, .bool ((ratS (u - x) (v - y)).1.b2), .slice p33_3 (((ratS (u - x) (v - y)).1.t2).length) p33_c3, .slice p33_4 (((ratS (u - x) (v - y)).1.q2).length) p33_c4], .int .i64 ((ratS (u - x) (v - y)).2)]) rfl rfl) ?_
 intro a hA
 refine any_one (by kernel_rfl) (op_store (us := [.bool ((ratS (u - x) (v - y)).1.b1), .slice p33_1 (((ratS (u - x) (v - y)).1.t1).length) p33_c1, .slice p33_2 (((ratS (u - x) (v - y)).1.q1).length) p33_c2, .bool ((ratS (u - x) (v - y)).1.b2), .slice p33_3 (((ratS (u - x) (v - y)).1.t2).length) p33_c3, .slice p33_4 (((ratS (u - x) (v - y)).1.q2).length) p33_c4]) hA hS 9 rfl rfl rfl (sets_store (cs := [.bool ((ratS (u - x) (v - y)).1.b1), .slice p33_1 (((ratS (u - x) (v - y)).1.t1).length) p33_c1, .slice p33_2 (((ratS (u - x) (v - y)).1.q1).length) p33_c2, .bool ((ratS (u - x) (v - y)).1.b2), .slice p33_3 (((ratS (u - x) (v - y)).1.t2).length) p33_c3, .slice p33_4 (((ratS (u - x) (v - y)).1.q2).length) p33_c4]) rfl rfl rfl (by kernel_rfl) hS 0 rfl rfl rfl) 0 rfl rfl rfl rfl ?_)
 intro w37 hS
 refine ⟨(hS.partD (.cons _ (.cons_cons _ (.cons_cons _ .slnil))) 13 rfl (.refl _)), ?_⟩
 refine any_tk hA 10 rfl rfl rfl rfl hP (hS.partD (.cons _ (.cons_cons _ (.cons_cons _ .slnil))) 13 rfl (.refl _)) (fun w1 hS => d_assign rfl) ?_
 intro a hA
 refine any_end (by kernel_rfl) ?_
 refine hK14 _ _ ?_
 refine wp_ret ?_
 refine hret _ _ ?_
 refine ends (v := .tuple #[.agg #[.bool ((ratS (u - x) (v - y)).1.b1), .slice p33_1 (((ratS (u - x) (v - y)).1.t1).length) p33_c1, .slice p33_2 (((ratS (u - x) (v - y)).1.q1).length) p33_c2, .bool ((ratS (u - x) (v - y)).1.b2), .slice p33_3 (((ratS (u - x) (v - y)).1.t2).length) p33_c3, .slice p33_4 (((ratS (u - x) (v - y)).1.q2).length) p33_c4], .int .i64 ((ratS (u - x) (v - y)).2)]) hA rfl (.cons (res_cell hS ExL_isS_26 rfl 0 rfl (cs := [.bool ((ratS (u - x) (v - y)).1.b1), .slice p33_1 (((ratS (u - x) (v - y)).1.t1).length) p33_c1, .slice p33_2 (((ratS (u - x) (v - y)).1.q1).length) p33_c2, .bool ((ratS (u - x) (v - y)).1.b2), .slice p33_3 (((ratS (u - x) (v - y)).1.t2).length) p33_c3, .slice p33_4 (((ratS (u - x) (v - y)).1.q2).length) p33_c4]) rfl rfl) (.cons (res_tmp rfl) .nil)) rfl ?_
 exact ⟨p33_1, p33_c1, p33_2, p33_c2, p33_3, p33_c3, p33_4, p33_c4, rfl, ⟨⟨(hS.rd 3 rfl), hn34.s1.nil, hn34.s1.cap⟩, ⟨(hS.rd 2 rfl), hn34.s2.nil, hn34.s2.cap⟩, ⟨(hS.rd 1 rfl), hn34.s3.nil, hn34.s3.cap⟩, ⟨(hS.rd 0 rfl), hn34.s4.nil, hn34.s4.cap⟩⟩, hS.bel⟩
theorem reckonSQ_any {w : World} {p q : Q6} {a1 a2 a3 a4 : Option Addr} {ac1 ac2 ac3 ac4 : Nat} (ha : Nm w p a1 ac1 a2 ac2 a3 ac3 a4 ac4) (hl : LenQ p) {u1 u2 u3 u4 : Option Addr} {uc1 uc2 uc3 uc4 : Nat} (hb : Nm w q u1 uc1 u2 uc2 u3 uc3 u4 uc4) (hm : LenQ q) : Calls Tryz.prog 36 #[.func (.func 40) #[] #[], numV p a1 ac1 a2 ac2 a3 ac3 a4 ac4, numV q u1 uc1 u2 uc2 u3 uc3 u4 uc4] w (AnsN w (subQ p q)) := by
  rcases sound_cases ha with h1 | ⟨u, v, rfl, hu, hv⟩
  · rw [show subQ p q = (Q6.zero, 2) from if_neg (fun k => by rw [h1] at k; cases k.1)]
    exact reckonE1_any ha hl hb hm h1
  · rcases sound_cases hb with h2 | ⟨x, y, rfl, hx, hy⟩
    · rw [show subQ _ q = (Q6.zero, 2) from if_neg (fun k => by rw [h2] at k; cases k.2)]
      exact reckonE2_any ha hl hb hm (soundQ_rat hu hv) h2
    · rw [subQ_rat hu hv hx hy]
      exact reckonS_any ha hb hu hv hx hy
theorem subQ_any {w : World} {p q : Q6} {a1 a2 a3 a4 : Option Addr} {ac1 ac2 ac3 ac4 : Nat} (ha : Nm w p a1 ac1 a2 ac2 a3 ac3 a4 ac4) (hl : LenQ p) {u1 u2 u3 u4 : Option Addr} {uc1 uc2 uc3 uc4 : Nat} (hb : Nm w q u1 uc1 u2 uc2 u3 uc3 u4 uc4) (hm : LenQ q) : Calls Tryz.prog 10 #[numV p a1 ac1 a2 ac2 a3 ac3 a4 ac4, numV q u1 uc1 u2 uc2 u3 uc3 u4 uc4] w (AnsN w (subQ p q)) := by
 have hS : St w w [] [(u4, q.q2), (u3, q.t2), (u2, q.q1), (u1, q.t1), (a4, p.q2), (a3, p.t2), (a2, p.q1), (a1, p.t1)] [] := ((((((((St.start w).addR ha.s1.rd).addR ha.s2.rd).addR ha.s3.rd).addR ha.s4.rd).addR hb.s1.rd).addR hb.s2.rd).addR hb.s3.rd).addR hb.s4.rd
 refine walk_of (l := [(0, .agg #[.bool p.b1, .slice a1 p.t1.length ac1, .slice a2 p.q1.length ac2, .bool p.b2, .slice a3 p.t2.length ac3, .slice a4 p.q2.length ac4]), (1, .agg #[.bool q.b1, .slice u1 q.t1.length uc1, .slice u2 q.q1.length uc2, .bool q.b2, .slice u3 q.t2.length uc3, .slice u4 q.q2.length uc4])]) Tryz.func10 rfl Tryz.ntmps10 rfl rfl ?_
 intro Q hret hnorm hP a hA
 refine wp_seq_k (fun K1 hK1 => ?_)
 refine wp_region_lit ?_
 refine seq_new (vs := [.bool p.b1, .slice a1 p.t1.length ac1, .slice a2 p.q1.length ac2, .bool p.b2, .slice a3 p.t2.length ac3, .slice a4 p.q2.length ac4]) (t := 26) hA hS rfl rfl rfl (fun g => .pointer (some ⟨g, 0, none⟩)) (d_box rfl rfl) rfl ?_
 intro g2 w3 hS a hA
 refine seq_new (vs := [.bool q.b1, .slice u1 q.t1.length uc1, .slice u2 q.q1.length uc2, .bool q.b2, .slice u3 q.t2.length uc3, .slice u4 q.q2.length uc4]) (t := 26) hA hS rfl rfl rfl (fun g => .pointer (some ⟨g, 0, none⟩)) (d_box rfl rfl) rfl ?_
 intro g4 w5 hS a hA
 refine seq_new (vs := [.bool false, .slice none 0 0, .slice none 0 0, .bool false, .slice none 0 0, .slice none 0 0]) (t := 26) hA hS rfl rfl rfl (fun g => .pointer (some ⟨g, 0, none⟩)) (d_alloc (z := .agg #[.bool false, .slice none 0 0, .slice none 0 0, .bool false, .slice none 0 0, .slice none 0 0]) (by kernel_rfl) rfl) rfl ?_
 intro g6 w7 hS a hA
 refine seq_do hA rfl rfl rfl (d_assign rfl) ?_
 intro a hA
 refine seq_end ?_
 refine hK1 _ _ ?_
 refine wp_seq_k (fun K8 hK8 => ?_)
 refine wp_region_lit ?_
 refine seq_do hA rfl rfl rfl (d_loadS hS ExL_isS_26 rfl 2 rfl (cs := [.bool p.b1, .slice a1 p.t1.length ac1, .slice a2 p.q1.length ac2, .bool p.b2, .slice a3 p.t2.length ac3, .slice a4 p.q2.length ac4]) rfl rfl) ?_
 intro a hA
 refine seq_do hA rfl rfl rfl (d_loadS hS ExL_isS_26 rfl 1 rfl (cs := [.bool q.b1, .slice u1 q.t1.length uc1, .slice u2 q.q1.length uc2, .bool q.b2, .slice u3 q.t2.length uc3, .slice u4 q.q2.length uc4]) rfl rfl) ?_
 intro a hA
 refine seq_call hA rfl rfl rfl (enters_func  rfl rfl (fun w => by kernel_rfl)) (reckonSQ_any (show Nm _ p a1 ac1 a2 ac2 a3 ac3 a4 ac4 from ⟨⟨(hS.rd 7 rfl), ha.s1.nil, ha.s1.cap⟩, ⟨(hS.rd 6 rfl), ha.s2.nil, ha.s2.cap⟩, ⟨(hS.rd 5 rfl), ha.s3.nil, ha.s3.cap⟩, ⟨(hS.rd 4 rfl), ha.s4.nil, ha.s4.cap⟩⟩) hl (show Nm _ q u1 uc1 u2 uc2 u3 uc3 u4 uc4 from ⟨⟨(hS.rd 3 rfl), hb.s1.nil, hb.s1.cap⟩, ⟨(hS.rd 2 rfl), hb.s2.nil, hb.s2.cap⟩, ⟨(hS.rd 1 rfl), hb.s3.nil, hb.s3.cap⟩, ⟨(hS.rd 0 rfl), hb.s4.nil, hb.s4.cap⟩⟩) hm) ?_
 rintro _ w12 ⟨p9_1, p9_c1, p9_2, p9_c2, p9_3, p9_c3, p9_4, p9_c4, rfl, hn10, hb11⟩
 replace hS := hS.call hb11
 replace hS := hS.addR hn10.s1.rd
 replace hS := hS.addR hn10.s2.rd
 replace hS := hS.addR hn10.s3.rd
 replace hS := hS.addR hn10.s4.rd
 refine ⟨_, rfl, ?_⟩
 intro a hA
 refine seq_do (v := .agg #[.bool ((subQ p q).1.b1), .slice p9_1 (((subQ p q).1.t1).length) p9_c1, .slice p9_2 (((subQ p q).1.q1).length) p9_c2, .bool ((subQ p q).1.b2), .slice p9_3 (((subQ p q).1.t2).length) p9_c3, .slice p9_4 (((subQ p q).1.q2).length) p9_c4]) hA rfl rfl rfl (d_extract (vs := [.agg #[.bool ((subQ p q).1.b1), .slice p9_1 (((subQ p q).1.t1).length) p9_c1, .slice p9_2 (((subQ p q).1.q1).length) p9_c2, .bool ((subQ p q).1.b2), .slice p9_3 (((subQ p q).1.t2).length) p9_c3, .slice p9_4 (((subQ p q).1.q2).length) p9_c4], .int .i64 ((subQ p q).2)]) rfl rfl) ?_
 intro a hA
 refine seq_do (v := .int .i64 ((subQ p q).2)) hA rfl rfl rfl (d_extract (vs := [.agg #[.bool ((subQ p q).1.b1), .slice p9_1 (((subQ p q).1.t1).length) p9_c1, .slice p9_2 (((subQ p q).1.q1).length) p9_c2, .bool ((subQ p q).1.b2), .slice p9_3 (((subQ p q).1.t2).length) p9_c3, .slice p9_4 (((subQ p q).1.q2).length) p9_c4], .int .i64 ((subQ p q).2)]) rfl rfl) ?_
 intro a hA
 refine seq_store (us := [.bool ((subQ p q).1.b1), .slice p9_1 (((subQ p q).1.t1).length) p9_c1, .slice p9_2 (((subQ p q).1.q1).length) p9_c2, .bool ((subQ p q).1.b2), .slice p9_3 (((subQ p q).1.t2).length) p9_c3, .slice p9_4 (((subQ p q).1.q2).length) p9_c4]) hA hS rfl rfl (sets_store (cs := [.bool ((subQ p q).1.b1), .slice p9_1 (((subQ p q).1.t1).length) p9_c1, .slice p9_2 (((subQ p q).1.q1).length) p9_c2, .bool ((subQ p q).1.b2), .slice p9_3 (((subQ p q).1.t2).length) p9_c3, .slice p9_4 (((subQ p q).1.q2).length) p9_c4]) rfl rfl rfl (by kernel_rfl) hS 0 rfl rfl rfl) 0 rfl rfl rfl rfl ?_
 intro w13 hS
 refine seq_do hA rfl rfl rfl (d_assign rfl) ?_
 intro a hA
 refine seq_end ?_
 refine hK8 _ _ ?_
 refine wp_ret ?_
 refine hret _ _ ?_
 refine ends (v := .tuple #[.agg #[.bool ((subQ p q).1.b1), .slice p9_1 (((subQ p q).1.t1).length) p9_c1, .slice p9_2 (((subQ p q).1.q1).length) p9_c2, .bool ((subQ p q).1.b2), .slice p9_3 (((subQ p q).1.t2).length) p9_c3, .slice p9_4 (((subQ p q).1.q2).length) p9_c4], .int .i64 ((subQ p q).2)]) hA rfl (.cons (res_cell hS ExL_isS_26 rfl 0 rfl (cs := [.bool ((subQ p q).1.b1), .slice p9_1 (((subQ p q).1.t1).length) p9_c1, .slice p9_2 (((subQ p q).1.q1).length) p9_c2, .bool ((subQ p q).1.b2), .slice p9_3 (((subQ p q).1.t2).length) p9_c3, .slice p9_4 (((subQ p q).1.q2).length) p9_c4]) rfl rfl) (.cons (res_tmp rfl) .nil)) rfl ?_
 exact ⟨p9_1, p9_c1, p9_2, p9_c2, p9_3, p9_c3, p9_4, p9_c4, rfl, ⟨⟨(hS.rd 3 rfl), hn10.s1.nil, hn10.s1.cap⟩, ⟨(hS.rd 2 rfl), hn10.s2.nil, hn10.s2.cap⟩, ⟨(hS.rd 1 rfl), hn10.s3.nil, hn10.s3.cap⟩, ⟨(hS.rd 0 rfl), hn10.s4.nil, hn10.s4.cap⟩⟩, hS.bel⟩
theorem divZ_any {w : World} {u v x y : Rat} {a1 a2 a3 a4 : Option Addr} {ac1 ac2 ac3 ac4 : Nat} (ha : Nm w (Q6.rat u v) a1 ac1 a2 ac2 a3 ac3 a4 ac4) {u1 u2 u3 u4 : Option Addr} {uc1 uc2 uc3 uc4 : Nat} (hb : Nm w (Q6.rat x y) u1 uc1 u2 uc2 u3 uc3 u4 uc4) (hu : fitR u) (hv : fitR v) (hx : fitR x) (hy : fitR y) (hz : x = 0 ∧ y = 0) : Calls Tryz.prog 54 #[numV (Q6.rat u v) a1 ac1 a2 ac2 a3 ac3 a4 ac4, numV (Q6.rat x y) u1 uc1 u2 uc2 u3 uc3 u4 uc4] w (AnsN w (Q6.zero, 3)) := by
 have k1 : (words x.num.natAbs).length ≤ 512 := hx.1
 have k2 : (words y.num.natAbs).length ≤ 512 := hy.1
 have hS : St w w [] [(u4, words y.den), (u3, words y.num.natAbs), (u2, words x.den), (u1, words x.num.natAbs), (a4, words v.den), (a3, words v.num.natAbs), (a2, words u.den), (a1, words u.num.natAbs)] [] := ((((((((St.start w).addR ha.s1.rd).addR ha.s2.rd).addR ha.s3.rd).addR ha.s4.rd).addR hb.s1.rd).addR hb.s2.rd).addR hb.s3.rd).addR hb.s4.rd
 refine walk_of (l := [(0, .agg #[.bool (rb u.num), .slice a1 ((words u.num.natAbs).length) ac1, .slice a2 ((words u.den).length) ac2, .bool (rb v.num), .slice a3 ((words v.num.natAbs).length) ac3, .slice a4 ((words v.den).length) ac4]), (1, .agg #[.bool (rb x.num), .slice u1 ((words x.num.natAbs).length) uc1, .slice u2 ((words x.den).length) uc2, .bool (rb y.num), .slice u3 ((words y.num.natAbs).length) uc3, .slice u4 ((words y.den).length) uc4])]) Tryz.func54 rfl Tryz.ntmps54 rfl rfl ?_
 intro Q hret hnorm hP a hA
 refine wp_seq_k (fun K1 hK1 => ?_)
 refine wp_region_lit ?_
 refine seq_new (vs := [.bool (rb u.num), .slice a1 ((words u.num.natAbs).length) ac1, .slice a2 ((words u.den).length) ac2, .bool (rb v.num), .slice a3 ((words v.num.natAbs).length) ac3, .slice a4 ((words v.den).length) ac4]) (t := 26) hA hS rfl rfl rfl (fun g => .pointer (some ⟨g, 0, none⟩)) (d_box rfl rfl) rfl ?_
 intro g2 w3 hS a hA
 refine seq_new (vs := [.bool (rb x.num), .slice u1 ((words x.num.natAbs).length) uc1, .slice u2 ((words x.den).length) uc2, .bool (rb y.num), .slice u3 ((words y.num.natAbs).length) uc3, .slice u4 ((words y.den).length) uc4]) (t := 26) hA hS rfl rfl rfl (fun g => .pointer (some ⟨g, 0, none⟩)) (d_box rfl rfl) rfl ?_
 intro g4 w5 hS a hA
 refine seq_new (vs := [.bool false, .slice none 0 0, .slice none 0 0, .bool false, .slice none 0 0, .slice none 0 0]) (t := 26) hA hS rfl rfl rfl (fun g => .pointer (some ⟨g, 0, none⟩)) (d_alloc (z := .agg #[.bool false, .slice none 0 0, .slice none 0 0, .bool false, .slice none 0 0, .slice none 0 0]) (by kernel_rfl) rfl) rfl ?_
 intro g6 w7 hS a hA
 refine seq_do hA rfl rfl rfl (d_assign rfl) ?_
 intro a hA
 refine seq_end ?_
 refine hK1 _ _ ?_
 refine wp_seq_k (fun K8 hK8 => ?_)
 refine wp_seq_k (fun K9 hK9 => ?_)
 refine wp_region_lit ?_
 refine seq_do hA rfl rfl rfl (d_loadS hS ExL_isS_26 rfl 2 rfl (cs := [.bool (rb u.num), .slice a1 ((words u.num.natAbs).length) ac1, .slice a2 ((words u.den).length) ac2, .bool (rb v.num), .slice a3 ((words v.num.natAbs).length) ac3, .slice a4 ((words v.den).length) ac4]) rfl rfl) ?_
 intro a hA
 refine seq_call hA rfl rfl rfl (enters_func  rfl rfl (fun w => by kernel_rfl)) (soundQ_any (show Nm _ (Q6.rat u v) a1 ac1 a2 ac2 a3 ac3 a4 ac4 from ⟨⟨(hS.rd 7 rfl), ha.s1.nil, ha.s1.cap⟩, ⟨(hS.rd 6 rfl), ha.s2.nil, ha.s2.cap⟩, ⟨(hS.rd 5 rfl), ha.s3.nil, ha.s3.cap⟩, ⟨(hS.rd 4 rfl), ha.s4.nil, ha.s4.cap⟩⟩) (lenQ_rat hu hv) (soundQ_rat hu hv)) ?_
 rintro _ w11 ⟨rfl, hb10⟩
 replace hS := hS.call hb10
 refine ⟨_, rfl, ?_⟩
 intro a hA
 refine seq_do (v := .bool false) hA rfl rfl rfl (d_un rfl un_not) ?_
 intro a hA
 refine seq_do hA rfl rfl rfl (d_move rfl) ?_
 intro a hA
 refine seq_do hA rfl rfl rfl (d_loadS hS ExL_isS_26 rfl 1 rfl (cs := [.bool (rb x.num), .slice u1 ((words x.num.natAbs).length) uc1, .slice u2 ((words x.den).length) uc2, .bool (rb y.num), .slice u3 ((words y.num.natAbs).length) uc3, .slice u4 ((words y.den).length) uc4]) rfl rfl) ?_
 intro a hA
 refine seq_call hA rfl rfl rfl (enters_func  rfl rfl (fun w => by kernel_rfl)) (soundQ_any (show Nm _ (Q6.rat x y) u1 uc1 u2 uc2 u3 uc3 u4 uc4 from ⟨⟨(hS.rd 3 rfl), hb.s1.nil, hb.s1.cap⟩, ⟨(hS.rd 2 rfl), hb.s2.nil, hb.s2.cap⟩, ⟨(hS.rd 1 rfl), hb.s3.nil, hb.s3.cap⟩, ⟨(hS.rd 0 rfl), hb.s4.nil, hb.s4.cap⟩⟩) (lenQ_rat hx hy) (soundQ_rat hx hy)) ?_
 rintro _ w13 ⟨rfl, hb12⟩
 replace hS := hS.call hb12
 refine ⟨_, rfl, ?_⟩
 intro a hA
 refine seq_do (v := .bool false) hA rfl rfl rfl (d_un rfl un_not) ?_
 intro a hA
 refine seq_do (v := .bool false) hA rfl rfl rfl (d_pick rfl rfl rfl rfl) ?_
 intro a hA
 refine seq_end ?_
 refine hK9 _ _ ?_
 refine wp_cond_false (hA.ev rfl) ?_
 refine wp_skip ?_
 refine hK8 _ _ ?_
 refine wp_seq_k (fun K14 hK14 => ?_)
 refine wp_seq_k (fun K15 hK15 => ?_)
 refine wp_region_lit ?_
 refine seq_do hA rfl rfl rfl (d_loadS hS ExL_isS_26 rfl 1 rfl (cs := [.bool (rb x.num), .slice u1 ((words x.num.natAbs).length) uc1, .slice u2 ((words x.den).length) uc2, .bool (rb y.num), .slice u3 ((words y.num.natAbs).length) uc3, .slice u4 ((words y.den).length) uc4]) rfl rfl) ?_
 intro a hA
 refine seq_call hA rfl rfl rfl (enters_func  rfl rfl (fun w => by kernel_rfl)) ((show Calls Tryz.prog 66 #[.agg #[.bool (rb x.num), .slice u1 ((words x.num.natAbs).length) uc1, .slice u2 ((words x.den).length) uc2, .bool (rb y.num), .slice u3 ((words y.num.natAbs).length) uc3, .slice u4 ((words y.den).length) uc4]] _ (fun e w' => e = .returned (.bool true) ∧ _) from (((zero_rat x y).trans (decide_eq_true hz)) ▸ isZero_any (by omega) (by omega)))) ?_
 rintro _ w17 ⟨rfl, hb16⟩
 replace hS := hS.call hb16
 refine ⟨_, rfl, ?_⟩
 intro a hA
 refine seq_end ?_
 refine hK15 _ _ ?_
 refine wp_cond_true (hA.ev rfl) ?_
 refine wp_seq_k (fun K18 hK18 => ?_)
 refine wp_region_lit ?_
 refine seq_do (v := .agg #[.bool false, .slice none 0 0, .slice none 0 0, .bool false, .slice none 0 0, .slice none 0 0]) hA rfl rfl rfl (d_build rfl (fun w => by kernel_rfl)) ?_
 intro a hA
 refine seq_store (us := [.bool false, .slice none 0 0, .slice none 0 0, .bool false, .slice none 0 0, .slice none 0 0]) hA hS rfl rfl (sets_store (cs := [.bool false, .slice none 0 0, .slice none 0 0, .bool false, .slice none 0 0, .slice none 0 0]) rfl rfl rfl (by kernel_rfl) hS 0 rfl rfl rfl) 0 rfl rfl rfl rfl ?_
 intro w19 hS
 refine seq_do hA rfl rfl rfl (d_assign rfl) ?_
 intro a hA
 refine seq_end ?_
 refine hK18 _ _ ?_
 refine wp_ret ?_
 refine hret _ _ ?_
 refine ends (v := .tuple #[.agg #[.bool false, .slice none 0 0, .slice none 0 0, .bool false, .slice none 0 0, .slice none 0 0], .int .i64 3]) hA rfl (.cons (res_cell hS ExL_isS_26 rfl 0 rfl (cs := [.bool false, .slice none 0 0, .slice none 0 0, .bool false, .slice none 0 0, .slice none 0 0]) rfl rfl) (.cons (res_tmp rfl) .nil)) rfl ?_
 exact ⟨none, 0, none, 0, none, 0, none, 0, rfl, ⟨(Sc.none _), (Sc.none _), (Sc.none _), (Sc.none _)⟩, hS.bel⟩
theorem divN_any {w : World} {u v x y : Rat} {a1 a2 a3 a4 : Option Addr} {ac1 ac2 ac3 ac4 : Nat} (ha : Nm w (Q6.rat u v) a1 ac1 a2 ac2 a3 ac3 a4 ac4) {u1 u2 u3 u4 : Option Addr} {uc1 uc2 uc3 uc4 : Nat} (hb : Nm w (Q6.rat x y) u1 uc1 u2 uc2 u3 uc3 u4 uc4) (hu : fitR u) (hv : fitR v) (hx : fitR x) (hy : fitR y) (hz : ¬ (x = 0 ∧ y = 0)) : Calls Tryz.prog 54 #[numV (Q6.rat u v) a1 ac1 a2 ac2 a3 ac3 a4 ac4, numV (Q6.rat x y) u1 uc1 u2 uc2 u3 uc3 u4 uc4] w (AnsN w (ratS ((u * x + v * y) / (x * x + y * y)) ((v * x - u * y) / (x * x + y * y)))) := by
 have k1 : (words x.num.natAbs).length ≤ 512 := hx.1
 have k2 : (words y.num.natAbs).length ≤ 512 := hy.1
 have m1 := spX_len hu hv
 have m2 := spY_len hu hv
 have m3 := spD_len hu hv
 have m4 := spX_len hx hy
 have m5 := spY_len hx hy
 have m6 := spD_len hx hy
 have n1 := ivX_len (y := spY x y) m4 m6
 have n2 := ivY_len (x := spX x y) m5 m6
 have n3 := ivD_len m4 m5
 have hS : St w w [] [(u4, words y.den), (u3, words y.num.natAbs), (u2, words x.den), (u1, words x.num.natAbs), (a4, words v.den), (a3, words v.num.natAbs), (a2, words u.den), (a1, words u.num.natAbs)] [] := ((((((((St.start w).addR ha.s1.rd).addR ha.s2.rd).addR ha.s3.rd).addR ha.s4.rd).addR hb.s1.rd).addR hb.s2.rd).addR hb.s3.rd).addR hb.s4.rd
 refine walk_of (l := [(0, .agg #[.bool (rb u.num), .slice a1 ((words u.num.natAbs).length) ac1, .slice a2 ((words u.den).length) ac2, .bool (rb v.num), .slice a3 ((words v.num.natAbs).length) ac3, .slice a4 ((words v.den).length) ac4]), (1, .agg #[.bool (rb x.num), .slice u1 ((words x.num.natAbs).length) uc1, .slice u2 ((words x.den).length) uc2, .bool (rb y.num), .slice u3 ((words y.num.natAbs).length) uc3, .slice u4 ((words y.den).length) uc4])]) Tryz.func54 rfl Tryz.ntmps54 rfl rfl ?_
 intro Q hret hnorm hP a hA
 refine wp_seq_k (fun K1 hK1 => ?_)
 refine wp_region_lit ?_
 refine seq_new (vs := [.bool (rb u.num), .slice a1 ((words u.num.natAbs).length) ac1, .slice a2 ((words u.den).length) ac2, .bool (rb v.num), .slice a3 ((words v.num.natAbs).length) ac3, .slice a4 ((words v.den).length) ac4]) (t := 26) hA hS rfl rfl rfl (fun g => .pointer (some ⟨g, 0, none⟩)) (d_box rfl rfl) rfl ?_
 intro g2 w3 hS a hA
 refine seq_new (vs := [.bool (rb x.num), .slice u1 ((words x.num.natAbs).length) uc1, .slice u2 ((words x.den).length) uc2, .bool (rb y.num), .slice u3 ((words y.num.natAbs).length) uc3, .slice u4 ((words y.den).length) uc4]) (t := 26) hA hS rfl rfl rfl (fun g => .pointer (some ⟨g, 0, none⟩)) (d_box rfl rfl) rfl ?_
 intro g4 w5 hS a hA
 refine seq_new (vs := [.bool false, .slice none 0 0, .slice none 0 0, .bool false, .slice none 0 0, .slice none 0 0]) (t := 26) hA hS rfl rfl rfl (fun g => .pointer (some ⟨g, 0, none⟩)) (d_alloc (z := .agg #[.bool false, .slice none 0 0, .slice none 0 0, .bool false, .slice none 0 0, .slice none 0 0]) (by kernel_rfl) rfl) rfl ?_
 intro g6 w7 hS a hA
 refine seq_do hA rfl rfl rfl (d_assign rfl) ?_
 intro a hA
 refine seq_end ?_
 refine hK1 _ _ ?_
 refine wp_seq_k (fun K8 hK8 => ?_)
 refine wp_seq_k (fun K9 hK9 => ?_)
 refine wp_region_lit ?_
 refine seq_do hA rfl rfl rfl (d_loadS hS ExL_isS_26 rfl 2 rfl (cs := [.bool (rb u.num), .slice a1 ((words u.num.natAbs).length) ac1, .slice a2 ((words u.den).length) ac2, .bool (rb v.num), .slice a3 ((words v.num.natAbs).length) ac3, .slice a4 ((words v.den).length) ac4]) rfl rfl) ?_
 intro a hA
 refine seq_call hA rfl rfl rfl (enters_func  rfl rfl (fun w => by kernel_rfl)) (soundQ_any (show Nm _ (Q6.rat u v) a1 ac1 a2 ac2 a3 ac3 a4 ac4 from ⟨⟨(hS.rd 7 rfl), ha.s1.nil, ha.s1.cap⟩, ⟨(hS.rd 6 rfl), ha.s2.nil, ha.s2.cap⟩, ⟨(hS.rd 5 rfl), ha.s3.nil, ha.s3.cap⟩, ⟨(hS.rd 4 rfl), ha.s4.nil, ha.s4.cap⟩⟩) (lenQ_rat hu hv) (soundQ_rat hu hv)) ?_
 rintro _ w11 ⟨rfl, hb10⟩
 replace hS := hS.call hb10
 refine ⟨_, rfl, ?_⟩
 intro a hA
 refine seq_do (v := .bool false) hA rfl rfl rfl (d_un rfl un_not) ?_
 intro a hA
 refine seq_do hA rfl rfl rfl (d_move rfl) ?_
 intro a hA
 refine seq_do hA rfl rfl rfl (d_loadS hS ExL_isS_26 rfl 1 rfl (cs := [.bool (rb x.num), .slice u1 ((words x.num.natAbs).length) uc1, .slice u2 ((words x.den).length) uc2, .bool (rb y.num), .slice u3 ((words y.num.natAbs).length) uc3, .slice u4 ((words y.den).length) uc4]) rfl rfl) ?_
 intro a hA
 refine seq_call hA rfl rfl rfl (enters_func  rfl rfl (fun w => by kernel_rfl)) (soundQ_any (show Nm _ (Q6.rat x y) u1 uc1 u2 uc2 u3 uc3 u4 uc4 from ⟨⟨(hS.rd 3 rfl), hb.s1.nil, hb.s1.cap⟩, ⟨(hS.rd 2 rfl), hb.s2.nil, hb.s2.cap⟩, ⟨(hS.rd 1 rfl), hb.s3.nil, hb.s3.cap⟩, ⟨(hS.rd 0 rfl), hb.s4.nil, hb.s4.cap⟩⟩) (lenQ_rat hx hy) (soundQ_rat hx hy)) ?_
 rintro _ w13 ⟨rfl, hb12⟩
 replace hS := hS.call hb12
 refine ⟨_, rfl, ?_⟩
 intro a hA
 refine seq_do (v := .bool false) hA rfl rfl rfl (d_un rfl un_not) ?_
 intro a hA
 refine seq_do (v := .bool false) hA rfl rfl rfl (d_pick rfl rfl rfl rfl) ?_
 intro a hA
 refine seq_end ?_
 refine hK9 _ _ ?_
 refine wp_cond_false (hA.ev rfl) ?_
 refine wp_skip ?_
 refine hK8 _ _ ?_
 refine wp_seq_k (fun K14 hK14 => ?_)
 refine wp_seq_k (fun K15 hK15 => ?_)
 refine wp_region_lit ?_
 refine seq_do hA rfl rfl rfl (d_loadS hS ExL_isS_26 rfl 1 rfl (cs := [.bool (rb x.num), .slice u1 ((words x.num.natAbs).length) uc1, .slice u2 ((words x.den).length) uc2, .bool (rb y.num), .slice u3 ((words y.num.natAbs).length) uc3, .slice u4 ((words y.den).length) uc4]) rfl rfl) ?_
 intro a hA
 refine seq_call hA rfl rfl rfl (enters_func  rfl rfl (fun w => by kernel_rfl)) ((show Calls Tryz.prog 66 #[.agg #[.bool (rb x.num), .slice u1 ((words x.num.natAbs).length) uc1, .slice u2 ((words x.den).length) uc2, .bool (rb y.num), .slice u3 ((words y.num.natAbs).length) uc3, .slice u4 ((words y.den).length) uc4]] _ (fun e w' => e = .returned (.bool false) ∧ _) from (((zero_rat x y).trans (decide_eq_false hz)) ▸ isZero_any (by omega) (by omega)))) ?_
 rintro _ w17 ⟨rfl, hb16⟩
 replace hS := hS.call hb16
 refine ⟨_, rfl, ?_⟩
 intro a hA
 refine seq_end ?_
 refine hK15 _ _ ?_
 refine wp_cond_false (hA.ev rfl) ?_
 refine wp_skip ?_
 refine hK14 _ _ ?_
 refine wp_seq_k (fun K18 hK18 => ?_)
 refine wp_draw (S := fun w1 => St w w1 [(g4, [.bool (rb x.num), .slice u1 ((words x.num.natAbs).length) uc1, .slice u2 ((words x.den).length) uc2, .bool (rb y.num), .slice u3 ((words y.num.natAbs).length) uc3, .slice u4 ((words y.den).length) uc4]), (g2, [.bool (rb u.num), .slice a1 ((words u.num.natAbs).length) ac1, .slice a2 ((words u.den).length) ac2, .bool (rb v.num), .slice a3 ((words v.num.natAbs).length) ac3, .slice a4 ((words v.den).length) ac4])] [(u4, words y.den), (u3, words y.num.natAbs), (u2, words x.den), (u1, words x.num.natAbs), (a4, words v.den), (a3, words v.num.natAbs), (a2, words u.den), (a1, words u.num.natAbs)] []) (by kernel_rfl) ?_
 replace hS := hS.drew
 refine any_tk hA 0 rfl rfl rfl rfl hP (hS.partD (.cons _ (.cons_cons _ (.cons_cons _ .slnil))) 0 rfl (.refl _)) (fun w1 hS => d_loadS hS ExL_isS_26 rfl 1 rfl (cs := [.bool (rb u.num), .slice a1 ((words u.num.natAbs).length) ac1, .slice a2 ((words u.den).length) ac2, .bool (rb v.num), .slice a3 ((words v.num.natAbs).length) ac3, .slice a4 ((words v.den).length) ac4]) rfl rfl) ?_
 intro a hA
 refine any_tk hA 2 rfl rfl rfl rfl hP (hS.partD (.cons _ (.cons_cons _ (.cons_cons _ .slnil))) 0 rfl (.refl _)) (fun w1 hS => d_loadS hS ExL_isS_26 rfl 0 rfl (cs := [.bool (rb x.num), .slice u1 ((words x.num.natAbs).length) uc1, .slice u2 ((words x.den).length) uc2, .bool (rb y.num), .slice u3 ((words y.num.natAbs).length) uc3, .slice u4 ((words y.den).length) uc4]) rfl rfl) ?_
 intro a hA
 refine any_one (by kernel_rfl) (op_call hA 1 rfl rfl rfl rfl (enters_func  rfl rfl (fun w => by kernel_rfl)) (zspread_any (show Nm _ (Q6.rat u v) a1 ac1 a2 ac2 a3 ac3 a4 ac4 from ⟨⟨(hS.rd 7 rfl), ha.s1.nil, ha.s1.cap⟩, ⟨(hS.rd 6 rfl), ha.s2.nil, ha.s2.cap⟩, ⟨(hS.rd 5 rfl), ha.s3.nil, ha.s3.cap⟩, ⟨(hS.rd 4 rfl), ha.s4.nil, ha.s4.cap⟩⟩) hu hv) ?_)
 rintro _ w24 ⟨p19_1, p19_c1, p19_2, p19_c2, p19_3, p19_c3, rfl, hs20, hs21, hs22, hb23⟩
 replace hS := hS.call hb23
 replace hS := hS.addR hs20.rd
 replace hS := hS.addR hs21.rd
 replace hS := hS.addR hs22.rd
 refine ⟨_, rfl, (hS.partD (.cons _ (.cons_cons _ (.cons_cons _ .slnil))) 3 rfl (.refl _)), ?_⟩
 intro a hA
 refine any_one (by kernel_rfl) (op_call hA 3 rfl rfl rfl rfl (enters_func  rfl rfl (fun w => by kernel_rfl)) (zspread_any (show Nm _ (Q6.rat x y) u1 uc1 u2 uc2 u3 uc3 u4 uc4 from ⟨⟨(hS.rd 6 rfl), hb.s1.nil, hb.s1.cap⟩, ⟨(hS.rd 5 rfl), hb.s2.nil, hb.s2.cap⟩, ⟨(hS.rd 4 rfl), hb.s3.nil, hb.s3.cap⟩, ⟨(hS.rd 3 rfl), hb.s4.nil, hb.s4.cap⟩⟩) hx hy) ?_)
 rintro _ w30 ⟨p25_1, p25_c1, p25_2, p25_c2, p25_3, p25_c3, rfl, hs26, hs27, hs28, hb29⟩
 replace hS := hS.call hb29
 replace hS := hS.addR hs26.rd
 replace hS := hS.addR hs27.rd
 replace hS := hS.addR hs28.rd
 refine ⟨_, rfl, (hS.partD (.cons _ (.cons_cons _ (.cons_cons _ .slnil))) 6 rfl (.refl _)), ?_⟩
 intro a hA
 refine any_one (by kernel_rfl) (op_call hA 4 rfl rfl rfl rfl (enters_func  rfl rfl (fun w => by kernel_rfl)) (zinv_any ⟨(hS.rd 2 rfl), hs26.nil, hs26.cap⟩ ⟨(hS.rd 1 rfl), hs27.nil, hs27.cap⟩ ⟨(hS.rd 0 rfl), hs28.nil, hs28.cap⟩ (by omega) (by omega) (by omega)) ?_)
 rintro _ w36 ⟨p31_1, p31_c1, p31_2, p31_c2, p31_3, p31_c3, rfl, hs32, hs33, hs34, hb35⟩
 replace hS := hS.call hb35
 replace hS := hS.addR hs32.rd
 replace hS := hS.addR hs33.rd
 replace hS := hS.addR hs34.rd
 refine ⟨_, rfl, (hS.partD (.cons _ (.cons_cons _ (.cons_cons _ .slnil))) 9 rfl (.refl _)), ?_⟩
 intro a hA
 refine any_one (by kernel_rfl) (op_call hA 5 rfl rfl rfl rfl (enters_func  rfl rfl (fun w => by kernel_rfl)) (zproduct_any ⟨(hS.rd 8 rfl), hs20.nil, hs20.cap⟩ ⟨(hS.rd 7 rfl), hs21.nil, hs21.cap⟩ ⟨(hS.rd 6 rfl), hs22.nil, hs22.cap⟩ ⟨(hS.rd 2 rfl), hs32.nil, hs32.cap⟩ ⟨(hS.rd 1 rfl), hs33.nil, hs33.cap⟩ ⟨(hS.rd 0 rfl), hs34.nil, hs34.cap⟩ (by omega) (by omega) (by omega) (by omega) (by omega) (by omega)) ?_)
 rintro _ w42 ⟨p37_1, p37_c1, p37_2, p37_c2, p37_3, p37_c3, rfl, hs38, hs39, hs40, hb41⟩
 replace hS := hS.call hb41
 replace hS := hS.addR hs38.rd
 replace hS := hS.addR hs39.rd
 replace hS := hS.addR hs40.rd
 refine ⟨_, rfl, (hS.partD (.cons _ (.cons_cons _ (.cons_cons _ .slnil))) 12 rfl (.refl _)), ?_⟩
 intro a hA
 refine any_one (by kernel_rfl) (op_call hA 6 rfl rfl rfl rfl (enters_func  rfl rfl (fun w => by kernel_rfl)) (zsettle_as ⟨(hS.rd 2 rfl), hs38.nil, hs38.cap⟩ ⟨(hS.rd 1 rfl), hs39.nil, hs39.cap⟩ ⟨(hS.rd 0 rfl), hs40.nil, hs40.cap⟩ (set_div (spD_ne u v) (spD_ne x y) (spX_mk u v) (spY_mk u v) (spX_mk x y) (spY_mk x y) (sp_ne hz)) (Nat.le_trans (abs_add_len (Nat.le_trans (abs_mul_len m1 n1) (by decide : _ ≤ 4096)) (Nat.le_trans (neg_len (abs_mul_len m2 n2)) (by decide : _ ≤ 4096))) (by decide)) (Nat.le_trans (abs_add_len (Nat.le_trans (abs_mul_len m1 n2) (by decide : _ ≤ 4096)) (Nat.le_trans (abs_mul_len m2 n1) (by decide : _ ≤ 4096))) (by decide)) (Nat.le_trans (words_mul_length m3 n3) (by decide)) (Nat.mul_ne_zero (spD_ne u v) (ivD_ne (sp_ne hz)))) ?_)
 rintro _ w46 ⟨p43_1, p43_c1, p43_2, p43_c2, p43_3, p43_c3, p43_4, p43_c4, rfl, hn44, hb45⟩
 replace hS := hS.call hb45
 replace hS := hS.addR hn44.s1.rd
 replace hS := hS.addR hn44.s2.rd
 replace hS := hS.addR hn44.s3.rd
 replace hS := hS.addR hn44.s4.rd
 refine ⟨_, rfl, (hS.partD (.cons _ (.cons_cons _ (.cons_cons _ .slnil))) 16 rfl (.refl _)), ?_⟩
 intro a hA
 refine any_tk (v := .agg #[.bool ((ratS ((u * x + v * y) / (x * x + y * y)) ((v * x - u * y) / (x * x + y * y))).1.b1), .slice p43_1 (((ratS ((u * x + v * y) / (x * x + y * y)) ((v * x - u * y) / (x * x + y * y))).1.t1).length) p43_c1, .slice p43_2 (((ratS ((u * x + v * y) / (x * x + y * y)) ((v * x - u * y) / (x * x + y * y))).1.q1).length) p43_c2, .bool ((ratS ((u * x + v * y) / (x * x + y * y)) ((v * x - u * y) / (x * x + y * y))).1.b2), .slice p43_3 (((ratS ((u * x + v * y) / (x * x + y * y)) ((v * x - u * y) / (x * x + y * y))).1.t2).length) p43_c3, .slice p43_4 (((ratS ((u * x + v * y) / (x * x + y * y)) ((v * x - u * y) / (x * x + y * y))).1.q2).length) p43_c4]) hA 7 rfl rfl rfl rfl hP (hS.partD (.cons _ (.cons_cons _ (.cons_cons _ .slnil))) 16 rfl (.refl _)) (fun w1 hS => d_extract (vs := [.agg #[.bool ((ratS ((u * x + v * y) / (x * x + y * y)) ((v * x - u * y) / (x * x + y * y))).1.b1), .slice p43_1 (((ratS ((u * x + v * y) / (x * x + y * y)) ((v * x - u * y) / (x * x + y * y))).1.t1).length) p43_c1, .slice p43_2 (((ratS ((u * x + v * y) / (x * x + y * y)) ((v * x - u * y) / (x * x + y * y))).1.q1).length) p43_c2, .bool ((ratS ((u * x + v * y) / (x * x + y * y)) ((v * x - u * y) / (x * x + y * y))).1.b2), .slice p43_3 (((ratS ((u * x + v * y) / (x * x + y * y)) ((v * x - u * y) / (x * x + y * y))).1.t2).length) p43_c3, .slice p43_4 (((ratS ((u * x + v * y) / (x * x + y * y)) ((v * x - u * y) / (x * x + y * y))).1.q2).length) p43_c4], .int .i64 ((ratS ((u * x + v * y) / (x * x + y * y)) ((v * x - u * y) / (x * x + y * y))).2)]) rfl rfl) ?_
 intro a hA
 refine any_tk (v := .int .i64 ((ratS ((u * x + v * y) / (x * x + y * y)) ((v * x - u * y) / (x * x + y * y))).2)) hA 8 rfl rfl rfl rfl hP (hS.partD (.cons _ (.cons_cons _ (.cons_cons _ .slnil))) 16 rfl (.refl _)) (fun w1 hS => d_extract (vs := [.agg #[.bool ((ratS ((u * x + v * y) / (x * x + y * y)) ((v * x - u * y) / (x * x + y * y))).1.b1), .slice p43_1 (((ratS ((u * x + v * y) / (x * x + y * y)) ((v * x - u * y) / (x * x + y * y))).1.t1).length) p43_c1, .slice p43_2 (((ratS ((u * x + v * y) / (x * x + y * y)) ((v * x - u * y) / (x * x + y * y))).1.q1).length) p43_c2, .bool ((ratS ((u * x + v * y) / (x * x + y * y)) ((v * x - u * y) / (x * x + y * y))).1.b2), .slice p43_3 (((ratS ((u * x + v * y) / (x * x + y * y)) ((v * x - u * y) / (x * x + y * y))).1.t2).length) p43_c3, .slice p43_4 (((ratS ((u * x + v * y) / (x * x + y * y)) ((v * x - u * y) / (x * x + y * y))).1.q2).length) p43_c4], .int .i64 ((ratS ((u * x + v * y) / (x * x + y * y)) ((v * x - u * y) / (x * x + y * y))).2)]) rfl rfl) ?_
 intro a hA
 refine any_one (by kernel_rfl) (op_store (us := [.bool ((ratS ((u * x + v * y) / (x * x + y * y)) ((v * x - u * y) / (x * x + y * y))).1.b1), .slice p43_1 (((ratS ((u * x + v * y) / (x * x + y * y)) ((v * x - u * y) / (x * x + y * y))).1.t1).length) p43_c1, .slice p43_2 (((ratS ((u * x + v * y) / (x * x + y * y)) ((v * x - u * y) / (x * x + y * y))).1.q1).length) p43_c2, .bool ((ratS ((u * x + v * y) / (x * x + y * y)) ((v * x - u * y) / (x * x + y * y))).1.b2), .slice p43_3 (((ratS ((u * x + v * y) / (x * x + y * y)) ((v * x - u * y) / (x * x + y * y))).1.t2).length) p43_c3, .slice p43_4 (((ratS ((u * x + v * y) / (x * x + y * y)) ((v * x - u * y) / (x * x + y * y))).1.q2).length) p43_c4]) hA hS 9 rfl rfl rfl (sets_store (cs := [.bool ((ratS ((u * x + v * y) / (x * x + y * y)) ((v * x - u * y) / (x * x + y * y))).1.b1), .slice p43_1 (((ratS ((u * x + v * y) / (x * x + y * y)) ((v * x - u * y) / (x * x + y * y))).1.t1).length) p43_c1, .slice p43_2 (((ratS ((u * x + v * y) / (x * x + y * y)) ((v * x - u * y) / (x * x + y * y))).1.q1).length) p43_c2, .bool ((ratS ((u * x + v * y) / (x * x + y * y)) ((v * x - u * y) / (x * x + y * y))).1.b2), .slice p43_3 (((ratS ((u * x + v * y) / (x * x + y * y)) ((v * x - u * y) / (x * x + y * y))).1.t2).length) p43_c3, .slice p43_4 (((ratS ((u * x + v * y) / (x * x + y * y)) ((v * x - u * y) / (x * x + y * y))).1.q2).length) p43_c4]) rfl rfl rfl (by kernel_rfl) hS 0 rfl rfl rfl) 0 rfl rfl rfl rfl ?_)
 intro w47 hS
 refine ⟨(hS.partD (.cons _ (.cons_cons _ (.cons_cons _ .slnil))) 16 rfl (.refl _)), ?_⟩
 refine any_tk hA 10 rfl rfl rfl rfl hP (hS.partD (.cons _ (.cons_cons _ (.cons_cons _ .slnil))) 16 rfl (.refl _)) (fun w1 hS => d_assign rfl) ?_
 intro a hA
 refine any_end (by kernel_rfl) ?_
 refine hK18 _ _ ?_
 refine wp_ret ?_
 refine hret _ _ ?_
 refine ends (v := .tuple #[.agg #[.bool ((ratS ((u * x + v * y) / (x * x + y * y)) ((v * x - u * y) / (x * x + y * y))).1.b1), .slice p43_1 (((ratS ((u * x + v * y) / (x * x + y * y)) ((v * x - u * y) / (x * x + y * y))).1.t1).length) p43_c1, .slice p43_2 (((ratS ((u * x + v * y) / (x * x + y * y)) ((v * x - u * y) / (x * x + y * y))).1.q1).length) p43_c2, .bool ((ratS ((u * x + v * y) / (x * x + y * y)) ((v * x - u * y) / (x * x + y * y))).1.b2), .slice p43_3 (((ratS ((u * x + v * y) / (x * x + y * y)) ((v * x - u * y) / (x * x + y * y))).1.t2).length) p43_c3, .slice p43_4 (((ratS ((u * x + v * y) / (x * x + y * y)) ((v * x - u * y) / (x * x + y * y))).1.q2).length) p43_c4], .int .i64 ((ratS ((u * x + v * y) / (x * x + y * y)) ((v * x - u * y) / (x * x + y * y))).2)]) hA rfl (.cons (res_cell hS ExL_isS_26 rfl 0 rfl (cs := [.bool ((ratS ((u * x + v * y) / (x * x + y * y)) ((v * x - u * y) / (x * x + y * y))).1.b1), .slice p43_1 (((ratS ((u * x + v * y) / (x * x + y * y)) ((v * x - u * y) / (x * x + y * y))).1.t1).length) p43_c1, .slice p43_2 (((ratS ((u * x + v * y) / (x * x + y * y)) ((v * x - u * y) / (x * x + y * y))).1.q1).length) p43_c2, .bool ((ratS ((u * x + v * y) / (x * x + y * y)) ((v * x - u * y) / (x * x + y * y))).1.b2), .slice p43_3 (((ratS ((u * x + v * y) / (x * x + y * y)) ((v * x - u * y) / (x * x + y * y))).1.t2).length) p43_c3, .slice p43_4 (((ratS ((u * x + v * y) / (x * x + y * y)) ((v * x - u * y) / (x * x + y * y))).1.q2).length) p43_c4]) rfl rfl) (.cons (res_tmp rfl) .nil)) rfl ?_
 exact ⟨p43_1, p43_c1, p43_2, p43_c2, p43_3, p43_c3, p43_4, p43_c4, rfl, ⟨⟨(hS.rd 3 rfl), hn44.s1.nil, hn44.s1.cap⟩, ⟨(hS.rd 2 rfl), hn44.s2.nil, hn44.s2.cap⟩, ⟨(hS.rd 1 rfl), hn44.s3.nil, hn44.s3.cap⟩, ⟨(hS.rd 0 rfl), hn44.s4.nil, hn44.s4.cap⟩⟩, hS.bel⟩
theorem divQ_any {w : World} {p q : Q6} {a1 a2 a3 a4 : Option Addr} {ac1 ac2 ac3 ac4 : Nat} (ha : Nm w p a1 ac1 a2 ac2 a3 ac3 a4 ac4) (hl : LenQ p) {u1 u2 u3 u4 : Option Addr} {uc1 uc2 uc3 uc4 : Nat} (hb : Nm w q u1 uc1 u2 uc2 u3 uc3 u4 uc4) (hm : LenQ q) : Calls Tryz.prog 54 #[numV p a1 ac1 a2 ac2 a3 ac3 a4 ac4, numV q u1 uc1 u2 uc2 u3 uc3 u4 uc4] w (AnsN w (divQ p q)) := by
  rcases sound_cases ha with h1 | ⟨u, v, rfl, hu, hv⟩
  · rw [show divQ p q = (Q6.zero, 2) from if_neg (fun k => by rw [h1] at k; cases k.1)]
    exact divE1_any ha hl hb hm h1
  · rcases sound_cases hb with h2 | ⟨x, y, rfl, hx, hy⟩
    · rw [show divQ _ q = (Q6.zero, 2) from if_neg (fun k => by rw [h2] at k; cases k.2)]
      exact divE2_any ha hl hb hm (soundQ_rat hu hv) h2
    · by_cases hz : x = 0 ∧ y = 0
      · rw [divQ_zero hu hv hx hy hz]
        exact divZ_any ha hb hu hv hx hy hz
      · rw [divQ_rat hu hv hx hy hz]
        exact divN_any ha hb hu hv hx hy hz
end Go.Proofs.YthlkbnhbmfmchaaGreat
