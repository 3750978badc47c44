/- Walks of the document's sums of fractions. The document's -a - 1, and shifts of numbers. Walks of the document's -a - 1, and of shifts. How long numbers are in bits, and their opposites less one. Walks of the document's shifts, of lengths, of opposites less one, and of questions of sameness. How many bits of a number are 1. Walks of how many bits are 1. Rows of bits put together word by word. Walks of rows of bits put together. Numbers put together bit by bit. Walks of numbers put together bit by bit, and of Not. The fixed fact on bits. Walks of small numbers and of sameness. Walks of the fixed fact, and of sameness by the document. Rows of two's complement, as the document has them. Walks of the document's rows of two's complement. Walks of the document's And, Or, Xor and Not. Walks of the law on shifts. Walks of the law on And, Or, Xor and Not. Fields of bits. -/
import Derived.Test.YtfhpeeljjcphpaaPbitsfi10a
import Derived.Test.YtfhpeeljjcphpaaShiftRef2
import Derived.Test.YtfhpeeljjcphpaaNatQ
import Derived.Test.YtfhpeeljjcphpaaBits
import Derived.Test.YtfhpeeljjcphpaaBiTrim
import Derived.Test.YtfhpeeljjcphpaaNatF
namespace Go.Proofs.Ytfhpeeljjcphpaa
open Go.RowKit
set_option linter.unusedVariables false
set_option linter.unusedSimpArgs false
set_option maxRecDepth 100000
theorem BiD_is1_22 : Is1 Try.prog 22 := ⟨⟨_, Try.underlying22, rfl⟩, by kernel_rfl⟩
theorem BiD_is1_4 : Is1 Try.prog 4 := ⟨⟨_, Try.underlying4, rfl⟩, by kernel_rfl⟩
theorem BiD_fld_24_0 : FieldAt Try.prog 24 0 0 := ⟨_, _, Try.underlying24, rfl, rfl, by kernel_rfl⟩
theorem BiD_fld_24_1 : FieldAt Try.prog 24 1 1 := ⟨_, _, Try.underlying24, rfl, rfl, by kernel_rfl⟩
theorem BiD_fld_24_2 : FieldAt Try.prog 24 2 2 := ⟨_, _, Try.underlying24, rfl, rfl, by kernel_rfl⟩
theorem BiD_isS_24 : IsS Try.prog 24 3 := ⟨⟨_, Try.underlying24⟩, by kernel_rfl⟩
theorem rminus_any {w : World} {b : Bool} {n1 n2 : Nat} {a1 a2 : Option Addr} {ac1 ac2 : Nat} {r : Bool} (hr : (!b && decide (0 < n1)) = r) : Calls Try.prog 58 #[.agg #[.bool b, .slice a1 n1 ac1, .slice a2 n2 ac2]] w fun e w' => e = .returned (.agg #[.bool r, .slice a1 n1 ac1, .slice a2 n2 ac2]) ∧ Below w.heap.size w w' := by
 cases b
 · have hS : St w w [] [] [] := St.start w
   refine walk_of (l := [(0, .agg #[.bool false, .slice a1 n1 ac1, .slice a2 n2 ac2])]) Try.func58 rfl Try.ntmps58 rfl rfl ?_
   intro Q hret hnorm hP a hA
   refine wp_seq_k (fun K1 hK1 => ?_)
   refine wp_region_lit ?_
   refine seq_new hA hS rfl rfl rfl (fun g => .pointer (some ⟨g, 0, none⟩)) (d_box rfl rfl) rfl ?_
   intro g2 w3 hS a hA
   refine seq_new (vs := [.bool false, .slice none 0 0, .slice none 0 0]) (t := 24) hA hS rfl rfl rfl (fun g => .pointer (some ⟨g, 0, none⟩)) (d_alloc (z := .agg #[.bool false, .slice none 0 0, .slice none 0 0]) (by kernel_rfl) rfl) rfl ?_
   intro g4 w5 hS a hA
   refine seq_end ?_
   refine hK1 _ _ ?_
   refine wp_seq_k (fun K6 hK6 => ?_)
   refine wp_region_lit ?_
   refine seq_do (v := .pointer (some ⟨g2, 0, none⟩)) hA rfl rfl rfl (d_field BiD_fld_24_0 rfl rfl) ?_
   intro a hA
   refine seq_do hA rfl rfl rfl (d_load1 hS BiD_is1_4 rfl 1 rfl rfl) ?_
   intro a hA
   refine seq_do (v := .bool true) hA rfl rfl rfl (d_un rfl un_not) ?_
   intro a hA
   refine seq_do hA rfl rfl rfl (d_move rfl) ?_
   intro a hA
   refine seq_do (v := .pointer (some ⟨g2, 1, none⟩)) hA rfl rfl rfl (d_field BiD_fld_24_1 rfl rfl) ?_
   intro a hA
   refine seq_do hA rfl rfl rfl (d_load1 hS BiD_is1_22 rfl 1 rfl rfl) ?_
   intro a hA
   refine seq_do (v := .int .i64 (((n1 : Nat) : Int))) hA rfl rfl rfl (d_len Try.underlying22 rfl) ?_
   intro a hA
   rcases Bool.eq_false_or_eq_true (decide (0 < ((n1 : Nat) : Int))) with hb7 | hb7
   · have hb7' := of_decide_eq_true hb7
     refine seq_do (v := .bool true) hA rfl rfl rfl (d_bin rfl rfl (fun w => (bin_gtr w).trans (by rw [hb7]))) ?_
     intro a hA
     refine seq_do (v := .bool true) hA rfl rfl rfl (d_pick rfl rfl rfl rfl) ?_
     intro a hA
     refine seq_do (v := .pointer (some ⟨g2, 1, none⟩)) hA rfl rfl rfl (d_field BiD_fld_24_1 rfl rfl) ?_
     intro a hA
     refine seq_do hA rfl rfl rfl (d_load1 hS BiD_is1_22 rfl 1 rfl rfl) ?_
     intro a hA
     refine seq_do (v := .pointer (some ⟨g2, 2, none⟩)) hA rfl rfl rfl (d_field BiD_fld_24_2 rfl rfl) ?_
     intro a hA
     refine seq_do hA rfl rfl rfl (d_load1 hS BiD_is1_22 rfl 1 rfl rfl) ?_
     intro a hA
     refine seq_do (v := .agg #[.bool true, .slice a1 n1 ac1, .slice a2 n2 ac2]) hA rfl rfl rfl (d_build rfl (fun w => by kernel_rfl)) ?_
     intro a hA
     refine seq_store (us := [.bool true, .slice a1 n1 ac1, .slice a2 n2 ac2]) hA hS rfl rfl (sets_store rfl rfl rfl (by kernel_rfl) hS 0 rfl rfl rfl) 0 rfl rfl rfl rfl ?_
     intro w8 hS
     refine seq_end ?_
     refine hK6 _ _ ?_
     refine wp_ret ?_
     refine hret _ _ ?_
     refine ends (v := .agg #[.bool true, .slice a1 n1 ac1, .slice a2 n2 ac2]) hA rfl (.cons (res_cell hS BiD_isS_24 rfl 0 rfl (cs := [.bool true, .slice a1 n1 ac1, .slice a2 n2 ac2]) rfl rfl) .nil) rfl ?_
     subst hr
     exact ⟨by rw [show decide (0 < n1) = true from decide_eq_true (by omega)]; rfl, hS.bel⟩
   · have hb7' := of_decide_eq_false hb7
     refine seq_do (v := .bool false) hA rfl rfl rfl (d_bin rfl rfl (fun w => (bin_gtr w).trans (by rw [hb7]))) ?_
     intro a hA
     refine seq_do (v := .bool false) hA rfl rfl rfl (d_pick rfl rfl rfl rfl) ?_
     intro a hA
     refine seq_do (v := .pointer (some ⟨g2, 1, none⟩)) hA rfl rfl rfl (d_field BiD_fld_24_1 rfl rfl) ?_
     intro a hA
     refine seq_do hA rfl rfl rfl (d_load1 hS BiD_is1_22 rfl 1 rfl rfl) ?_
     intro a hA
     refine seq_do (v := .pointer (some ⟨g2, 2, none⟩)) hA rfl rfl rfl (d_field BiD_fld_24_2 rfl rfl) ?_
     intro a hA
     refine seq_do hA rfl rfl rfl (d_load1 hS BiD_is1_22 rfl 1 rfl rfl) ?_
     intro a hA
     refine seq_do (v := .agg #[.bool false, .slice a1 n1 ac1, .slice a2 n2 ac2]) hA rfl rfl rfl (d_build rfl (fun w => by kernel_rfl)) ?_
     intro a hA
     refine seq_store (us := [.bool false, .slice a1 n1 ac1, .slice a2 n2 ac2]) hA hS rfl rfl (sets_store rfl rfl rfl (by kernel_rfl) hS 0 rfl rfl rfl) 0 rfl rfl rfl rfl ?_
     intro w9 hS
     refine seq_end ?_
     refine hK6 _ _ ?_
     refine wp_ret ?_
     refine hret _ _ ?_
     refine ends (v := .agg #[.bool false, .slice a1 n1 ac1, .slice a2 n2 ac2]) hA rfl (.cons (res_cell hS BiD_isS_24 rfl 0 rfl (cs := [.bool false, .slice a1 n1 ac1, .slice a2 n2 ac2]) rfl rfl) .nil) rfl ?_
     subst hr
     exact ⟨by rw [show decide (0 < n1) = false from decide_eq_false (by omega)]; rfl, hS.bel⟩
 · have hS : St w w [] [] [] := St.start w
   refine walk_of (l := [(0, .agg #[.bool true, .slice a1 n1 ac1, .slice a2 n2 ac2])]) Try.func58 rfl Try.ntmps58 rfl rfl ?_
   intro Q hret hnorm hP a hA
   refine wp_seq_k (fun K1 hK1 => ?_)
   refine wp_region_lit ?_
   refine seq_new hA hS rfl rfl rfl (fun g => .pointer (some ⟨g, 0, none⟩)) (d_box rfl rfl) rfl ?_
   intro g2 w3 hS a hA
   refine seq_new (vs := [.bool false, .slice none 0 0, .slice none 0 0]) (t := 24) hA hS rfl rfl rfl (fun g => .pointer (some ⟨g, 0, none⟩)) (d_alloc (z := .agg #[.bool false, .slice none 0 0, .slice none 0 0]) (by kernel_rfl) rfl) rfl ?_
   intro g4 w5 hS a hA
   refine seq_end ?_
   refine hK1 _ _ ?_
   refine wp_seq_k (fun K6 hK6 => ?_)
   refine wp_region_lit ?_
   refine seq_do (v := .pointer (some ⟨g2, 0, none⟩)) hA rfl rfl rfl (d_field BiD_fld_24_0 rfl rfl) ?_
   intro a hA
   refine seq_do hA rfl rfl rfl (d_load1 hS BiD_is1_4 rfl 1 rfl rfl) ?_
   intro a hA
   refine seq_do (v := .bool false) hA rfl rfl rfl (d_un rfl un_not) ?_
   intro a hA
   refine seq_do hA rfl rfl rfl (d_move rfl) ?_
   intro a hA
   refine seq_skip hA rfl rfl rfl ?_
   intro a hA
   refine seq_skip hA rfl rfl rfl ?_
   intro a hA
   refine seq_skip hA rfl rfl rfl ?_
   intro a hA
   refine seq_skip hA rfl rfl rfl ?_
   intro a hA
   refine seq_do (v := .bool false) hA rfl rfl rfl (d_pick rfl rfl rfl rfl) ?_
   intro a hA
   refine seq_do (v := .pointer (some ⟨g2, 1, none⟩)) hA rfl rfl rfl (d_field BiD_fld_24_1 rfl rfl) ?_
   intro a hA
   refine seq_do hA rfl rfl rfl (d_load1 hS BiD_is1_22 rfl 1 rfl rfl) ?_
   intro a hA
   refine seq_do (v := .pointer (some ⟨g2, 2, none⟩)) hA rfl rfl rfl (d_field BiD_fld_24_2 rfl rfl) ?_
   intro a hA
   refine seq_do hA rfl rfl rfl (d_load1 hS BiD_is1_22 rfl 1 rfl rfl) ?_
   intro a hA
   refine seq_do (v := .agg #[.bool false, .slice a1 n1 ac1, .slice a2 n2 ac2]) hA rfl rfl rfl (d_build rfl (fun w => by kernel_rfl)) ?_
   intro a hA
   refine seq_store (us := [.bool false, .slice a1 n1 ac1, .slice a2 n2 ac2]) hA hS rfl rfl (sets_store rfl rfl rfl (by kernel_rfl) hS 0 rfl rfl rfl) 0 rfl rfl rfl rfl ?_
   intro w7 hS
   refine seq_end ?_
   refine hK6 _ _ ?_
   refine wp_ret ?_
   refine hret _ _ ?_
   refine ends (v := .agg #[.bool false, .slice a1 n1 ac1, .slice a2 n2 ac2]) hA rfl (.cons (res_cell hS BiD_isS_24 rfl 0 rfl (cs := [.bool false, .slice a1 n1 ac1, .slice a2 n2 ac2]) rfl rfl) .nil) rfl ?_
   subst hr
   exact ⟨rfl, hS.bel⟩
theorem rrat_any {w : World} (b : Bool) {x d : Nat} {a1 a2 : Option Addr} {ac1 ac2 : Nat} (ha1 : Sc w a1 ac1 (words x)) (ha2 : Sc w a2 ac2 (words d)) (hx : (words x).length ≤ 9000) (hd : (words d).length ≤ 9000) (hd0 : d ≠ 0) : Calls Try.prog 81 #[.bool b, .slice a1 (words x).length ac1, .slice a2 (words d).length ac2] w (AnsF w (b && decide (0 < x / Nat.gcd x d)) (words (x / Nat.gcd x d)) (words (d / Nat.gcd x d))) := by
 cases b
 · have hS : St w w [] [(a2, words d), (a1, words x)] [] := ((St.start w).addR ha1.rd).addR ha2.rd
   refine walk_of (l := [(0, .bool false), (1, .slice a1 ((words x).length) ac1), (2, .slice a2 ((words d).length) ac2)]) Try.func81 rfl Try.ntmps81 rfl rfl ?_
   intro Q hret hnorm hP a hA
   refine wp_seq_k (fun K1 hK1 => ?_)
   refine wp_region_lit ?_
   refine seq_new (vs := [.bool false, .slice none 0 0, .slice none 0 0]) (t := 24) hA hS rfl rfl rfl (fun g => .pointer (some ⟨g, 0, none⟩)) (d_alloc (z := .agg #[.bool false, .slice none 0 0, .slice none 0 0]) (by kernel_rfl) rfl) rfl ?_
   intro g2 w3 hS a hA
   refine seq_end ?_
   refine hK1 _ _ ?_
   refine wp_seq_k (fun K4 hK4 => ?_)
   refine wp_region_lit ?_
   refine seq_do hA rfl rfl rfl (d_move rfl) ?_
   intro a hA
   refine seq_do hA rfl rfl rfl (d_move rfl) ?_
   intro a hA
   refine seq_call hA rfl rfl rfl (enters_func  rfl rfl (fun w => by kernel_rfl)) (rdivisor_any ac1 ac2 (hS.rd 1 rfl) (hS.rd 0 rfl) (by omega) (by omega) ha1.cap ha2.cap ha1.nil ha2.nil) ?_
   rintro _ w9 ⟨ro5, rc6, rfl, ho7, hb8⟩
   replace hS := hS.call hb8
   replace hS := hS.addR ho7.rd
   refine ⟨_, rfl, ?_⟩
   intro a hA
   refine seq_do hA rfl rfl rfl (d_assign rfl) ?_
   intro a hA
   refine seq_end ?_
   refine hK4 _ _ ?_
   refine wp_seq_k (fun K10 hK10 => ?_)
   refine wp_region_lit ?_
   refine seq_do hA rfl rfl rfl (d_move rfl) ?_
   intro a hA
   refine seq_do hA rfl rfl rfl (d_move rfl) ?_
   intro a hA
   refine seq_call hA rfl rfl rfl (enters_func  rfl rfl (fun w => by kernel_rfl)) (over_any (x := x) (y := Nat.gcd x d) _ _ (hS.rd 2 rfl) (hS.rd 0 rfl) hx (gcd_len hd0 hd) (gcd_ne hd0)) ?_
   rintro _ w18 ⟨ro11, rc12, uo13, uc14, rfl, ho15, hp16, hb17⟩
   replace hS := hS.call hb17
   replace hS := hS.addR ho15.rd
   replace hS := hS.addR hp16.rd
   refine ⟨_, rfl, ?_⟩
   intro a hA
   refine seq_do hA rfl rfl rfl (d_move rfl) ?_
   intro a hA
   refine seq_do (v := .slice ro11 ((words (x / (Nat.gcd x d))).length) rc12) hA rfl rfl rfl (d_extract (vs := [.slice ro11 ((words (x / (Nat.gcd x d))).length) rc12, .slice uo13 ((words (x % (Nat.gcd x d))).length) uc14]) rfl rfl) ?_
   intro a hA
   refine seq_do (v := .slice uo13 ((words (x % (Nat.gcd x d))).length) uc14) hA rfl rfl rfl (d_extract (vs := [.slice ro11 ((words (x / (Nat.gcd x d))).length) rc12, .slice uo13 ((words (x % (Nat.gcd x d))).length) uc14]) rfl rfl) ?_
   intro a hA
   refine seq_do hA rfl rfl rfl (d_assign rfl) ?_
   intro a hA
   refine seq_do hA rfl rfl rfl (d_assign rfl) ?_
   intro a hA
   refine seq_end ?_
   refine hK10 _ _ ?_
   refine wp_seq_k (fun K19 hK19 => ?_)
   refine wp_region_lit ?_
   refine seq_do hA rfl rfl rfl (d_move rfl) ?_
   intro a hA
   refine seq_do hA rfl rfl rfl (d_move rfl) ?_
   intro a hA
   refine seq_call hA rfl rfl rfl (enters_func  rfl rfl (fun w => by kernel_rfl)) (over_any (x := d) (y := Nat.gcd x d) _ _ (hS.rd 3 rfl) (hS.rd 2 rfl) hd (gcd_len hd0 hd) (gcd_ne hd0)) ?_
   rintro _ w27 ⟨ro20, rc21, uo22, uc23, rfl, ho24, hp25, hb26⟩
   replace hS := hS.call hb26
   replace hS := hS.addR ho24.rd
   replace hS := hS.addR hp25.rd
   refine ⟨_, rfl, ?_⟩
   intro a hA
   refine seq_do hA rfl rfl rfl (d_move rfl) ?_
   intro a hA
   refine seq_do (v := .slice ro20 ((words (d / (Nat.gcd x d))).length) rc21) hA rfl rfl rfl (d_extract (vs := [.slice ro20 ((words (d / (Nat.gcd x d))).length) rc21, .slice uo22 ((words (d % (Nat.gcd x d))).length) uc23]) rfl rfl) ?_
   intro a hA
   refine seq_do (v := .slice uo22 ((words (d % (Nat.gcd x d))).length) uc23) hA rfl rfl rfl (d_extract (vs := [.slice ro20 ((words (d / (Nat.gcd x d))).length) rc21, .slice uo22 ((words (d % (Nat.gcd x d))).length) uc23]) rfl rfl) ?_
   intro a hA
   refine seq_do hA rfl rfl rfl (d_assign rfl) ?_
   intro a hA
   refine seq_do hA rfl rfl rfl (d_assign rfl) ?_
   intro a hA
   refine seq_end ?_
   refine hK19 _ _ ?_
   refine wp_seq_k (fun K28 hK28 => ?_)
   refine wp_region_lit ?_
   refine seq_do hA rfl rfl rfl (d_move rfl) ?_
   intro a hA
   refine seq_do hA rfl rfl rfl (d_move rfl) ?_
   intro a hA
   refine seq_skip hA rfl rfl rfl ?_
   intro a hA
   refine seq_skip hA rfl rfl rfl ?_
   intro a hA
   refine seq_skip hA rfl rfl rfl ?_
   intro a hA
   refine seq_do (v := .bool false) hA rfl rfl rfl (d_pick rfl rfl rfl rfl) ?_
   intro a hA
   refine seq_do hA rfl rfl rfl (d_move rfl) ?_
   intro a hA
   refine seq_do hA rfl rfl rfl (d_move rfl) ?_
   intro a hA
   refine seq_do (v := .agg #[.bool false, .slice ro11 ((words (x / (Nat.gcd x d))).length) rc12, .slice ro20 ((words (d / (Nat.gcd x d))).length) rc21]) hA rfl rfl rfl (d_build rfl (fun w => by kernel_rfl)) ?_
   intro a hA
   refine seq_store (us := [.bool false, .slice ro11 ((words (x / (Nat.gcd x d))).length) rc12, .slice ro20 ((words (d / (Nat.gcd x d))).length) rc21]) hA hS rfl rfl (sets_store rfl rfl rfl (by kernel_rfl) hS 0 rfl rfl rfl) 0 rfl rfl rfl rfl ?_
   intro w29 hS
   refine seq_end ?_
   refine hK28 _ _ ?_
   refine wp_ret ?_
   refine hret _ _ ?_
   refine ends (v := .agg #[.bool false, .slice ro11 ((words (x / (Nat.gcd x d))).length) rc12, .slice ro20 ((words (d / (Nat.gcd x d))).length) rc21]) hA rfl (.cons (res_cell hS BiD_isS_24 rfl 0 rfl (cs := [.bool false, .slice ro11 ((words (x / (Nat.gcd x d))).length) rc12, .slice ro20 ((words (d / (Nat.gcd x d))).length) rc21]) rfl rfl) .nil) rfl ?_
   exact ⟨ro11, rc12, ro20, rc21, rfl, ⟨(hS.rd 3 rfl), ho15.nocap, ho15.caps⟩, ⟨(hS.rd 1 rfl), ho24.nocap, ho24.caps⟩, hS.bel⟩
 · have hS : St w w [] [(a2, words d), (a1, words x)] [] := ((St.start w).addR ha1.rd).addR ha2.rd
   refine walk_of (l := [(0, .bool true), (1, .slice a1 ((words x).length) ac1), (2, .slice a2 ((words d).length) ac2)]) Try.func81 rfl Try.ntmps81 rfl rfl ?_
   intro Q hret hnorm hP a hA
   refine wp_seq_k (fun K1 hK1 => ?_)
   refine wp_region_lit ?_
   refine seq_new (vs := [.bool false, .slice none 0 0, .slice none 0 0]) (t := 24) hA hS rfl rfl rfl (fun g => .pointer (some ⟨g, 0, none⟩)) (d_alloc (z := .agg #[.bool false, .slice none 0 0, .slice none 0 0]) (by kernel_rfl) rfl) rfl ?_
   intro g2 w3 hS a hA
   refine seq_end ?_
   refine hK1 _ _ ?_
   refine wp_seq_k (fun K4 hK4 => ?_)
   refine wp_region_lit ?_
   refine seq_do hA rfl rfl rfl (d_move rfl) ?_
   intro a hA
   refine seq_do hA rfl rfl rfl (d_move rfl) ?_
   intro a hA
   refine seq_call hA rfl rfl rfl (enters_func  rfl rfl (fun w => by kernel_rfl)) (rdivisor_any ac1 ac2 (hS.rd 1 rfl) (hS.rd 0 rfl) (by omega) (by omega) ha1.cap ha2.cap ha1.nil ha2.nil) ?_
   rintro _ w9 ⟨ro5, rc6, rfl, ho7, hb8⟩
   replace hS := hS.call hb8
   replace hS := hS.addR ho7.rd
   refine ⟨_, rfl, ?_⟩
   intro a hA
   refine seq_do hA rfl rfl rfl (d_assign rfl) ?_
   intro a hA
   refine seq_end ?_
   refine hK4 _ _ ?_
   refine wp_seq_k (fun K10 hK10 => ?_)
   refine wp_region_lit ?_
   refine seq_do hA rfl rfl rfl (d_move rfl) ?_
   intro a hA
   refine seq_do hA rfl rfl rfl (d_move rfl) ?_
   intro a hA
   refine seq_call hA rfl rfl rfl (enters_func  rfl rfl (fun w => by kernel_rfl)) (over_any (x := x) (y := Nat.gcd x d) _ _ (hS.rd 2 rfl) (hS.rd 0 rfl) hx (gcd_len hd0 hd) (gcd_ne hd0)) ?_
   rintro _ w18 ⟨ro11, rc12, uo13, uc14, rfl, ho15, hp16, hb17⟩
   replace hS := hS.call hb17
   replace hS := hS.addR ho15.rd
   replace hS := hS.addR hp16.rd
   refine ⟨_, rfl, ?_⟩
   intro a hA
   refine seq_do hA rfl rfl rfl (d_move rfl) ?_
   intro a hA
   refine seq_do (v := .slice ro11 ((words (x / (Nat.gcd x d))).length) rc12) hA rfl rfl rfl (d_extract (vs := [.slice ro11 ((words (x / (Nat.gcd x d))).length) rc12, .slice uo13 ((words (x % (Nat.gcd x d))).length) uc14]) rfl rfl) ?_
   intro a hA
   refine seq_do (v := .slice uo13 ((words (x % (Nat.gcd x d))).length) uc14) hA rfl rfl rfl (d_extract (vs := [.slice ro11 ((words (x / (Nat.gcd x d))).length) rc12, .slice uo13 ((words (x % (Nat.gcd x d))).length) uc14]) rfl rfl) ?_
   intro a hA
   refine seq_do hA rfl rfl rfl (d_assign rfl) ?_
   intro a hA
   refine seq_do hA rfl rfl rfl (d_assign rfl) ?_
   intro a hA
   refine seq_end ?_
   refine hK10 _ _ ?_
   refine wp_seq_k (fun K19 hK19 => ?_)
   refine wp_region_lit ?_
   refine seq_do hA rfl rfl rfl (d_move rfl) ?_
   intro a hA
   refine seq_do hA rfl rfl rfl (d_move rfl) ?_
   intro a hA
   refine seq_call hA rfl rfl rfl (enters_func  rfl rfl (fun w => by kernel_rfl)) (over_any (x := d) (y := Nat.gcd x d) _ _ (hS.rd 3 rfl) (hS.rd 2 rfl) hd (gcd_len hd0 hd) (gcd_ne hd0)) ?_
   rintro _ w27 ⟨ro20, rc21, uo22, uc23, rfl, ho24, hp25, hb26⟩
   replace hS := hS.call hb26
   replace hS := hS.addR ho24.rd
   replace hS := hS.addR hp25.rd
   refine ⟨_, rfl, ?_⟩
   intro a hA
   refine seq_do hA rfl rfl rfl (d_move rfl) ?_
   intro a hA
   refine seq_do (v := .slice ro20 ((words (d / (Nat.gcd x d))).length) rc21) hA rfl rfl rfl (d_extract (vs := [.slice ro20 ((words (d / (Nat.gcd x d))).length) rc21, .slice uo22 ((words (d % (Nat.gcd x d))).length) uc23]) rfl rfl) ?_
   intro a hA
   refine seq_do (v := .slice uo22 ((words (d % (Nat.gcd x d))).length) uc23) hA rfl rfl rfl (d_extract (vs := [.slice ro20 ((words (d / (Nat.gcd x d))).length) rc21, .slice uo22 ((words (d % (Nat.gcd x d))).length) uc23]) rfl rfl) ?_
   intro a hA
   refine seq_do hA rfl rfl rfl (d_assign rfl) ?_
   intro a hA
   refine seq_do hA rfl rfl rfl (d_assign rfl) ?_
   intro a hA
   refine seq_end ?_
   refine hK19 _ _ ?_
   refine wp_seq_k (fun K28 hK28 => ?_)
   refine wp_region_lit ?_
   refine seq_do hA rfl rfl rfl (d_move rfl) ?_
   intro a hA
   refine seq_do hA rfl rfl rfl (d_move rfl) ?_
   intro a hA
   refine seq_do hA rfl rfl rfl (d_move rfl) ?_
   intro a hA
   refine seq_do (v := .int .i64 ((((words (x / (Nat.gcd x d))).length : Nat) : Int))) hA rfl rfl rfl (d_len Try.underlying22 rfl) ?_
   intro a hA
   rcases Bool.eq_false_or_eq_true (decide (0 < (((words (x / (Nat.gcd x d))).length : Nat) : Int))) with hb29 | hb29
   · have hb29' := of_decide_eq_true hb29
     refine seq_do (v := .bool true) hA rfl rfl rfl (d_bin rfl rfl (fun w => (bin_gtr w).trans (by rw [hb29]))) ?_
     intro a hA
     refine seq_do (v := .bool true) hA rfl rfl rfl (d_pick rfl rfl rfl rfl) ?_
     intro a hA
     refine seq_do hA rfl rfl rfl (d_move rfl) ?_
     intro a hA
     refine seq_do hA rfl rfl rfl (d_move rfl) ?_
     intro a hA
     refine seq_do (v := .agg #[.bool true, .slice ro11 ((words (x / (Nat.gcd x d))).length) rc12, .slice ro20 ((words (d / (Nat.gcd x d))).length) rc21]) hA rfl rfl rfl (d_build rfl (fun w => by kernel_rfl)) ?_
     intro a hA
     refine seq_store (us := [.bool true, .slice ro11 ((words (x / (Nat.gcd x d))).length) rc12, .slice ro20 ((words (d / (Nat.gcd x d))).length) rc21]) hA hS rfl rfl (sets_store rfl rfl rfl (by kernel_rfl) hS 0 rfl rfl rfl) 0 rfl rfl rfl rfl ?_
     intro w30 hS
     refine seq_end ?_
     refine hK28 _ _ ?_
     refine wp_ret ?_
     refine hret _ _ ?_
     refine ends (v := .agg #[.bool true, .slice ro11 ((words (x / (Nat.gcd x d))).length) rc12, .slice ro20 ((words (d / (Nat.gcd x d))).length) rc21]) hA rfl (.cons (res_cell hS BiD_isS_24 rfl 0 rfl (cs := [.bool true, .slice ro11 ((words (x / (Nat.gcd x d))).length) rc12, .slice ro20 ((words (d / (Nat.gcd x d))).length) rc21]) rfl rfl) .nil) rfl ?_
     rw [show decide (0 < x / Nat.gcd x d) = true from decide_eq_true (by have := words_pos_len (x / Nat.gcd x d); omega)]
     exact ⟨ro11, rc12, ro20, rc21, rfl, ⟨(hS.rd 3 rfl), ho15.nocap, ho15.caps⟩, ⟨(hS.rd 1 rfl), ho24.nocap, ho24.caps⟩, hS.bel⟩
   · have hb29' := of_decide_eq_false hb29
     refine seq_do (v := .bool false) hA rfl rfl rfl (d_bin rfl rfl (fun w => (bin_gtr w).trans (by rw [hb29]))) ?_
     intro a hA
     refine seq_do (v := .bool false) hA rfl rfl rfl (d_pick rfl rfl rfl rfl) ?_
     intro a hA
     refine seq_do hA rfl rfl rfl (d_move rfl) ?_
     intro a hA
     refine seq_do hA rfl rfl rfl (d_move rfl) ?_
     intro a hA
     refine seq_do (v := .agg #[.bool false, .slice ro11 ((words (x / (Nat.gcd x d))).length) rc12, .slice ro20 ((words (d / (Nat.gcd x d))).length) rc21]) hA rfl rfl rfl (d_build rfl (fun w => by kernel_rfl)) ?_
     intro a hA
     refine seq_store (us := [.bool false, .slice ro11 ((words (x / (Nat.gcd x d))).length) rc12, .slice ro20 ((words (d / (Nat.gcd x d))).length) rc21]) hA hS rfl rfl (sets_store rfl rfl rfl (by kernel_rfl) hS 0 rfl rfl rfl) 0 rfl rfl rfl rfl ?_
     intro w31 hS
     refine seq_end ?_
     refine hK28 _ _ ?_
     refine wp_ret ?_
     refine hret _ _ ?_
     refine ends (v := .agg #[.bool false, .slice ro11 ((words (x / (Nat.gcd x d))).length) rc12, .slice ro20 ((words (d / (Nat.gcd x d))).length) rc21]) hA rfl (.cons (res_cell hS BiD_isS_24 rfl 0 rfl (cs := [.bool false, .slice ro11 ((words (x / (Nat.gcd x d))).length) rc12, .slice ro20 ((words (d / (Nat.gcd x d))).length) rc21]) rfl rfl) .nil) rfl ?_
     rw [show decide (0 < x / Nat.gcd x d) = false from decide_eq_false (by have := words_pos_len (x / Nat.gcd x d); omega)]
     exact ⟨ro11, rc12, ro20, rc21, rfl, ⟨(hS.rd 3 rfl), ho15.nocap, ho15.caps⟩, ⟨(hS.rd 1 rfl), ho24.nocap, ho24.caps⟩, hS.bel⟩
theorem rratI_any {w : World} (b : Bool) {x d : Nat} {a1 a2 : Option Addr} {ac1 ac2 : Nat} (ha1 : Sc w a1 ac1 (words x)) (ha2 : Sc w a2 ac2 (words d)) (hx : (words x).length ≤ 9000) (hd : (words d).length ≤ 9000) (hd0 : d ≠ 0) {z : Int} (hz : z = sgn b x) : Calls Try.prog 81 #[.bool b, .slice a1 (words x).length ac1, .slice a2 (words d).length ac2] w (AnsF w (rb z) (words (rt z d)) (words (rq z d))) := by
  subst hz
  have h := rrat_any b ha1 ha2 hx hd hd0
  rw [rb_sgn b x d hd0]
  unfold rt rq
  rw [sgn_abs]
  exact h
theorem rsum_any {w : World} {b1 b2 : Bool} {x1 y1 x2 y2 : Nat} {a1 a2 : Option Addr} {ac1 ac2 : Nat} (ha1 : Sc w a1 ac1 (words x1)) (ha2 : Sc w a2 ac2 (words y1)) {u1 u2 : Option Addr} {uc1 uc2 : Nat} (hu1 : Sc w u1 uc1 (words x2)) (hu2 : Sc w u2 uc2 (words y2)) (hx1 : (words x1).length ≤ 4000) (hy1 : (words y1).length ≤ 4000) (hx2 : (words x2).length ≤ 4000) (hy2 : (words y2).length ≤ 4000) (h01 : y1 ≠ 0) (h02 : y2 ≠ 0) :
    Calls Try.prog 57 #[.agg #[.bool b1, .slice a1 (words x1).length ac1, .slice a2 (words y1).length ac2], .agg #[.bool b2, .slice u1 (words x2).length uc1, .slice u2 (words y2).length uc2]] w (AnsF w (rb (sgn b1 x1 * (y2 : Int) + sgn b2 x2 * (y1 : Int))) (words (rt (sgn b1 x1 * (y2 : Int) + sgn b2 x2 * (y1 : Int)) (y1 * y2))) (words (rq (sgn b1 x1 * (y2 : Int) + sgn b2 x2 * (y1 : Int)) (y1 * y2)))) := by
 have k1 := words_mul_length (x := x1) (y := y2) (k := 4000) (m := 4000) hx1 hy2
 have k2 := words_mul_length (x := x2) (y := y1) (k := 4000) (m := 4000) hx2 hy1
 have k3 := words_mul_length (x := y1) (y := y2) (k := 4000) (m := 4000) hy1 hy2
 have k4 := words_add_length (x := x1 * y2) (y := x2 * y1) (k := 8000) k1 k2
 have k5 := words_mono (Nat.sub_le (x1 * y2) (x2 * y1))
 have k6 := words_mono (Nat.sub_le (x2 * y1) (x1 * y2))
 have hd0 : y1 * y2 ≠ 0 := Nat.mul_ne_zero h01 h02
 generalize hZ : sgn b1 x1 * (y2 : Int) + sgn b2 x2 * (y1 : Int) = Z
 rw [sgn_scale, sgn_scale] at hZ
 cases b1 <;> cases b2
 · have hzS : Z = sgn false (x1 * y2 + x2 * y1) := by rw [← hZ]; exact sum_same false _ _
   have hS : St w w [] [(u2, words y2), (u1, words x2), (a2, words y1), (a1, words x1)] [] := ((((St.start w).addR ha1.rd).addR ha2.rd).addR hu1.rd).addR hu2.rd
   refine walk_of (l := [(0, .agg #[.bool false, .slice a1 ((words x1).length) ac1, .slice a2 ((words y1).length) ac2]), (1, .agg #[.bool false, .slice u1 ((words x2).length) uc1, .slice u2 ((words y2).length) uc2])]) Try.func57 rfl Try.ntmps57 rfl rfl ?_
   intro Q hret hnorm hP a hA
   refine wp_seq_k (fun K1 hK1 => ?_)
   refine wp_region_lit ?_
   refine seq_new hA hS rfl rfl rfl (fun g => .pointer (some ⟨g, 0, none⟩)) (d_box rfl rfl) rfl ?_
   intro g2 w3 hS a hA
   refine seq_new hA hS rfl rfl rfl (fun g => .pointer (some ⟨g, 0, none⟩)) (d_box rfl rfl) rfl ?_
   intro g4 w5 hS a hA
   refine seq_new (vs := [.bool false, .slice none 0 0, .slice none 0 0]) (t := 24) hA hS rfl rfl rfl (fun g => .pointer (some ⟨g, 0, none⟩)) (d_alloc (z := .agg #[.bool false, .slice none 0 0, .slice none 0 0]) (by kernel_rfl) rfl) rfl ?_
   intro g6 w7 hS a hA
   refine seq_end ?_
   refine hK1 _ _ ?_
   refine wp_seq_k (fun K8 hK8 => ?_)
   refine wp_draw (S := fun w1 => St w w1 [(g6, [.bool false, .slice none 0 0, .slice none 0 0]), (g4, [.bool false, .slice u1 ((words x2).length) uc1, .slice u2 ((words y2).length) uc2]), (g2, [.bool false, .slice a1 ((words x1).length) ac1, .slice a2 ((words y1).length) ac2])] [(u2, words y2), (u1, words x2), (a2, words y1), (a1, words x1)] []) (by kernel_rfl) ?_
   replace hS := hS.drew
   refine any_tk (v := .pointer (some ⟨g2, 1, none⟩)) hA 0 rfl rfl rfl rfl hP hS (fun w1 hS => d_field BiD_fld_24_1 rfl rfl) ?_
   intro a hA
   refine any_tk hA 1 rfl rfl rfl rfl hP hS (fun w1 hS => d_load1 hS BiD_is1_22 rfl 2 rfl rfl) ?_
   intro a hA
   refine any_tk (v := .pointer (some ⟨g4, 2, none⟩)) hA 2 rfl rfl rfl rfl hP hS (fun w1 hS => d_field BiD_fld_24_2 rfl rfl) ?_
   intro a hA
   refine any_tk hA 3 rfl rfl rfl rfl hP hS (fun w1 hS => d_load1 hS BiD_is1_22 rfl 1 rfl rfl) ?_
   intro a hA
   refine any_tk (v := .pointer (some ⟨g4, 1, none⟩)) hA 5 rfl rfl rfl rfl hP hS (fun w1 hS => d_field BiD_fld_24_1 rfl rfl) ?_
   intro a hA
   refine any_tk hA 6 rfl rfl rfl rfl hP hS (fun w1 hS => d_load1 hS BiD_is1_22 rfl 1 rfl rfl) ?_
   intro a hA
   refine any_tk (v := .pointer (some ⟨g2, 2, none⟩)) hA 7 rfl rfl rfl rfl hP hS (fun w1 hS => d_field BiD_fld_24_2 rfl rfl) ?_
   intro a hA
   refine any_tk hA 8 rfl rfl rfl rfl hP hS (fun w1 hS => d_load1 hS BiD_is1_22 rfl 2 rfl rfl) ?_
   intro a hA
   refine any_one (by kernel_rfl) (op_call hA 4 rfl rfl rfl rfl (enters_func  rfl rfl (fun w => by kernel_rfl)) (rtimes_any _ _ (hS.rd 3 rfl) (hS.rd 0 rfl) (by omega) (by omega)) ?_)
   rintro _ w13 ⟨ro9, rc10, rfl, ho11, hb12⟩
   replace hS := hS.call hb12
   replace hS := hS.addR ho11.rd
   refine ⟨_, rfl, (hS.partD (.refl _) 1 rfl (.refl _)), ?_⟩
   intro a hA
   refine any_one (by kernel_rfl) (op_call hA 9 rfl rfl rfl rfl (enters_func  rfl rfl (fun w => by kernel_rfl)) (rtimes_any _ _ (hS.rd 2 rfl) (hS.rd 3 rfl) (by omega) (by omega)) ?_)
   rintro _ w18 ⟨ro14, rc15, rfl, ho16, hb17⟩
   replace hS := hS.call hb17
   replace hS := hS.addR ho16.rd
   refine ⟨_, rfl, (hS.partD (.refl _) 2 rfl (.refl _)), ?_⟩
   intro a hA
   refine any_tk hA 10 rfl rfl rfl rfl hP (hS.partD (.refl _) 2 rfl (.refl _)) (fun w1 hS => d_assign rfl) ?_
   intro a hA
   refine any_tk hA 11 rfl rfl rfl rfl hP (hS.partD (.refl _) 2 rfl (.refl _)) (fun w1 hS => d_assign rfl) ?_
   intro a hA
   refine any_end (by kernel_rfl) ?_
   refine hK8 _ _ ?_
   refine wp_seq_k (fun K19 hK19 => ?_)
   refine wp_region_lit ?_
   refine seq_do (v := .pointer (some ⟨g2, 2, none⟩)) hA rfl rfl rfl (d_field BiD_fld_24_2 rfl rfl) ?_
   intro a hA
   refine seq_do hA rfl rfl rfl (d_load1 hS BiD_is1_22 rfl 2 rfl rfl) ?_
   intro a hA
   refine seq_do (v := .pointer (some ⟨g4, 2, none⟩)) hA rfl rfl rfl (d_field BiD_fld_24_2 rfl rfl) ?_
   intro a hA
   refine seq_do hA rfl rfl rfl (d_load1 hS BiD_is1_22 rfl 1 rfl rfl) ?_
   intro a hA
   refine seq_call hA rfl rfl rfl (enters_func  rfl rfl (fun w => by kernel_rfl)) (rtimes_any _ _ (hS.rd 4 rfl) (hS.rd 2 rfl) (by omega) (by omega)) ?_
   rintro _ w24 ⟨ro20, rc21, rfl, ho22, hb23⟩
   replace hS := hS.call hb23
   replace hS := hS.addR ho22.rd
   refine ⟨_, rfl, ?_⟩
   intro a hA
   refine seq_do hA rfl rfl rfl (d_assign rfl) ?_
   intro a hA
   refine seq_end ?_
   refine hK19 _ _ ?_
   refine wp_seq_k (fun K25 hK25 => ?_)
   refine wp_seq_k (fun K26 hK26 => ?_)
   refine wp_region_lit ?_
   refine seq_do (v := .pointer (some ⟨g2, 0, none⟩)) hA rfl rfl rfl (d_field BiD_fld_24_0 rfl rfl) ?_
   intro a hA
   refine seq_do hA rfl rfl rfl (d_load1 hS BiD_is1_4 rfl 2 rfl rfl) ?_
   intro a hA
   refine seq_do (v := .pointer (some ⟨g4, 0, none⟩)) hA rfl rfl rfl (d_field BiD_fld_24_0 rfl rfl) ?_
   intro a hA
   refine seq_do hA rfl rfl rfl (d_load1 hS BiD_is1_4 rfl 1 rfl rfl) ?_
   intro a hA
   refine seq_do (v := .bool true) hA rfl rfl rfl (d_bin rfl rfl (bin_eqlB Try.underlying4)) ?_
   intro a hA
   refine seq_end ?_
   refine hK26 _ _ ?_
   refine wp_cond_true (hA.ev rfl) ?_
   refine wp_seq_k (fun K27 hK27 => ?_)
   refine wp_draw (S := fun w1 => St w w1 [(g4, [.bool false, .slice u1 ((words x2).length) uc1, .slice u2 ((words y2).length) uc2]), (g2, [.bool false, .slice a1 ((words x1).length) ac1, .slice a2 ((words y1).length) ac2])] [(ro20, words (y1 * y2)), (ro14, words (x2 * y1)), (ro9, words (x1 * y2)), (u2, words y2), (u1, words x2), (a2, words y1), (a1, words x1)] []) (by kernel_rfl) ?_
   replace hS := hS.drew
   refine any_tk (v := .pointer (some ⟨g2, 0, none⟩)) hA 0 rfl rfl rfl rfl hP (hS.partD (.cons _ (.cons_cons _ (.cons_cons _ .slnil))) 0 rfl (.refl _)) (fun w1 hS => d_field BiD_fld_24_0 rfl rfl) ?_
   intro a hA
   refine any_tk hA 1 rfl rfl rfl rfl hP (hS.partD (.cons _ (.cons_cons _ (.cons_cons _ .slnil))) 0 rfl (.refl _)) (fun w1 hS => d_load1 hS BiD_is1_4 rfl 1 rfl rfl) ?_
   intro a hA
   refine any_tk hA 2 rfl rfl rfl rfl hP (hS.partD (.cons _ (.cons_cons _ (.cons_cons _ .slnil))) 0 rfl (.refl _)) (fun w1 hS => d_move rfl) ?_
   intro a hA
   refine any_tk hA 3 rfl rfl rfl rfl hP (hS.partD (.cons _ (.cons_cons _ (.cons_cons _ .slnil))) 0 rfl (.refl _)) (fun w1 hS => d_move rfl) ?_
   intro a hA
   refine any_tk hA 5 rfl rfl rfl rfl hP (hS.partD (.cons _ (.cons_cons _ (.cons_cons _ .slnil))) 0 rfl (.refl _)) (fun w1 hS => d_move rfl) ?_
   intro a hA
   refine any_one (by kernel_rfl) (op_call hA 4 rfl rfl rfl rfl (enters_func  rfl rfl (fun w => by kernel_rfl)) (plus_any _ _ (hS.rd 2 rfl) (hS.rd 1 rfl) (by omega) (by omega)) ?_)
   rintro _ w32 ⟨ro28, rc29, rfl, ho30, hb31⟩
   replace hS := hS.call hb31
   replace hS := hS.addR ho30.rd
   refine ⟨_, rfl, (hS.partD (.cons _ (.cons_cons _ (.cons_cons _ .slnil))) 1 rfl (.refl _)), ?_⟩
   intro a hA
   refine any_one (by kernel_rfl) (op_call hA 6 rfl rfl rfl rfl (enters_func  rfl rfl (fun w => by kernel_rfl)) (rratI_any false ⟨(hS.rd 0 rfl), ho30.nocap, ho30.caps⟩ ⟨(hS.rd 1 rfl), ho22.nocap, ho22.caps⟩ (by omega) (by omega) hd0 (z := Z) hzS) ?_)
   rintro _ w37 ⟨f33_1, f33_c1, f33_2, f33_c2, rfl, hs34, hs35, hb36⟩
   replace hS := hS.call hb36
   replace hS := hS.addR hs34.rd
   replace hS := hS.addR hs35.rd
   refine ⟨_, rfl, (hS.partD (.cons _ (.cons_cons _ (.cons_cons _ .slnil))) 3 rfl (.refl _)), ?_⟩
   intro a hA
   refine any_one (by kernel_rfl) (op_store (us := [.bool (rb Z), .slice f33_1 ((words (rt Z (y1 * y2))).length) f33_c1, .slice f33_2 ((words (rq Z (y1 * y2))).length) f33_c2]) hA hS 7 rfl rfl rfl (sets_store rfl rfl rfl (by kernel_rfl) hS 0 rfl rfl rfl) 0 rfl rfl rfl rfl ?_)
   intro w38 hS
   refine ⟨(hS.partD (.cons _ (.cons_cons _ (.cons_cons _ .slnil))) 3 rfl (.refl _)), ?_⟩
   refine any_end (by kernel_rfl) ?_
   refine hK27 _ _ ?_
   refine wp_ret ?_
   refine hret _ _ ?_
   refine ends (v := .agg #[.bool (rb Z), .slice f33_1 ((words (rt Z (y1 * y2))).length) f33_c1, .slice f33_2 ((words (rq Z (y1 * y2))).length) f33_c2]) hA rfl (.cons (res_cell hS BiD_isS_24 rfl 0 rfl (cs := [.bool (rb Z), .slice f33_1 ((words (rt Z (y1 * y2))).length) f33_c1, .slice f33_2 ((words (rq Z (y1 * y2))).length) f33_c2]) rfl rfl) .nil) rfl ?_
   exact ⟨f33_1, f33_c1, f33_2, f33_c2, rfl, ⟨(hS.rd 1 rfl), hs34.nil, hs34.cap⟩, ⟨(hS.rd 0 rfl), hs35.nil, hs35.cap⟩, hS.bel⟩
 · have hzD1 : x2 * y1 ≤ x1 * y2 → Z = sgn false (x1 * y2 - x2 * y1) := fun h => by rw [← hZ]; exact sum_more false h
   have hzD2 : ¬ x2 * y1 ≤ x1 * y2 → Z = sgn true (x2 * y1 - x1 * y2) := fun h => by rw [← hZ, Int.add_comm]; exact sum_more true (by omega)
   have hS : St w w [] [(u2, words y2), (u1, words x2), (a2, words y1), (a1, words x1)] [] := ((((St.start w).addR ha1.rd).addR ha2.rd).addR hu1.rd).addR hu2.rd
   refine walk_of (l := [(0, .agg #[.bool false, .slice a1 ((words x1).length) ac1, .slice a2 ((words y1).length) ac2]), (1, .agg #[.bool true, .slice u1 ((words x2).length) uc1, .slice u2 ((words y2).length) uc2])]) Try.func57 rfl Try.ntmps57 rfl rfl ?_
   intro Q hret hnorm hP a hA
   refine wp_seq_k (fun K1 hK1 => ?_)
   refine wp_region_lit ?_
   refine seq_new hA hS rfl rfl rfl (fun g => .pointer (some ⟨g, 0, none⟩)) (d_box rfl rfl) rfl ?_
   intro g2 w3 hS a hA
   refine seq_new hA hS rfl rfl rfl (fun g => .pointer (some ⟨g, 0, none⟩)) (d_box rfl rfl) rfl ?_
   intro g4 w5 hS a hA
   refine seq_new (vs := [.bool false, .slice none 0 0, .slice none 0 0]) (t := 24) hA hS rfl rfl rfl (fun g => .pointer (some ⟨g, 0, none⟩)) (d_alloc (z := .agg #[.bool false, .slice none 0 0, .slice none 0 0]) (by kernel_rfl) rfl) rfl ?_
   intro g6 w7 hS a hA
   refine seq_end ?_
   refine hK1 _ _ ?_
   refine wp_seq_k (fun K8 hK8 => ?_)
   refine wp_draw (S := fun w1 => St w w1 [(g6, [.bool false, .slice none 0 0, .slice none 0 0]), (g4, [.bool true, .slice u1 ((words x2).length) uc1, .slice u2 ((words y2).length) uc2]), (g2, [.bool false, .slice a1 ((words x1).length) ac1, .slice a2 ((words y1).length) ac2])] [(u2, words y2), (u1, words x2), (a2, words y1), (a1, words x1)] []) (by kernel_rfl) ?_
   replace hS := hS.drew
   refine any_tk (v := .pointer (some ⟨g2, 1, none⟩)) hA 0 rfl rfl rfl rfl hP hS (fun w1 hS => d_field BiD_fld_24_1 rfl rfl) ?_
   intro a hA
   refine any_tk hA 1 rfl rfl rfl rfl hP hS (fun w1 hS => d_load1 hS BiD_is1_22 rfl 2 rfl rfl) ?_
   intro a hA
   refine any_tk (v := .pointer (some ⟨g4, 2, none⟩)) hA 2 rfl rfl rfl rfl hP hS (fun w1 hS => d_field BiD_fld_24_2 rfl rfl) ?_
   intro a hA
   refine any_tk hA 3 rfl rfl rfl rfl hP hS (fun w1 hS => d_load1 hS BiD_is1_22 rfl 1 rfl rfl) ?_
   intro a hA
   refine any_tk (v := .pointer (some ⟨g4, 1, none⟩)) hA 5 rfl rfl rfl rfl hP hS (fun w1 hS => d_field BiD_fld_24_1 rfl rfl) ?_
   intro a hA
   refine any_tk hA 6 rfl rfl rfl rfl hP hS (fun w1 hS => d_load1 hS BiD_is1_22 rfl 1 rfl rfl) ?_
   intro a hA
   refine any_tk (v := .pointer (some ⟨g2, 2, none⟩)) hA 7 rfl rfl rfl rfl hP hS (fun w1 hS => d_field BiD_fld_24_2 rfl rfl) ?_
   intro a hA
   refine any_tk hA 8 rfl rfl rfl rfl hP hS (fun w1 hS => d_load1 hS BiD_is1_22 rfl 2 rfl rfl) ?_
   intro a hA
   refine any_one (by kernel_rfl) (op_call hA 4 rfl rfl rfl rfl (enters_func  rfl rfl (fun w => by kernel_rfl)) (rtimes_any _ _ (hS.rd 3 rfl) (hS.rd 0 rfl) (by omega) (by omega)) ?_)
   rintro _ w13 ⟨ro9, rc10, rfl, ho11, hb12⟩
   replace hS := hS.call hb12
   replace hS := hS.addR ho11.rd
   refine ⟨_, rfl, (hS.partD (.refl _) 1 rfl (.refl _)), ?_⟩
   intro a hA
   refine any_one (by kernel_rfl) (op_call hA 9 rfl rfl rfl rfl (enters_func  rfl rfl (fun w => by kernel_rfl)) (rtimes_any _ _ (hS.rd 2 rfl) (hS.rd 3 rfl) (by omega) (by omega)) ?_)
   rintro _ w18 ⟨ro14, rc15, rfl, ho16, hb17⟩
   replace hS := hS.call hb17
   replace hS := hS.addR ho16.rd
   refine ⟨_, rfl, (hS.partD (.refl _) 2 rfl (.refl _)), ?_⟩
   intro a hA
   refine any_tk hA 10 rfl rfl rfl rfl hP (hS.partD (.refl _) 2 rfl (.refl _)) (fun w1 hS => d_assign rfl) ?_
   intro a hA
   refine any_tk hA 11 rfl rfl rfl rfl hP (hS.partD (.refl _) 2 rfl (.refl _)) (fun w1 hS => d_assign rfl) ?_
   intro a hA
   refine any_end (by kernel_rfl) ?_
   refine hK8 _ _ ?_
   refine wp_seq_k (fun K19 hK19 => ?_)
   refine wp_region_lit ?_
   refine seq_do (v := .pointer (some ⟨g2, 2, none⟩)) hA rfl rfl rfl (d_field BiD_fld_24_2 rfl rfl) ?_
   intro a hA
   refine seq_do hA rfl rfl rfl (d_load1 hS BiD_is1_22 rfl 2 rfl rfl) ?_
   intro a hA
   refine seq_do (v := .pointer (some ⟨g4, 2, none⟩)) hA rfl rfl rfl (d_field BiD_fld_24_2 rfl rfl) ?_
   intro a hA
   refine seq_do hA rfl rfl rfl (d_load1 hS BiD_is1_22 rfl 1 rfl rfl) ?_
   intro a hA
   refine seq_call hA rfl rfl rfl (enters_func  rfl rfl (fun w => by kernel_rfl)) (rtimes_any _ _ (hS.rd 4 rfl) (hS.rd 2 rfl) (by omega) (by omega)) ?_
   rintro _ w24 ⟨ro20, rc21, rfl, ho22, hb23⟩
   replace hS := hS.call hb23
   replace hS := hS.addR ho22.rd
   refine ⟨_, rfl, ?_⟩
   intro a hA
   refine seq_do hA rfl rfl rfl (d_assign rfl) ?_
   intro a hA
   refine seq_end ?_
   refine hK19 _ _ ?_
   refine wp_seq_k (fun K25 hK25 => ?_)
   refine wp_seq_k (fun K26 hK26 => ?_)
   refine wp_region_lit ?_
   refine seq_do (v := .pointer (some ⟨g2, 0, none⟩)) hA rfl rfl rfl (d_field BiD_fld_24_0 rfl rfl) ?_
   intro a hA
   refine seq_do hA rfl rfl rfl (d_load1 hS BiD_is1_4 rfl 2 rfl rfl) ?_
   intro a hA
   refine seq_do (v := .pointer (some ⟨g4, 0, none⟩)) hA rfl rfl rfl (d_field BiD_fld_24_0 rfl rfl) ?_
   intro a hA
   refine seq_do hA rfl rfl rfl (d_load1 hS BiD_is1_4 rfl 1 rfl rfl) ?_
   intro a hA
   refine seq_do (v := .bool false) hA rfl rfl rfl (d_bin rfl rfl (bin_eqlB Try.underlying4)) ?_
   intro a hA
   refine seq_end ?_
   refine hK26 _ _ ?_
   refine wp_cond_false (hA.ev rfl) ?_
   refine wp_skip ?_
   refine hK25 _ _ ?_
   refine wp_seq_k (fun K27 hK27 => ?_)
   refine wp_seq_k (fun K28 hK28 => ?_)
   refine wp_region_lit ?_
   refine seq_do hA rfl rfl rfl (d_move rfl) ?_
   intro a hA
   refine seq_do hA rfl rfl rfl (d_move rfl) ?_
   intro a hA
   rcases Bool.eq_false_or_eq_true (decide (x2 * y1 ≤ x1 * y2)) with hb29 | hb29
   · have hb29' := of_decide_eq_true hb29
     refine seq_call hA rfl rfl rfl (enters_func  rfl rfl (fun w => by kernel_rfl)) (rorder_any _ _ (hS.rd 2 rfl) (hS.rd 1 rfl) (by omega) (by omega)) ?_
     rintro _ w31 ⟨rfl, hb30⟩
     replace hS := hS.call hb30
     refine ⟨_, rfl, ?_⟩
     intro a hA
     refine seq_do (v := .bool true) hA rfl rfl rfl (d_bin rfl rfl (fun w => (bin_geq w).trans (by rw [show (decide (0 ≤ cmpN (x1 * y2) (x2 * y1))) = true from (by have h9 := of_decide_eq_true hb29; apply decide_eq_true; unfold cmpN; split <;> (try split) <;> omega)]))) ?_
     intro a hA
     refine seq_end ?_
     refine hK28 _ _ ?_
     refine wp_cond_true (hA.ev rfl) ?_
     refine wp_seq_k (fun K32 hK32 => ?_)
     refine wp_draw (S := fun w1 => St w w1 [(g4, [.bool true, .slice u1 ((words x2).length) uc1, .slice u2 ((words y2).length) uc2]), (g2, [.bool false, .slice a1 ((words x1).length) ac1, .slice a2 ((words y1).length) ac2])] [(ro20, words (y1 * y2)), (ro14, words (x2 * y1)), (ro9, words (x1 * y2)), (u2, words y2), (u1, words x2), (a2, words y1), (a1, words x1)] []) (by kernel_rfl) ?_
     replace hS := hS.drew
     refine any_tk (v := .pointer (some ⟨g2, 0, none⟩)) hA 0 rfl rfl rfl rfl hP (hS.partD (.cons _ (.cons_cons _ (.cons_cons _ .slnil))) 0 rfl (.refl _)) (fun w1 hS => d_field BiD_fld_24_0 rfl rfl) ?_
     intro a hA
     refine any_tk hA 1 rfl rfl rfl rfl hP (hS.partD (.cons _ (.cons_cons _ (.cons_cons _ .slnil))) 0 rfl (.refl _)) (fun w1 hS => d_load1 hS BiD_is1_4 rfl 1 rfl rfl) ?_
     intro a hA
     refine any_tk hA 2 rfl rfl rfl rfl hP (hS.partD (.cons _ (.cons_cons _ (.cons_cons _ .slnil))) 0 rfl (.refl _)) (fun w1 hS => d_move rfl) ?_
     intro a hA
     refine any_tk hA 3 rfl rfl rfl rfl hP (hS.partD (.cons _ (.cons_cons _ (.cons_cons _ .slnil))) 0 rfl (.refl _)) (fun w1 hS => d_move rfl) ?_
     intro a hA
     refine any_tk hA 5 rfl rfl rfl rfl hP (hS.partD (.cons _ (.cons_cons _ (.cons_cons _ .slnil))) 0 rfl (.refl _)) (fun w1 hS => d_move rfl) ?_
     intro a hA
     refine any_one (by kernel_rfl) (op_call hA 4 rfl rfl rfl rfl (enters_func  rfl rfl (fun w => by kernel_rfl)) (rless_any _ _ (hS.rd 2 rfl) (hS.rd 1 rfl) (by omega) (by omega)) ?_)
     rintro _ w37 ⟨ro33, rc34, rfl, ho35, hb36⟩
     replace hS := hS.call hb36
     replace hS := hS.addR ho35.rd
     refine ⟨_, rfl, (hS.partD (.cons _ (.cons_cons _ (.cons_cons _ .slnil))) 1 rfl (.refl _)), ?_⟩
     intro a hA
     refine any_one (by kernel_rfl) (op_call hA 6 rfl rfl rfl rfl (enters_func  rfl rfl (fun w => by kernel_rfl)) (rratI_any false ⟨(hS.rd 0 rfl), ho35.nocap, ho35.caps⟩ ⟨(hS.rd 1 rfl), ho22.nocap, ho22.caps⟩ (by omega) (by omega) hd0 (z := Z) (hzD1 (of_decide_eq_true hb29))) ?_)
     rintro _ w42 ⟨f38_1, f38_c1, f38_2, f38_c2, rfl, hs39, hs40, hb41⟩
     replace hS := hS.call hb41
     replace hS := hS.addR hs39.rd
     replace hS := hS.addR hs40.rd
     refine ⟨_, rfl, (hS.partD (.cons _ (.cons_cons _ (.cons_cons _ .slnil))) 3 rfl (.refl _)), ?_⟩
     intro a hA
     refine any_one (by kernel_rfl) (op_store (us := [.bool (rb Z), .slice f38_1 ((words (rt Z (y1 * y2))).length) f38_c1, .slice f38_2 ((words (rq Z (y1 * y2))).length) f38_c2]) hA hS 7 rfl rfl rfl (sets_store rfl rfl rfl (by kernel_rfl) hS 0 rfl rfl rfl) 0 rfl rfl rfl rfl ?_)
     intro w43 hS
     refine ⟨(hS.partD (.cons _ (.cons_cons _ (.cons_cons _ .slnil))) 3 rfl (.refl _)), ?_⟩
     refine any_end (by kernel_rfl) ?_
     refine hK32 _ _ ?_
     refine wp_ret ?_
     refine hret _ _ ?_
     refine ends (v := .agg #[.bool (rb Z), .slice f38_1 ((words (rt Z (y1 * y2))).length) f38_c1, .slice f38_2 ((words (rq Z (y1 * y2))).length) f38_c2]) hA rfl (.cons (res_cell hS BiD_isS_24 rfl 0 rfl (cs := [.bool (rb Z), .slice f38_1 ((words (rt Z (y1 * y2))).length) f38_c1, .slice f38_2 ((words (rq Z (y1 * y2))).length) f38_c2]) rfl rfl) .nil) rfl ?_
     exact ⟨f38_1, f38_c1, f38_2, f38_c2, rfl, ⟨(hS.rd 1 rfl), hs39.nil, hs39.cap⟩, ⟨(hS.rd 0 rfl), hs40.nil, hs40.cap⟩, hS.bel⟩
   · have hb29' := of_decide_eq_false hb29
     refine seq_call hA rfl rfl rfl (enters_func  rfl rfl (fun w => by kernel_rfl)) (rorder_any _ _ (hS.rd 2 rfl) (hS.rd 1 rfl) (by omega) (by omega)) ?_
     rintro _ w45 ⟨rfl, hb44⟩
     replace hS := hS.call hb44
     refine ⟨_, rfl, ?_⟩
     intro a hA
     refine seq_do (v := .bool false) hA rfl rfl rfl (d_bin rfl rfl (fun w => (bin_geq w).trans (by rw [show (decide (0 ≤ cmpN (x1 * y2) (x2 * y1))) = false from (by have h9 := of_decide_eq_false hb29; apply decide_eq_false; unfold cmpN; split <;> (try split) <;> omega)]))) ?_
     intro a hA
     refine seq_end ?_
     refine hK28 _ _ ?_
     refine wp_cond_false (hA.ev rfl) ?_
     refine wp_skip ?_
     refine hK27 _ _ ?_
     refine wp_seq_k (fun K46 hK46 => ?_)
     refine wp_draw (S := fun w1 => St w w1 [(g4, [.bool true, .slice u1 ((words x2).length) uc1, .slice u2 ((words y2).length) uc2]), (g2, [.bool false, .slice a1 ((words x1).length) ac1, .slice a2 ((words y1).length) ac2])] [(ro20, words (y1 * y2)), (ro14, words (x2 * y1)), (ro9, words (x1 * y2)), (u2, words y2), (u1, words x2), (a2, words y1), (a1, words x1)] []) (by kernel_rfl) ?_
     replace hS := hS.drew
     refine any_tk (v := .pointer (some ⟨g4, 0, none⟩)) hA 0 rfl rfl rfl rfl hP (hS.partD (.cons _ (.cons_cons _ (.cons_cons _ .slnil))) 0 rfl (.refl _)) (fun w1 hS => d_field BiD_fld_24_0 rfl rfl) ?_
     intro a hA
     refine any_tk hA 1 rfl rfl rfl rfl hP (hS.partD (.cons _ (.cons_cons _ (.cons_cons _ .slnil))) 0 rfl (.refl _)) (fun w1 hS => d_load1 hS BiD_is1_4 rfl 0 rfl rfl) ?_
     intro a hA
     refine any_tk hA 2 rfl rfl rfl rfl hP (hS.partD (.cons _ (.cons_cons _ (.cons_cons _ .slnil))) 0 rfl (.refl _)) (fun w1 hS => d_move rfl) ?_
     intro a hA
     refine any_tk hA 3 rfl rfl rfl rfl hP (hS.partD (.cons _ (.cons_cons _ (.cons_cons _ .slnil))) 0 rfl (.refl _)) (fun w1 hS => d_move rfl) ?_
     intro a hA
     refine any_tk hA 5 rfl rfl rfl rfl hP (hS.partD (.cons _ (.cons_cons _ (.cons_cons _ .slnil))) 0 rfl (.refl _)) (fun w1 hS => d_move rfl) ?_
     intro a hA
     refine any_one (by kernel_rfl) (op_call hA 4 rfl rfl rfl rfl (enters_func  rfl rfl (fun w => by kernel_rfl)) (rless_any _ _ (hS.rd 1 rfl) (hS.rd 2 rfl) (by omega) (by omega)) ?_)
     rintro _ w51 ⟨ro47, rc48, rfl, ho49, hb50⟩
     replace hS := hS.call hb50
     replace hS := hS.addR ho49.rd
     refine ⟨_, rfl, (hS.partD (.cons _ (.cons_cons _ (.cons_cons _ .slnil))) 1 rfl (.refl _)), ?_⟩
     intro a hA
     refine any_one (by kernel_rfl) (op_call hA 6 rfl rfl rfl rfl (enters_func  rfl rfl (fun w => by kernel_rfl)) (rratI_any true ⟨(hS.rd 0 rfl), ho49.nocap, ho49.caps⟩ ⟨(hS.rd 1 rfl), ho22.nocap, ho22.caps⟩ (by omega) (by omega) hd0 (z := Z) (hzD2 (of_decide_eq_false hb29))) ?_)
     rintro _ w56 ⟨f52_1, f52_c1, f52_2, f52_c2, rfl, hs53, hs54, hb55⟩
     replace hS := hS.call hb55
     replace hS := hS.addR hs53.rd
     replace hS := hS.addR hs54.rd
     refine ⟨_, rfl, (hS.partD (.cons _ (.cons_cons _ (.cons_cons _ .slnil))) 3 rfl (.refl _)), ?_⟩
     intro a hA
     refine any_one (by kernel_rfl) (op_store (us := [.bool (rb Z), .slice f52_1 ((words (rt Z (y1 * y2))).length) f52_c1, .slice f52_2 ((words (rq Z (y1 * y2))).length) f52_c2]) hA hS 7 rfl rfl rfl (sets_store rfl rfl rfl (by kernel_rfl) hS 0 rfl rfl rfl) 0 rfl rfl rfl rfl ?_)
     intro w57 hS
     refine ⟨(hS.partD (.cons _ (.cons_cons _ (.cons_cons _ .slnil))) 3 rfl (.refl _)), ?_⟩
     refine any_end (by kernel_rfl) ?_
     refine hK46 _ _ ?_
     refine wp_ret ?_
     refine hret _ _ ?_
     refine ends (v := .agg #[.bool (rb Z), .slice f52_1 ((words (rt Z (y1 * y2))).length) f52_c1, .slice f52_2 ((words (rq Z (y1 * y2))).length) f52_c2]) hA rfl (.cons (res_cell hS BiD_isS_24 rfl 0 rfl (cs := [.bool (rb Z), .slice f52_1 ((words (rt Z (y1 * y2))).length) f52_c1, .slice f52_2 ((words (rq Z (y1 * y2))).length) f52_c2]) rfl rfl) .nil) rfl ?_
     exact ⟨f52_1, f52_c1, f52_2, f52_c2, rfl, ⟨(hS.rd 1 rfl), hs53.nil, hs53.cap⟩, ⟨(hS.rd 0 rfl), hs54.nil, hs54.cap⟩, hS.bel⟩
 · have hzD1 : x2 * y1 ≤ x1 * y2 → Z = sgn true (x1 * y2 - x2 * y1) := fun h => by rw [← hZ]; exact sum_more true h
   have hzD2 : ¬ x2 * y1 ≤ x1 * y2 → Z = sgn false (x2 * y1 - x1 * y2) := fun h => by rw [← hZ, Int.add_comm]; exact sum_more false (by omega)
   have hS : St w w [] [(u2, words y2), (u1, words x2), (a2, words y1), (a1, words x1)] [] := ((((St.start w).addR ha1.rd).addR ha2.rd).addR hu1.rd).addR hu2.rd
   refine walk_of (l := [(0, .agg #[.bool true, .slice a1 ((words x1).length) ac1, .slice a2 ((words y1).length) ac2]), (1, .agg #[.bool false, .slice u1 ((words x2).length) uc1, .slice u2 ((words y2).length) uc2])]) Try.func57 rfl Try.ntmps57 rfl rfl ?_
   intro Q hret hnorm hP a hA
   refine wp_seq_k (fun K1 hK1 => ?_)
   refine wp_region_lit ?_
   refine seq_new hA hS rfl rfl rfl (fun g => .pointer (some ⟨g, 0, none⟩)) (d_box rfl rfl) rfl ?_
   intro g2 w3 hS a hA
   refine seq_new hA hS rfl rfl rfl (fun g => .pointer (some ⟨g, 0, none⟩)) (d_box rfl rfl) rfl ?_
   intro g4 w5 hS a hA
   refine seq_new (vs := [.bool false, .slice none 0 0, .slice none 0 0]) (t := 24) hA hS rfl rfl rfl (fun g => .pointer (some ⟨g, 0, none⟩)) (d_alloc (z := .agg #[.bool false, .slice none 0 0, .slice none 0 0]) (by kernel_rfl) rfl) rfl ?_
   intro g6 w7 hS a hA
   refine seq_end ?_
   refine hK1 _ _ ?_
   refine wp_seq_k (fun K8 hK8 => ?_)
   refine wp_draw (S := fun w1 => St w w1 [(g6, [.bool false, .slice none 0 0, .slice none 0 0]), (g4, [.bool false, .slice u1 ((words x2).length) uc1, .slice u2 ((words y2).length) uc2]), (g2, [.bool true, .slice a1 ((words x1).length) ac1, .slice a2 ((words y1).length) ac2])] [(u2, words y2), (u1, words x2), (a2, words y1), (a1, words x1)] []) (by kernel_rfl) ?_
   replace hS := hS.drew
   refine any_tk (v := .pointer (some ⟨g2, 1, none⟩)) hA 0 rfl rfl rfl rfl hP hS (fun w1 hS => d_field BiD_fld_24_1 rfl rfl) ?_
   intro a hA
   refine any_tk hA 1 rfl rfl rfl rfl hP hS (fun w1 hS => d_load1 hS BiD_is1_22 rfl 2 rfl rfl) ?_
   intro a hA
   refine any_tk (v := .pointer (some ⟨g4, 2, none⟩)) hA 2 rfl rfl rfl rfl hP hS (fun w1 hS => d_field BiD_fld_24_2 rfl rfl) ?_
   intro a hA
   refine any_tk hA 3 rfl rfl rfl rfl hP hS (fun w1 hS => d_load1 hS BiD_is1_22 rfl 1 rfl rfl) ?_
   intro a hA
   refine any_tk (v := .pointer (some ⟨g4, 1, none⟩)) hA 5 rfl rfl rfl rfl hP hS (fun w1 hS => d_field BiD_fld_24_1 rfl rfl) ?_
   intro a hA
   refine any_tk hA 6 rfl rfl rfl rfl hP hS (fun w1 hS => d_load1 hS BiD_is1_22 rfl 1 rfl rfl) ?_
   intro a hA
   refine any_tk (v := .pointer (some ⟨g2, 2, none⟩)) hA 7 rfl rfl rfl rfl hP hS (fun w1 hS => d_field BiD_fld_24_2 rfl rfl) ?_
   intro a hA
   refine any_tk hA 8 rfl rfl rfl rfl hP hS (fun w1 hS => d_load1 hS BiD_is1_22 rfl 2 rfl rfl) ?_
   intro a hA
   refine any_one (by kernel_rfl) (op_call hA 4 rfl rfl rfl rfl (enters_func  rfl rfl (fun w => by kernel_rfl)) (rtimes_any _ _ (hS.rd 3 rfl) (hS.rd 0 rfl) (by omega) (by omega)) ?_)
   rintro _ w13 ⟨ro9, rc10, rfl, ho11, hb12⟩
   replace hS := hS.call hb12
   replace hS := hS.addR ho11.rd
   refine ⟨_, rfl, (hS.partD (.refl _) 1 rfl (.refl _)), ?_⟩
   intro a hA
   refine any_one (by kernel_rfl) (op_call hA 9 rfl rfl rfl rfl (enters_func  rfl rfl (fun w => by kernel_rfl)) (rtimes_any _ _ (hS.rd 2 rfl) (hS.rd 3 rfl) (by omega) (by omega)) ?_)
   rintro _ w18 ⟨ro14, rc15, rfl, ho16, hb17⟩
   replace hS := hS.call hb17
   replace hS := hS.addR ho16.rd
   refine ⟨_, rfl, (hS.partD (.refl _) 2 rfl (.refl _)), ?_⟩
   intro a hA
   refine any_tk hA 10 rfl rfl rfl rfl hP (hS.partD (.refl _) 2 rfl (.refl _)) (fun w1 hS => d_assign rfl) ?_
   intro a hA
   refine any_tk hA 11 rfl rfl rfl rfl hP (hS.partD (.refl _) 2 rfl (.refl _)) (fun w1 hS => d_assign rfl) ?_
   intro a hA
   refine any_end (by kernel_rfl) ?_
   refine hK8 _ _ ?_
   refine wp_seq_k (fun K19 hK19 => ?_)
   refine wp_region_lit ?_
   refine seq_do (v := .pointer (some ⟨g2, 2, none⟩)) hA rfl rfl rfl (d_field BiD_fld_24_2 rfl rfl) ?_
   intro a hA
   refine seq_do hA rfl rfl rfl (d_load1 hS BiD_is1_22 rfl 2 rfl rfl) ?_
   intro a hA
   refine seq_do (v := .pointer (some ⟨g4, 2, none⟩)) hA rfl rfl rfl (d_field BiD_fld_24_2 rfl rfl) ?_
   intro a hA
   refine seq_do hA rfl rfl rfl (d_load1 hS BiD_is1_22 rfl 1 rfl rfl) ?_
   intro a hA
   refine seq_call hA rfl rfl rfl (enters_func  rfl rfl (fun w => by kernel_rfl)) (rtimes_any _ _ (hS.rd 4 rfl) (hS.rd 2 rfl) (by omega) (by omega)) ?_
   rintro _ w24 ⟨ro20, rc21, rfl, ho22, hb23⟩
   replace hS := hS.call hb23
   replace hS := hS.addR ho22.rd
   refine ⟨_, rfl, ?_⟩
   intro a hA
   refine seq_do hA rfl rfl rfl (d_assign rfl) ?_
   intro a hA
   refine seq_end ?_
   refine hK19 _ _ ?_
   refine wp_seq_k (fun K25 hK25 => ?_)
   refine wp_seq_k (fun K26 hK26 => ?_)
   refine wp_region_lit ?_
   refine seq_do (v := .pointer (some ⟨g2, 0, none⟩)) hA rfl rfl rfl (d_field BiD_fld_24_0 rfl rfl) ?_
   intro a hA
   refine seq_do hA rfl rfl rfl (d_load1 hS BiD_is1_4 rfl 2 rfl rfl) ?_
   intro a hA
   refine seq_do (v := .pointer (some ⟨g4, 0, none⟩)) hA rfl rfl rfl (d_field BiD_fld_24_0 rfl rfl) ?_
   intro a hA
   refine seq_do hA rfl rfl rfl (d_load1 hS BiD_is1_4 rfl 1 rfl rfl) ?_
   intro a hA
   refine seq_do (v := .bool false) hA rfl rfl rfl (d_bin rfl rfl (bin_eqlB Try.underlying4)) ?_
   intro a hA
   refine seq_end ?_
   refine hK26 _ _ ?_
   refine wp_cond_false (hA.ev rfl) ?_
   refine wp_skip ?_
   refine hK25 _ _ ?_
   refine wp_seq_k (fun K27 hK27 => ?_)
   refine wp_seq_k (fun K28 hK28 => ?_)
   refine wp_region_lit ?_
   refine seq_do hA rfl rfl rfl (d_move rfl) ?_
   intro a hA
   refine seq_do hA rfl rfl rfl (d_move rfl) ?_
   intro a hA
   rcases Bool.eq_false_or_eq_true (decide (x2 * y1 ≤ x1 * y2)) with hb29 | hb29
   · have hb29' := of_decide_eq_true hb29
     refine seq_call hA rfl rfl rfl (enters_func  rfl rfl (fun w => by kernel_rfl)) (rorder_any _ _ (hS.rd 2 rfl) (hS.rd 1 rfl) (by omega) (by omega)) ?_
     rintro _ w31 ⟨rfl, hb30⟩
     replace hS := hS.call hb30
     refine ⟨_, rfl, ?_⟩
     intro a hA
     refine seq_do (v := .bool true) hA rfl rfl rfl (d_bin rfl rfl (fun w => (bin_geq w).trans (by rw [show (decide (0 ≤ cmpN (x1 * y2) (x2 * y1))) = true from (by have h9 := of_decide_eq_true hb29; apply decide_eq_true; unfold cmpN; split <;> (try split) <;> omega)]))) ?_
     intro a hA
     refine seq_end ?_
     refine hK28 _ _ ?_
     refine wp_cond_true (hA.ev rfl) ?_
     refine wp_seq_k (fun K32 hK32 => ?_)
     refine wp_draw (S := fun w1 => St w w1 [(g4, [.bool false, .slice u1 ((words x2).length) uc1, .slice u2 ((words y2).length) uc2]), (g2, [.bool true, .slice a1 ((words x1).length) ac1, .slice a2 ((words y1).length) ac2])] [(ro20, words (y1 * y2)), (ro14, words (x2 * y1)), (ro9, words (x1 * y2)), (u2, words y2), (u1, words x2), (a2, words y1), (a1, words x1)] []) (by kernel_rfl) ?_
     replace hS := hS.drew
     refine any_tk (v := .pointer (some ⟨g2, 0, none⟩)) hA 0 rfl rfl rfl rfl hP (hS.partD (.cons _ (.cons_cons _ (.cons_cons _ .slnil))) 0 rfl (.refl _)) (fun w1 hS => d_field BiD_fld_24_0 rfl rfl) ?_
     intro a hA
     refine any_tk hA 1 rfl rfl rfl rfl hP (hS.partD (.cons _ (.cons_cons _ (.cons_cons _ .slnil))) 0 rfl (.refl _)) (fun w1 hS => d_load1 hS BiD_is1_4 rfl 1 rfl rfl) ?_
     intro a hA
     refine any_tk hA 2 rfl rfl rfl rfl hP (hS.partD (.cons _ (.cons_cons _ (.cons_cons _ .slnil))) 0 rfl (.refl _)) (fun w1 hS => d_move rfl) ?_
     intro a hA
     refine any_tk hA 3 rfl rfl rfl rfl hP (hS.partD (.cons _ (.cons_cons _ (.cons_cons _ .slnil))) 0 rfl (.refl _)) (fun w1 hS => d_move rfl) ?_
     intro a hA
     refine any_tk hA 5 rfl rfl rfl rfl hP (hS.partD (.cons _ (.cons_cons _ (.cons_cons _ .slnil))) 0 rfl (.refl _)) (fun w1 hS => d_move rfl) ?_
     intro a hA
     refine any_one (by kernel_rfl) (op_call hA 4 rfl rfl rfl rfl (enters_func  rfl rfl (fun w => by kernel_rfl)) (rless_any _ _ (hS.rd 2 rfl) (hS.rd 1 rfl) (by omega) (by omega)) ?_)
     rintro _ w37 ⟨ro33, rc34, rfl, ho35, hb36⟩
     replace hS := hS.call hb36
     replace hS := hS.addR ho35.rd
     refine ⟨_, rfl, (hS.partD (.cons _ (.cons_cons _ (.cons_cons _ .slnil))) 1 rfl (.refl _)), ?_⟩
     intro a hA
     refine any_one (by kernel_rfl) (op_call hA 6 rfl rfl rfl rfl (enters_func  rfl rfl (fun w => by kernel_rfl)) (rratI_any true ⟨(hS.rd 0 rfl), ho35.nocap, ho35.caps⟩ ⟨(hS.rd 1 rfl), ho22.nocap, ho22.caps⟩ (by omega) (by omega) hd0 (z := Z) (hzD1 (of_decide_eq_true hb29))) ?_)
     rintro _ w42 ⟨f38_1, f38_c1, f38_2, f38_c2, rfl, hs39, hs40, hb41⟩
     replace hS := hS.call hb41
     replace hS := hS.addR hs39.rd
     replace hS := hS.addR hs40.rd
     refine ⟨_, rfl, (hS.partD (.cons _ (.cons_cons _ (.cons_cons _ .slnil))) 3 rfl (.refl _)), ?_⟩
     intro a hA
     refine any_one (by kernel_rfl) (op_store (us := [.bool (rb Z), .slice f38_1 ((words (rt Z (y1 * y2))).length) f38_c1, .slice f38_2 ((words (rq Z (y1 * y2))).length) f38_c2]) hA hS 7 rfl rfl rfl (sets_store rfl rfl rfl (by kernel_rfl) hS 0 rfl rfl rfl) 0 rfl rfl rfl rfl ?_)
     intro w43 hS
     refine ⟨(hS.partD (.cons _ (.cons_cons _ (.cons_cons _ .slnil))) 3 rfl (.refl _)), ?_⟩
     refine any_end (by kernel_rfl) ?_
     refine hK32 _ _ ?_
     refine wp_ret ?_
     refine hret _ _ ?_
     refine ends (v := .agg #[.bool (rb Z), .slice f38_1 ((words (rt Z (y1 * y2))).length) f38_c1, .slice f38_2 ((words (rq Z (y1 * y2))).length) f38_c2]) hA rfl (.cons (res_cell hS BiD_isS_24 rfl 0 rfl (cs := [.bool (rb Z), .slice f38_1 ((words (rt Z (y1 * y2))).length) f38_c1, .slice f38_2 ((words (rq Z (y1 * y2))).length) f38_c2]) rfl rfl) .nil) rfl ?_
     exact ⟨f38_1, f38_c1, f38_2, f38_c2, rfl, ⟨(hS.rd 1 rfl), hs39.nil, hs39.cap⟩, ⟨(hS.rd 0 rfl), hs40.nil, hs40.cap⟩, hS.bel⟩
   · have hb29' := of_decide_eq_false hb29
     refine seq_call hA rfl rfl rfl (enters_func  rfl rfl (fun w => by kernel_rfl)) (rorder_any _ _ (hS.rd 2 rfl) (hS.rd 1 rfl) (by omega) (by omega)) ?_
     rintro _ w45 ⟨rfl, hb44⟩
     replace hS := hS.call hb44
     refine ⟨_, rfl, ?_⟩
     intro a hA
     refine seq_do (v := .bool false) hA rfl rfl rfl (d_bin rfl rfl (fun w => (bin_geq w).trans (by rw [show (decide (0 ≤ cmpN (x1 * y2) (x2 * y1))) = false from (by have h9 := of_decide_eq_false hb29; apply decide_eq_false; unfold cmpN; split <;> (try split) <;> omega)]))) ?_
     intro a hA
     refine seq_end ?_
     refine hK28 _ _ ?_
     refine wp_cond_false (hA.ev rfl) ?_
     refine wp_skip ?_
     refine hK27 _ _ ?_
     refine wp_seq_k (fun K46 hK46 => ?_)
     refine wp_draw (S := fun w1 => St w w1 [(g4, [.bool false, .slice u1 ((words x2).length) uc1, .slice u2 ((words y2).length) uc2]), (g2, [.bool true, .slice a1 ((words x1).length) ac1, .slice a2 ((words y1).length) ac2])] [(ro20, words (y1 * y2)), (ro14, words (x2 * y1)), (ro9, words (x1 * y2)), (u2, words y2), (u1, words x2), (a2, words y1), (a1, words x1)] []) (by kernel_rfl) ?_
     replace hS := hS.drew
     refine any_tk (v := .pointer (some ⟨g4, 0, none⟩)) hA 0 rfl rfl rfl rfl hP (hS.partD (.cons _ (.cons_cons _ (.cons_cons _ .slnil))) 0 rfl (.refl _)) (fun w1 hS => d_field BiD_fld_24_0 rfl rfl) ?_
     intro a hA
     refine any_tk hA 1 rfl rfl rfl rfl hP (hS.partD (.cons _ (.cons_cons _ (.cons_cons _ .slnil))) 0 rfl (.refl _)) (fun w1 hS => d_load1 hS BiD_is1_4 rfl 0 rfl rfl) ?_
     intro a hA
     refine any_tk hA 2 rfl rfl rfl rfl hP (hS.partD (.cons _ (.cons_cons _ (.cons_cons _ .slnil))) 0 rfl (.refl _)) (fun w1 hS => d_move rfl) ?_
     intro a hA
     refine any_tk hA 3 rfl rfl rfl rfl hP (hS.partD (.cons _ (.cons_cons _ (.cons_cons _ .slnil))) 0 rfl (.refl _)) (fun w1 hS => d_move rfl) ?_
     intro a hA
     refine any_tk hA 5 rfl rfl rfl rfl hP (hS.partD (.cons _ (.cons_cons _ (.cons_cons _ .slnil))) 0 rfl (.refl _)) (fun w1 hS => d_move rfl) ?_
     intro a hA
     refine any_one (by kernel_rfl) (op_call hA 4 rfl rfl rfl rfl (enters_func  rfl rfl (fun w => by kernel_rfl)) (rless_any _ _ (hS.rd 1 rfl) (hS.rd 2 rfl) (by omega) (by omega)) ?_)
     rintro _ w51 ⟨ro47, rc48, rfl, ho49, hb50⟩
     replace hS := hS.call hb50
     replace hS := hS.addR ho49.rd
     refine ⟨_, rfl, (hS.partD (.cons _ (.cons_cons _ (.cons_cons _ .slnil))) 1 rfl (.refl _)), ?_⟩
     intro a hA
     refine any_one (by kernel_rfl) (op_call hA 6 rfl rfl rfl rfl (enters_func  rfl rfl (fun w => by kernel_rfl)) (rratI_any false ⟨(hS.rd 0 rfl), ho49.nocap, ho49.caps⟩ ⟨(hS.rd 1 rfl), ho22.nocap, ho22.caps⟩ (by omega) (by omega) hd0 (z := Z) (hzD2 (of_decide_eq_false hb29))) ?_)
     rintro _ w56 ⟨f52_1, f52_c1, f52_2, f52_c2, rfl, hs53, hs54, hb55⟩
     replace hS := hS.call hb55
     replace hS := hS.addR hs53.rd
     replace hS := hS.addR hs54.rd
     refine ⟨_, rfl, (hS.partD (.cons _ (.cons_cons _ (.cons_cons _ .slnil))) 3 rfl (.refl _)), ?_⟩
     intro a hA
     refine any_one (by kernel_rfl) (op_store (us := [.bool (rb Z), .slice f52_1 ((words (rt Z (y1 * y2))).length) f52_c1, .slice f52_2 ((words (rq Z (y1 * y2))).length) f52_c2]) hA hS 7 rfl rfl rfl (sets_store rfl rfl rfl (by kernel_rfl) hS 0 rfl rfl rfl) 0 rfl rfl rfl rfl ?_)
     intro w57 hS
     refine ⟨(hS.partD (.cons _ (.cons_cons _ (.cons_cons _ .slnil))) 3 rfl (.refl _)), ?_⟩
     refine any_end (by kernel_rfl) ?_
     refine hK46 _ _ ?_
     refine wp_ret ?_
     refine hret _ _ ?_
     refine ends (v := .agg #[.bool (rb Z), .slice f52_1 ((words (rt Z (y1 * y2))).length) f52_c1, .slice f52_2 ((words (rq Z (y1 * y2))).length) f52_c2]) hA rfl (.cons (res_cell hS BiD_isS_24 rfl 0 rfl (cs := [.bool (rb Z), .slice f52_1 ((words (rt Z (y1 * y2))).length) f52_c1, .slice f52_2 ((words (rq Z (y1 * y2))).length) f52_c2]) rfl rfl) .nil) rfl ?_
     exact ⟨f52_1, f52_c1, f52_2, f52_c2, rfl, ⟨(hS.rd 1 rfl), hs53.nil, hs53.cap⟩, ⟨(hS.rd 0 rfl), hs54.nil, hs54.cap⟩, hS.bel⟩
 · have hzS : Z = sgn true (x1 * y2 + x2 * y1) := by rw [← hZ]; exact sum_same true _ _
   have hS : St w w [] [(u2, words y2), (u1, words x2), (a2, words y1), (a1, words x1)] [] := ((((St.start w).addR ha1.rd).addR ha2.rd).addR hu1.rd).addR hu2.rd
   refine walk_of (l := [(0, .agg #[.bool true, .slice a1 ((words x1).length) ac1, .slice a2 ((words y1).length) ac2]), (1, .agg #[.bool true, .slice u1 ((words x2).length) uc1, .slice u2 ((words y2).length) uc2])]) Try.func57 rfl Try.ntmps57 rfl rfl ?_
   intro Q hret hnorm hP a hA
   refine wp_seq_k (fun K1 hK1 => ?_)
   refine wp_region_lit ?_
   refine seq_new hA hS rfl rfl rfl (fun g => .pointer (some ⟨g, 0, none⟩)) (d_box rfl rfl) rfl ?_
   intro g2 w3 hS a hA
   refine seq_new hA hS rfl rfl rfl (fun g => .pointer (some ⟨g, 0, none⟩)) (d_box rfl rfl) rfl ?_
   intro g4 w5 hS a hA
   refine seq_new (vs := [.bool false, .slice none 0 0, .slice none 0 0]) (t := 24) hA hS rfl rfl rfl (fun g => .pointer (some ⟨g, 0, none⟩)) (d_alloc (z := .agg #[.bool false, .slice none 0 0, .slice none 0 0]) (by kernel_rfl) rfl) rfl ?_
   intro g6 w7 hS a hA
   refine seq_end ?_
   refine hK1 _ _ ?_
   refine wp_seq_k (fun K8 hK8 => ?_)
   refine wp_draw (S := fun w1 => St w w1 [(g6, [.bool false, .slice none 0 0, .slice none 0 0]), (g4, [.bool true, .slice u1 ((words x2).length) uc1, .slice u2 ((words y2).length) uc2]), (g2, [.bool true, .slice a1 ((words x1).length) ac1, .slice a2 ((words y1).length) ac2])] [(u2, words y2), (u1, words x2), (a2, words y1), (a1, words x1)] []) (by kernel_rfl) ?_
   replace hS := hS.drew
   refine any_tk (v := .pointer (some ⟨g2, 1, none⟩)) hA 0 rfl rfl rfl rfl hP hS (fun w1 hS => d_field BiD_fld_24_1 rfl rfl) ?_
   intro a hA
   refine any_tk hA 1 rfl rfl rfl rfl hP hS (fun w1 hS => d_load1 hS BiD_is1_22 rfl 2 rfl rfl) ?_
   intro a hA
   refine any_tk (v := .pointer (some ⟨g4, 2, none⟩)) hA 2 rfl rfl rfl rfl hP hS (fun w1 hS => d_field BiD_fld_24_2 rfl rfl) ?_
   intro a hA
   refine any_tk hA 3 rfl rfl rfl rfl hP hS (fun w1 hS => d_load1 hS BiD_is1_22 rfl 1 rfl rfl) ?_
   intro a hA
   refine any_tk (v := .pointer (some ⟨g4, 1, none⟩)) hA 5 rfl rfl rfl rfl hP hS (fun w1 hS => d_field BiD_fld_24_1 rfl rfl) ?_
   intro a hA
   refine any_tk hA 6 rfl rfl rfl rfl hP hS (fun w1 hS => d_load1 hS BiD_is1_22 rfl 1 rfl rfl) ?_
   intro a hA
   refine any_tk (v := .pointer (some ⟨g2, 2, none⟩)) hA 7 rfl rfl rfl rfl hP hS (fun w1 hS => d_field BiD_fld_24_2 rfl rfl) ?_
   intro a hA
   refine any_tk hA 8 rfl rfl rfl rfl hP hS (fun w1 hS => d_load1 hS BiD_is1_22 rfl 2 rfl rfl) ?_
   intro a hA
   refine any_one (by kernel_rfl) (op_call hA 4 rfl rfl rfl rfl (enters_func  rfl rfl (fun w => by kernel_rfl)) (rtimes_any _ _ (hS.rd 3 rfl) (hS.rd 0 rfl) (by omega) (by omega)) ?_)
   rintro _ w13 ⟨ro9, rc10, rfl, ho11, hb12⟩
   replace hS := hS.call hb12
   replace hS := hS.addR ho11.rd
   refine ⟨_, rfl, (hS.partD (.refl _) 1 rfl (.refl _)), ?_⟩
   intro a hA
   refine any_one (by kernel_rfl) (op_call hA 9 rfl rfl rfl rfl (enters_func  rfl rfl (fun w => by kernel_rfl)) (rtimes_any _ _ (hS.rd 2 rfl) (hS.rd 3 rfl) (by omega) (by omega)) ?_)
   rintro _ w18 ⟨ro14, rc15, rfl, ho16, hb17⟩
   replace hS := hS.call hb17
   replace hS := hS.addR ho16.rd
   refine ⟨_, rfl, (hS.partD (.refl _) 2 rfl (.refl _)), ?_⟩
   intro a hA
   refine any_tk hA 10 rfl rfl rfl rfl hP (hS.partD (.refl _) 2 rfl (.refl _)) (fun w1 hS => d_assign rfl) ?_
   intro a hA
   refine any_tk hA 11 rfl rfl rfl rfl hP (hS.partD (.refl _) 2 rfl (.refl _)) (fun w1 hS => d_assign rfl) ?_
   intro a hA
   refine any_end (by kernel_rfl) ?_
   refine hK8 _ _ ?_
   refine wp_seq_k (fun K19 hK19 => ?_)
   refine wp_region_lit ?_
   refine seq_do (v := .pointer (some ⟨g2, 2, none⟩)) hA rfl rfl rfl (d_field BiD_fld_24_2 rfl rfl) ?_
   intro a hA
   refine seq_do hA rfl rfl rfl (d_load1 hS BiD_is1_22 rfl 2 rfl rfl) ?_
   intro a hA
   refine seq_do (v := .pointer (some ⟨g4, 2, none⟩)) hA rfl rfl rfl (d_field BiD_fld_24_2 rfl rfl) ?_
   intro a hA
   refine seq_do hA rfl rfl rfl (d_load1 hS BiD_is1_22 rfl 1 rfl rfl) ?_
   intro a hA
   refine seq_call hA rfl rfl rfl (enters_func  rfl rfl (fun w => by kernel_rfl)) (rtimes_any _ _ (hS.rd 4 rfl) (hS.rd 2 rfl) (by omega) (by omega)) ?_
   rintro _ w24 ⟨ro20, rc21, rfl, ho22, hb23⟩
   replace hS := hS.call hb23
   replace hS := hS.addR ho22.rd
   refine ⟨_, rfl, ?_⟩
   intro a hA
   refine seq_do hA rfl rfl rfl (d_assign rfl) ?_
   intro a hA
   refine seq_end ?_
   refine hK19 _ _ ?_
   refine wp_seq_k (fun K25 hK25 => ?_)
   refine wp_seq_k (fun K26 hK26 => ?_)
   refine wp_region_lit ?_
   refine seq_do (v := .pointer (some ⟨g2, 0, none⟩)) hA rfl rfl rfl (d_field BiD_fld_24_0 rfl rfl) ?_
   intro a hA
   refine seq_do hA rfl rfl rfl (d_load1 hS BiD_is1_4 rfl 2 rfl rfl) ?_
   intro a hA
   refine seq_do (v := .pointer (some ⟨g4, 0, none⟩)) hA rfl rfl rfl (d_field BiD_fld_24_0 rfl rfl) ?_
   intro a hA
   refine seq_do hA rfl rfl rfl (d_load1 hS BiD_is1_4 rfl 1 rfl rfl) ?_
   intro a hA
   refine seq_do (v := .bool true) hA rfl rfl rfl (d_bin rfl rfl (bin_eqlB Try.underlying4)) ?_
   intro a hA
   refine seq_end ?_
   refine hK26 _ _ ?_
   refine wp_cond_true (hA.ev rfl) ?_
   refine wp_seq_k (fun K27 hK27 => ?_)
   refine wp_draw (S := fun w1 => St w w1 [(g4, [.bool true, .slice u1 ((words x2).length) uc1, .slice u2 ((words y2).length) uc2]), (g2, [.bool true, .slice a1 ((words x1).length) ac1, .slice a2 ((words y1).length) ac2])] [(ro20, words (y1 * y2)), (ro14, words (x2 * y1)), (ro9, words (x1 * y2)), (u2, words y2), (u1, words x2), (a2, words y1), (a1, words x1)] []) (by kernel_rfl) ?_
   replace hS := hS.drew
   refine any_tk (v := .pointer (some ⟨g2, 0, none⟩)) hA 0 rfl rfl rfl rfl hP (hS.partD (.cons _ (.cons_cons _ (.cons_cons _ .slnil))) 0 rfl (.refl _)) (fun w1 hS => d_field BiD_fld_24_0 rfl rfl) ?_
   intro a hA
   refine any_tk hA 1 rfl rfl rfl rfl hP (hS.partD (.cons _ (.cons_cons _ (.cons_cons _ .slnil))) 0 rfl (.refl _)) (fun w1 hS => d_load1 hS BiD_is1_4 rfl 1 rfl rfl) ?_
   intro a hA
   refine any_tk hA 2 rfl rfl rfl rfl hP (hS.partD (.cons _ (.cons_cons _ (.cons_cons _ .slnil))) 0 rfl (.refl _)) (fun w1 hS => d_move rfl) ?_
   intro a hA
   refine any_tk hA 3 rfl rfl rfl rfl hP (hS.partD (.cons _ (.cons_cons _ (.cons_cons _ .slnil))) 0 rfl (.refl _)) (fun w1 hS => d_move rfl) ?_
   intro a hA
   refine any_tk hA 5 rfl rfl rfl rfl hP (hS.partD (.cons _ (.cons_cons _ (.cons_cons _ .slnil))) 0 rfl (.refl _)) (fun w1 hS => d_move rfl) ?_
   intro a hA
   refine any_one (by kernel_rfl) (op_call hA 4 rfl rfl rfl rfl (enters_func  rfl rfl (fun w => by kernel_rfl)) (plus_any _ _ (hS.rd 2 rfl) (hS.rd 1 rfl) (by omega) (by omega)) ?_)
   rintro _ w32 ⟨ro28, rc29, rfl, ho30, hb31⟩
   replace hS := hS.call hb31
   replace hS := hS.addR ho30.rd
   refine ⟨_, rfl, (hS.partD (.cons _ (.cons_cons _ (.cons_cons _ .slnil))) 1 rfl (.refl _)), ?_⟩
   intro a hA
   refine any_one (by kernel_rfl) (op_call hA 6 rfl rfl rfl rfl (enters_func  rfl rfl (fun w => by kernel_rfl)) (rratI_any true ⟨(hS.rd 0 rfl), ho30.nocap, ho30.caps⟩ ⟨(hS.rd 1 rfl), ho22.nocap, ho22.caps⟩ (by omega) (by omega) hd0 (z := Z) hzS) ?_)
   rintro _ w37 ⟨f33_1, f33_c1, f33_2, f33_c2, rfl, hs34, hs35, hb36⟩
   replace hS := hS.call hb36
   replace hS := hS.addR hs34.rd
   replace hS := hS.addR hs35.rd
   refine ⟨_, rfl, (hS.partD (.cons _ (.cons_cons _ (.cons_cons _ .slnil))) 3 rfl (.refl _)), ?_⟩
   intro a hA
   refine any_one (by kernel_rfl) (op_store (us := [.bool (rb Z), .slice f33_1 ((words (rt Z (y1 * y2))).length) f33_c1, .slice f33_2 ((words (rq Z (y1 * y2))).length) f33_c2]) hA hS 7 rfl rfl rfl (sets_store rfl rfl rfl (by kernel_rfl) hS 0 rfl rfl rfl) 0 rfl rfl rfl rfl ?_)
   intro w38 hS
   refine ⟨(hS.partD (.cons _ (.cons_cons _ (.cons_cons _ .slnil))) 3 rfl (.refl _)), ?_⟩
   refine any_end (by kernel_rfl) ?_
   refine hK27 _ _ ?_
   refine wp_ret ?_
   refine hret _ _ ?_
   refine ends (v := .agg #[.bool (rb Z), .slice f33_1 ((words (rt Z (y1 * y2))).length) f33_c1, .slice f33_2 ((words (rq Z (y1 * y2))).length) f33_c2]) hA rfl (.cons (res_cell hS BiD_isS_24 rfl 0 rfl (cs := [.bool (rb Z), .slice f33_1 ((words (rt Z (y1 * y2))).length) f33_c1, .slice f33_2 ((words (rq Z (y1 * y2))).length) f33_c2]) rfl rfl) .nil) rfl ?_
   exact ⟨f33_1, f33_c1, f33_2, f33_c2, rfl, ⟨(hS.rd 1 rfl), hs34.nil, hs34.cap⟩, ⟨(hS.rd 0 rfl), hs35.nil, hs35.cap⟩, hS.bel⟩
end Go.Proofs.Ytfhpeeljjcphpaa
namespace Go.Proofs.Ytfhpeeljjcphpaa
open Go.RowKit
set_option linter.unusedVariables false
set_option linter.unusedSimpArgs false

theorem rsumOne_any {w : World} {b1 : Bool} {x : Nat} {a1 a2 : Option Addr} {ac1 ac2 : Nat} (ha1 : Sc w a1 ac1 (words x)) (ha2 : Sc w a2 ac2 [1]) {u1 u2 : Option Addr} {uc1 uc2 : Nat} (hu1 : Sc w u1 uc1 [1]) (hu2 : Sc w u2 uc2 [1]) (hx : (words x).length ≤ 3000) {c : Bool} {y : Nat} (hy : sgn b1 x + (-1) = sgn c y) (hc : (c && decide (0 < y)) = c) :
    Calls Try.prog 57 #[.agg #[.bool b1, .slice a1 (words x).length ac1, .slice a2 1 ac2], .agg #[.bool true, .slice u1 1 uc1, .slice u2 1 uc2]] w (AnsF w c (words y) [1]) := by
  have h1 : (words 1).length = 1 := by rw [words_one]; rfl
  rw [← words_one] at hu1 hu2 ha2
  have h := rsum_any (b1 := b1) (b2 := true) ha1 ha2 hu1 hu2 (Nat.le_trans hx (by decide)) (by omega) (by omega) (by omega) (by omega) (by omega)
  have e : sgn b1 x * ((1 : Nat) : Int) + sgn true 1 * ((1 : Nat) : Int) = sgn c y := by rw [← hy]; simp [sgn]
  rw [e] at h
  have e1 : rb (sgn c y) = c := by unfold rb; rw [sgn_neg]; exact hc
  have e2 : rt (sgn c y) (1 * 1) = y := by unfold rt; rw [sgn_abs]; simp
  have e3 : rq (sgn c y) (1 * 1) = 1 := by unfold rq; simp
  rw [e1, e2, e3, h1, words_one] at h
  exact h
/-- The size of -a - 1. -/
def turnN (b : Bool) (x : Nat) : Nat := cond b (x - 1) (x + 1)
theorem shift_down {w : World} {ao : Option Addr} {x : Nat} (ca k : Nat) (ha : Rd w ao (words x)) (hx : (words x).length ≤ 512) (hk : k ≤ 16384) :
    Calls Try.prog 38 #[.slice ao (words x).length ca, .int .i64 (-(k : Int))] w fun e w' => ∃ ro rc, e = .returned (.tuple #[.slice ro (words (x / 2 ^ k)).length rc, .int .i64 0]) ∧ Own w.heap.size w' ro rc (words (x / 2 ^ k)) ∧ Below w.heap.size w w' := by
  have h := shift_any ca (-(k : Int)) ha (by omega) (by omega) (by omega)
  have e : shiftS (words x) (-(k : Int)) = (words (x / 2 ^ k), 0) := by
    unfold shiftS
    rw [if_pos (sound_of_words hx), if_neg (by omega), val_words]
    by_cases h0 : k = 0
    · subst h0
      simp only [Int.ofNat_eq_natCast, Int.natCast_zero, Int.neg_zero, Int.lt_irrefl, if_false, Int.toNat_zero, Nat.pow_zero, Nat.mul_one, Nat.div_one]
      unfold fitS
      rw [if_pos hx]
    · rw [if_pos (by omega)]
      have : (-(-(k : Int))).toNat = k := by omega
      rw [this]
  rw [e] at h
  exact h
theorem shift_downI {w : World} {ao : Option Addr} {x : Nat} (ca : Nat) {n : Int} (ha : Rd w ao (words x)) (hx : (words x).length ≤ 512) (h0 : 0 ≤ n) (h1 : n ≤ 16384) :
    Calls Try.prog 38 #[.slice ao (words x).length ca, .int .i64 (-n)] w fun e w' => ∃ ro rc, e = .returned (.tuple #[.slice ro (words (x / 2 ^ n.toNat)).length rc, .int .i64 0]) ∧ Own w.heap.size w' ro rc (words (x / 2 ^ n.toNat)) ∧ Below w.heap.size w w' := by
  obtain ⟨k, rfl⟩ := Int.eq_ofNat_of_zero_le h0
  rw [Int.toNat_natCast]
  exact shift_down ca k ha hx (by omega)
theorem want1_cases (q : Q6) : (want1 q = 0 ∧ wholeQ q = true) ∨ ((want1 q != 0) = true ∧ wholeQ q = false) := by
  unfold want1
  cases h1 : soundQ q with
  | false =>
    refine .inr ⟨by simp, ?_⟩
    unfold wholeQ
    rw [h1]
    rfl
  | true =>
    cases h2 : wholeQ q with
    | false => exact .inr ⟨by simp, rfl⟩
    | true => exact .inl ⟨by simp, rfl⟩
end Go.Proofs.Ytfhpeeljjcphpaa
namespace Go.Proofs.Ytfhpeeljjcphpaa
open Go.RowKit
set_option linter.unusedVariables false
set_option linter.unusedSimpArgs false
set_option maxRecDepth 100000
theorem BiE_is1_22 : Is1 Try.prog 22 := ⟨⟨_, Try.underlying22, rfl⟩, by kernel_rfl⟩
theorem BiE_is1_4 : Is1 Try.prog 4 := ⟨⟨_, Try.underlying4, rfl⟩, by kernel_rfl⟩
theorem BiE_fld_26_0 : FieldAt Try.prog 26 0 0 := ⟨_, _, Try.underlying26, rfl, rfl, by kernel_rfl⟩
theorem BiE_fld_26_1 : FieldAt Try.prog 26 1 3 := ⟨_, _, Try.underlying26, rfl, rfl, by kernel_rfl⟩
theorem BiE_fld_49_0 : FieldAt Try.prog 49 0 0 := ⟨_, _, Try.underlying49, rfl, rfl, by kernel_rfl⟩
theorem BiE_fld_49_1 : FieldAt Try.prog 49 1 1 := ⟨_, _, Try.underlying49, rfl, rfl, by kernel_rfl⟩
theorem BiE_isS_24 : IsS Try.prog 24 3 := ⟨⟨_, Try.underlying24⟩, by kernel_rfl⟩
theorem BiE_isS_26 : IsS Try.prog 26 6 := ⟨⟨_, Try.underlying26⟩, by kernel_rfl⟩
theorem BiE_isS_49 : IsS Try.prog 49 2 := ⟨⟨_, Try.underlying49⟩, by kernel_rfl⟩
theorem rturn_any {w : World} {b : Bool} {x : Nat} {a1 a2 a3 a4 : Option Addr} {ac1 ac2 ac3 ac4 : Nat} (ha : Nm w (Q6.whole b x) a1 ac1 a2 ac2 a3 ac3 a4 ac4) (hx : (words x).length ≤ 3000) (hb : b.toNat ≤ x) : Calls Try.prog 33 #[numV (Q6.whole b x) a1 ac1 a2 ac2 a3 ac3 a4 ac4] w (AnsV w (Q6.whole (!b) (turnN b x))) := by
 cases b
 · have hS : St w w [] [(a4, [1]), (a3, []), (a2, [1]), (a1, words x)] [] := ((((St.start w).addR ha.s1.rd).addR ha.s2.rd).addR ha.s3.rd).addR ha.s4.rd
   refine walk_of (l := [(0, .agg #[.bool false, .slice a1 ((words x).length) ac1, .slice a2 1 ac2, .bool false, .slice a3 0 ac3, .slice a4 1 ac4])]) Try.func33 rfl Try.ntmps33 rfl rfl ?_
   intro Q hret hnorm hP a hA
   refine wp_seq_k (fun K1 hK1 => ?_)
   refine wp_region_lit ?_
   refine seq_new hA hS rfl rfl rfl (fun g => .pointer (some ⟨g, 0, none⟩)) (d_box rfl rfl) rfl ?_
   intro g2 w3 hS a hA
   refine seq_new (vs := [.bool false, .slice none 0 0, .slice none 0 0, .bool false, .slice none 0 0, .slice none 0 0]) (t := 26) hA hS rfl rfl rfl (fun g => .pointer (some ⟨g, 0, none⟩)) (d_alloc (z := .agg #[.bool false, .slice none 0 0, .slice none 0 0, .bool false, .slice none 0 0, .slice none 0 0]) (by kernel_rfl) rfl) rfl ?_
   intro g4 w5 hS a hA
   refine seq_end ?_
   refine hK1 _ _ ?_
   refine wp_seq_k (fun K6 hK6 => ?_)
   refine wp_region_lit ?_
   refine seq_newU (us := [1]) (t := 41) (m := 1) hA hS rfl rfl rfl (d_buildSlice rfl (by kernel_rfl)) (by simp [Dig]) ?_
   intro g7 w8 hS a hA
   refine seq_newU (us := [1]) (t := 41) (m := 1) hA hS rfl rfl rfl (d_buildSlice rfl (by kernel_rfl)) (by simp [Dig]) ?_
   intro g9 w10 hS a hA
   refine seq_do (v := .agg #[.bool false, .slice (some ⟨g7, 0, none⟩) 1 1, .slice (some ⟨g9, 0, none⟩) 1 1]) hA rfl rfl rfl (d_build rfl (fun w => by kernel_rfl)) ?_
   intro a hA
   refine seq_new (vs := [.bool false, .slice none 0 0, .slice none 0 0]) (t := 24) hA hS rfl rfl rfl (fun g => .pointer (some ⟨g, 0, none⟩)) (d_alloc (z := .agg #[.bool false, .slice none 0 0, .slice none 0 0]) (by kernel_rfl) rfl) rfl ?_
   intro g11 w12 hS a hA
   refine seq_store (us := [.bool false, .slice (some ⟨g7, 0, none⟩) 1 1, .slice (some ⟨g9, 0, none⟩) 1 1]) hA hS rfl rfl (sets_store rfl rfl rfl (by kernel_rfl) hS 0 rfl rfl rfl) 0 rfl rfl rfl rfl ?_
   intro w13 hS
   refine seq_end ?_
   refine hK6 _ _ ?_
   refine wp_seq_k (fun K14 hK14 => ?_)
   refine wp_draw (S := fun w1 => St w w1 [(g11, [.bool false, .slice (some ⟨g7, 0, none⟩) 1 1, .slice (some ⟨g9, 0, none⟩) 1 1]), (g2, [.bool false, .slice a1 ((words x).length) ac1, .slice a2 1 ac2, .bool false, .slice a3 0 ac3, .slice a4 1 ac4])] [(some ⟨g9, 0, none⟩, [1]), (some ⟨g7, 0, none⟩, [1]), (a4, [1]), (a3, []), (a2, [1]), (a1, words x)] []) (by kernel_rfl) ?_
   replace hS := hS.drew
   refine any_tk (v := .pointer (some ⟨g2, 0, none⟩)) hA 0 rfl rfl rfl rfl hP (hS.partD (.cons_cons _ (.cons _ (.cons_cons _ .slnil))) 0 rfl (.refl _)) (fun w1 hS => d_field BiE_fld_26_0 rfl rfl) ?_
   intro a hA
   refine any_tk hA 1 rfl rfl rfl rfl hP (hS.partD (.cons_cons _ (.cons _ (.cons_cons _ .slnil))) 0 rfl (.refl _)) (fun w1 hS => d_loadS hS BiE_isS_24 rfl 1 rfl (cs := [.bool false, .slice a1 ((words x).length) ac1, .slice a2 1 ac2]) rfl rfl) ?_
   intro a hA
   refine any_tk hA 3 rfl rfl rfl rfl hP (hS.partD (.cons_cons _ (.cons _ (.cons_cons _ .slnil))) 0 rfl (.refl _)) (fun w1 hS => d_loadS hS BiE_isS_24 rfl 0 rfl (cs := [.bool false, .slice (some ⟨g7, 0, none⟩) 1 1, .slice (some ⟨g9, 0, none⟩) 1 1]) rfl rfl) ?_
   intro a hA
   refine any_tk (v := .pointer (some ⟨g2, 3, none⟩)) hA 6 rfl rfl rfl rfl hP (hS.partD (.cons_cons _ (.cons _ (.cons_cons _ .slnil))) 0 rfl (.refl _)) (fun w1 hS => d_field BiE_fld_26_1 rfl rfl) ?_
   intro a hA
   refine any_tk hA 7 rfl rfl rfl rfl hP (hS.partD (.cons_cons _ (.cons _ (.cons_cons _ .slnil))) 0 rfl (.refl _)) (fun w1 hS => d_loadS hS BiE_isS_24 rfl 1 rfl (cs := [.bool false, .slice a3 0 ac3, .slice a4 1 ac4]) rfl rfl) ?_
   intro a hA
   rcases Bool.eq_false_or_eq_true (decide (0 < (words x).length)) with hb15 | hb15
   · have hb15' := of_decide_eq_true hb15
     refine any_one (by kernel_rfl) (op_call hA 2 rfl rfl rfl rfl (enters_func  rfl rfl (fun w => by kernel_rfl)) (rminus_any (by rw [hb15]; try rfl)) ?_)
     rintro _ w17 ⟨rfl, hb16⟩
     replace hS := hS.call hb16
     refine ⟨_, rfl, (hS.partD (.cons_cons _ (.cons _ (.cons_cons _ .slnil))) 0 rfl (.refl _)), ?_⟩
     intro a hA
     refine any_one (by kernel_rfl) (op_call hA 4 rfl rfl rfl rfl (enters_func  rfl rfl (fun w => by kernel_rfl)) (rminus_any rfl) ?_)
     rintro _ w19 ⟨rfl, hb18⟩
     replace hS := hS.call hb18
     refine ⟨_, rfl, (hS.partD (.cons_cons _ (.cons _ (.cons_cons _ .slnil))) 0 rfl (.refl _)), ?_⟩
     intro a hA
     refine any_one (by kernel_rfl) (op_call hA 5 rfl rfl rfl rfl (enters_func  rfl rfl (fun w => by kernel_rfl)) (rsumOne_any ⟨(hS.rd 5 rfl), ha.s1.nil, ha.s1.cap⟩ ⟨(hS.rd 4 rfl), ha.s2.nil, ha.s2.cap⟩ ⟨(hS.rd 1 rfl), (fun h => by cases h), (Nat.le_refl _)⟩ ⟨(hS.rd 0 rfl), (fun h => by cases h), (Nat.le_refl _)⟩ hx (c := true) (y := x + 1) (by have h9 := words_pos_len x; simp only [sgn]; first | omega | (simp; omega)) (by simp)) ?_)
     rintro _ w24 ⟨f20_1, f20_c1, f20_2, f20_c2, rfl, hs21, hs22, hb23⟩
     replace hS := hS.call hb23
     replace hS := hS.addR hs21.rd
     replace hS := hS.addR hs22.rd
     refine ⟨_, rfl, (hS.partD (.cons_cons _ (.cons _ (.cons_cons _ .slnil))) 2 rfl (.refl _)), ?_⟩
     intro a hA
     refine any_tk (v := .agg #[.bool true, .slice f20_1 ((words (x + 1)).length) f20_c1, .slice f20_2 1 f20_c2, .bool false, .slice a3 0 ac3, .slice a4 1 ac4]) hA 8 rfl rfl rfl rfl hP (hS.partD (.cons_cons _ (.cons _ (.cons_cons _ .slnil))) 2 rfl (.refl _)) (fun w1 hS => d_build rfl (fun w => by kernel_rfl)) ?_
     intro a hA
     refine any_one (by kernel_rfl) (op_store (us := [.bool true, .slice f20_1 ((words (x + 1)).length) f20_c1, .slice f20_2 1 f20_c2, .bool false, .slice a3 0 ac3, .slice a4 1 ac4]) hA hS 9 rfl rfl rfl (sets_store rfl rfl rfl (by kernel_rfl) hS 1 rfl rfl rfl) 1 rfl rfl rfl rfl ?_)
     intro w25 hS
     refine ⟨(hS.partD (.cons_cons _ (.cons _ (.cons_cons _ .slnil))) 2 rfl (.refl _)), ?_⟩
     refine any_end (by kernel_rfl) ?_
     refine hK14 _ _ ?_
     refine wp_ret ?_
     refine hret _ _ ?_
     refine ends (v := .agg #[.bool true, .slice f20_1 ((words (x + 1)).length) f20_c1, .slice f20_2 1 f20_c2, .bool false, .slice a3 0 ac3, .slice a4 1 ac4]) hA rfl (.cons (res_cell hS BiE_isS_26 rfl 1 rfl (cs := [.bool true, .slice f20_1 ((words (x + 1)).length) f20_c1, .slice f20_2 1 f20_c2, .bool false, .slice a3 0 ac3, .slice a4 1 ac4]) rfl rfl) .nil) rfl ?_
     exact ⟨f20_1, f20_c1, f20_2, f20_c2, a3, ac3, a4, ac4, rfl, ⟨⟨(hS.rd 1 rfl), hs21.nil, hs21.cap⟩, ⟨(hS.rd 0 rfl), hs22.nil, hs22.cap⟩, ⟨(hS.rd 5 rfl), ha.s3.nil, ha.s3.cap⟩, ⟨(hS.rd 4 rfl), ha.s4.nil, ha.s4.cap⟩⟩, hS.bel⟩
   · have hb15' := of_decide_eq_false hb15
     refine any_one (by kernel_rfl) (op_call hA 2 rfl rfl rfl rfl (enters_func  rfl rfl (fun w => by kernel_rfl)) (rminus_any (by rw [hb15]; try rfl)) ?_)
     rintro _ w27 ⟨rfl, hb26⟩
     replace hS := hS.call hb26
     refine ⟨_, rfl, (hS.partD (.cons_cons _ (.cons _ (.cons_cons _ .slnil))) 0 rfl (.refl _)), ?_⟩
     intro a hA
     refine any_one (by kernel_rfl) (op_call hA 4 rfl rfl rfl rfl (enters_func  rfl rfl (fun w => by kernel_rfl)) (rminus_any rfl) ?_)
     rintro _ w29 ⟨rfl, hb28⟩
     replace hS := hS.call hb28
     refine ⟨_, rfl, (hS.partD (.cons_cons _ (.cons _ (.cons_cons _ .slnil))) 0 rfl (.refl _)), ?_⟩
     intro a hA
     refine any_one (by kernel_rfl) (op_call hA 5 rfl rfl rfl rfl (enters_func  rfl rfl (fun w => by kernel_rfl)) (rsumOne_any ⟨(hS.rd 5 rfl), ha.s1.nil, ha.s1.cap⟩ ⟨(hS.rd 4 rfl), ha.s2.nil, ha.s2.cap⟩ ⟨(hS.rd 1 rfl), (fun h => by cases h), (Nat.le_refl _)⟩ ⟨(hS.rd 0 rfl), (fun h => by cases h), (Nat.le_refl _)⟩ hx (c := true) (y := x + 1) (by have h9 := words_pos_len x; simp only [sgn]; first | omega | (simp; omega)) (by simp)) ?_)
     rintro _ w34 ⟨f30_1, f30_c1, f30_2, f30_c2, rfl, hs31, hs32, hb33⟩
     replace hS := hS.call hb33
     replace hS := hS.addR hs31.rd
     replace hS := hS.addR hs32.rd
     refine ⟨_, rfl, (hS.partD (.cons_cons _ (.cons _ (.cons_cons _ .slnil))) 2 rfl (.refl _)), ?_⟩
     intro a hA
     refine any_tk (v := .agg #[.bool true, .slice f30_1 ((words (x + 1)).length) f30_c1, .slice f30_2 1 f30_c2, .bool false, .slice a3 0 ac3, .slice a4 1 ac4]) hA 8 rfl rfl rfl rfl hP (hS.partD (.cons_cons _ (.cons _ (.cons_cons _ .slnil))) 2 rfl (.refl _)) (fun w1 hS => d_build rfl (fun w => by kernel_rfl)) ?_
     intro a hA
     refine any_one (by kernel_rfl) (op_store (us := [.bool true, .slice f30_1 ((words (x + 1)).length) f30_c1, .slice f30_2 1 f30_c2, .bool false, .slice a3 0 ac3, .slice a4 1 ac4]) hA hS 9 rfl rfl rfl (sets_store rfl rfl rfl (by kernel_rfl) hS 1 rfl rfl rfl) 1 rfl rfl rfl rfl ?_)
     intro w35 hS
     refine ⟨(hS.partD (.cons_cons _ (.cons _ (.cons_cons _ .slnil))) 2 rfl (.refl _)), ?_⟩
     refine any_end (by kernel_rfl) ?_
     refine hK14 _ _ ?_
     refine wp_ret ?_
     refine hret _ _ ?_
     refine ends (v := .agg #[.bool true, .slice f30_1 ((words (x + 1)).length) f30_c1, .slice f30_2 1 f30_c2, .bool false, .slice a3 0 ac3, .slice a4 1 ac4]) hA rfl (.cons (res_cell hS BiE_isS_26 rfl 1 rfl (cs := [.bool true, .slice f30_1 ((words (x + 1)).length) f30_c1, .slice f30_2 1 f30_c2, .bool false, .slice a3 0 ac3, .slice a4 1 ac4]) rfl rfl) .nil) rfl ?_
     exact ⟨f30_1, f30_c1, f30_2, f30_c2, a3, ac3, a4, ac4, rfl, ⟨⟨(hS.rd 1 rfl), hs31.nil, hs31.cap⟩, ⟨(hS.rd 0 rfl), hs32.nil, hs32.cap⟩, ⟨(hS.rd 5 rfl), ha.s3.nil, ha.s3.cap⟩, ⟨(hS.rd 4 rfl), ha.s4.nil, ha.s4.cap⟩⟩, hS.bel⟩
 · have hS : St w w [] [(a4, [1]), (a3, []), (a2, [1]), (a1, words x)] [] := ((((St.start w).addR ha.s1.rd).addR ha.s2.rd).addR ha.s3.rd).addR ha.s4.rd
   refine walk_of (l := [(0, .agg #[.bool true, .slice a1 ((words x).length) ac1, .slice a2 1 ac2, .bool false, .slice a3 0 ac3, .slice a4 1 ac4])]) Try.func33 rfl Try.ntmps33 rfl rfl ?_
   intro Q hret hnorm hP a hA
   refine wp_seq_k (fun K1 hK1 => ?_)
   refine wp_region_lit ?_
   refine seq_new hA hS rfl rfl rfl (fun g => .pointer (some ⟨g, 0, none⟩)) (d_box rfl rfl) rfl ?_
   intro g2 w3 hS a hA
   refine seq_new (vs := [.bool false, .slice none 0 0, .slice none 0 0, .bool false, .slice none 0 0, .slice none 0 0]) (t := 26) hA hS rfl rfl rfl (fun g => .pointer (some ⟨g, 0, none⟩)) (d_alloc (z := .agg #[.bool false, .slice none 0 0, .slice none 0 0, .bool false, .slice none 0 0, .slice none 0 0]) (by kernel_rfl) rfl) rfl ?_
   intro g4 w5 hS a hA
   refine seq_end ?_
   refine hK1 _ _ ?_
   refine wp_seq_k (fun K6 hK6 => ?_)
   refine wp_region_lit ?_
   refine seq_newU (us := [1]) (t := 41) (m := 1) hA hS rfl rfl rfl (d_buildSlice rfl (by kernel_rfl)) (by simp [Dig]) ?_
   intro g7 w8 hS a hA
   refine seq_newU (us := [1]) (t := 41) (m := 1) hA hS rfl rfl rfl (d_buildSlice rfl (by kernel_rfl)) (by simp [Dig]) ?_
   intro g9 w10 hS a hA
   refine seq_do (v := .agg #[.bool false, .slice (some ⟨g7, 0, none⟩) 1 1, .slice (some ⟨g9, 0, none⟩) 1 1]) hA rfl rfl rfl (d_build rfl (fun w => by kernel_rfl)) ?_
   intro a hA
   refine seq_new (vs := [.bool false, .slice none 0 0, .slice none 0 0]) (t := 24) hA hS rfl rfl rfl (fun g => .pointer (some ⟨g, 0, none⟩)) (d_alloc (z := .agg #[.bool false, .slice none 0 0, .slice none 0 0]) (by kernel_rfl) rfl) rfl ?_
   intro g11 w12 hS a hA
   refine seq_store (us := [.bool false, .slice (some ⟨g7, 0, none⟩) 1 1, .slice (some ⟨g9, 0, none⟩) 1 1]) hA hS rfl rfl (sets_store rfl rfl rfl (by kernel_rfl) hS 0 rfl rfl rfl) 0 rfl rfl rfl rfl ?_
   intro w13 hS
   refine seq_end ?_
   refine hK6 _ _ ?_
   refine wp_seq_k (fun K14 hK14 => ?_)
   refine wp_draw (S := fun w1 => St w w1 [(g11, [.bool false, .slice (some ⟨g7, 0, none⟩) 1 1, .slice (some ⟨g9, 0, none⟩) 1 1]), (g2, [.bool true, .slice a1 ((words x).length) ac1, .slice a2 1 ac2, .bool false, .slice a3 0 ac3, .slice a4 1 ac4])] [(some ⟨g9, 0, none⟩, [1]), (some ⟨g7, 0, none⟩, [1]), (a4, [1]), (a3, []), (a2, [1]), (a1, words x)] []) (by kernel_rfl) ?_
   replace hS := hS.drew
   refine any_tk (v := .pointer (some ⟨g2, 0, none⟩)) hA 0 rfl rfl rfl rfl hP (hS.partD (.cons_cons _ (.cons _ (.cons_cons _ .slnil))) 0 rfl (.refl _)) (fun w1 hS => d_field BiE_fld_26_0 rfl rfl) ?_
   intro a hA
   refine any_tk hA 1 rfl rfl rfl rfl hP (hS.partD (.cons_cons _ (.cons _ (.cons_cons _ .slnil))) 0 rfl (.refl _)) (fun w1 hS => d_loadS hS BiE_isS_24 rfl 1 rfl (cs := [.bool true, .slice a1 ((words x).length) ac1, .slice a2 1 ac2]) rfl rfl) ?_
   intro a hA
   refine any_tk hA 3 rfl rfl rfl rfl hP (hS.partD (.cons_cons _ (.cons _ (.cons_cons _ .slnil))) 0 rfl (.refl _)) (fun w1 hS => d_loadS hS BiE_isS_24 rfl 0 rfl (cs := [.bool false, .slice (some ⟨g7, 0, none⟩) 1 1, .slice (some ⟨g9, 0, none⟩) 1 1]) rfl rfl) ?_
   intro a hA
   refine any_tk (v := .pointer (some ⟨g2, 3, none⟩)) hA 6 rfl rfl rfl rfl hP (hS.partD (.cons_cons _ (.cons _ (.cons_cons _ .slnil))) 0 rfl (.refl _)) (fun w1 hS => d_field BiE_fld_26_1 rfl rfl) ?_
   intro a hA
   refine any_tk hA 7 rfl rfl rfl rfl hP (hS.partD (.cons_cons _ (.cons _ (.cons_cons _ .slnil))) 0 rfl (.refl _)) (fun w1 hS => d_loadS hS BiE_isS_24 rfl 1 rfl (cs := [.bool false, .slice a3 0 ac3, .slice a4 1 ac4]) rfl rfl) ?_
   intro a hA
   refine any_one (by kernel_rfl) (op_call hA 2 rfl rfl rfl rfl (enters_func  rfl rfl (fun w => by kernel_rfl)) (rminus_any rfl) ?_)
   rintro _ w16 ⟨rfl, hb15⟩
   replace hS := hS.call hb15
   refine ⟨_, rfl, (hS.partD (.cons_cons _ (.cons _ (.cons_cons _ .slnil))) 0 rfl (.refl _)), ?_⟩
   intro a hA
   refine any_one (by kernel_rfl) (op_call hA 4 rfl rfl rfl rfl (enters_func  rfl rfl (fun w => by kernel_rfl)) (rminus_any rfl) ?_)
   rintro _ w18 ⟨rfl, hb17⟩
   replace hS := hS.call hb17
   refine ⟨_, rfl, (hS.partD (.cons_cons _ (.cons _ (.cons_cons _ .slnil))) 0 rfl (.refl _)), ?_⟩
   intro a hA
   refine any_one (by kernel_rfl) (op_call hA 5 rfl rfl rfl rfl (enters_func  rfl rfl (fun w => by kernel_rfl)) (rsumOne_any ⟨(hS.rd 5 rfl), ha.s1.nil, ha.s1.cap⟩ ⟨(hS.rd 4 rfl), ha.s2.nil, ha.s2.cap⟩ ⟨(hS.rd 1 rfl), (fun h => by cases h), (Nat.le_refl _)⟩ ⟨(hS.rd 0 rfl), (fun h => by cases h), (Nat.le_refl _)⟩ hx (c := false) (y := x - 1) (by simp [sgn]; simp at hb; omega) (by simp)) ?_)
   rintro _ w23 ⟨f19_1, f19_c1, f19_2, f19_c2, rfl, hs20, hs21, hb22⟩
   replace hS := hS.call hb22
   replace hS := hS.addR hs20.rd
   replace hS := hS.addR hs21.rd
   refine ⟨_, rfl, (hS.partD (.cons_cons _ (.cons _ (.cons_cons _ .slnil))) 2 rfl (.refl _)), ?_⟩
   intro a hA
   refine any_tk (v := .agg #[.bool false, .slice f19_1 ((words (x - 1)).length) f19_c1, .slice f19_2 1 f19_c2, .bool false, .slice a3 0 ac3, .slice a4 1 ac4]) hA 8 rfl rfl rfl rfl hP (hS.partD (.cons_cons _ (.cons _ (.cons_cons _ .slnil))) 2 rfl (.refl _)) (fun w1 hS => d_build rfl (fun w => by kernel_rfl)) ?_
   intro a hA
   refine any_one (by kernel_rfl) (op_store (us := [.bool false, .slice f19_1 ((words (x - 1)).length) f19_c1, .slice f19_2 1 f19_c2, .bool false, .slice a3 0 ac3, .slice a4 1 ac4]) hA hS 9 rfl rfl rfl (sets_store rfl rfl rfl (by kernel_rfl) hS 1 rfl rfl rfl) 1 rfl rfl rfl rfl ?_)
   intro w24 hS
   refine ⟨(hS.partD (.cons_cons _ (.cons _ (.cons_cons _ .slnil))) 2 rfl (.refl _)), ?_⟩
   refine any_end (by kernel_rfl) ?_
   refine hK14 _ _ ?_
   refine wp_ret ?_
   refine hret _ _ ?_
   refine ends (v := .agg #[.bool false, .slice f19_1 ((words (x - 1)).length) f19_c1, .slice f19_2 1 f19_c2, .bool false, .slice a3 0 ac3, .slice a4 1 ac4]) hA rfl (.cons (res_cell hS BiE_isS_26 rfl 1 rfl (cs := [.bool false, .slice f19_1 ((words (x - 1)).length) f19_c1, .slice f19_2 1 f19_c2, .bool false, .slice a3 0 ac3, .slice a4 1 ac4]) rfl rfl) .nil) rfl ?_
   exact ⟨f19_1, f19_c1, f19_2, f19_c2, a3, ac3, a4, ac4, rfl, ⟨⟨(hS.rd 1 rfl), hs20.nil, hs20.cap⟩, ⟨(hS.rd 0 rfl), hs21.nil, hs21.cap⟩, ⟨(hS.rd 5 rfl), ha.s3.nil, ha.s3.cap⟩, ⟨(hS.rd 4 rfl), ha.s4.nil, ha.s4.cap⟩⟩, hS.bel⟩
theorem down_any {w : World} {b : Bool} {ro : Option Addr} {rc y : Nat} {n : Int} (hr : Sc w ro rc (words y)) (hy : (words y).length ≤ 512) (h0 : 0 ≤ n) (h1 : n ≤ 16384) :
    Calls Try.prog 37 #[.agg #[.bool b, .slice ro (words y).length rc], .int .i64 n] w fun e w' => ∃ o c, e = .returned (.agg #[.bool b, .slice o (words (y / 2 ^ n.toNat)).length c]) ∧ Sc w' o c (words (y / 2 ^ n.toNat)) ∧ Below w.heap.size w w' := by
 have hS : St w w [] [(ro, words y)] [] := (St.start w).addR hr.rd
 refine walk_of (l := [(0, .agg #[.bool b, .slice ro ((words y).length) rc]), (1, .int .i64 n)]) Try.func37 rfl Try.ntmps37 rfl rfl ?_
 intro Q hret hnorm hP a hA
 refine wp_seq_k (fun K1 hK1 => ?_)
 refine wp_region_lit ?_
 refine seq_new hA hS rfl rfl rfl (fun g => .pointer (some ⟨g, 0, none⟩)) (d_box rfl rfl) rfl ?_
 intro g2 w3 hS a hA
 refine seq_new (vs := [.bool false, .slice none 0 0]) (t := 49) hA hS rfl rfl rfl (fun g => .pointer (some ⟨g, 0, none⟩)) (d_alloc (z := .agg #[.bool false, .slice none 0 0]) (by kernel_rfl) rfl) rfl ?_
 intro g4 w5 hS a hA
 refine seq_end ?_
 refine hK1 _ _ ?_
 refine wp_seq_k (fun K6 hK6 => ?_)
 refine wp_region_lit ?_
 refine seq_do (v := .pointer (some ⟨g2, 1, none⟩)) hA rfl rfl rfl (d_field BiE_fld_49_1 rfl rfl) ?_
 intro a hA
 refine seq_do hA rfl rfl rfl (d_load1 hS BiE_is1_22 rfl 1 rfl rfl) ?_
 intro a hA
 refine seq_do hA rfl rfl rfl (d_move rfl) ?_
 intro a hA
 refine seq_do (v := .int .i64 (-n)) hA rfl rfl rfl (d_un rfl (un_neg (i64In (by omega) (by omega)))) ?_
 intro a hA
 refine seq_call hA rfl rfl rfl (enters_func  rfl rfl (fun w => by kernel_rfl)) (shift_downI (n := n) _ (hS.rd 0 rfl) hy (by omega) (by omega)) ?_
 rintro _ w11 ⟨ro7, rc8, rfl, ho9, hb10⟩
 replace hS := hS.call hb10
 replace hS := hS.addR ho9.rd
 refine ⟨_, rfl, ?_⟩
 intro a hA
 refine seq_do hA rfl rfl rfl (d_move rfl) ?_
 intro a hA
 refine seq_do (v := .slice ro7 ((words (y / 2 ^ n.toNat)).length) rc8) hA rfl rfl rfl (d_extract (vs := [.slice ro7 ((words (y / 2 ^ n.toNat)).length) rc8, .int .i64 0]) rfl rfl) ?_
 intro a hA
 refine seq_do (v := .int .i64 0) hA rfl rfl rfl (d_extract (vs := [.slice ro7 ((words (y / 2 ^ n.toNat)).length) rc8, .int .i64 0]) rfl rfl) ?_
 intro a hA
 refine seq_do hA rfl rfl rfl (d_assign rfl) ?_
 intro a hA
 refine seq_do hA rfl rfl rfl (d_assign rfl) ?_
 intro a hA
 refine seq_end ?_
 refine hK6 _ _ ?_
 refine wp_seq_k (fun K12 hK12 => ?_)
 refine wp_region_lit ?_
 refine seq_do (v := .pointer (some ⟨g2, 0, none⟩)) hA rfl rfl rfl (d_field BiE_fld_49_0 rfl rfl) ?_
 intro a hA
 refine seq_do hA rfl rfl rfl (d_load1 hS BiE_is1_4 rfl 1 rfl rfl) ?_
 intro a hA
 refine seq_do hA rfl rfl rfl (d_move rfl) ?_
 intro a hA
 refine seq_do (v := .agg #[.bool b, .slice ro7 ((words (y / 2 ^ n.toNat)).length) rc8]) hA rfl rfl rfl (d_build rfl (fun w => by kernel_rfl)) ?_
 intro a hA
 refine seq_store (us := [.bool b, .slice ro7 ((words (y / 2 ^ n.toNat)).length) rc8]) hA hS rfl rfl (sets_store rfl rfl rfl (by kernel_rfl) hS 0 rfl rfl rfl) 0 rfl rfl rfl rfl ?_
 intro w13 hS
 refine seq_end ?_
 refine hK12 _ _ ?_
 refine wp_ret ?_
 refine hret _ _ ?_
 refine ends (v := .agg #[.bool b, .slice ro7 ((words (y / 2 ^ n.toNat)).length) rc8]) hA rfl (.cons (res_cell hS BiE_isS_49 rfl 0 rfl (cs := [.bool b, .slice ro7 ((words (y / 2 ^ n.toNat)).length) rc8]) rfl rfl) .nil) rfl ?_
 exact ⟨_, _, rfl, ⟨(hS.rd 0 rfl), ho9.nocap, ho9.caps⟩, hS.bel⟩
end Go.Proofs.Ytfhpeeljjcphpaa
namespace Go.Proofs.Ytfhpeeljjcphpaa
open Go.RowKit
set_option linter.unusedVariables false
set_option linter.unusedSimpArgs false

end Go.Proofs.Ytfhpeeljjcphpaa
namespace Go.Proofs.Ytfhpeeljjcphpaa
open Go.RowKit
set_option linter.unusedVariables false
set_option linter.unusedSimpArgs false
set_option maxRecDepth 100000
theorem BiF_isS_24 : IsS Try.prog 24 3 := ⟨⟨_, Try.underlying24⟩, by kernel_rfl⟩
theorem rzero_any (w : World) : Calls Try.prog 40 #[] w (AnsF w false [] [1]) := by
 have hS : St w w [] [] [] := St.start w
 refine walk_of (l := []) Try.func40 rfl Try.ntmps40 rfl rfl ?_
 intro Q hret hnorm hP a hA
 refine wp_seq_k (fun K1 hK1 => ?_)
 refine wp_region_lit ?_
 refine seq_new (vs := [.bool false, .slice none 0 0, .slice none 0 0]) (t := 24) hA hS rfl rfl rfl (fun g => .pointer (some ⟨g, 0, none⟩)) (d_alloc (z := .agg #[.bool false, .slice none 0 0, .slice none 0 0]) (by kernel_rfl) rfl) rfl ?_
 intro g2 w3 hS a hA
 refine seq_end ?_
 refine hK1 _ _ ?_
 refine wp_seq_k (fun K4 hK4 => ?_)
 refine wp_region_lit ?_
 refine seq_newU (us := [1]) (t := 41) (m := 1) hA hS rfl rfl rfl (d_buildSlice rfl (by kernel_rfl)) (by simp [Dig]) ?_
 intro g5 w6 hS a hA
 refine seq_do (v := .agg #[.bool false, .slice none 0 0, .slice (some ⟨g5, 0, none⟩) 1 1]) hA rfl rfl rfl (d_build rfl (fun w => by kernel_rfl)) ?_
 intro a hA
 refine seq_store (us := [.bool false, .slice none 0 0, .slice (some ⟨g5, 0, none⟩) 1 1]) hA hS rfl rfl (sets_store rfl rfl rfl (by kernel_rfl) hS 0 rfl rfl rfl) 0 rfl rfl rfl rfl ?_
 intro w7 hS
 refine seq_end ?_
 refine hK4 _ _ ?_
 refine wp_ret ?_
 refine hret _ _ ?_
 refine ends (v := .agg #[.bool false, .slice none 0 0, .slice (some ⟨g5, 0, none⟩) 1 1]) hA rfl (.cons (res_cell hS BiF_isS_24 rfl 0 rfl (cs := [.bool false, .slice none 0 0, .slice (some ⟨g5, 0, none⟩) 1 1]) rfl rfl) .nil) rfl ?_
 exact ⟨none, 0, some ⟨g5, 0, none⟩, 1, rfl, (Sc.none _), ⟨(hS.rd 0 rfl), (fun h => by cases h), (Nat.le_refl _)⟩, hS.bel⟩
end Go.Proofs.Ytfhpeeljjcphpaa
namespace Go.Proofs.Ytfhpeeljjcphpaa
open Go.RowKit
set_option linter.unusedVariables false
set_option linter.unusedSimpArgs false

section
variable {P : Program} {l : List (Nat × Value)} {dst : Option Tmp} {ty t : TypeId} {pos : String} {after : Array Edge} {guard : Option (Nat × Bool)} {w : World} {x y : Operand}
theorem bin_shr {x k : Nat} {a b : Operand} (hx : x < 4294967296) (hk : k < 32) : ∀ w, (do eqGuard .shr t a b (.int .u32 x) (.int .u64 ((k : Nat) : Int)); binOp .shr t (.int .u32 (x : Nat)) (.int .u64 ((k : Nat) : Int)) : Sem Value).run P w = .ok (.int .u32 ((x / 2 ^ k : Nat) : Int)) w := fun w => by
  simp [go_sem]
end
end Go.Proofs.Ytfhpeeljjcphpaa
namespace Go.Proofs.Ytfhpeeljjcphpaa
open Go.RowKit
set_option linter.unusedVariables false
set_option linter.unusedSimpArgs false
set_option maxRecDepth 100000
end Go.Proofs.Ytfhpeeljjcphpaa
namespace Go.Proofs.Ytfhpeeljjcphpaa
open Go.RowKit
set_option linter.unusedVariables false
set_option linter.unusedSimpArgs false

/-- The word at i of a row without end. -/
def rwd (b : Bool) (y i : Nat) : Nat := (y / pw i % 4294967296) ^^^ (b.toNat * 4294967295)
theorem ends_lt (b : Bool) : b.toNat * 4294967295 < 4294967296 := by cases b <;> decide
theorem rwd_lt (b : Bool) (y i : Nat) : rwd b y i < 4294967296 := Nat.xor_lt_two_pow (n := 32) (Nat.mod_lt _ (by decide)) (ends_lt b)
theorem rwd_end {b : Bool} {y i : Nat} (h : (words y).length ≤ i) : rwd b y i = b.toNat * 4294967295 := by
  unfold rwd
  rw [div_words_length y i h, Nat.zero_mod, Nat.zero_xor]
/-- An operation on words, and what it makes of signs. -/
structure BOp (fop : Nat → Nat → Nat) (fb : Bool → Bool → Bool) : Prop where
  lt : ∀ x y, x < 4294967296 → y < 4294967296 → fop x y < 4294967296
  ends : ∀ b c, fop (b.toNat * 4294967295) (c.toNat * 4294967295) = (fb b c).toNat * 4294967295
def outW (fop : Nat → Nat → Nat) (fb : Bool → Bool → Bool) (b1 : Bool) (y1 : Nat) (b2 : Bool) (y2 i : Nat) : Nat := fop (rwd b1 y1 i) (rwd b2 y2 i) ^^^ ((fb b1 b2).toNat * 4294967295)
section
variable {fop : Nat → Nat → Nat} {fb : Bool → Bool → Bool} {b1 b2 : Bool} {y1 y2 : Nat}
theorem outW_lt (h : BOp fop fb) (i : Nat) : outW fop fb b1 y1 b2 y2 i < 4294967296 := Nat.xor_lt_two_pow (n := 32) (h.lt _ _ (rwd_lt _ _ _) (rwd_lt _ _ _)) (ends_lt _)
def outL (fop : Nat → Nat → Nat) (fb : Bool → Bool → Bool) (b1 : Bool) (y1 : Nat) (b2 : Bool) (y2 N : Nat) : List Nat := (List.range N).map (outW fop fb b1 y1 b2 y2)
theorem outL_len (N : Nat) : (outL fop fb b1 y1 b2 y2 N).length = N := by simp [outL]
theorem outL_get {N i : Nat} (h : i < N) : (outL fop fb b1 y1 b2 y2 N).getD i 0 = outW fop fb b1 y1 b2 y2 i := by simp [outL, h]
theorem outL_dig (h : BOp fop fb) (N : Nat) : Dig (outL fop fb b1 y1 b2 y2 N) := by
  intro x hx
  obtain ⟨i, _, rfl⟩ := List.mem_map.1 hx
  exact outW_lt h i
end
/-- The size of what two rows are put together to, without the last one of a number below 0. -/
def putY (fop : Nat → Nat → Nat) (fb : Bool → Bool → Bool) (b1 : Bool) (y1 : Nat) (b2 : Bool) (y2 : Nat) : Nat := val (outL fop fb b1 y1 b2 y2 (max (words y1).length (words y2).length))
theorem and_op : BOp (fun x y => x &&& y) (fun b c => b && c) := ⟨fun x y hx _ => Nat.lt_of_le_of_lt Nat.and_le_left hx, by intro b c; cases b <;> cases c <;> decide⟩
theorem btrimN_any {B : Nat} {w : World} {ao : Option Addr} {cap n : Nat} {l : List Nat} (h : Own B w ao cap l) (hn : l.length = n) (hl : n ≤ 1000000) :
    Calls Try.prog 70 #[.slice ao n cap] w fun e w' => e = .returned (.slice ao (words (val l)).length cap) ∧ Own B w ao cap (words (val l)) ∧ w' = w := by
  subst hn
  exact btrim_any h hl
section
variable {P : Program} {t : TypeId} {a b : Operand} {x y : Nat}
theorem bin_and (hx : x < 4294967296) (hy : y < 4294967296) : ∀ w, (do eqGuard .and t a b (.int .u32 ((x : Nat) : Int)) (.int .u32 ((y : Nat) : Int)); binOp .and t (.int .u32 ((x : Nat) : Int)) (.int .u32 ((y : Nat) : Int)) : Sem Value).run P w = .ok (.int .u32 ((x &&& y : Nat) : Int)) w := fun w => by
  simp [go_sem, and_u32 x y hx hy]
theorem bin_or (hx : x < 4294967296) (hy : y < 4294967296) : ∀ w, (do eqGuard .or t a b (.int .u32 ((x : Nat) : Int)) (.int .u32 ((y : Nat) : Int)); binOp .or t (.int .u32 ((x : Nat) : Int)) (.int .u32 ((y : Nat) : Int)) : Sem Value).run P w = .ok (.int .u32 ((x ||| y : Nat) : Int)) w := fun w => by
  simp [go_sem, or_u32 x y hx hy]
theorem bin_xor {z : Nat} (hx : x < 4294967296) (hy : y < 4294967296) (hz : x ^^^ y = z) : ∀ w, (do eqGuard .xor t a b (.int .u32 ((x : Nat) : Int)) (.int .u32 ((y : Nat) : Int)); binOp .xor t (.int .u32 ((x : Nat) : Int)) (.int .u32 ((y : Nat) : Int)) : Sem Value).run P w = .ok (.int .u32 ((z : Nat) : Int)) w := fun w => by
  subst hz
  simp [go_sem, xor_u32 x y hx hy]
theorem run_max {ts : Array TypeId} {ty : TypeId} {m n : Nat} : ∀ w cs, (builtin .max ts ty cs #[.int .i64 ((m : Nat) : Int), .int .i64 ((n : Nat) : Int)]).run P w = .ok (.value (.int .i64 ((max m n : Nat) : Int))) w := fun w cs => by
  rw [BigFrame.builtin_max]
  have e : (if ((n : Nat) : Int) > ((m : Nat) : Int) then ((n : Nat) : Int) else ((m : Nat) : Int)) = ((max m n : Nat) : Int) := by
    by_cases h : m < n
    · rw [if_pos (by omega), Nat.max_eq_right (by omega)]
    · rw [if_neg (by omega), Nat.max_eq_left (by omega)]
  simp only [Builtin.max_, List.foldlM_cons, List.foldlM_nil, Builtin.max2, Sem.run_bind, Sem.run_pure, Result.andThen_ok, e]
end
end Go.Proofs.Ytfhpeeljjcphpaa
namespace Go.Proofs.Ytfhpeeljjcphpaa
open Go.RowKit
set_option linter.unusedVariables false
set_option linter.unusedSimpArgs false
set_option maxRecDepth 100000
theorem BiH_is1_22 : Is1 Try.prog 22 := ⟨⟨_, Try.underlying22, rfl⟩, by kernel_rfl⟩
theorem BiH_is1_41 : Is1 Try.prog 41 := ⟨⟨_, Try.underlying41, rfl⟩, by kernel_rfl⟩
theorem BiH_fld_49_1 : FieldAt Try.prog 49 1 1 := ⟨_, _, Try.underlying49, rfl, rfl, by kernel_rfl⟩
theorem BiH_isS_49 : IsS Try.prog 49 2 := ⟨⟨_, Try.underlying49⟩, by kernel_rfl⟩
theorem rwordAt_any {w : World} {b : Bool} {ro : Option Addr} {rc y i : Nat} (hr : Rd w ro (words y)) (hy : (words y).length ≤ 100000) : Calls Try.prog 69 #[.agg #[.bool b, .slice ro (words y).length rc], .int .i64 ((i : Nat) : Int)] w fun e w' => e = .returned (.int .u32 ((rwd b y i : Nat) : Int)) ∧ Below w.heap.size w w' := by
 have hS : St w w [] [(ro, words y)] [] := (St.start w).addR hr
 refine walk_of (l := [(0, .agg #[.bool b, .slice ro ((words y).length) rc]), (1, .int .i64 (((i : Nat) : Int)))]) Try.func69 rfl Try.ntmps69 rfl rfl ?_
 intro Q hret hnorm hP a hA
 refine wp_seq_k (fun K1 hK1 => ?_)
 refine wp_region_lit ?_
 refine seq_new hA hS rfl rfl rfl (fun g => .pointer (some ⟨g, 0, none⟩)) (d_box rfl rfl) rfl ?_
 intro g2 w3 hS a hA
 refine seq_do hA rfl rfl rfl (d_assign rfl) ?_
 intro a hA
 refine seq_end ?_
 refine hK1 _ _ ?_
 refine wp_seq_k (fun K4 hK4 => ?_)
 refine wp_seq_k (fun K5 hK5 => ?_)
 refine wp_region_lit ?_
 refine seq_do hA rfl rfl rfl (d_move rfl) ?_
 intro a hA
 refine seq_do (v := .pointer (some ⟨g2, 1, none⟩)) hA rfl rfl rfl (d_field BiH_fld_49_1 rfl rfl) ?_
 intro a hA
 refine seq_do hA rfl rfl rfl (d_load1 hS BiH_is1_22 rfl 0 rfl rfl) ?_
 intro a hA
 refine seq_do (v := .int .i64 ((((words y).length : Nat) : Int))) hA rfl rfl rfl (d_len Try.underlying22 rfl) ?_
 intro a hA
 rcases Bool.eq_false_or_eq_true (decide ((((words y).length : Nat) : Int) ≤ ((i : Nat) : Int))) with hb6 | hb6
 · have hb6' := of_decide_eq_true hb6
   refine seq_do (v := .bool true) hA rfl rfl rfl (d_bin rfl rfl (fun w => (bin_geq w).trans (by rw [hb6]))) ?_
   intro a hA
   refine seq_end ?_
   refine hK5 _ _ ?_
   refine wp_cond_true (hA.ev rfl) ?_
   refine wp_seq_k (fun K7 hK7 => ?_)
   refine wp_region_lit ?_
   refine seq_do hA rfl rfl rfl (d_loadS hS BiH_isS_49 rfl 0 rfl (cs := [.bool b, .slice ro ((words y).length) rc]) rfl rfl) ?_
   intro a hA
   refine seq_call hA rfl rfl rfl (enters_func  rfl rfl (fun w => by kernel_rfl)) (endless_any) ?_
   rintro _ w9 ⟨rfl, hb8⟩
   replace hS := hS.call hb8
   refine ⟨_, rfl, ?_⟩
   intro a hA
   refine seq_do hA rfl rfl rfl (d_assign rfl) ?_
   intro a hA
   refine seq_end ?_
   refine hK7 _ _ ?_
   refine wp_ret ?_
   refine hret _ _ ?_
   refine ends (v := .int .u32 (((b.toNat * 4294967295 : Nat) : Int))) hA rfl (.cons (res_tmp rfl) .nil) rfl ?_
   rw [rwd_end (by omega)]
   exact ⟨rfl, hS.bel⟩
 · have hb6' := of_decide_eq_false hb6
   refine seq_do (v := .bool false) hA rfl rfl rfl (d_bin rfl rfl (fun w => (bin_geq w).trans (by rw [hb6]))) ?_
   intro a hA
   refine seq_end ?_
   refine hK5 _ _ ?_
   refine wp_cond_false (hA.ev rfl) ?_
   refine wp_skip ?_
   refine hK4 _ _ ?_
   refine wp_seq_k (fun K10 hK10 => ?_)
   refine wp_draw (S := fun w1 => St w w1 [(g2, [.bool b, .slice ro ((words y).length) rc])] [(ro, words y)] []) (by kernel_rfl) ?_
   replace hS := hS.drew
   refine any_tk (v := .pointer (some ⟨g2, 1, none⟩)) hA 0 rfl rfl rfl rfl hP hS (fun w1 hS => d_field BiH_fld_49_1 rfl rfl) ?_
   intro a hA
   refine any_tk hA 1 rfl rfl rfl rfl hP hS (fun w1 hS => d_load1 hS BiH_is1_22 rfl 0 rfl rfl) ?_
   intro a hA
   refine any_tk hA 2 rfl rfl rfl rfl hP hS (fun w1 hS => d_move rfl) ?_
   intro a hA
   have hi14 : i < (words y).length := by first | omega | (simp only [List.length_set]; omega)
   obtain ⟨b11, f12, hso13⟩ := Rd.addr (hS.rd 0 rfl) hi14
   refine any_tk (v := .pointer (some ⟨b11, f12 + i, none⟩)) hA 3 rfl rfl rfl rfl hP hS (fun w1 hS => d_indexRow (k := i) Try.underlying22 (by kernel_rfl) rfl rfl (by omega) hso13 hi14) ?_
   intro a hA
   refine any_tk (v := .int .u32 ((((words y).getD i 0 : Nat) : Int))) hA 4 rfl rfl rfl rfl hP hS (fun w1 hS => d_loadRow (hS.rd 0 rfl) hso13 hi14 BiH_is1_41 rfl) ?_
   intro a hA
   refine any_tk hA 5 rfl rfl rfl rfl hP hS (fun w1 hS => d_loadS hS BiH_isS_49 rfl 0 rfl (cs := [.bool b, .slice ro ((words y).length) rc]) rfl rfl) ?_
   intro a hA
   refine any_one (by kernel_rfl) (op_call hA 6 rfl rfl rfl rfl (enters_func  rfl rfl (fun w => by kernel_rfl)) (endless_any) ?_)
   rintro _ w16 ⟨rfl, hb15⟩
   replace hS := hS.call hb15
   refine ⟨_, rfl, hS, ?_⟩
   intro a hA
   refine any_tk (v := .int .u32 (((rwd b y i : Nat) : Int))) hA 7 rfl rfl rfl rfl hP hS (fun w1 hS => d_bin rfl rfl (bin_xor (by rw [words_getD]; exact Nat.mod_lt _ (by decide)) (ends_lt b) (by rw [words_getD]; rfl))) ?_
   intro a hA
   refine any_tk hA 8 rfl rfl rfl rfl hP hS (fun w1 hS => d_assign rfl) ?_
   intro a hA
   refine any_end (by kernel_rfl) ?_
   refine hK10 _ _ ?_
   refine wp_ret ?_
   refine hret _ _ ?_
   refine ends (v := .int .u32 (((rwd b y i : Nat) : Int))) hA rfl (.cons (res_tmp rfl) .nil) rfl ?_
   exact ⟨rfl, hS.bel⟩
theorem andF_any (x y : Nat) (w : World) (hx : x < 4294967296) (hy : y < 4294967296) : Calls Try.prog 23 #[.int .u32 ((x : Nat) : Int), .int .u32 ((y : Nat) : Int)] w fun e w' => e = .returned (.int .u32 ((x &&& y : Nat) : Int)) ∧ Below w.heap.size w w' := by
 have hS : St w w [] [] [] := St.start w
 refine walk_of (l := [(0, .int .u32 (((x : Nat) : Int))), (1, .int .u32 (((y : Nat) : Int)))]) Try.func23 rfl Try.ntmps23 rfl rfl ?_
 intro Q hret hnorm hP a hA
 refine wp_seq_k (fun K1 hK1 => ?_)
 refine wp_region_lit ?_
 refine seq_do hA rfl rfl rfl (d_assign rfl) ?_
 intro a hA
 refine seq_end ?_
 refine hK1 _ _ ?_
 refine wp_seq_k (fun K2 hK2 => ?_)
 refine wp_region_lit ?_
 refine seq_do hA rfl rfl rfl (d_move rfl) ?_
 intro a hA
 refine seq_do hA rfl rfl rfl (d_move rfl) ?_
 intro a hA
 refine seq_do (v := .int .u32 (((x &&& y : Nat) : Int))) hA rfl rfl rfl (d_bin rfl rfl (bin_and hx hy)) ?_
 intro a hA
 refine seq_do hA rfl rfl rfl (d_assign rfl) ?_
 intro a hA
 refine seq_end ?_
 refine hK2 _ _ ?_
 refine wp_ret ?_
 refine hret _ _ ?_
 refine ends (v := .int .u32 (((x &&& y : Nat) : Int))) hA rfl (.cons (res_tmp rfl) .nil) rfl ?_
 exact ⟨rfl, hS.bel⟩
/-- A function that is handed in does so. -/
structure Fun2 (F : FuncId) (fop : Nat → Nat → Nat) : Prop where
  inv : ∀ vs w, (invoke (.fn (.func F) #[]) vs).run Try.prog w = .ok (.enter F vs) w
  does : ∀ x y w, x < 4294967296 → y < 4294967296 → Calls Try.prog F #[.int .u32 ((x : Nat) : Int), .int .u32 ((y : Nat) : Int)] w fun e w' => e = .returned (.int .u32 ((fop x y : Nat) : Int)) ∧ Below w.heap.size w w'
theorem andFun : Fun2 23 (fun x y => x &&& y) := ⟨fun vs w => by simp [go_sem, invoke, callFunc, Try.func23, Try.f23], andF_any⟩
theorem combined_any {w : World} {F : FuncId} {fop : Nat → Nat → Nat} {fb : Bool → Bool → Bool} (hF : Fun2 F fop) (hB : BOp fop fb) {b1 b2 : Bool} {r1 r2 : Option Addr} {rc1 rc2 y1 y2 : Nat} (h1 : Rd w r1 (words y1)) (h2 : Rd w r2 (words y2)) (k1 : (words y1).length ≤ 600) (k2 : (words y2).length ≤ 600) :
    Calls Try.prog 48 #[.agg #[.bool b1, .slice r1 (words y1).length rc1], .func (.func F) #[] #[], .agg #[.bool b2, .slice r2 (words y2).length rc2]] w fun e w' => ∃ o c, e = .returned (.agg #[.bool (fb b1 b2), .slice o (words (putY fop fb b1 y1 b2 y2)).length c]) ∧ Sc w' o c (words (putY fop fb b1 y1 b2 y2)) ∧ Below w.heap.size w w' := by
 have hnb : (((fop (b1.toNat * 4294967295) (b2.toNat * 4294967295) : Nat) : Int) != 0) = fb b1 b2 := by
   rw [hB.ends]
   cases fb b1 b2 <;> decide
 have hS : St w w [] [] [] := St.start w
 refine walk_of (l := [(0, .agg #[.bool b1, .slice r1 ((words y1).length) rc1]), (1, .func (.func F) #[] #[]), (2, .agg #[.bool b2, .slice r2 ((words y2).length) rc2])]) Try.func48 rfl Try.ntmps48 rfl rfl ?_
 intro Q hret hnorm hP a hA
 refine wp_seq_k (fun K1 hK1 => ?_)
 refine wp_region_lit ?_
 refine seq_new hA hS rfl rfl rfl (fun g => .pointer (some ⟨g, 0, none⟩)) (d_box rfl rfl) rfl ?_
 intro g2 w3 hS a hA
 refine seq_new hA hS rfl rfl rfl (fun g => .pointer (some ⟨g, 0, none⟩)) (d_box rfl rfl) rfl ?_
 intro g4 w5 hS a hA
 refine seq_new (vs := [.bool false, .slice none 0 0]) (t := 49) hA hS rfl rfl rfl (fun g => .pointer (some ⟨g, 0, none⟩)) (d_alloc (z := .agg #[.bool false, .slice none 0 0]) (by kernel_rfl) rfl) rfl ?_
 intro g6 w7 hS a hA
 refine seq_end ?_
 refine hK1 _ _ ?_
 refine wp_seq_k (fun K8 hK8 => ?_)
 have hJ19 : ∀ a w1, (∃ (J18g : Nat), Sl a 53 [(0, .agg #[.bool b1, .slice r1 ((words y1).length) rc1]), (1, .func (.func F) #[] #[]), (2, .agg #[.bool b2, .slice r2 ((words y2).length) rc2]), (3, .pointer (some ⟨g2, 0, none⟩)), (5, .pointer (some ⟨g4, 0, none⟩)), (6, .pointer (some ⟨g6, 0, none⟩)), (7, .pointer (some ⟨J18g, 0, none⟩))] ∧ St w w1 [(J18g, [.bool ((fb b1 b2)), .slice none 0 0]), (g6, [.bool false, .slice none 0 0]), (g4, [.bool b2, .slice r2 ((words y2).length) rc2]), (g2, [.bool b1, .slice r1 ((words y1).length) rc1])] [] []) → K8 a w1 := by
   clear hA hS
   rintro a w20 ⟨J18g, hA, hS⟩
   refine hK8 _ _ ?_
   refine wp_seq_k (fun K21 hK21 => ?_)
   refine wp_region_lit ?_
   refine seq_do (v := .pointer (some ⟨g2, 1, none⟩)) hA rfl rfl rfl (d_field BiH_fld_49_1 rfl rfl) ?_
   intro a hA
   refine seq_do hA rfl rfl rfl (d_load1 hS BiH_is1_22 rfl 3 rfl rfl) ?_
   intro a hA
   refine seq_do (v := .int .i64 ((((words y1).length : Nat) : Int))) hA rfl rfl rfl (d_len Try.underlying22 rfl) ?_
   intro a hA
   refine seq_do (v := .pointer (some ⟨g4, 1, none⟩)) hA rfl rfl rfl (d_field BiH_fld_49_1 rfl rfl) ?_
   intro a hA
   refine seq_do hA rfl rfl rfl (d_load1 hS BiH_is1_22 rfl 2 rfl rfl) ?_
   intro a hA
   refine seq_do (v := .int .i64 ((((words y2).length : Nat) : Int))) hA rfl rfl rfl (d_len Try.underlying22 rfl) ?_
   intro a hA
   refine seq_do (v := .int .i64 (((max (words y1).length (words y2).length : Nat) : Int))) hA rfl rfl rfl (d_builtin rfl run_max) ?_
   intro a hA
   refine seq_make (m := max (words y1).length (words y2).length) hA hS rfl rfl rfl (d_make Try.underlying22 (by kernel_rfl) rfl rfl (by omega)) (by omega) ?_
   intro g22 w23 hS a hA
   refine seq_do (v := .pointer (some ⟨J18g, 1, none⟩)) hA rfl rfl rfl (d_field BiH_fld_49_1 rfl rfl) ?_
   intro a hA
   refine seq_store (us := [.bool ((fb b1 b2)), .slice (some ⟨g22, 0, none⟩) (max (words y1).length (words y2).length) (max (words y1).length (words y2).length)]) hA hS rfl rfl (sets_store rfl rfl rfl (by kernel_rfl) hS 0 rfl rfl rfl) 0 rfl rfl rfl rfl ?_
   intro w24 hS
   refine seq_end ?_
   refine hK21 _ _ ?_
   refine wp_seq_k (fun K25 hK25 => ?_)
   refine wp_seq_k (fun K26 hK26 => ?_)
   refine wp_region_lit ?_
   refine seq_do (v := .pointer (some ⟨J18g, 1, none⟩)) hA rfl rfl rfl (d_field BiH_fld_49_1 rfl rfl) ?_
   intro a hA
   refine seq_do hA rfl rfl rfl (d_load1 hS BiH_is1_22 rfl 0 rfl rfl) ?_
   intro a hA
   refine seq_do (v := .int .i64 (((max (words y1).length (words y2).length : Nat) : Int))) hA rfl rfl rfl (d_len Try.underlying22 rfl) ?_
   intro a hA
   refine seq_do hA rfl rfl rfl (d_move rfl) ?_
   intro a hA
   refine seq_end ?_
   refine hK26 _ _ ?_
   refine wp_block ?_
   refine wp_loop_n (fun m a w1 => ∃ (i : Nat) (l : List Nat), m = max (words y1).length (words y2).length - i ∧ (i ≤ max (words y1).length (words y2).length ∧ l.length = max (words y1).length (words y2).length ∧ ∀ j, j < i → l.getD j 0 = outW fop fb b1 y1 b2 y2 j) ∧ Sl a 53 [(0, .agg #[.bool b1, .slice r1 ((words y1).length) rc1]), (1, .func (.func F) #[] #[]), (2, .agg #[.bool b2, .slice r2 ((words y2).length) rc2]), (3, .pointer (some ⟨g2, 0, none⟩)), (5, .pointer (some ⟨g4, 0, none⟩)), (6, .pointer (some ⟨g6, 0, none⟩)), (7, .pointer (some ⟨J18g, 0, none⟩)), (17, .pointer (some ⟨g2, 1, none⟩)), (18, .slice r1 ((words y1).length) rc1), (19, .int .i64 ((((words y1).length : Nat) : Int))), (20, .pointer (some ⟨g4, 1, none⟩)), (21, .slice r2 ((words y2).length) rc2), (22, .int .i64 ((((words y2).length : Nat) : Int))), (23, .int .i64 (((max (words y1).length (words y2).length : Nat) : Int))), (24, .slice (some ⟨g22, 0, none⟩) (max (words y1).length (words y2).length) (max (words y1).length (words y2).length)), (25, .pointer (some ⟨J18g, 1, none⟩)), (26, .pointer (some ⟨J18g, 1, none⟩)), (27, .slice (some ⟨g22, 0, none⟩) (max (words y1).length (words y2).length) (max (words y1).length (words y2).length)), (28, .int .i64 (((max (words y1).length (words y2).length : Nat) : Int))), (29, .int .i64 (((i : Nat) : Int)))] ∧ St w w1 [(J18g, [.bool ((fb b1 b2)), .slice (some ⟨g22, 0, none⟩) (max (words y1).length (words y2).length) (max (words y1).length (words y2).length)]), (g6, [.bool false, .slice none 0 0]), (g4, [.bool b2, .slice r2 ((words y2).length) rc2]), (g2, [.bool b1, .slice r1 ((words y1).length) rc1])] [] [(some ⟨g22, 0, none⟩, max (words y1).length (words y2).length, l)]) _ ⟨0, List.replicate (max (words y1).length (words y2).length) 0, rfl, ⟨Nat.zero_le _, by simp, fun j hj => by omega⟩, hA.keep _ ⟨rfl, rfl, rfl, rfl, rfl, rfl, rfl, rfl, rfl, rfl, rfl, rfl, rfl, rfl, rfl, rfl, rfl, rfl, rfl, rfl, trivial⟩, hS⟩ ?_
   clear hS hA
   rintro m a w27 ⟨i, l, rfl, hinv29, hA, hS⟩ K28 hK28
   obtain ⟨hle9, hinv9, hinv8⟩ := hinv29
   refine wp_seq_k (fun K30 hK30 => ?_)
   refine wp_region_lit ?_
   rcases Bool.eq_false_or_eq_true (decide (((i : Nat) : Int) < ((max (words y1).length (words y2).length : Nat) : Int))) with hb31 | hb31
   · have hb31' := of_decide_eq_true hb31
     refine seq_do (v := .bool true) hA rfl rfl rfl (d_bin rfl rfl (fun w => (bin_lss w).trans (by rw [hb31]))) ?_
     intro a hA
     refine seq_end ?_
     refine hK30 _ _ ?_
     refine wp_seq_k (fun K32 hK32 => ?_)
     refine wp_cond_true (hA.ev rfl) ?_
     refine wp_skip ?_
     refine hK32 _ _ ?_
     refine wp_seq_k (fun K33 hK33 => ?_)
     refine wp_block ?_
     refine wp_seq_k (fun K34 hK34 => ?_)
     refine wp_region_lit ?_
     refine seq_do hA rfl rfl rfl (d_move rfl) ?_
     intro a hA
     refine seq_do hA rfl rfl rfl (d_assign rfl) ?_
     intro a hA
     refine seq_end ?_
     refine hK34 _ _ ?_
     refine wp_draw (S := fun w1 => St w w1 [(J18g, [.bool ((fb b1 b2)), .slice (some ⟨g22, 0, none⟩) (max (words y1).length (words y2).length) (max (words y1).length (words y2).length)]), (g6, [.bool false, .slice none 0 0]), (g4, [.bool b2, .slice r2 ((words y2).length) rc2]), (g2, [.bool b1, .slice r1 ((words y1).length) rc1])] [] []) (by kernel_rfl) ?_
     replace hS := hS.drew
     refine any_tk (v := .pointer (some ⟨J18g, 1, none⟩)) hA 0 rfl rfl rfl rfl hP (hS.partD (.refl _) 0 rfl (.cons _ .slnil)) (fun w1 hS => d_field BiH_fld_49_1 rfl rfl) ?_
     intro a hA
     refine any_tk hA 1 rfl rfl rfl rfl hP (hS.partD (.refl _) 0 rfl (.cons _ .slnil)) (fun w1 hS => d_load1 hS BiH_is1_22 rfl 0 rfl rfl) ?_
     intro a hA
     refine any_tk hA 2 rfl rfl rfl rfl hP (hS.partD (.refl _) 0 rfl (.cons _ .slnil)) (fun w1 hS => d_move rfl) ?_
     intro a hA
     refine any_tk hA 3 rfl rfl rfl rfl hP (hS.partD (.refl _) 0 rfl (.cons _ .slnil)) (fun w1 hS => d_move rfl) ?_
     intro a hA
     refine any_tk hA 4 rfl rfl rfl rfl hP (hS.partD (.refl _) 0 rfl (.cons _ .slnil)) (fun w1 hS => d_loadS hS BiH_isS_49 rfl 3 rfl (cs := [.bool b1, .slice r1 ((words y1).length) rc1]) rfl rfl) ?_
     intro a hA
     refine any_tk hA 5 rfl rfl rfl rfl hP (hS.partD (.refl _) 0 rfl (.cons _ .slnil)) (fun w1 hS => d_move rfl) ?_
     intro a hA
     refine any_tk hA 7 rfl rfl rfl rfl hP (hS.partD (.refl _) 0 rfl (.cons _ .slnil)) (fun w1 hS => d_loadS hS BiH_isS_49 rfl 2 rfl (cs := [.bool b2, .slice r2 ((words y2).length) rc2]) rfl rfl) ?_
     intro a hA
     refine any_tk hA 8 rfl rfl rfl rfl hP (hS.partD (.refl _) 0 rfl (.cons _ .slnil)) (fun w1 hS => d_move rfl) ?_
     intro a hA
     refine any_tk hA 11 rfl rfl rfl rfl hP (hS.partD (.refl _) 0 rfl (.cons _ .slnil)) (fun w1 hS => d_loadS hS BiH_isS_49 rfl 0 rfl (cs := [.bool ((fb b1 b2)), .slice (some ⟨g22, 0, none⟩) (max (words y1).length (words y2).length) (max (words y1).length (words y2).length)]) rfl rfl) ?_
     intro a hA
     refine any_one (by kernel_rfl) (op_call hA 6 rfl rfl rfl rfl (enters_func  rfl rfl (fun w => by kernel_rfl)) (rwordAt_any (h1.below hS.bel) (by omega)) ?_)
     rintro _ w36 ⟨rfl, hb35⟩
     have hS0 := hS
     replace hS := hS.call hb35
     refine ⟨_, rfl, (hS.partD (.refl _) 0 rfl (.cons _ .slnil)), ?_⟩
     intro a hA
     refine any_one (by kernel_rfl) (op_call hA 9 rfl rfl rfl rfl (enters_func  rfl rfl (fun w => by kernel_rfl)) (rwordAt_any (h2.below hS.bel) (by omega)) ?_)
     rintro _ w38 ⟨rfl, hb37⟩
     have hS0 := hS
     replace hS := hS.call hb37
     refine ⟨_, rfl, (hS.partD (.refl _) 0 rfl (.cons _ .slnil)), ?_⟩
     intro a hA
     refine any_one (by kernel_rfl) (op_call hA 10 rfl rfl rfl rfl (enters_func  rfl rfl (fun w => hF.inv _ w)) (hF.does _ _ _ (rwd_lt _ _ _) (rwd_lt _ _ _)) ?_)
     rintro _ w40 ⟨rfl, hb39⟩
     have hS0 := hS
     replace hS := hS.call hb39
     refine ⟨_, rfl, (hS.partD (.refl _) 0 rfl (.cons _ .slnil)), ?_⟩
     intro a hA
     refine any_one (by kernel_rfl) (op_call hA 12 rfl rfl rfl rfl (enters_func  rfl rfl (fun w => by kernel_rfl)) (endless_any) ?_)
     rintro _ w42 ⟨rfl, hb41⟩
     have hS0 := hS
     replace hS := hS.call hb41
     refine ⟨_, rfl, (hS.partD (.refl _) 0 rfl (.cons _ .slnil)), ?_⟩
     intro a hA
     refine any_tk (v := .int .u32 (((outW fop fb b1 y1 b2 y2 i : Nat) : Int))) hA 13 rfl rfl rfl rfl hP (hS.partD (.refl _) 0 rfl (.cons _ .slnil)) (fun w1 hS => d_bin rfl rfl (bin_xor (hB.lt _ _ (rwd_lt _ _ _) (rwd_lt _ _ _)) (ends_lt _) rfl)) ?_
     intro a hA
     have hi46 : i < l.length := by first | omega | (simp only [List.length_set]; omega)
     refine any_tk (v := .pointer (some ⟨g22, 0 + i, none⟩)) hA 14 rfl rfl rfl rfl hP (hS.partD (.refl _) 0 rfl (.cons _ .slnil)) (fun w1 hS => d_indexRow (k := i) Try.underlying22 (by kernel_rfl) rfl rfl (by omega) rfl (by omega)) ?_
     intro a hA
     refine any_one (by kernel_rfl) (op_row (us' := l.set i (outW fop fb b1 y1 b2 y2 i)) hA hS 15 rfl rfl rfl (sets_row (d := outW fop fb b1 y1 b2 y2 i) (by kernel_rfl) rfl rfl hS 0 rfl hi46) 0 rfl (outW_lt hB _) rfl ?_)
     intro w47 hS
     refine ⟨(hS.partD (.refl _) 0 rfl (.cons _ .slnil)), ?_⟩
     refine any_end (by kernel_rfl) ?_
     refine hK33 _ _ ?_
     refine wp_region_lit ?_
     refine seq_do (v := .int .i64 (((i + 1 : Nat) : Int))) hA rfl rfl rfl (d_bin rfl rfl (fun w => (bin_add (i64In (by omega) (by omega)) w).trans (by rw [show (((i : Nat) : Int) + 1 : Int) = ((i + 1 : Nat) : Int) from by omega]))) ?_
     intro a hA
     refine seq_do hA rfl rfl rfl (d_move rfl) ?_
     intro a hA
     refine seq_end ?_
     refine hK28 _ _ _ (by omega) ⟨i + 1, l.set i (outW fop fb b1 y1 b2 y2 i), rfl, ⟨by omega, by rw [List.length_set]; exact hinv9, fun j hj => by rcases Nat.lt_succ_iff_lt_or_eq.1 hj with h | h; rw [List.getD_eq_getElem?_getD, List.getElem?_set_ne (by omega), ← List.getD_eq_getElem?_getD]; exact hinv8 j h; subst h; rw [List.getD_eq_getElem?_getD, List.getElem?_set_self (by omega)]; rfl⟩, hA.keep _ ⟨rfl, rfl, rfl, rfl, rfl, rfl, rfl, rfl, rfl, rfl, rfl, rfl, rfl, rfl, rfl, rfl, rfl, rfl, rfl, rfl, trivial⟩, hS⟩
   · have hb31' := of_decide_eq_false hb31
     refine seq_do (v := .bool false) hA rfl rfl rfl (d_bin rfl rfl (fun w => (bin_lss w).trans (by rw [hb31]))) ?_
     intro a hA
     refine seq_end ?_
     refine hK30 _ _ ?_
     refine wp_seq_k (fun K48 hK48 => ?_)
     refine wp_cond_false (hA.ev rfl) ?_
     refine wp_exit ?_
     refine hK25 _ _ ?_
     refine wp_seq_k (fun K49 hK49 => ?_)
     refine wp_region_lit ?_
     refine seq_do (v := .pointer (some ⟨J18g, 1, none⟩)) hA rfl rfl rfl (d_field BiH_fld_49_1 rfl rfl) ?_
     intro a hA
     refine seq_do hA rfl rfl rfl (d_load1 hS BiH_is1_22 rfl 0 rfl rfl) ?_
     intro a hA
     refine seq_call hA rfl rfl rfl (enters_func  rfl rfl (fun w => by kernel_rfl)) (btrimN_any (hS.row 0 rfl) hinv9 (by omega)) ?_
     rintro _ w52 ⟨rfl, ho50, hw51⟩
     have hw9 := below_eq hw51
     have ho9 := ho50.below hw9
     have hS0 := hS
     replace hS := hS.call hw9
     replace hS : St w w52 [(J18g, [.bool ((fb b1 b2)), .slice (some ⟨g22, 0, none⟩) (max (words y1).length (words y2).length) (max (words y1).length (words y2).length)]), (g6, [.bool false, .slice none 0 0]), (g4, [.bool b2, .slice r2 ((words y2).length) rc2]), (g2, [.bool b1, .slice r1 ((words y1).length) rc1])] [] [(some ⟨g22, 0, none⟩, max (words y1).length (words y2).length, words (val l))] := hS.retake 0 rfl ho9
     refine ⟨_, rfl, ?_⟩
     intro a hA
     refine seq_do (v := .pointer (some ⟨J18g, 1, none⟩)) hA rfl rfl rfl (d_field BiH_fld_49_1 rfl rfl) ?_
     intro a hA
     refine seq_store (us := [.bool ((fb b1 b2)), .slice (some ⟨g22, 0, none⟩) ((words (val l)).length) (max (words y1).length (words y2).length)]) hA hS rfl rfl (sets_store rfl rfl rfl (by kernel_rfl) hS 0 rfl rfl rfl) 0 rfl rfl rfl rfl ?_
     intro w53 hS
     refine seq_end ?_
     refine hK49 _ _ ?_
     refine wp_seq_k (fun K54 hK54 => ?_)
     refine wp_region_lit ?_
     refine seq_do hA rfl rfl rfl (d_loadS hS BiH_isS_49 rfl 0 rfl (cs := [.bool ((fb b1 b2)), .slice (some ⟨g22, 0, none⟩) ((words (val l)).length) (max (words y1).length (words y2).length)]) rfl rfl) ?_
     intro a hA
     refine seq_store (us := [.bool ((fb b1 b2)), .slice (some ⟨g22, 0, none⟩) ((words (val l)).length) (max (words y1).length (words y2).length)]) hA hS rfl rfl (sets_store rfl rfl rfl (by kernel_rfl) hS 1 rfl rfl rfl) 1 rfl rfl rfl rfl ?_
     intro w55 hS
     refine seq_end ?_
     refine hK54 _ _ ?_
     refine wp_ret ?_
     refine hret _ _ ?_
     refine ends (v := .agg #[.bool ((fb b1 b2)), .slice (some ⟨g22, 0, none⟩) ((words (val l)).length) (max (words y1).length (words y2).length)]) hA rfl (.cons (res_cell hS BiH_isS_49 rfl 1 rfl (cs := [.bool ((fb b1 b2)), .slice (some ⟨g22, 0, none⟩) ((words (val l)).length) (max (words y1).length (words y2).length)]) rfl rfl) .nil) rfl ?_
     have hi9 : i = max (words y1).length (words y2).length := by omega
     subst hi9
     have el : l = outL fop fb b1 y1 b2 y2 (max (words y1).length (words y2).length) := list_of_getD (by rw [outL_len]; exact hinv9) (fun j hj => by rw [outL_get (by omega)]; exact hinv8 j (by omega))
     subst el
     exact ⟨_, _, rfl, (hS.row 0 rfl).sc, hS.bel⟩
 refine wp_draw (S := fun w1 => St w w1 [(g6, [.bool false, .slice none 0 0]), (g4, [.bool b2, .slice r2 ((words y2).length) rc2]), (g2, [.bool b1, .slice r1 ((words y1).length) rc1])] [] []) (by kernel_rfl) ?_
 replace hS := hS.drew
 refine any_tk hA 0 rfl rfl rfl rfl hP hS (fun w1 hS => d_move rfl) ?_
 intro a hA
 refine any_tk hA 1 rfl rfl rfl rfl hP hS (fun w1 hS => d_loadS hS BiH_isS_49 rfl 2 rfl (cs := [.bool b1, .slice r1 ((words y1).length) rc1]) rfl rfl) ?_
 intro a hA
 refine any_tk hA 3 rfl rfl rfl rfl hP hS (fun w1 hS => d_loadS hS BiH_isS_49 rfl 1 rfl (cs := [.bool b2, .slice r2 ((words y2).length) rc2]) rfl rfl) ?_
 intro a hA
 refine any_many (rs := [2, 8]) (by kernel_rfl) (by simp) ⟨?_, ?_, trivial⟩
 · refine op_call hA 2 rfl rfl rfl rfl (enters_func  rfl rfl (fun w => by kernel_rfl)) (endless_any) ?_
   rintro _ w57 ⟨rfl, hb56⟩
   replace hS := hS.call hb56
   refine ⟨_, rfl, hS, ?_⟩
   intro a hA
   refine any_many (rs := [4, 8]) (by kernel_rfl) (by simp) ⟨?_, ?_, trivial⟩
   · refine op_call hA 4 rfl rfl rfl rfl (enters_func  rfl rfl (fun w => by kernel_rfl)) (endless_any) ?_
     rintro _ w59 ⟨rfl, hb58⟩
     replace hS := hS.call hb58
     refine ⟨_, rfl, hS, ?_⟩
     intro a hA
     refine any_many (rs := [5, 8]) (by kernel_rfl) (by simp) ⟨?_, ?_, trivial⟩
     · refine op_call hA 5 rfl rfl rfl rfl (enters_func  rfl rfl (fun w => hF.inv _ w)) (hF.does _ _ _ (ends_lt _) (ends_lt _)) ?_
       rintro _ w61 ⟨rfl, hb60⟩
       replace hS := hS.call hb60
       refine ⟨_, rfl, hS, ?_⟩
       intro a hA
       refine any_tk (v := .bool ((fb b1 b2))) hA 6 rfl rfl rfl rfl hP hS (fun w1 hS => d_bin rfl rfl (fun w => (bin_neq w).trans (by rw [hnb]))) ?_
       intro a hA
       refine any_tk (v := .agg #[.bool ((fb b1 b2)), .slice none 0 0]) hA 7 rfl rfl rfl rfl hP hS (fun w1 hS => d_build rfl (fun w => by kernel_rfl)) ?_
       intro a hA
       refine any_one (by kernel_rfl) (op_new (vs := [.bool false, .slice none 0 0]) (t := 49) hA hS 8 rfl rfl rfl rfl (fun g => .pointer (some ⟨g, 0, none⟩)) (d_alloc (z := .agg #[.bool false, .slice none 0 0]) (by kernel_rfl) rfl) rfl ?_)
       intro g62 w63 hS
       refine ⟨(hS.partD (.cons _ (.cons_cons _ (.cons_cons _ (.cons_cons _ .slnil)))) 0 rfl (.refl _)), ?_⟩
       intro a hA
       refine any_one (by kernel_rfl) (op_store (us := [.bool ((fb b1 b2)), .slice none 0 0]) hA hS 9 rfl rfl rfl (sets_store rfl rfl rfl (by kernel_rfl) hS 0 rfl rfl rfl) 0 rfl rfl rfl rfl ?_)
       intro w64 hS
       refine ⟨(hS.partD (.cons _ (.cons_cons _ (.cons_cons _ (.cons_cons _ .slnil)))) 0 rfl (.refl _)), ?_⟩
       refine any_end (by kernel_rfl) ?_
       refine hJ19 _ _ ⟨g62, hA.keep _ ⟨rfl, rfl, rfl, rfl, rfl, rfl, rfl, trivial⟩, (St.pickRL hS trivial [0, 1, 2, 3] rfl (by decide))⟩
     · refine op_new (vs := [.bool false, .slice none 0 0]) (t := 49) hA hS 8 rfl rfl rfl rfl (fun g => .pointer (some ⟨g, 0, none⟩)) (d_alloc (z := .agg #[.bool false, .slice none 0 0]) (by kernel_rfl) rfl) rfl ?_
       intro g65 w66 hS
       refine ⟨(hS.partD (.cons _ (.cons_cons _ (.cons_cons _ (.cons_cons _ .slnil)))) 0 rfl (.refl _)), ?_⟩
       intro a hA
       refine any_one (by kernel_rfl) (op_call hA 5 rfl rfl rfl rfl (enters_func  rfl rfl (fun w => hF.inv _ w)) (hF.does _ _ _ (ends_lt _) (ends_lt _)) ?_)
       rintro _ w68 ⟨rfl, hb67⟩
       replace hS := hS.call hb67
       refine ⟨_, rfl, (hS.partD (.cons _ (.cons_cons _ (.cons_cons _ (.cons_cons _ .slnil)))) 0 rfl (.refl _)), ?_⟩
       intro a hA
       refine any_tk (v := .bool ((fb b1 b2))) hA 6 rfl rfl rfl rfl hP (hS.partD (.cons _ (.cons_cons _ (.cons_cons _ (.cons_cons _ .slnil)))) 0 rfl (.refl _)) (fun w1 hS => d_bin rfl rfl (fun w => (bin_neq w).trans (by rw [hnb]))) ?_
       intro a hA
       refine any_tk (v := .agg #[.bool ((fb b1 b2)), .slice none 0 0]) hA 7 rfl rfl rfl rfl hP (hS.partD (.cons _ (.cons_cons _ (.cons_cons _ (.cons_cons _ .slnil)))) 0 rfl (.refl _)) (fun w1 hS => d_build rfl (fun w => by kernel_rfl)) ?_
       intro a hA
       refine any_one (by kernel_rfl) (op_store (us := [.bool ((fb b1 b2)), .slice none 0 0]) hA hS 9 rfl rfl rfl (sets_store rfl rfl rfl (by kernel_rfl) hS 0 rfl rfl rfl) 0 rfl rfl rfl rfl ?_)
       intro w69 hS
       refine ⟨(hS.partD (.cons _ (.cons_cons _ (.cons_cons _ (.cons_cons _ .slnil)))) 0 rfl (.refl _)), ?_⟩
       refine any_end (by kernel_rfl) ?_
       refine hJ19 _ _ ⟨g65, hA.keep _ ⟨rfl, rfl, rfl, rfl, rfl, rfl, rfl, trivial⟩, (St.pickRL hS trivial [0, 1, 2, 3] rfl (by decide))⟩
   · refine op_new (vs := [.bool false, .slice none 0 0]) (t := 49) hA hS 8 rfl rfl rfl rfl (fun g => .pointer (some ⟨g, 0, none⟩)) (d_alloc (z := .agg #[.bool false, .slice none 0 0]) (by kernel_rfl) rfl) rfl ?_
     intro g70 w71 hS
     refine ⟨(hS.partD (.cons _ (.cons_cons _ (.cons_cons _ (.cons_cons _ .slnil)))) 0 rfl (.refl _)), ?_⟩
     intro a hA
     refine any_one (by kernel_rfl) (op_call hA 4 rfl rfl rfl rfl (enters_func  rfl rfl (fun w => by kernel_rfl)) (endless_any) ?_)
     rintro _ w73 ⟨rfl, hb72⟩
     replace hS := hS.call hb72
     refine ⟨_, rfl, (hS.partD (.cons _ (.cons_cons _ (.cons_cons _ (.cons_cons _ .slnil)))) 0 rfl (.refl _)), ?_⟩
     intro a hA
     refine any_one (by kernel_rfl) (op_call hA 5 rfl rfl rfl rfl (enters_func  rfl rfl (fun w => hF.inv _ w)) (hF.does _ _ _ (ends_lt _) (ends_lt _)) ?_)
     rintro _ w75 ⟨rfl, hb74⟩
     replace hS := hS.call hb74
     refine ⟨_, rfl, (hS.partD (.cons _ (.cons_cons _ (.cons_cons _ (.cons_cons _ .slnil)))) 0 rfl (.refl _)), ?_⟩
     intro a hA
     refine any_tk (v := .bool ((fb b1 b2))) hA 6 rfl rfl rfl rfl hP (hS.partD (.cons _ (.cons_cons _ (.cons_cons _ (.cons_cons _ .slnil)))) 0 rfl (.refl _)) (fun w1 hS => d_bin rfl rfl (fun w => (bin_neq w).trans (by rw [hnb]))) ?_
     intro a hA
     refine any_tk (v := .agg #[.bool ((fb b1 b2)), .slice none 0 0]) hA 7 rfl rfl rfl rfl hP (hS.partD (.cons _ (.cons_cons _ (.cons_cons _ (.cons_cons _ .slnil)))) 0 rfl (.refl _)) (fun w1 hS => d_build rfl (fun w => by kernel_rfl)) ?_
     intro a hA
     refine any_one (by kernel_rfl) (op_store (us := [.bool ((fb b1 b2)), .slice none 0 0]) hA hS 9 rfl rfl rfl (sets_store rfl rfl rfl (by kernel_rfl) hS 0 rfl rfl rfl) 0 rfl rfl rfl rfl ?_)
     intro w76 hS
     refine ⟨(hS.partD (.cons _ (.cons_cons _ (.cons_cons _ (.cons_cons _ .slnil)))) 0 rfl (.refl _)), ?_⟩
     refine any_end (by kernel_rfl) ?_
     refine hJ19 _ _ ⟨g70, hA.keep _ ⟨rfl, rfl, rfl, rfl, rfl, rfl, rfl, trivial⟩, (St.pickRL hS trivial [0, 1, 2, 3] rfl (by decide))⟩
 · refine op_new (vs := [.bool false, .slice none 0 0]) (t := 49) hA hS 8 rfl rfl rfl rfl (fun g => .pointer (some ⟨g, 0, none⟩)) (d_alloc (z := .agg #[.bool false, .slice none 0 0]) (by kernel_rfl) rfl) rfl ?_
   intro g77 w78 hS
   refine ⟨(hS.partD (.cons _ (.cons_cons _ (.cons_cons _ (.cons_cons _ .slnil)))) 0 rfl (.refl _)), ?_⟩
   intro a hA
   refine any_one (by kernel_rfl) (op_call hA 2 rfl rfl rfl rfl (enters_func  rfl rfl (fun w => by kernel_rfl)) (endless_any) ?_)
   rintro _ w80 ⟨rfl, hb79⟩
   replace hS := hS.call hb79
   refine ⟨_, rfl, (hS.partD (.cons _ (.cons_cons _ (.cons_cons _ (.cons_cons _ .slnil)))) 0 rfl (.refl _)), ?_⟩
   intro a hA
   refine any_one (by kernel_rfl) (op_call hA 4 rfl rfl rfl rfl (enters_func  rfl rfl (fun w => by kernel_rfl)) (endless_any) ?_)
   rintro _ w82 ⟨rfl, hb81⟩
   replace hS := hS.call hb81
   refine ⟨_, rfl, (hS.partD (.cons _ (.cons_cons _ (.cons_cons _ (.cons_cons _ .slnil)))) 0 rfl (.refl _)), ?_⟩
   intro a hA
   refine any_one (by kernel_rfl) (op_call hA 5 rfl rfl rfl rfl (enters_func  rfl rfl (fun w => hF.inv _ w)) (hF.does _ _ _ (ends_lt _) (ends_lt _)) ?_)
   rintro _ w84 ⟨rfl, hb83⟩
   replace hS := hS.call hb83
   refine ⟨_, rfl, (hS.partD (.cons _ (.cons_cons _ (.cons_cons _ (.cons_cons _ .slnil)))) 0 rfl (.refl _)), ?_⟩
   intro a hA
   refine any_tk (v := .bool ((fb b1 b2))) hA 6 rfl rfl rfl rfl hP (hS.partD (.cons _ (.cons_cons _ (.cons_cons _ (.cons_cons _ .slnil)))) 0 rfl (.refl _)) (fun w1 hS => d_bin rfl rfl (fun w => (bin_neq w).trans (by rw [hnb]))) ?_
   intro a hA
   refine any_tk (v := .agg #[.bool ((fb b1 b2)), .slice none 0 0]) hA 7 rfl rfl rfl rfl hP (hS.partD (.cons _ (.cons_cons _ (.cons_cons _ (.cons_cons _ .slnil)))) 0 rfl (.refl _)) (fun w1 hS => d_build rfl (fun w => by kernel_rfl)) ?_
   intro a hA
   refine any_one (by kernel_rfl) (op_store (us := [.bool ((fb b1 b2)), .slice none 0 0]) hA hS 9 rfl rfl rfl (sets_store rfl rfl rfl (by kernel_rfl) hS 0 rfl rfl rfl) 0 rfl rfl rfl rfl ?_)
   intro w85 hS
   refine ⟨(hS.partD (.cons _ (.cons_cons _ (.cons_cons _ (.cons_cons _ .slnil)))) 0 rfl (.refl _)), ?_⟩
   refine any_end (by kernel_rfl) ?_
   refine hJ19 _ _ ⟨g77, hA.keep _ ⟨rfl, rfl, rfl, rfl, rfl, rfl, rfl, trivial⟩, (St.pickRL hS trivial [0, 1, 2, 3] rfl (by decide))⟩
end Go.Proofs.Ytfhpeeljjcphpaa
namespace Go.Proofs.Ytfhpeeljjcphpaa
open Go.RowKit
set_option linter.unusedVariables false
set_option linter.unusedSimpArgs false

theorem putY_len {fop : Nat → Nat → Nat} {fb : Bool → Bool → Bool} (h : BOp fop fb) {b1 b2 : Bool} {y1 y2 : Nat} {k : Nat} (h1 : (words y1).length ≤ k) (h2 : (words y2).length ≤ k) : (words (putY fop fb b1 y1 b2 y2)).length ≤ k := by
  have := val_lt (outL_dig (b1 := b1) (y1 := y1) (b2 := b2) (y2 := y2) h (max (words y1).length (words y2).length))
  rw [outL_len] at this
  exact Nat.le_trans (words_length_le this) (by omega)
def bitQ (fop : Nat → Nat → Nat) (fb : Bool → Bool → Bool) (p q : Q6) : Q6 × Int :=
  if want2 p q = 0 then bigS (fb p.b1 q.b1) (putY fop fb p.b1 (val p.t1 - p.b1.toNat) q.b1 (val q.t1 - q.b1.toNat) + (fb p.b1 q.b1).toNat) else (Q6.zero, want2 p q)
theorem bitQ_err {fop : Nat → Nat → Nat} {fb : Bool → Bool → Bool} {p q : Q6} (h : (want2 p q != 0) = true) : bitQ fop fb p q = (Q6.zero, want2 p q) := by unfold bitQ; rw [if_neg (bne_iff_ne.1 h)]
theorem bitQ_whole {fop : Nat → Nat → Nat} {fb : Bool → Bool → Bool} {b1 b2 : Bool} {x1 x2 : Nat} (h : want2 (Q6.whole b1 x1) (Q6.whole b2 x2) = 0) : bitQ fop fb (Q6.whole b1 x1) (Q6.whole b2 x2) = bigS (fb b1 b2) (putY fop fb b1 (x1 - b1.toNat) b2 (x2 - b2.toNat) + (fb b1 b2).toNat) := by
  unfold bitQ; rw [if_pos h]; simp only [Q6.whole, val_words]
theorem want2_cases (p q : Q6) : (want2 p q = 0 ∧ wholeQ p = true ∧ wholeQ q = true) ∨ (want2 p q != 0) = true := by
  unfold want2
  by_cases h1 : soundQ p = true ∧ soundQ q = true
  · rw [if_pos h1]
    by_cases h2 : wholeQ p = true ∧ wholeQ q = true
    · rw [if_pos h2]; exact .inl ⟨rfl, h2⟩
    · rw [if_neg h2]; exact .inr (by decide)
  · rw [if_neg h1]; exact .inr (by decide)
theorem sub_len {b : Bool} {x k : Nat} (h : (words x).length ≤ k) : (words (x - b.toNat)).length ≤ k := Nat.le_trans (words_mono (Nat.sub_le x b.toNat)) h
end Go.Proofs.Ytfhpeeljjcphpaa
namespace Go.Proofs.Ytfhpeeljjcphpaa
open Go.RowKit
set_option linter.unusedVariables false
set_option linter.unusedSimpArgs false
set_option maxRecDepth 100000
theorem BiJ_isS_26 : IsS Try.prog 26 6 := ⟨⟨_, Try.underlying26⟩, by kernel_rfl⟩
theorem bitE_any {w : World} {p q : Q6} {a1 a2 a3 a4 : Option Addr} {ac1 ac2 ac3 ac4 : Nat} (ha : Nm w p a1 ac1 a2 ac2 a3 ac3 a4 ac4) (hl : LenQ p) {u1 u2 u3 u4 : Option Addr} {uc1 uc2 uc3 uc4 : Nat} (hu : Nm w q u1 uc1 u2 uc2 u3 uc3 u4 uc4) (hm : LenQ q) {F : FuncId} {fop : Nat → Nat → Nat} {fb : Bool → Bool → Bool} (hF : Fun2 F fop) (hB : BOp fop fb) (hw : (want2 p q != 0) = true) : Calls Try.prog 22 #[.func (.func F) #[] #[], numV p a1 ac1 a2 ac2 a3 ac3 a4 ac4, numV q u1 uc1 u2 uc2 u3 uc3 u4 uc4] w (AnsN w (bitQ fop fb p q)) := by
 have hS : St w w [] [(u4, q.q2), (u3, q.t2), (u2, q.q1), (u1, q.t1), (a4, p.q2), (a3, p.t2), (a2, p.q1), (a1, p.t1)] [] := ((((((((St.start w).addR ha.s1.rd).addR ha.s2.rd).addR ha.s3.rd).addR ha.s4.rd).addR hu.s1.rd).addR hu.s2.rd).addR hu.s3.rd).addR hu.s4.rd
 refine walk_of (l := [(0, .func (.func F) #[] #[]), (1, .agg #[.bool p.b1, .slice a1 p.t1.length ac1, .slice a2 p.q1.length ac2, .bool p.b2, .slice a3 p.t2.length ac3, .slice a4 p.q2.length ac4]), (2, .agg #[.bool q.b1, .slice u1 q.t1.length uc1, .slice u2 q.q1.length uc2, .bool q.b2, .slice u3 q.t2.length uc3, .slice u4 q.q2.length uc4])]) Try.func22 rfl Try.ntmps22 rfl rfl ?_
 intro Q hret hnorm hP a hA
 refine wp_seq_k (fun K1 hK1 => ?_)
 refine wp_region_lit ?_
 refine seq_new hA hS rfl rfl rfl (fun g => .pointer (some ⟨g, 0, none⟩)) (d_box rfl rfl) rfl ?_
 intro g2 w3 hS a hA
 refine seq_new hA hS rfl rfl rfl (fun g => .pointer (some ⟨g, 0, none⟩)) (d_box rfl rfl) rfl ?_
 intro g4 w5 hS a hA
 refine seq_new (vs := [.bool false, .slice none 0 0, .slice none 0 0, .bool false, .slice none 0 0, .slice none 0 0]) (t := 26) hA hS rfl rfl rfl (fun g => .pointer (some ⟨g, 0, none⟩)) (d_alloc (z := .agg #[.bool false, .slice none 0 0, .slice none 0 0, .bool false, .slice none 0 0, .slice none 0 0]) (by kernel_rfl) rfl) rfl ?_
 intro g6 w7 hS a hA
 refine seq_do hA rfl rfl rfl (d_assign rfl) ?_
 intro a hA
 refine seq_end ?_
 refine hK1 _ _ ?_
 refine wp_seq_k (fun K8 hK8 => ?_)
 refine wp_seq_k (fun K9 hK9 => ?_)
 refine wp_region_lit ?_
 refine seq_do hA rfl rfl rfl (d_loadS hS BiJ_isS_26 rfl 2 rfl (cs := [.bool p.b1, .slice a1 p.t1.length ac1, .slice a2 p.q1.length ac2, .bool p.b2, .slice a3 p.t2.length ac3, .slice a4 p.q2.length ac4]) rfl rfl) ?_
 intro a hA
 refine seq_do hA rfl rfl rfl (d_loadS hS BiJ_isS_26 rfl 1 rfl (cs := [.bool q.b1, .slice u1 q.t1.length uc1, .slice u2 q.q1.length uc2, .bool q.b2, .slice u3 q.t2.length uc3, .slice u4 q.q2.length uc4]) rfl rfl) ?_
 intro a hA
 refine seq_new (vs := [.bool p.b1, .slice a1 p.t1.length ac1, .slice a2 p.q1.length ac2, .bool p.b2, .slice a3 p.t2.length ac3, .slice a4 p.q2.length ac4, .bool q.b1, .slice u1 q.t1.length uc1, .slice u2 q.q1.length uc2, .bool q.b2, .slice u3 q.t2.length uc3, .slice u4 q.q2.length uc4]) (t := 26) hA hS rfl rfl rfl (fun g => .slice (some ⟨g, 0, none⟩) 2 2) (d_buildSlice rfl (by kernel_rfl)) rfl ?_
 intro g10 w11 hS a hA
 refine seq_call hA rfl rfl rfl (enters_func  rfl rfl (fun w => by kernel_rfl)) (want2_any (show Nm _ p a1 ac1 a2 ac2 a3 ac3 a4 ac4 from ⟨⟨(hS.rd 7 rfl), ha.s1.nil, ha.s1.cap⟩, ⟨(hS.rd 6 rfl), ha.s2.nil, ha.s2.cap⟩, ⟨(hS.rd 5 rfl), ha.s3.nil, ha.s3.cap⟩, ⟨(hS.rd 4 rfl), ha.s4.nil, ha.s4.cap⟩⟩) hl (show Nm _ q u1 uc1 u2 uc2 u3 uc3 u4 uc4 from ⟨⟨(hS.rd 3 rfl), hu.s1.nil, hu.s1.cap⟩, ⟨(hS.rd 2 rfl), hu.s2.nil, hu.s2.cap⟩, ⟨(hS.rd 1 rfl), hu.s3.nil, hu.s3.cap⟩, ⟨(hS.rd 0 rfl), hu.s4.nil, hu.s4.cap⟩⟩) hm (hS.blk 0 rfl) rfl) ?_
 rintro _ w13 ⟨rfl, hb12⟩
 replace hS := hS.call hb12
 refine ⟨_, rfl, ?_⟩
 intro a hA
 refine seq_do hA rfl rfl rfl (d_assign rfl) ?_
 intro a hA
 refine seq_end ?_
 refine hK9 _ _ ?_
 refine wp_seq_k (fun K14 hK14 => ?_)
 refine wp_region_lit ?_
 refine seq_do hA rfl rfl rfl (d_move rfl) ?_
 intro a hA
 refine seq_do (v := .bool true) hA rfl rfl rfl (d_bin rfl rfl (fun w => (bin_neq w).trans (by rw [show ((want2 p q != 0)) = true from hw]))) ?_
 intro a hA
 refine seq_end ?_
 refine hK14 _ _ ?_
 refine wp_cond_true (hA.ev rfl) ?_
 refine wp_seq_k (fun K15 hK15 => ?_)
 refine wp_region_lit ?_
 refine seq_do (v := .agg #[.bool false, .slice none 0 0, .slice none 0 0, .bool false, .slice none 0 0, .slice none 0 0]) hA rfl rfl rfl (d_build rfl (fun w => by kernel_rfl)) ?_
 intro a hA
 refine seq_do hA rfl rfl rfl (d_move rfl) ?_
 intro a hA
 refine seq_store (us := [.bool false, .slice none 0 0, .slice none 0 0, .bool false, .slice none 0 0, .slice none 0 0]) hA hS rfl rfl (sets_store rfl rfl rfl (by kernel_rfl) hS 1 rfl rfl rfl) 1 rfl rfl rfl rfl ?_
 intro w16 hS
 refine seq_do hA rfl rfl rfl (d_assign rfl) ?_
 intro a hA
 refine seq_end ?_
 refine hK15 _ _ ?_
 refine wp_ret ?_
 refine hret _ _ ?_
 refine ends (v := .tuple #[.agg #[.bool false, .slice none 0 0, .slice none 0 0, .bool false, .slice none 0 0, .slice none 0 0], .int .i64 (want2 p q)]) hA rfl (.cons (res_cell hS BiJ_isS_26 rfl 1 rfl (cs := [.bool false, .slice none 0 0, .slice none 0 0, .bool false, .slice none 0 0, .slice none 0 0]) rfl rfl) (.cons (res_tmp rfl) .nil)) rfl ?_
 rw [bitQ_err hw]
 exact ⟨none, 0, none, 0, none, 0, none, 0, rfl, ⟨(Sc.none _), (Sc.none _), (Sc.none _), (Sc.none _)⟩, hS.bel⟩
theorem bitW_any {w : World} {b1 b2 : Bool} {x1 x2 : Nat} {a1 a2 a3 a4 : Option Addr} {ac1 ac2 ac3 ac4 : Nat} (ha : Nm w (Q6.whole b1 x1) a1 ac1 a2 ac2 a3 ac3 a4 ac4) (hl : LenQ (Q6.whole b1 x1)) {u1 u2 u3 u4 : Option Addr} {uc1 uc2 uc3 uc4 : Nat} (hu : Nm w (Q6.whole b2 x2) u1 uc1 u2 uc2 u3 uc3 u4 uc4) (hm : LenQ (Q6.whole b2 x2)) {F : FuncId} {fop : Nat → Nat → Nat} {fb : Bool → Bool → Bool} (hF : Fun2 F fop) (hB : BOp fop fb) (hw : want2 (Q6.whole b1 x1) (Q6.whole b2 x2) = 0) (hx1 : (words x1).length ≤ 512) (hb1 : b1.toNat ≤ x1) (hx2 : (words x2).length ≤ 512) (hb2 : b2.toNat ≤ x2) : Calls Try.prog 22 #[.func (.func F) #[] #[], numV (Q6.whole b1 x1) a1 ac1 a2 ac2 a3 ac3 a4 ac4, numV (Q6.whole b2 x2) u1 uc1 u2 uc2 u3 uc3 u4 uc4] w (AnsN w (bitQ fop fb (Q6.whole b1 x1) (Q6.whole b2 x2))) := by
 have hS : St w w [] [(u4, [1]), (u3, []), (u2, [1]), (u1, words x2), (a4, [1]), (a3, []), (a2, [1]), (a1, words x1)] [] := ((((((((St.start w).addR ha.s1.rd).addR ha.s2.rd).addR ha.s3.rd).addR ha.s4.rd).addR hu.s1.rd).addR hu.s2.rd).addR hu.s3.rd).addR hu.s4.rd
 refine walk_of (l := [(0, .func (.func F) #[] #[]), (1, .agg #[.bool b1, .slice a1 ((words x1).length) ac1, .slice a2 1 ac2, .bool false, .slice a3 0 ac3, .slice a4 1 ac4]), (2, .agg #[.bool b2, .slice u1 ((words x2).length) uc1, .slice u2 1 uc2, .bool false, .slice u3 0 uc3, .slice u4 1 uc4])]) Try.func22 rfl Try.ntmps22 rfl rfl ?_
 intro Q hret hnorm hP a hA
 refine wp_seq_k (fun K1 hK1 => ?_)
 refine wp_region_lit ?_
 refine seq_new hA hS rfl rfl rfl (fun g => .pointer (some ⟨g, 0, none⟩)) (d_box rfl rfl) rfl ?_
 intro g2 w3 hS a hA
 refine seq_new hA hS rfl rfl rfl (fun g => .pointer (some ⟨g, 0, none⟩)) (d_box rfl rfl) rfl ?_
 intro g4 w5 hS a hA
 refine seq_new (vs := [.bool false, .slice none 0 0, .slice none 0 0, .bool false, .slice none 0 0, .slice none 0 0]) (t := 26) hA hS rfl rfl rfl (fun g => .pointer (some ⟨g, 0, none⟩)) (d_alloc (z := .agg #[.bool false, .slice none 0 0, .slice none 0 0, .bool false, .slice none 0 0, .slice none 0 0]) (by kernel_rfl) rfl) rfl ?_
 intro g6 w7 hS a hA
 refine seq_do hA rfl rfl rfl (d_assign rfl) ?_
 intro a hA
 refine seq_end ?_
 refine hK1 _ _ ?_
 refine wp_seq_k (fun K8 hK8 => ?_)
 refine wp_seq_k (fun K9 hK9 => ?_)
 refine wp_region_lit ?_
 refine seq_do hA rfl rfl rfl (d_loadS hS BiJ_isS_26 rfl 2 rfl (cs := [.bool b1, .slice a1 ((words x1).length) ac1, .slice a2 1 ac2, .bool false, .slice a3 0 ac3, .slice a4 1 ac4]) rfl rfl) ?_
 intro a hA
 refine seq_do hA rfl rfl rfl (d_loadS hS BiJ_isS_26 rfl 1 rfl (cs := [.bool b2, .slice u1 ((words x2).length) uc1, .slice u2 1 uc2, .bool false, .slice u3 0 uc3, .slice u4 1 uc4]) rfl rfl) ?_
 intro a hA
 refine seq_new (vs := [.bool b1, .slice a1 ((words x1).length) ac1, .slice a2 1 ac2, .bool false, .slice a3 0 ac3, .slice a4 1 ac4, .bool b2, .slice u1 ((words x2).length) uc1, .slice u2 1 uc2, .bool false, .slice u3 0 uc3, .slice u4 1 uc4]) (t := 26) hA hS rfl rfl rfl (fun g => .slice (some ⟨g, 0, none⟩) 2 2) (d_buildSlice rfl (by kernel_rfl)) rfl ?_
 intro g10 w11 hS a hA
 refine seq_call hA rfl rfl rfl (enters_func  rfl rfl (fun w => by kernel_rfl)) (want2_any (show Nm _ (Q6.whole b1 x1) a1 ac1 a2 ac2 a3 ac3 a4 ac4 from ⟨⟨(hS.rd 7 rfl), ha.s1.nil, ha.s1.cap⟩, ⟨(hS.rd 6 rfl), ha.s2.nil, ha.s2.cap⟩, ⟨(hS.rd 5 rfl), ha.s3.nil, ha.s3.cap⟩, ⟨(hS.rd 4 rfl), ha.s4.nil, ha.s4.cap⟩⟩) hl (show Nm _ (Q6.whole b2 x2) u1 uc1 u2 uc2 u3 uc3 u4 uc4 from ⟨⟨(hS.rd 3 rfl), hu.s1.nil, hu.s1.cap⟩, ⟨(hS.rd 2 rfl), hu.s2.nil, hu.s2.cap⟩, ⟨(hS.rd 1 rfl), hu.s3.nil, hu.s3.cap⟩, ⟨(hS.rd 0 rfl), hu.s4.nil, hu.s4.cap⟩⟩) hm (hS.blk 0 rfl) hw) ?_
 rintro _ w13 ⟨rfl, hb12⟩
 replace hS := hS.call hb12
 refine ⟨_, rfl, ?_⟩
 intro a hA
 refine seq_do hA rfl rfl rfl (d_assign rfl) ?_
 intro a hA
 refine seq_end ?_
 refine hK9 _ _ ?_
 refine wp_seq_k (fun K14 hK14 => ?_)
 refine wp_region_lit ?_
 refine seq_do hA rfl rfl rfl (d_move rfl) ?_
 intro a hA
 refine seq_do (v := .bool false) hA rfl rfl rfl (d_bin rfl rfl (fun w => by kernel_rfl)) ?_
 intro a hA
 refine seq_end ?_
 refine hK14 _ _ ?_
 refine wp_cond_false (hA.ev rfl) ?_
 refine wp_skip ?_
 refine hK8 _ _ ?_
 refine wp_seq_k (fun K15 hK15 => ?_)
 refine wp_draw (S := fun w1 => St w w1 [(g10, [.bool b1, .slice a1 ((words x1).length) ac1, .slice a2 1 ac2, .bool false, .slice a3 0 ac3, .slice a4 1 ac4, .bool b2, .slice u1 ((words x2).length) uc1, .slice u2 1 uc2, .bool false, .slice u3 0 uc3, .slice u4 1 uc4]), (g4, [.bool b2, .slice u1 ((words x2).length) uc1, .slice u2 1 uc2, .bool false, .slice u3 0 uc3, .slice u4 1 uc4]), (g2, [.bool b1, .slice a1 ((words x1).length) ac1, .slice a2 1 ac2, .bool false, .slice a3 0 ac3, .slice a4 1 ac4])] [(u4, [1]), (u3, []), (u2, [1]), (u1, words x2), (a4, [1]), (a3, []), (a2, [1]), (a1, words x1)] []) (by kernel_rfl) ?_
 replace hS := hS.drew
 refine any_tk hA 0 rfl rfl rfl rfl hP (hS.partD (.cons_cons _ (.cons _ (.cons_cons _ (.cons_cons _ .slnil)))) 0 rfl (.refl _)) (fun w1 hS => d_loadS hS BiJ_isS_26 rfl 2 rfl (cs := [.bool b1, .slice a1 ((words x1).length) ac1, .slice a2 1 ac2, .bool false, .slice a3 0 ac3, .slice a4 1 ac4]) rfl rfl) ?_
 intro a hA
 refine any_tk hA 2 rfl rfl rfl rfl hP (hS.partD (.cons_cons _ (.cons _ (.cons_cons _ (.cons_cons _ .slnil)))) 0 rfl (.refl _)) (fun w1 hS => d_move rfl) ?_
 intro a hA
 refine any_tk hA 3 rfl rfl rfl rfl hP (hS.partD (.cons_cons _ (.cons _ (.cons_cons _ (.cons_cons _ .slnil)))) 0 rfl (.refl _)) (fun w1 hS => d_loadS hS BiJ_isS_26 rfl 1 rfl (cs := [.bool b2, .slice u1 ((words x2).length) uc1, .slice u2 1 uc2, .bool false, .slice u3 0 uc3, .slice u4 1 uc4]) rfl rfl) ?_
 intro a hA
 refine any_one (by kernel_rfl) (op_call hA 1 rfl rfl rfl rfl (enters_func  rfl rfl (fun w => by kernel_rfl)) (rowOf_any (show Nm _ (Q6.whole b1 x1) a1 ac1 a2 ac2 a3 ac3 a4 ac4 from ⟨⟨(hS.rd 7 rfl), ha.s1.nil, ha.s1.cap⟩, ⟨(hS.rd 6 rfl), ha.s2.nil, ha.s2.cap⟩, ⟨(hS.rd 5 rfl), ha.s3.nil, ha.s3.cap⟩, ⟨(hS.rd 4 rfl), ha.s4.nil, ha.s4.cap⟩⟩) hx1 hb1) ?_)
 rintro _ w20 ⟨ro16, rc17, rfl, hs18, hb19⟩
 replace hS := hS.call hb19
 replace hS := hS.addR hs18.rd
 refine ⟨_, rfl, (hS.partD (.cons_cons _ (.cons _ (.cons_cons _ (.cons_cons _ .slnil)))) 1 rfl (.refl _)), ?_⟩
 intro a hA
 refine any_one (by kernel_rfl) (op_call hA 4 rfl rfl rfl rfl (enters_func  rfl rfl (fun w => by kernel_rfl)) (rowOf_any (show Nm _ (Q6.whole b2 x2) u1 uc1 u2 uc2 u3 uc3 u4 uc4 from ⟨⟨(hS.rd 4 rfl), hu.s1.nil, hu.s1.cap⟩, ⟨(hS.rd 3 rfl), hu.s2.nil, hu.s2.cap⟩, ⟨(hS.rd 2 rfl), hu.s3.nil, hu.s3.cap⟩, ⟨(hS.rd 1 rfl), hu.s4.nil, hu.s4.cap⟩⟩) hx2 hb2) ?_)
 rintro _ w25 ⟨ro21, rc22, rfl, hs23, hb24⟩
 replace hS := hS.call hb24
 replace hS := hS.addR hs23.rd
 refine ⟨_, rfl, (hS.partD (.cons_cons _ (.cons _ (.cons_cons _ (.cons_cons _ .slnil)))) 2 rfl (.refl _)), ?_⟩
 intro a hA
 refine any_one (by kernel_rfl) (op_call hA 5 rfl rfl rfl rfl (enters_func  rfl rfl (fun w => by kernel_rfl)) (combined_any hF hB (hS.rd 1 rfl) (hS.rd 0 rfl) (Nat.le_trans (sub_len hx1) (by decide)) (Nat.le_trans (sub_len hx2) (by decide))) ?_)
 rintro _ w30 ⟨ro26, rc27, rfl, hs28, hb29⟩
 replace hS := hS.call hb29
 replace hS := hS.addR hs28.rd
 refine ⟨_, rfl, (hS.partD (.cons_cons _ (.cons _ (.cons_cons _ (.cons_cons _ .slnil)))) 3 rfl (.refl _)), ?_⟩
 intro a hA
 refine any_one (by kernel_rfl) (op_call hA 6 rfl rfl rfl rfl (enters_func  rfl rfl (fun w => by kernel_rfl)) (number_any (b := (fb b1 b2)) ⟨(hS.rd 0 rfl), hs28.nil, hs28.cap⟩ (putY_len hB (sub_len hx1) (sub_len hx2))) ?_)
 rintro _ w34 ⟨p31_1, p31_c1, p31_2, p31_c2, p31_3, p31_c3, p31_4, p31_c4, rfl, hn32, hb33⟩
 replace hS := hS.call hb33
 replace hS := hS.addR hn32.s1.rd
 replace hS := hS.addR hn32.s2.rd
 replace hS := hS.addR hn32.s3.rd
 replace hS := hS.addR hn32.s4.rd
 refine ⟨_, rfl, (hS.partD (.cons_cons _ (.cons _ (.cons_cons _ (.cons_cons _ .slnil)))) 7 rfl (.refl _)), ?_⟩
 intro a hA
 refine any_tk (v := .agg #[.bool ((bigS ((fb b1 b2)) (putY fop fb b1 (x1 - b1.toNat) b2 (x2 - b2.toNat) + ((fb b1 b2)).toNat)).1.b1), .slice p31_1 (((bigS ((fb b1 b2)) (putY fop fb b1 (x1 - b1.toNat) b2 (x2 - b2.toNat) + ((fb b1 b2)).toNat)).1.t1).length) p31_c1, .slice p31_2 (((bigS ((fb b1 b2)) (putY fop fb b1 (x1 - b1.toNat) b2 (x2 - b2.toNat) + ((fb b1 b2)).toNat)).1.q1).length) p31_c2, .bool ((bigS ((fb b1 b2)) (putY fop fb b1 (x1 - b1.toNat) b2 (x2 - b2.toNat) + ((fb b1 b2)).toNat)).1.b2), .slice p31_3 (((bigS ((fb b1 b2)) (putY fop fb b1 (x1 - b1.toNat) b2 (x2 - b2.toNat) + ((fb b1 b2)).toNat)).1.t2).length) p31_c3, .slice p31_4 (((bigS ((fb b1 b2)) (putY fop fb b1 (x1 - b1.toNat) b2 (x2 - b2.toNat) + ((fb b1 b2)).toNat)).1.q2).length) p31_c4]) hA 7 rfl rfl rfl rfl hP (hS.partD (.cons_cons _ (.cons _ (.cons_cons _ (.cons_cons _ .slnil)))) 7 rfl (.refl _)) (fun w1 hS => d_extract (vs := [.agg #[.bool ((bigS ((fb b1 b2)) (putY fop fb b1 (x1 - b1.toNat) b2 (x2 - b2.toNat) + ((fb b1 b2)).toNat)).1.b1), .slice p31_1 (((bigS ((fb b1 b2)) (putY fop fb b1 (x1 - b1.toNat) b2 (x2 - b2.toNat) + ((fb b1 b2)).toNat)).1.t1).length) p31_c1, .slice p31_2 (((bigS ((fb b1 b2)) (putY fop fb b1 (x1 - b1.toNat) b2 (x2 - b2.toNat) + ((fb b1 b2)).toNat)).1.q1).length) p31_c2, .bool ((bigS ((fb b1 b2)) (putY fop fb b1 (x1 - b1.toNat) b2 (x2 - b2.toNat) + ((fb b1 b2)).toNat)).1.b2), .slice p31_3 (((bigS ((fb b1 b2)) (putY fop fb b1 (x1 - b1.toNat) b2 (x2 - b2.toNat) + ((fb b1 b2)).toNat)).1.t2).length) p31_c3, .slice p31_4 (((bigS ((fb b1 b2)) (putY fop fb b1 (x1 - b1.toNat) b2 (x2 - b2.toNat) + ((fb b1 b2)).toNat)).1.q2).length) p31_c4], .int .i64 ((bigS ((fb b1 b2)) (putY fop fb b1 (x1 - b1.toNat) b2 (x2 - b2.toNat) + ((fb b1 b2)).toNat)).2)]) rfl rfl) ?_
 intro a hA
 refine any_tk (v := .int .i64 ((bigS ((fb b1 b2)) (putY fop fb b1 (x1 - b1.toNat) b2 (x2 - b2.toNat) + ((fb b1 b2)).toNat)).2)) hA 8 rfl rfl rfl rfl hP (hS.partD (.cons_cons _ (.cons _ (.cons_cons _ (.cons_cons _ .slnil)))) 7 rfl (.refl _)) (fun w1 hS => d_extract (vs := [.agg #[.bool ((bigS ((fb b1 b2)) (putY fop fb b1 (x1 - b1.toNat) b2 (x2 - b2.toNat) + ((fb b1 b2)).toNat)).1.b1), .slice p31_1 (((bigS ((fb b1 b2)) (putY fop fb b1 (x1 - b1.toNat) b2 (x2 - b2.toNat) + ((fb b1 b2)).toNat)).1.t1).length) p31_c1, .slice p31_2 (((bigS ((fb b1 b2)) (putY fop fb b1 (x1 - b1.toNat) b2 (x2 - b2.toNat) + ((fb b1 b2)).toNat)).1.q1).length) p31_c2, .bool ((bigS ((fb b1 b2)) (putY fop fb b1 (x1 - b1.toNat) b2 (x2 - b2.toNat) + ((fb b1 b2)).toNat)).1.b2), .slice p31_3 (((bigS ((fb b1 b2)) (putY fop fb b1 (x1 - b1.toNat) b2 (x2 - b2.toNat) + ((fb b1 b2)).toNat)).1.t2).length) p31_c3, .slice p31_4 (((bigS ((fb b1 b2)) (putY fop fb b1 (x1 - b1.toNat) b2 (x2 - b2.toNat) + ((fb b1 b2)).toNat)).1.q2).length) p31_c4], .int .i64 ((bigS ((fb b1 b2)) (putY fop fb b1 (x1 - b1.toNat) b2 (x2 - b2.toNat) + ((fb b1 b2)).toNat)).2)]) rfl rfl) ?_
 intro a hA
 refine any_one (by kernel_rfl) (op_store (us := [.bool ((bigS ((fb b1 b2)) (putY fop fb b1 (x1 - b1.toNat) b2 (x2 - b2.toNat) + ((fb b1 b2)).toNat)).1.b1), .slice p31_1 (((bigS ((fb b1 b2)) (putY fop fb b1 (x1 - b1.toNat) b2 (x2 - b2.toNat) + ((fb b1 b2)).toNat)).1.t1).length) p31_c1, .slice p31_2 (((bigS ((fb b1 b2)) (putY fop fb b1 (x1 - b1.toNat) b2 (x2 - b2.toNat) + ((fb b1 b2)).toNat)).1.q1).length) p31_c2, .bool ((bigS ((fb b1 b2)) (putY fop fb b1 (x1 - b1.toNat) b2 (x2 - b2.toNat) + ((fb b1 b2)).toNat)).1.b2), .slice p31_3 (((bigS ((fb b1 b2)) (putY fop fb b1 (x1 - b1.toNat) b2 (x2 - b2.toNat) + ((fb b1 b2)).toNat)).1.t2).length) p31_c3, .slice p31_4 (((bigS ((fb b1 b2)) (putY fop fb b1 (x1 - b1.toNat) b2 (x2 - b2.toNat) + ((fb b1 b2)).toNat)).1.q2).length) p31_c4]) hA hS 9 rfl rfl rfl (sets_store rfl rfl rfl (by kernel_rfl) hS 1 rfl rfl rfl) 1 rfl rfl rfl rfl ?_)
 intro w35 hS
 refine ⟨(hS.partD (.cons_cons _ (.cons _ (.cons_cons _ (.cons_cons _ .slnil)))) 7 rfl (.refl _)), ?_⟩
 refine any_tk hA 10 rfl rfl rfl rfl hP (hS.partD (.cons_cons _ (.cons _ (.cons_cons _ (.cons_cons _ .slnil)))) 7 rfl (.refl _)) (fun w1 hS => d_assign rfl) ?_
 intro a hA
 refine any_end (by kernel_rfl) ?_
 refine hK15 _ _ ?_
 refine wp_ret ?_
 refine hret _ _ ?_
 refine ends (v := .tuple #[.agg #[.bool ((bigS ((fb b1 b2)) (putY fop fb b1 (x1 - b1.toNat) b2 (x2 - b2.toNat) + ((fb b1 b2)).toNat)).1.b1), .slice p31_1 (((bigS ((fb b1 b2)) (putY fop fb b1 (x1 - b1.toNat) b2 (x2 - b2.toNat) + ((fb b1 b2)).toNat)).1.t1).length) p31_c1, .slice p31_2 (((bigS ((fb b1 b2)) (putY fop fb b1 (x1 - b1.toNat) b2 (x2 - b2.toNat) + ((fb b1 b2)).toNat)).1.q1).length) p31_c2, .bool ((bigS ((fb b1 b2)) (putY fop fb b1 (x1 - b1.toNat) b2 (x2 - b2.toNat) + ((fb b1 b2)).toNat)).1.b2), .slice p31_3 (((bigS ((fb b1 b2)) (putY fop fb b1 (x1 - b1.toNat) b2 (x2 - b2.toNat) + ((fb b1 b2)).toNat)).1.t2).length) p31_c3, .slice p31_4 (((bigS ((fb b1 b2)) (putY fop fb b1 (x1 - b1.toNat) b2 (x2 - b2.toNat) + ((fb b1 b2)).toNat)).1.q2).length) p31_c4], .int .i64 ((bigS ((fb b1 b2)) (putY fop fb b1 (x1 - b1.toNat) b2 (x2 - b2.toNat) + ((fb b1 b2)).toNat)).2)]) hA rfl (.cons (res_cell hS BiJ_isS_26 rfl 1 rfl (cs := [.bool ((bigS ((fb b1 b2)) (putY fop fb b1 (x1 - b1.toNat) b2 (x2 - b2.toNat) + ((fb b1 b2)).toNat)).1.b1), .slice p31_1 (((bigS ((fb b1 b2)) (putY fop fb b1 (x1 - b1.toNat) b2 (x2 - b2.toNat) + ((fb b1 b2)).toNat)).1.t1).length) p31_c1, .slice p31_2 (((bigS ((fb b1 b2)) (putY fop fb b1 (x1 - b1.toNat) b2 (x2 - b2.toNat) + ((fb b1 b2)).toNat)).1.q1).length) p31_c2, .bool ((bigS ((fb b1 b2)) (putY fop fb b1 (x1 - b1.toNat) b2 (x2 - b2.toNat) + ((fb b1 b2)).toNat)).1.b2), .slice p31_3 (((bigS ((fb b1 b2)) (putY fop fb b1 (x1 - b1.toNat) b2 (x2 - b2.toNat) + ((fb b1 b2)).toNat)).1.t2).length) p31_c3, .slice p31_4 (((bigS ((fb b1 b2)) (putY fop fb b1 (x1 - b1.toNat) b2 (x2 - b2.toNat) + ((fb b1 b2)).toNat)).1.q2).length) p31_c4]) rfl rfl) (.cons (res_tmp rfl) .nil)) rfl ?_
 rw [bitQ_whole hw]
 exact ⟨p31_1, p31_c1, p31_2, p31_c2, p31_3, p31_c3, p31_4, p31_c4, rfl, ⟨⟨(hS.rd 3 rfl), hn32.s1.nil, hn32.s1.cap⟩, ⟨(hS.rd 2 rfl), hn32.s2.nil, hn32.s2.cap⟩, ⟨(hS.rd 1 rfl), hn32.s3.nil, hn32.s3.cap⟩, ⟨(hS.rd 0 rfl), hn32.s4.nil, hn32.s4.cap⟩⟩, hS.bel⟩
/-- A number is told by its parts: whole, or refused. -/
theorem wholeOf {q : Q6} {w : World} {a1 a2 a3 a4 : Option Addr} {ac1 ac2 ac3 ac4 : Nat} (ha : Nm w q a1 ac1 a2 ac2 a3 ac3 a4 ac4) (h : wholeQ q = true) : ∃ b x, q = Q6.whole b x ∧ (words x).length ≤ 512 ∧ b.toNat ≤ x := by
  obtain ⟨x, h1, h2, h3⟩ := whole_form ha.s1.rd.dig ha.s4.rd.dig h
  exact ⟨q.b1, x, h1, h2, h3⟩
theorem bitN_any {w : World} {p q : Q6} {a1 a2 a3 a4 : Option Addr} {ac1 ac2 ac3 ac4 : Nat} (ha : Nm w p a1 ac1 a2 ac2 a3 ac3 a4 ac4) (hl : LenQ p) {u1 u2 u3 u4 : Option Addr} {uc1 uc2 uc3 uc4 : Nat} (hu : Nm w q u1 uc1 u2 uc2 u3 uc3 u4 uc4) (hm : LenQ q) {F : FuncId} {fop : Nat → Nat → Nat} {fb : Bool → Bool → Bool} (hF : Fun2 F fop) (hB : BOp fop fb) : Calls Try.prog 22 #[.func (.func F) #[] #[], numV p a1 ac1 a2 ac2 a3 ac3 a4 ac4, numV q u1 uc1 u2 uc2 u3 uc3 u4 uc4] w (AnsN w (bitQ fop fb p q)) := by
  rcases want2_cases p q with ⟨hw, h1, h2⟩ | hw
  · obtain ⟨b1, x1, rfl, hx1, hb1⟩ := wholeOf ha h1
    obtain ⟨b2, x2, rfl, hx2, hb2⟩ := wholeOf hu h2
    exact bitW_any ha hl hu hm hF hB hw hx1 hb1 hx2 hb2
  · exact bitE_any ha hl hu hm hF hB hw
theorem andQ_any {w : World} {p q : Q6} {a1 a2 a3 a4 : Option Addr} {ac1 ac2 ac3 ac4 : Nat} (ha : Nm w p a1 ac1 a2 ac2 a3 ac3 a4 ac4) (hl : LenQ p) {u1 u2 u3 u4 : Option Addr} {uc1 uc2 uc3 uc4 : Nat} (hu : Nm w q u1 uc1 u2 uc2 u3 uc3 u4 uc4) (hm : LenQ q) : Calls Try.prog 6 #[numV p a1 ac1 a2 ac2 a3 ac3 a4 ac4, numV q u1 uc1 u2 uc2 u3 uc3 u4 uc4] w (AnsN w (bitQ (fun x y => x &&& y) (fun b c => b && c) p q)) := by
 have hS : St w w [] [(u4, q.q2), (u3, q.t2), (u2, q.q1), (u1, q.t1), (a4, p.q2), (a3, p.t2), (a2, p.q1), (a1, p.t1)] [] := ((((((((St.start w).addR ha.s1.rd).addR ha.s2.rd).addR ha.s3.rd).addR ha.s4.rd).addR hu.s1.rd).addR hu.s2.rd).addR hu.s3.rd).addR hu.s4.rd
 refine walk_of (l := [(0, .agg #[.bool p.b1, .slice a1 p.t1.length ac1, .slice a2 p.q1.length ac2, .bool p.b2, .slice a3 p.t2.length ac3, .slice a4 p.q2.length ac4]), (1, .agg #[.bool q.b1, .slice u1 q.t1.length uc1, .slice u2 q.q1.length uc2, .bool q.b2, .slice u3 q.t2.length uc3, .slice u4 q.q2.length uc4])]) Try.func6 rfl Try.ntmps6 rfl rfl ?_
 intro Q hret hnorm hP a hA
 refine wp_seq_k (fun K1 hK1 => ?_)
 refine wp_region_lit ?_
 refine seq_new hA hS rfl rfl rfl (fun g => .pointer (some ⟨g, 0, none⟩)) (d_box rfl rfl) rfl ?_
 intro g2 w3 hS a hA
 refine seq_new hA hS rfl rfl rfl (fun g => .pointer (some ⟨g, 0, none⟩)) (d_box rfl rfl) rfl ?_
 intro g4 w5 hS a hA
 refine seq_new (vs := [.bool false, .slice none 0 0, .slice none 0 0, .bool false, .slice none 0 0, .slice none 0 0]) (t := 26) hA hS rfl rfl rfl (fun g => .pointer (some ⟨g, 0, none⟩)) (d_alloc (z := .agg #[.bool false, .slice none 0 0, .slice none 0 0, .bool false, .slice none 0 0, .slice none 0 0]) (by kernel_rfl) rfl) rfl ?_
 intro g6 w7 hS a hA
 refine seq_do hA rfl rfl rfl (d_assign rfl) ?_
 intro a hA
 refine seq_end ?_
 refine hK1 _ _ ?_
 refine wp_seq_k (fun K8 hK8 => ?_)
 refine wp_region_lit ?_
 refine seq_do hA rfl rfl rfl (d_loadS hS BiJ_isS_26 rfl 2 rfl (cs := [.bool p.b1, .slice a1 p.t1.length ac1, .slice a2 p.q1.length ac2, .bool p.b2, .slice a3 p.t2.length ac3, .slice a4 p.q2.length ac4]) rfl rfl) ?_
 intro a hA
 refine seq_do hA rfl rfl rfl (d_loadS hS BiJ_isS_26 rfl 1 rfl (cs := [.bool q.b1, .slice u1 q.t1.length uc1, .slice u2 q.q1.length uc2, .bool q.b2, .slice u3 q.t2.length uc3, .slice u4 q.q2.length uc4]) rfl rfl) ?_
 intro a hA
 refine seq_call hA rfl rfl rfl (enters_func  rfl rfl (fun w => by kernel_rfl)) (bitN_any (show Nm _ p a1 ac1 a2 ac2 a3 ac3 a4 ac4 from ⟨⟨(hS.rd 7 rfl), ha.s1.nil, ha.s1.cap⟩, ⟨(hS.rd 6 rfl), ha.s2.nil, ha.s2.cap⟩, ⟨(hS.rd 5 rfl), ha.s3.nil, ha.s3.cap⟩, ⟨(hS.rd 4 rfl), ha.s4.nil, ha.s4.cap⟩⟩) hl (show Nm _ q u1 uc1 u2 uc2 u3 uc3 u4 uc4 from ⟨⟨(hS.rd 3 rfl), hu.s1.nil, hu.s1.cap⟩, ⟨(hS.rd 2 rfl), hu.s2.nil, hu.s2.cap⟩, ⟨(hS.rd 1 rfl), hu.s3.nil, hu.s3.cap⟩, ⟨(hS.rd 0 rfl), hu.s4.nil, hu.s4.cap⟩⟩) hm andFun and_op) ?_
 rintro _ w12 ⟨p9_1, p9_c1, p9_2, p9_c2, p9_3, p9_c3, p9_4, p9_c4, rfl, hn10, hb11⟩
 replace hS := hS.call hb11
 replace hS := hS.addR hn10.s1.rd
 replace hS := hS.addR hn10.s2.rd
 replace hS := hS.addR hn10.s3.rd
 replace hS := hS.addR hn10.s4.rd
 refine ⟨_, rfl, ?_⟩
 intro a hA
 refine seq_do (v := .agg #[.bool ((bitQ (fun x y => x &&& y) (fun b c => b && c) p q).1.b1), .slice p9_1 (((bitQ (fun x y => x &&& y) (fun b c => b && c) p q).1.t1).length) p9_c1, .slice p9_2 (((bitQ (fun x y => x &&& y) (fun b c => b && c) p q).1.q1).length) p9_c2, .bool ((bitQ (fun x y => x &&& y) (fun b c => b && c) p q).1.b2), .slice p9_3 (((bitQ (fun x y => x &&& y) (fun b c => b && c) p q).1.t2).length) p9_c3, .slice p9_4 (((bitQ (fun x y => x &&& y) (fun b c => b && c) p q).1.q2).length) p9_c4]) hA rfl rfl rfl (d_extract (vs := [.agg #[.bool ((bitQ (fun x y => x &&& y) (fun b c => b && c) p q).1.b1), .slice p9_1 (((bitQ (fun x y => x &&& y) (fun b c => b && c) p q).1.t1).length) p9_c1, .slice p9_2 (((bitQ (fun x y => x &&& y) (fun b c => b && c) p q).1.q1).length) p9_c2, .bool ((bitQ (fun x y => x &&& y) (fun b c => b && c) p q).1.b2), .slice p9_3 (((bitQ (fun x y => x &&& y) (fun b c => b && c) p q).1.t2).length) p9_c3, .slice p9_4 (((bitQ (fun x y => x &&& y) (fun b c => b && c) p q).1.q2).length) p9_c4], .int .i64 ((bitQ (fun x y => x &&& y) (fun b c => b && c) p q).2)]) rfl rfl) ?_
 intro a hA
 refine seq_do (v := .int .i64 ((bitQ (fun x y => x &&& y) (fun b c => b && c) p q).2)) hA rfl rfl rfl (d_extract (vs := [.agg #[.bool ((bitQ (fun x y => x &&& y) (fun b c => b && c) p q).1.b1), .slice p9_1 (((bitQ (fun x y => x &&& y) (fun b c => b && c) p q).1.t1).length) p9_c1, .slice p9_2 (((bitQ (fun x y => x &&& y) (fun b c => b && c) p q).1.q1).length) p9_c2, .bool ((bitQ (fun x y => x &&& y) (fun b c => b && c) p q).1.b2), .slice p9_3 (((bitQ (fun x y => x &&& y) (fun b c => b && c) p q).1.t2).length) p9_c3, .slice p9_4 (((bitQ (fun x y => x &&& y) (fun b c => b && c) p q).1.q2).length) p9_c4], .int .i64 ((bitQ (fun x y => x &&& y) (fun b c => b && c) p q).2)]) rfl rfl) ?_
 intro a hA
 refine seq_store (us := [.bool ((bitQ (fun x y => x &&& y) (fun b c => b && c) p q).1.b1), .slice p9_1 (((bitQ (fun x y => x &&& y) (fun b c => b && c) p q).1.t1).length) p9_c1, .slice p9_2 (((bitQ (fun x y => x &&& y) (fun b c => b && c) p q).1.q1).length) p9_c2, .bool ((bitQ (fun x y => x &&& y) (fun b c => b && c) p q).1.b2), .slice p9_3 (((bitQ (fun x y => x &&& y) (fun b c => b && c) p q).1.t2).length) p9_c3, .slice p9_4 (((bitQ (fun x y => x &&& y) (fun b c => b && c) p q).1.q2).length) p9_c4]) hA hS rfl rfl (sets_store rfl rfl rfl (by kernel_rfl) hS 0 rfl rfl rfl) 0 rfl rfl rfl rfl ?_
 intro w13 hS
 refine seq_do hA rfl rfl rfl (d_assign rfl) ?_
 intro a hA
 refine seq_end ?_
 refine hK8 _ _ ?_
 refine wp_ret ?_
 refine hret _ _ ?_
 refine ends (v := .tuple #[.agg #[.bool ((bitQ (fun x y => x &&& y) (fun b c => b && c) p q).1.b1), .slice p9_1 (((bitQ (fun x y => x &&& y) (fun b c => b && c) p q).1.t1).length) p9_c1, .slice p9_2 (((bitQ (fun x y => x &&& y) (fun b c => b && c) p q).1.q1).length) p9_c2, .bool ((bitQ (fun x y => x &&& y) (fun b c => b && c) p q).1.b2), .slice p9_3 (((bitQ (fun x y => x &&& y) (fun b c => b && c) p q).1.t2).length) p9_c3, .slice p9_4 (((bitQ (fun x y => x &&& y) (fun b c => b && c) p q).1.q2).length) p9_c4], .int .i64 ((bitQ (fun x y => x &&& y) (fun b c => b && c) p q).2)]) hA rfl (.cons (res_cell hS BiJ_isS_26 rfl 0 rfl (cs := [.bool ((bitQ (fun x y => x &&& y) (fun b c => b && c) p q).1.b1), .slice p9_1 (((bitQ (fun x y => x &&& y) (fun b c => b && c) p q).1.t1).length) p9_c1, .slice p9_2 (((bitQ (fun x y => x &&& y) (fun b c => b && c) p q).1.q1).length) p9_c2, .bool ((bitQ (fun x y => x &&& y) (fun b c => b && c) p q).1.b2), .slice p9_3 (((bitQ (fun x y => x &&& y) (fun b c => b && c) p q).1.t2).length) p9_c3, .slice p9_4 (((bitQ (fun x y => x &&& y) (fun b c => b && c) p q).1.q2).length) p9_c4]) rfl rfl) (.cons (res_tmp rfl) .nil)) rfl ?_
 exact ⟨p9_1, p9_c1, p9_2, p9_c2, p9_3, p9_c3, p9_4, p9_c4, rfl, ⟨⟨(hS.rd 3 rfl), hn10.s1.nil, hn10.s1.cap⟩, ⟨(hS.rd 2 rfl), hn10.s2.nil, hn10.s2.cap⟩, ⟨(hS.rd 1 rfl), hn10.s3.nil, hn10.s3.cap⟩, ⟨(hS.rd 0 rfl), hn10.s4.nil, hn10.s4.cap⟩⟩, hS.bel⟩
end Go.Proofs.Ytfhpeeljjcphpaa
namespace Go.Proofs.Ytfhpeeljjcphpaa
open Go.RowKit
set_option linter.unusedVariables false
set_option linter.unusedSimpArgs false
theorem awake_and : bitQ (fun x y => x &&& y) (fun b c => b && c) (Q6.whole true 1) (Q6.whole false 5) = (Q6.whole false 5, 0) := by
  have hw : want2 (Q6.whole true 1) (Q6.whole false 5) = 0 := by
    unfold want2
    rw [soundQ_whole one_len (by decide), soundQ_whole five_len (by decide), wholeQ_whole one_len (by decide), wholeQ_whole five_len (by decide)]
    simp
  rw [bitQ_whole hw]
  have e : putY (fun x y => x &&& y) (fun b c => b && c) true (1 - true.toNat) false (5 - false.toNat) + (true && false).toNat = 5 := by
    unfold putY
    show val (outL _ _ true 0 false 5 (max (words 0).length (words 5).length)) + 0 = 5
    rw [words_zero, words_five]
    decide
  rw [e]
  exact bigS_pos five_len
end Go.Proofs.Ytfhpeeljjcphpaa
namespace Go.Proofs.Ytfhpeeljjcphpaa
open Go.RowKit
set_option linter.unusedVariables false
set_option linter.unusedSimpArgs false
set_option maxRecDepth 100000
theorem BiS_is1_22 : Is1 Try.prog 22 := ⟨⟨_, Try.underlying22, rfl⟩, by kernel_rfl⟩
theorem BiS_is1_4 : Is1 Try.prog 4 := ⟨⟨_, Try.underlying4, rfl⟩, by kernel_rfl⟩
theorem BiS_fld_24_0 : FieldAt Try.prog 24 0 0 := ⟨_, _, Try.underlying24, rfl, rfl, by kernel_rfl⟩
theorem BiS_fld_24_1 : FieldAt Try.prog 24 1 1 := ⟨_, _, Try.underlying24, rfl, rfl, by kernel_rfl⟩
theorem BiS_fld_24_2 : FieldAt Try.prog 24 2 2 := ⟨_, _, Try.underlying24, rfl, rfl, by kernel_rfl⟩
theorem BiS_fld_26_0 : FieldAt Try.prog 26 0 0 := ⟨_, _, Try.underlying26, rfl, rfl, by kernel_rfl⟩
theorem BiS_fld_26_1 : FieldAt Try.prog 26 1 3 := ⟨_, _, Try.underlying26, rfl, rfl, by kernel_rfl⟩
theorem BiS_isS_24 : IsS Try.prog 24 3 := ⟨⟨_, Try.underlying24⟩, by kernel_rfl⟩
theorem BiS_isS_26 : IsS Try.prog 26 6 := ⟨⟨_, Try.underlying26⟩, by kernel_rfl⟩
theorem intP_any {w : World} {k : Nat} (hk : k ≤ 9223372036854775807) : Calls Try.prog 34 #[.int .i64 (((k : Nat) : Int))] w (AnsV w (Q6.whole false k)) := by
 have hS : St w w [] [] [] := St.start w
 refine walk_of (l := [(0, .int .i64 (((k : Nat) : Int)))]) Try.func34 rfl Try.ntmps34 rfl rfl ?_
 intro Q hret hnorm hP a hA
 refine wp_seq_k (fun K1 hK1 => ?_)
 refine wp_region_lit ?_
 refine seq_new (vs := [.bool false, .slice none 0 0, .slice none 0 0, .bool false, .slice none 0 0, .slice none 0 0]) (t := 26) hA hS rfl rfl rfl (fun g => .pointer (some ⟨g, 0, none⟩)) (d_alloc (z := .agg #[.bool false, .slice none 0 0, .slice none 0 0, .bool false, .slice none 0 0, .slice none 0 0]) (by kernel_rfl) rfl) rfl ?_
 intro g2 w3 hS a hA
 refine seq_end ?_
 refine hK1 _ _ ?_
 refine wp_seq_k (fun K4 hK4 => ?_)
 refine wp_region_lit ?_
 refine seq_do hA rfl rfl rfl (d_move rfl) ?_
 intro a hA
 refine seq_do (v := .int .u64 (((k : Nat) : Int))) hA rfl rfl rfl (d_convert rfl (conv_up Try.underlying3 Try.underlying73 hk)) ?_
 intro a hA
 refine seq_do hA rfl rfl rfl (d_assign rfl) ?_
 intro a hA
 refine seq_end ?_
 refine hK4 _ _ ?_
 refine wp_seq_k (fun K5 hK5 => ?_)
 refine wp_seq_k (fun K6 hK6 => ?_)
 refine wp_region_lit ?_
 refine seq_do hA rfl rfl rfl (d_move rfl) ?_
 intro a hA
 refine seq_do (v := .bool false) hA rfl rfl rfl (d_bin rfl rfl (fun w => (bin_lss w).trans (by rw [show (decide (((k : Nat) : Int) < 0)) = false from decide_eq_false (by omega)]))) ?_
 intro a hA
 refine seq_end ?_
 refine hK6 _ _ ?_
 refine wp_cond_false (hA.ev rfl) ?_
 refine wp_skip ?_
 refine hK5 _ _ ?_
 refine wp_seq_k (fun K7 hK7 => ?_)
 refine wp_region_lit ?_
 refine seq_do hA rfl rfl rfl (d_move rfl) ?_
 intro a hA
 refine seq_do (v := .bool false) hA rfl rfl rfl (d_bin rfl rfl (fun w => (bin_lss w).trans (by rw [show (decide (((k : Nat) : Int) < 0)) = false from decide_eq_false (by omega)]))) ?_
 intro a hA
 refine seq_do hA rfl rfl rfl (d_move rfl) ?_
 intro a hA
 refine seq_call hA rfl rfl rfl (enters_func  rfl rfl (fun w => by kernel_rfl)) (of_any k _ (by omega)) ?_
 rintro _ w12 ⟨ro8, rc9, rfl, ho10, hb11⟩
 replace hS := hS.call hb11
 replace hS := hS.addR ho10.rd
 refine ⟨_, rfl, ?_⟩
 intro a hA
 refine seq_call hA rfl rfl rfl (enters_func  rfl rfl (fun w => by kernel_rfl)) (of_one _) ?_
 rintro _ w17 ⟨ro13, rc14, rfl, ho15, hb16⟩
 replace hS := hS.call hb16
 replace hS := hS.addR ho15.rd
 refine ⟨_, rfl, ?_⟩
 intro a hA
 refine seq_do (v := .agg #[.bool false, .slice ro8 ((words k).length) rc9, .slice ro13 1 rc14]) hA rfl rfl rfl (d_build rfl (fun w => by kernel_rfl)) ?_
 intro a hA
 refine seq_call hA rfl rfl rfl (enters_func  rfl rfl (fun w => by kernel_rfl)) (of_one _) ?_
 rintro _ w22 ⟨ro18, rc19, rfl, ho20, hb21⟩
 replace hS := hS.call hb21
 replace hS := hS.addR ho20.rd
 refine ⟨_, rfl, ?_⟩
 intro a hA
 refine seq_do (v := .agg #[.bool false, .slice none 0 0, .slice ro18 1 rc19]) hA rfl rfl rfl (d_build rfl (fun w => by kernel_rfl)) ?_
 intro a hA
 refine seq_do (v := .agg #[.bool false, .slice ro8 ((words k).length) rc9, .slice ro13 1 rc14, .bool false, .slice none 0 0, .slice ro18 1 rc19]) hA rfl rfl rfl (d_build rfl (fun w => by kernel_rfl)) ?_
 intro a hA
 refine seq_store (us := [.bool false, .slice ro8 ((words k).length) rc9, .slice ro13 1 rc14, .bool false, .slice none 0 0, .slice ro18 1 rc19]) hA hS rfl rfl (sets_store rfl rfl rfl (by kernel_rfl) hS 0 rfl rfl rfl) 0 rfl rfl rfl rfl ?_
 intro w23 hS
 refine seq_end ?_
 refine hK7 _ _ ?_
 refine wp_ret ?_
 refine hret _ _ ?_
 refine ends (v := .agg #[.bool false, .slice ro8 ((words k).length) rc9, .slice ro13 1 rc14, .bool false, .slice none 0 0, .slice ro18 1 rc19]) hA rfl (.cons (res_cell hS BiS_isS_26 rfl 0 rfl (cs := [.bool false, .slice ro8 ((words k).length) rc9, .slice ro13 1 rc14, .bool false, .slice none 0 0, .slice ro18 1 rc19]) rfl rfl) .nil) rfl ?_
 exact ⟨ro8, rc9, ro13, rc14, none, 0, ro18, rc19, rfl, ⟨⟨(hS.rd 2 rfl), ho10.nocap, ho10.caps⟩, ⟨(hS.rd 1 rfl), ho15.nocap, ho15.caps⟩, (Sc.none _), ⟨(hS.rd 0 rfl), ho20.nocap, ho20.caps⟩⟩, hS.bel⟩
theorem intN_any {w : World} {k : Nat} (h0 : 0 < k) (hk : k ≤ 9223372036854775808) : Calls Try.prog 34 #[.int .i64 (-((k : Nat) : Int))] w (AnsV w (Q6.whole true k)) := by
 have hS : St w w [] [] [] := St.start w
 refine walk_of (l := [(0, .int .i64 (-((k : Nat) : Int)))]) Try.func34 rfl Try.ntmps34 rfl rfl ?_
 intro Q hret hnorm hP a hA
 refine wp_seq_k (fun K1 hK1 => ?_)
 refine wp_region_lit ?_
 refine seq_new (vs := [.bool false, .slice none 0 0, .slice none 0 0, .bool false, .slice none 0 0, .slice none 0 0]) (t := 26) hA hS rfl rfl rfl (fun g => .pointer (some ⟨g, 0, none⟩)) (d_alloc (z := .agg #[.bool false, .slice none 0 0, .slice none 0 0, .bool false, .slice none 0 0, .slice none 0 0]) (by kernel_rfl) rfl) rfl ?_
 intro g2 w3 hS a hA
 refine seq_end ?_
 refine hK1 _ _ ?_
 refine wp_seq_k (fun K4 hK4 => ?_)
 refine wp_region_lit ?_
 refine seq_do hA rfl rfl rfl (d_move rfl) ?_
 intro a hA
 refine seq_do (v := .int .u64 (((18446744073709551616 - k : Nat) : Int))) hA rfl rfl rfl (d_convert rfl (conv_neg Try.underlying3 Try.underlying73 h0 hk)) ?_
 intro a hA
 refine seq_do hA rfl rfl rfl (d_assign rfl) ?_
 intro a hA
 refine seq_end ?_
 refine hK4 _ _ ?_
 refine wp_seq_k (fun K5 hK5 => ?_)
 refine wp_seq_k (fun K6 hK6 => ?_)
 refine wp_region_lit ?_
 refine seq_do hA rfl rfl rfl (d_move rfl) ?_
 intro a hA
 refine seq_do (v := .bool true) hA rfl rfl rfl (d_bin rfl rfl (fun w => (bin_lss w).trans (by rw [show (decide (-((k : Nat) : Int) < 0)) = true from decide_eq_true (by omega)]))) ?_
 intro a hA
 refine seq_end ?_
 refine hK6 _ _ ?_
 refine wp_cond_true (hA.ev rfl) ?_
 refine wp_region_lit ?_
 refine seq_do hA rfl rfl rfl (d_move rfl) ?_
 intro a hA
 refine seq_do (v := .int .u64 (((k : Nat) : Int))) hA rfl rfl rfl (d_un rfl (un_negU h0 hk)) ?_
 intro a hA
 refine seq_do hA rfl rfl rfl (d_assign rfl) ?_
 intro a hA
 refine seq_end ?_
 refine hK5 _ _ ?_
 refine wp_seq_k (fun K7 hK7 => ?_)
 refine wp_region_lit ?_
 refine seq_do hA rfl rfl rfl (d_move rfl) ?_
 intro a hA
 refine seq_do (v := .bool true) hA rfl rfl rfl (d_bin rfl rfl (fun w => (bin_lss w).trans (by rw [show (decide (-((k : Nat) : Int) < 0)) = true from decide_eq_true (by omega)]))) ?_
 intro a hA
 refine seq_do hA rfl rfl rfl (d_move rfl) ?_
 intro a hA
 refine seq_call hA rfl rfl rfl (enters_func  rfl rfl (fun w => by kernel_rfl)) (of_any k _ (by omega)) ?_
 rintro _ w12 ⟨ro8, rc9, rfl, ho10, hb11⟩
 replace hS := hS.call hb11
 replace hS := hS.addR ho10.rd
 refine ⟨_, rfl, ?_⟩
 intro a hA
 refine seq_call hA rfl rfl rfl (enters_func  rfl rfl (fun w => by kernel_rfl)) (of_one _) ?_
 rintro _ w17 ⟨ro13, rc14, rfl, ho15, hb16⟩
 replace hS := hS.call hb16
 replace hS := hS.addR ho15.rd
 refine ⟨_, rfl, ?_⟩
 intro a hA
 refine seq_do (v := .agg #[.bool true, .slice ro8 ((words k).length) rc9, .slice ro13 1 rc14]) hA rfl rfl rfl (d_build rfl (fun w => by kernel_rfl)) ?_
 intro a hA
 refine seq_call hA rfl rfl rfl (enters_func  rfl rfl (fun w => by kernel_rfl)) (of_one _) ?_
 rintro _ w22 ⟨ro18, rc19, rfl, ho20, hb21⟩
 replace hS := hS.call hb21
 replace hS := hS.addR ho20.rd
 refine ⟨_, rfl, ?_⟩
 intro a hA
 refine seq_do (v := .agg #[.bool false, .slice none 0 0, .slice ro18 1 rc19]) hA rfl rfl rfl (d_build rfl (fun w => by kernel_rfl)) ?_
 intro a hA
 refine seq_do (v := .agg #[.bool true, .slice ro8 ((words k).length) rc9, .slice ro13 1 rc14, .bool false, .slice none 0 0, .slice ro18 1 rc19]) hA rfl rfl rfl (d_build rfl (fun w => by kernel_rfl)) ?_
 intro a hA
 refine seq_store (us := [.bool true, .slice ro8 ((words k).length) rc9, .slice ro13 1 rc14, .bool false, .slice none 0 0, .slice ro18 1 rc19]) hA hS rfl rfl (sets_store rfl rfl rfl (by kernel_rfl) hS 0 rfl rfl rfl) 0 rfl rfl rfl rfl ?_
 intro w23 hS
 refine seq_end ?_
 refine hK7 _ _ ?_
 refine wp_ret ?_
 refine hret _ _ ?_
 refine ends (v := .agg #[.bool true, .slice ro8 ((words k).length) rc9, .slice ro13 1 rc14, .bool false, .slice none 0 0, .slice ro18 1 rc19]) hA rfl (.cons (res_cell hS BiS_isS_26 rfl 0 rfl (cs := [.bool true, .slice ro8 ((words k).length) rc9, .slice ro13 1 rc14, .bool false, .slice none 0 0, .slice ro18 1 rc19]) rfl rfl) .nil) rfl ?_
 exact ⟨ro8, rc9, ro13, rc14, none, 0, ro18, rc19, rfl, ⟨⟨(hS.rd 2 rfl), ho10.nocap, ho10.caps⟩, ⟨(hS.rd 1 rfl), ho15.nocap, ho15.caps⟩, (Sc.none _), ⟨(hS.rd 0 rfl), ho20.nocap, ho20.caps⟩⟩, hS.bel⟩
theorem sameFr_any {w : World} {b b' : Bool} {t q t' q' : List Nat} {a1 a2 : Option Addr} {ac1 ac2 : Nat} (ha1 : Sc w a1 ac1 t) (ha2 : Sc w a2 ac2 q) {u1 u2 : Option Addr} {uc1 uc2 : Nat} (hu1 : Sc w u1 uc1 t') (hu2 : Sc w u2 uc2 q') (l1 : t.length ≤ 9223372036854775807) (l2 : q.length ≤ 9223372036854775807) (l3 : t'.length ≤ 9223372036854775807) (l4 : q'.length ≤ 9223372036854775807) {r : Bool} (hr : sameF b t q b' t' q' = r) :
    Calls Try.prog 60 #[.agg #[.bool b, .slice a1 t.length ac1, .slice a2 q.length ac2], .agg #[.bool b', .slice u1 t'.length uc1, .slice u2 q'.length uc2]] w fun e w' => e = .returned (.bool r) ∧ Below w.heap.size w w' := by
 have hS : St w w [] [(u2, q'), (u1, t'), (a2, q), (a1, t)] [] := ((((St.start w).addR ha1.rd).addR ha2.rd).addR hu1.rd).addR hu2.rd
 refine walk_of (l := [(0, .agg #[.bool b, .slice a1 t.length ac1, .slice a2 q.length ac2]), (1, .agg #[.bool b', .slice u1 t'.length uc1, .slice u2 q'.length uc2])]) Try.func60 rfl Try.ntmps60 rfl rfl ?_
 intro Q hret hnorm hP a hA
 refine wp_seq_k (fun K1 hK1 => ?_)
 refine wp_region_lit ?_
 refine seq_new hA hS rfl rfl rfl (fun g => .pointer (some ⟨g, 0, none⟩)) (d_box rfl rfl) rfl ?_
 intro g2 w3 hS a hA
 refine seq_new hA hS rfl rfl rfl (fun g => .pointer (some ⟨g, 0, none⟩)) (d_box rfl rfl) rfl ?_
 intro g4 w5 hS a hA
 refine seq_do hA rfl rfl rfl (d_assign rfl) ?_
 intro a hA
 refine seq_end ?_
 refine hK1 _ _ ?_
 refine wp_seq_k (fun K6 hK6 => ?_)
 refine wp_region_lit ?_
 refine seq_do (v := .pointer (some ⟨g2, 0, none⟩)) hA rfl rfl rfl (d_field BiS_fld_24_0 rfl rfl) ?_
 intro a hA
 refine seq_do hA rfl rfl rfl (d_load1 hS BiS_is1_4 rfl 1 rfl rfl) ?_
 intro a hA
 refine seq_do (v := .pointer (some ⟨g4, 0, none⟩)) hA rfl rfl rfl (d_field BiS_fld_24_0 rfl rfl) ?_
 intro a hA
 refine seq_do hA rfl rfl rfl (d_load1 hS BiS_is1_4 rfl 0 rfl rfl) ?_
 intro a hA
 rcases Bool.eq_false_or_eq_true ((b == b')) with hb7 | hb7
 · have hb7' := eq_of_beq hb7
   refine seq_do (v := .bool true) hA rfl rfl rfl (d_bin rfl rfl (fun w => ((bin_eqlB Try.underlying4) w).trans (by rw [hb7]))) ?_
   intro a hA
   refine seq_do hA rfl rfl rfl (d_move rfl) ?_
   intro a hA
   refine seq_do (v := .pointer (some ⟨g2, 1, none⟩)) hA rfl rfl rfl (d_field BiS_fld_24_1 rfl rfl) ?_
   intro a hA
   refine seq_do hA rfl rfl rfl (d_load1 hS BiS_is1_22 rfl 1 rfl rfl) ?_
   intro a hA
   refine seq_do (v := .pointer (some ⟨g4, 1, none⟩)) hA rfl rfl rfl (d_field BiS_fld_24_1 rfl rfl) ?_
   intro a hA
   refine seq_do hA rfl rfl rfl (d_load1 hS BiS_is1_22 rfl 0 rfl rfl) ?_
   intro a hA
   rcases Bool.eq_false_or_eq_true (decide (t = t')) with hb8 | hb8
   · have hb8' := of_decide_eq_true hb8
     refine seq_call hA rfl rfl rfl (enters_func  rfl rfl (fun w => by kernel_rfl)) (equalB_any _ _ (hS.rd 3 rfl) (hS.rd 1 rfl) l1 l3 hb8) ?_
     rintro _ w10 ⟨rfl, hb9⟩
     replace hS := hS.call hb9
     refine ⟨_, rfl, ?_⟩
     intro a hA
     refine seq_do (v := .bool true) hA rfl rfl rfl (d_pick rfl rfl rfl rfl) ?_
     intro a hA
     refine seq_do hA rfl rfl rfl (d_move rfl) ?_
     intro a hA
     refine seq_do (v := .pointer (some ⟨g2, 2, none⟩)) hA rfl rfl rfl (d_field BiS_fld_24_2 rfl rfl) ?_
     intro a hA
     refine seq_do hA rfl rfl rfl (d_load1 hS BiS_is1_22 rfl 1 rfl rfl) ?_
     intro a hA
     refine seq_do (v := .pointer (some ⟨g4, 2, none⟩)) hA rfl rfl rfl (d_field BiS_fld_24_2 rfl rfl) ?_
     intro a hA
     refine seq_do hA rfl rfl rfl (d_load1 hS BiS_is1_22 rfl 0 rfl rfl) ?_
     intro a hA
     rcases Bool.eq_false_or_eq_true (decide (q = q')) with hb11 | hb11
     · have hb11' := of_decide_eq_true hb11
       refine seq_call hA rfl rfl rfl (enters_func  rfl rfl (fun w => by kernel_rfl)) (equalB_any _ _ (hS.rd 2 rfl) (hS.rd 0 rfl) l2 l4 hb11) ?_
       rintro _ w13 ⟨rfl, hb12⟩
       replace hS := hS.call hb12
       refine ⟨_, rfl, ?_⟩
       intro a hA
       refine seq_do (v := .bool true) hA rfl rfl rfl (d_pick rfl rfl rfl rfl) ?_
       intro a hA
       refine seq_do hA rfl rfl rfl (d_assign rfl) ?_
       intro a hA
       refine seq_end ?_
       refine hK6 _ _ ?_
       refine wp_ret ?_
       refine hret _ _ ?_
       refine ends (v := .bool true) hA rfl (.cons (res_tmp rfl) .nil) rfl ?_
       subst hr
       exact ⟨by unfold sameF; rw [hb7, hb8, hb11]; try rfl, hS.bel⟩
     · have hb11' := of_decide_eq_false hb11
       refine seq_call hA rfl rfl rfl (enters_func  rfl rfl (fun w => by kernel_rfl)) (equalB_any _ _ (hS.rd 2 rfl) (hS.rd 0 rfl) l2 l4 hb11) ?_
       rintro _ w15 ⟨rfl, hb14⟩
       replace hS := hS.call hb14
       refine ⟨_, rfl, ?_⟩
       intro a hA
       refine seq_do (v := .bool false) hA rfl rfl rfl (d_pick rfl rfl rfl rfl) ?_
       intro a hA
       refine seq_do hA rfl rfl rfl (d_assign rfl) ?_
       intro a hA
       refine seq_end ?_
       refine hK6 _ _ ?_
       refine wp_ret ?_
       refine hret _ _ ?_
       refine ends (v := .bool false) hA rfl (.cons (res_tmp rfl) .nil) rfl ?_
       subst hr
       exact ⟨by unfold sameF; rw [hb7, hb8, hb11]; try rfl, hS.bel⟩
   · have hb8' := of_decide_eq_false hb8
     refine seq_call hA rfl rfl rfl (enters_func  rfl rfl (fun w => by kernel_rfl)) (equalB_any _ _ (hS.rd 3 rfl) (hS.rd 1 rfl) l1 l3 hb8) ?_
     rintro _ w17 ⟨rfl, hb16⟩
     replace hS := hS.call hb16
     refine ⟨_, rfl, ?_⟩
     intro a hA
     refine seq_do (v := .bool false) hA rfl rfl rfl (d_pick rfl rfl rfl rfl) ?_
     intro a hA
     refine seq_do hA rfl rfl rfl (d_move rfl) ?_
     intro a hA
     refine seq_skip hA rfl rfl rfl ?_
     intro a hA
     refine seq_skip hA rfl rfl rfl ?_
     intro a hA
     refine seq_skip hA rfl rfl rfl ?_
     intro a hA
     refine seq_skip hA rfl rfl rfl ?_
     intro a hA
     refine seq_skip hA rfl rfl rfl ?_
     intro a hA
     refine seq_do (v := .bool false) hA rfl rfl rfl (d_pick rfl rfl rfl rfl) ?_
     intro a hA
     refine seq_do hA rfl rfl rfl (d_assign rfl) ?_
     intro a hA
     refine seq_end ?_
     refine hK6 _ _ ?_
     refine wp_ret ?_
     refine hret _ _ ?_
     refine ends (v := .bool false) hA rfl (.cons (res_tmp rfl) .nil) rfl ?_
     subst hr
     exact ⟨by unfold sameF; rw [hb7, hb8]; try rfl, hS.bel⟩
 · have hb7' := ne_of_beq_false hb7
   refine seq_do (v := .bool false) hA rfl rfl rfl (d_bin rfl rfl (fun w => ((bin_eqlB Try.underlying4) w).trans (by rw [hb7]))) ?_
   intro a hA
   refine seq_do hA rfl rfl rfl (d_move rfl) ?_
   intro a hA
   refine seq_skip hA rfl rfl rfl ?_
   intro a hA
   refine seq_skip hA rfl rfl rfl ?_
   intro a hA
   refine seq_skip hA rfl rfl rfl ?_
   intro a hA
   refine seq_skip hA rfl rfl rfl ?_
   intro a hA
   refine seq_skip hA rfl rfl rfl ?_
   intro a hA
   refine seq_do (v := .bool false) hA rfl rfl rfl (d_pick rfl rfl rfl rfl) ?_
   intro a hA
   refine seq_do hA rfl rfl rfl (d_move rfl) ?_
   intro a hA
   refine seq_skip hA rfl rfl rfl ?_
   intro a hA
   refine seq_skip hA rfl rfl rfl ?_
   intro a hA
   refine seq_skip hA rfl rfl rfl ?_
   intro a hA
   refine seq_skip hA rfl rfl rfl ?_
   intro a hA
   refine seq_skip hA rfl rfl rfl ?_
   intro a hA
   refine seq_do (v := .bool false) hA rfl rfl rfl (d_pick rfl rfl rfl rfl) ?_
   intro a hA
   refine seq_do hA rfl rfl rfl (d_assign rfl) ?_
   intro a hA
   refine seq_end ?_
   refine hK6 _ _ ?_
   refine wp_ret ?_
   refine hret _ _ ?_
   refine ends (v := .bool false) hA rfl (.cons (res_tmp rfl) .nil) rfl ?_
   subst hr
   exact ⟨by unfold sameF; rw [hb7]; try rfl, hS.bel⟩
theorem sameQ_any {w : World} {p q : Q6} {a1 a2 a3 a4 : Option Addr} {ac1 ac2 ac3 ac4 : Nat} (ha : Nm w p a1 ac1 a2 ac2 a3 ac3 a4 ac4) (hl : LenQ p) {u1 u2 u3 u4 : Option Addr} {uc1 uc2 uc3 uc4 : Nat} (hu : Nm w q u1 uc1 u2 uc2 u3 uc3 u4 uc4) (hm : LenQ q) {r : Bool} (hr : sameQ p q = r) : Calls Try.prog 35 #[numV p a1 ac1 a2 ac2 a3 ac3 a4 ac4, numV q u1 uc1 u2 uc2 u3 uc3 u4 uc4] w fun e w' => e = .returned (.bool r) ∧ Below w.heap.size w w' := by
 have hS : St w w [] [(u4, q.q2), (u3, q.t2), (u2, q.q1), (u1, q.t1), (a4, p.q2), (a3, p.t2), (a2, p.q1), (a1, p.t1)] [] := ((((((((St.start w).addR ha.s1.rd).addR ha.s2.rd).addR ha.s3.rd).addR ha.s4.rd).addR hu.s1.rd).addR hu.s2.rd).addR hu.s3.rd).addR hu.s4.rd
 refine walk_of (l := [(0, .agg #[.bool p.b1, .slice a1 p.t1.length ac1, .slice a2 p.q1.length ac2, .bool p.b2, .slice a3 p.t2.length ac3, .slice a4 p.q2.length ac4]), (1, .agg #[.bool q.b1, .slice u1 q.t1.length uc1, .slice u2 q.q1.length uc2, .bool q.b2, .slice u3 q.t2.length uc3, .slice u4 q.q2.length uc4])]) Try.func35 rfl Try.ntmps35 rfl rfl ?_
 intro Q hret hnorm hP a hA
 refine wp_seq_k (fun K1 hK1 => ?_)
 refine wp_region_lit ?_
 refine seq_new hA hS rfl rfl rfl (fun g => .pointer (some ⟨g, 0, none⟩)) (d_box rfl rfl) rfl ?_
 intro g2 w3 hS a hA
 refine seq_new hA hS rfl rfl rfl (fun g => .pointer (some ⟨g, 0, none⟩)) (d_box rfl rfl) rfl ?_
 intro g4 w5 hS a hA
 refine seq_do hA rfl rfl rfl (d_assign rfl) ?_
 intro a hA
 refine seq_end ?_
 refine hK1 _ _ ?_
 refine wp_seq_k (fun K6 hK6 => ?_)
 refine wp_region_lit ?_
 refine seq_do hA rfl rfl rfl (d_loadS hS BiS_isS_26 rfl 1 rfl (cs := [.bool p.b1, .slice a1 p.t1.length ac1, .slice a2 p.q1.length ac2, .bool p.b2, .slice a3 p.t2.length ac3, .slice a4 p.q2.length ac4]) rfl rfl) ?_
 intro a hA
 rcases Bool.eq_false_or_eq_true (soundQ p) with hb7 | hb7
 · refine seq_call hA rfl rfl rfl (enters_func  rfl rfl (fun w => by kernel_rfl)) (soundQ_any (show Nm _ _ a1 ac1 a2 ac2 a3 ac3 a4 ac4 from ⟨⟨(hS.rd 7 rfl), ha.s1.nil, ha.s1.cap⟩, ⟨(hS.rd 6 rfl), ha.s2.nil, ha.s2.cap⟩, ⟨(hS.rd 5 rfl), ha.s3.nil, ha.s3.cap⟩, ⟨(hS.rd 4 rfl), ha.s4.nil, ha.s4.cap⟩⟩) hl hb7) ?_
   rintro _ w9 ⟨rfl, hb8⟩
   replace hS := hS.call hb8
   refine ⟨_, rfl, ?_⟩
   intro a hA
   refine seq_do hA rfl rfl rfl (d_move rfl) ?_
   intro a hA
   refine seq_do hA rfl rfl rfl (d_loadS hS BiS_isS_26 rfl 0 rfl (cs := [.bool q.b1, .slice u1 q.t1.length uc1, .slice u2 q.q1.length uc2, .bool q.b2, .slice u3 q.t2.length uc3, .slice u4 q.q2.length uc4]) rfl rfl) ?_
   intro a hA
   rcases Bool.eq_false_or_eq_true (soundQ q) with hb10 | hb10
   · refine seq_call hA rfl rfl rfl (enters_func  rfl rfl (fun w => by kernel_rfl)) (soundQ_any (show Nm _ _ u1 uc1 u2 uc2 u3 uc3 u4 uc4 from ⟨⟨(hS.rd 3 rfl), hu.s1.nil, hu.s1.cap⟩, ⟨(hS.rd 2 rfl), hu.s2.nil, hu.s2.cap⟩, ⟨(hS.rd 1 rfl), hu.s3.nil, hu.s3.cap⟩, ⟨(hS.rd 0 rfl), hu.s4.nil, hu.s4.cap⟩⟩) hm hb10) ?_
     rintro _ w12 ⟨rfl, hb11⟩
     replace hS := hS.call hb11
     refine ⟨_, rfl, ?_⟩
     intro a hA
     refine seq_do (v := .bool true) hA rfl rfl rfl (d_pick rfl rfl rfl rfl) ?_
     intro a hA
     refine seq_do hA rfl rfl rfl (d_move rfl) ?_
     intro a hA
     refine seq_do (v := .pointer (some ⟨g2, 0, none⟩)) hA rfl rfl rfl (d_field BiS_fld_26_0 rfl rfl) ?_
     intro a hA
     refine seq_do hA rfl rfl rfl (d_loadS hS BiS_isS_24 rfl 1 rfl (cs := [.bool p.b1, .slice a1 p.t1.length ac1, .slice a2 p.q1.length ac2]) rfl rfl) ?_
     intro a hA
     refine seq_do (v := .pointer (some ⟨g4, 0, none⟩)) hA rfl rfl rfl (d_field BiS_fld_26_0 rfl rfl) ?_
     intro a hA
     refine seq_do hA rfl rfl rfl (d_loadS hS BiS_isS_24 rfl 0 rfl (cs := [.bool q.b1, .slice u1 q.t1.length uc1, .slice u2 q.q1.length uc2]) rfl rfl) ?_
     intro a hA
     rcases Bool.eq_false_or_eq_true (sameF p.b1 p.t1 p.q1 q.b1 q.t1 q.q1) with hb13 | hb13
     · refine seq_call hA rfl rfl rfl (enters_func  rfl rfl (fun w => by kernel_rfl)) (sameFr_any ⟨(hS.rd 7 rfl), ha.s1.nil, ha.s1.cap⟩ ⟨(hS.rd 6 rfl), ha.s2.nil, ha.s2.cap⟩ ⟨(hS.rd 3 rfl), hu.s1.nil, hu.s1.cap⟩ ⟨(hS.rd 2 rfl), hu.s2.nil, hu.s2.cap⟩ hl.l1 hl.l2 hm.l1 hm.l2 hb13) ?_
       rintro _ w15 ⟨rfl, hb14⟩
       replace hS := hS.call hb14
       refine ⟨_, rfl, ?_⟩
       intro a hA
       refine seq_do (v := .bool true) hA rfl rfl rfl (d_pick rfl rfl rfl rfl) ?_
       intro a hA
       refine seq_do hA rfl rfl rfl (d_move rfl) ?_
       intro a hA
       refine seq_do (v := .pointer (some ⟨g2, 3, none⟩)) hA rfl rfl rfl (d_field BiS_fld_26_1 rfl rfl) ?_
       intro a hA
       refine seq_do hA rfl rfl rfl (d_loadS hS BiS_isS_24 rfl 1 rfl (cs := [.bool p.b2, .slice a3 p.t2.length ac3, .slice a4 p.q2.length ac4]) rfl rfl) ?_
       intro a hA
       refine seq_do (v := .pointer (some ⟨g4, 3, none⟩)) hA rfl rfl rfl (d_field BiS_fld_26_1 rfl rfl) ?_
       intro a hA
       refine seq_do hA rfl rfl rfl (d_loadS hS BiS_isS_24 rfl 0 rfl (cs := [.bool q.b2, .slice u3 q.t2.length uc3, .slice u4 q.q2.length uc4]) rfl rfl) ?_
       intro a hA
       rcases Bool.eq_false_or_eq_true (sameF p.b2 p.t2 p.q2 q.b2 q.t2 q.q2) with hb16 | hb16
       · refine seq_call hA rfl rfl rfl (enters_func  rfl rfl (fun w => by kernel_rfl)) (sameFr_any ⟨(hS.rd 5 rfl), ha.s3.nil, ha.s3.cap⟩ ⟨(hS.rd 4 rfl), ha.s4.nil, ha.s4.cap⟩ ⟨(hS.rd 1 rfl), hu.s3.nil, hu.s3.cap⟩ ⟨(hS.rd 0 rfl), hu.s4.nil, hu.s4.cap⟩ hl.l3 hl.l4 hm.l3 hm.l4 hb16) ?_
         rintro _ w18 ⟨rfl, hb17⟩
         replace hS := hS.call hb17
         refine ⟨_, rfl, ?_⟩
         intro a hA
         refine seq_do (v := .bool true) hA rfl rfl rfl (d_pick rfl rfl rfl rfl) ?_
         intro a hA
         refine seq_do hA rfl rfl rfl (d_assign rfl) ?_
         intro a hA
         refine seq_end ?_
         refine hK6 _ _ ?_
         refine wp_ret ?_
         refine hret _ _ ?_
         refine ends (v := .bool true) hA rfl (.cons (res_tmp rfl) .nil) rfl ?_
         subst hr
         exact ⟨by unfold sameQ; rw [hb7, hb10, hb13, hb16]; try rfl, hS.bel⟩
       · refine seq_call hA rfl rfl rfl (enters_func  rfl rfl (fun w => by kernel_rfl)) (sameFr_any ⟨(hS.rd 5 rfl), ha.s3.nil, ha.s3.cap⟩ ⟨(hS.rd 4 rfl), ha.s4.nil, ha.s4.cap⟩ ⟨(hS.rd 1 rfl), hu.s3.nil, hu.s3.cap⟩ ⟨(hS.rd 0 rfl), hu.s4.nil, hu.s4.cap⟩ hl.l3 hl.l4 hm.l3 hm.l4 hb16) ?_
         rintro _ w20 ⟨rfl, hb19⟩
         replace hS := hS.call hb19
         refine ⟨_, rfl, ?_⟩
         intro a hA
         refine seq_do (v := .bool false) hA rfl rfl rfl (d_pick rfl rfl rfl rfl) ?_
         intro a hA
         refine seq_do hA rfl rfl rfl (d_assign rfl) ?_
         intro a hA
         refine seq_end ?_
         refine hK6 _ _ ?_
         refine wp_ret ?_
         refine hret _ _ ?_
         refine ends (v := .bool false) hA rfl (.cons (res_tmp rfl) .nil) rfl ?_
         subst hr
         exact ⟨by unfold sameQ; rw [hb7, hb10, hb13, hb16]; try rfl, hS.bel⟩
     · refine seq_call hA rfl rfl rfl (enters_func  rfl rfl (fun w => by kernel_rfl)) (sameFr_any ⟨(hS.rd 7 rfl), ha.s1.nil, ha.s1.cap⟩ ⟨(hS.rd 6 rfl), ha.s2.nil, ha.s2.cap⟩ ⟨(hS.rd 3 rfl), hu.s1.nil, hu.s1.cap⟩ ⟨(hS.rd 2 rfl), hu.s2.nil, hu.s2.cap⟩ hl.l1 hl.l2 hm.l1 hm.l2 hb13) ?_
       rintro _ w22 ⟨rfl, hb21⟩
       replace hS := hS.call hb21
       refine ⟨_, rfl, ?_⟩
       intro a hA
       refine seq_do (v := .bool false) hA rfl rfl rfl (d_pick rfl rfl rfl rfl) ?_
       intro a hA
       refine seq_do hA rfl rfl rfl (d_move rfl) ?_
       intro a hA
       refine seq_skip hA rfl rfl rfl ?_
       intro a hA
       refine seq_skip hA rfl rfl rfl ?_
       intro a hA
       refine seq_skip hA rfl rfl rfl ?_
       intro a hA
       refine seq_skip hA rfl rfl rfl ?_
       intro a hA
       refine seq_skip hA rfl rfl rfl ?_
       intro a hA
       refine seq_do (v := .bool false) hA rfl rfl rfl (d_pick rfl rfl rfl rfl) ?_
       intro a hA
       refine seq_do hA rfl rfl rfl (d_assign rfl) ?_
       intro a hA
       refine seq_end ?_
       refine hK6 _ _ ?_
       refine wp_ret ?_
       refine hret _ _ ?_
       refine ends (v := .bool false) hA rfl (.cons (res_tmp rfl) .nil) rfl ?_
       subst hr
       exact ⟨by unfold sameQ; rw [hb7, hb10, hb13]; try rfl, hS.bel⟩
   · refine seq_call hA rfl rfl rfl (enters_func  rfl rfl (fun w => by kernel_rfl)) (soundQ_any (show Nm _ _ u1 uc1 u2 uc2 u3 uc3 u4 uc4 from ⟨⟨(hS.rd 3 rfl), hu.s1.nil, hu.s1.cap⟩, ⟨(hS.rd 2 rfl), hu.s2.nil, hu.s2.cap⟩, ⟨(hS.rd 1 rfl), hu.s3.nil, hu.s3.cap⟩, ⟨(hS.rd 0 rfl), hu.s4.nil, hu.s4.cap⟩⟩) hm hb10) ?_
     rintro _ w24 ⟨rfl, hb23⟩
     replace hS := hS.call hb23
     refine ⟨_, rfl, ?_⟩
     intro a hA
     refine seq_do (v := .bool false) hA rfl rfl rfl (d_pick rfl rfl rfl rfl) ?_
     intro a hA
     refine seq_do hA rfl rfl rfl (d_move rfl) ?_
     intro a hA
     refine seq_skip hA rfl rfl rfl ?_
     intro a hA
     refine seq_skip hA rfl rfl rfl ?_
     intro a hA
     refine seq_skip hA rfl rfl rfl ?_
     intro a hA
     refine seq_skip hA rfl rfl rfl ?_
     intro a hA
     refine seq_skip hA rfl rfl rfl ?_
     intro a hA
     refine seq_do (v := .bool false) hA rfl rfl rfl (d_pick rfl rfl rfl rfl) ?_
     intro a hA
     refine seq_do hA rfl rfl rfl (d_move rfl) ?_
     intro a hA
     refine seq_skip hA rfl rfl rfl ?_
     intro a hA
     refine seq_skip hA rfl rfl rfl ?_
     intro a hA
     refine seq_skip hA rfl rfl rfl ?_
     intro a hA
     refine seq_skip hA rfl rfl rfl ?_
     intro a hA
     refine seq_skip hA rfl rfl rfl ?_
     intro a hA
     refine seq_do (v := .bool false) hA rfl rfl rfl (d_pick rfl rfl rfl rfl) ?_
     intro a hA
     refine seq_do hA rfl rfl rfl (d_assign rfl) ?_
     intro a hA
     refine seq_end ?_
     refine hK6 _ _ ?_
     refine wp_ret ?_
     refine hret _ _ ?_
     refine ends (v := .bool false) hA rfl (.cons (res_tmp rfl) .nil) rfl ?_
     subst hr
     exact ⟨by unfold sameQ; rw [hb7, hb10]; try rfl, hS.bel⟩
 · refine seq_call hA rfl rfl rfl (enters_func  rfl rfl (fun w => by kernel_rfl)) (soundQ_any (show Nm _ _ a1 ac1 a2 ac2 a3 ac3 a4 ac4 from ⟨⟨(hS.rd 7 rfl), ha.s1.nil, ha.s1.cap⟩, ⟨(hS.rd 6 rfl), ha.s2.nil, ha.s2.cap⟩, ⟨(hS.rd 5 rfl), ha.s3.nil, ha.s3.cap⟩, ⟨(hS.rd 4 rfl), ha.s4.nil, ha.s4.cap⟩⟩) hl hb7) ?_
   rintro _ w26 ⟨rfl, hb25⟩
   replace hS := hS.call hb25
   refine ⟨_, rfl, ?_⟩
   intro a hA
   refine seq_do hA rfl rfl rfl (d_move rfl) ?_
   intro a hA
   refine seq_skip hA rfl rfl rfl ?_
   intro a hA
   refine seq_skip hA rfl rfl rfl ?_
   intro a hA
   refine seq_do (v := .bool false) hA rfl rfl rfl (d_pick rfl rfl rfl rfl) ?_
   intro a hA
   refine seq_do hA rfl rfl rfl (d_move rfl) ?_
   intro a hA
   refine seq_skip hA rfl rfl rfl ?_
   intro a hA
   refine seq_skip hA rfl rfl rfl ?_
   intro a hA
   refine seq_skip hA rfl rfl rfl ?_
   intro a hA
   refine seq_skip hA rfl rfl rfl ?_
   intro a hA
   refine seq_skip hA rfl rfl rfl ?_
   intro a hA
   refine seq_do (v := .bool false) hA rfl rfl rfl (d_pick rfl rfl rfl rfl) ?_
   intro a hA
   refine seq_do hA rfl rfl rfl (d_move rfl) ?_
   intro a hA
   refine seq_skip hA rfl rfl rfl ?_
   intro a hA
   refine seq_skip hA rfl rfl rfl ?_
   intro a hA
   refine seq_skip hA rfl rfl rfl ?_
   intro a hA
   refine seq_skip hA rfl rfl rfl ?_
   intro a hA
   refine seq_skip hA rfl rfl rfl ?_
   intro a hA
   refine seq_do (v := .bool false) hA rfl rfl rfl (d_pick rfl rfl rfl rfl) ?_
   intro a hA
   refine seq_do hA rfl rfl rfl (d_assign rfl) ?_
   intro a hA
   refine seq_end ?_
   refine hK6 _ _ ?_
   refine wp_ret ?_
   refine hret _ _ ?_
   refine ends (v := .bool false) hA rfl (.cons (res_tmp rfl) .nil) rfl ?_
   subst hr
   exact ⟨by unfold sameQ; rw [hb7]; try rfl, hS.bel⟩
end Go.Proofs.Ytfhpeeljjcphpaa
namespace Go.Proofs.Ytfhpeeljjcphpaa
open Go.RowKit
set_option linter.unusedVariables false
set_option linter.unusedSimpArgs false
set_option maxRecDepth 100000
theorem BiK_is1_22 : Is1 Try.prog 22 := ⟨⟨_, Try.underlying22, rfl⟩, by kernel_rfl⟩
theorem BiK_is1_4 : Is1 Try.prog 4 := ⟨⟨_, Try.underlying4, rfl⟩, by kernel_rfl⟩
theorem BiK_fld_24_0 : FieldAt Try.prog 24 0 0 := ⟨_, _, Try.underlying24, rfl, rfl, by kernel_rfl⟩
theorem BiK_fld_24_1 : FieldAt Try.prog 24 1 1 := ⟨_, _, Try.underlying24, rfl, rfl, by kernel_rfl⟩
theorem BiK_fld_24_2 : FieldAt Try.prog 24 2 2 := ⟨_, _, Try.underlying24, rfl, rfl, by kernel_rfl⟩
theorem BiK_fld_26_0 : FieldAt Try.prog 26 0 0 := ⟨_, _, Try.underlying26, rfl, rfl, by kernel_rfl⟩
theorem BiK_fld_26_1 : FieldAt Try.prog 26 1 3 := ⟨_, _, Try.underlying26, rfl, rfl, by kernel_rfl⟩
theorem BiK_isS_24 : IsS Try.prog 24 3 := ⟨⟨_, Try.underlying24⟩, by kernel_rfl⟩
theorem BiK_isS_26 : IsS Try.prog 26 6 := ⟨⟨_, Try.underlying26⟩, by kernel_rfl⟩
theorem ratSame_any {w : World} {b b' : Bool} {t q t' q' : List Nat} {a1 a2 : Option Addr} {ac1 ac2 : Nat} (ha1 : Sc w a1 ac1 t) (ha2 : Sc w a2 ac2 q) {u1 u2 : Option Addr} {uc1 uc2 : Nat} (hu1 : Sc w u1 uc1 t') (hu2 : Sc w u2 uc2 q') (l1 : t.length ≤ 9223372036854775807) (l2 : q.length ≤ 9223372036854775807) (l3 : t'.length ≤ 9223372036854775807) (l4 : q'.length ≤ 9223372036854775807) {r : Bool} (hr : sameF b t q b' t' q' = r) :
    Calls Try.prog 36 #[.agg #[.bool b, .slice a1 t.length ac1, .slice a2 q.length ac2], .agg #[.bool b', .slice u1 t'.length uc1, .slice u2 q'.length uc2]] w fun e w' => e = .returned (.bool r) ∧ Below w.heap.size w w' := by
 have hS : St w w [] [(u2, q'), (u1, t'), (a2, q), (a1, t)] [] := ((((St.start w).addR ha1.rd).addR ha2.rd).addR hu1.rd).addR hu2.rd
 refine walk_of (l := [(0, .agg #[.bool b, .slice a1 t.length ac1, .slice a2 q.length ac2]), (1, .agg #[.bool b', .slice u1 t'.length uc1, .slice u2 q'.length uc2])]) Try.func36 rfl Try.ntmps36 rfl rfl ?_
 intro Q hret hnorm hP a hA
 refine wp_seq_k (fun K1 hK1 => ?_)
 refine wp_region_lit ?_
 refine seq_new hA hS rfl rfl rfl (fun g => .pointer (some ⟨g, 0, none⟩)) (d_box rfl rfl) rfl ?_
 intro g2 w3 hS a hA
 refine seq_new hA hS rfl rfl rfl (fun g => .pointer (some ⟨g, 0, none⟩)) (d_box rfl rfl) rfl ?_
 intro g4 w5 hS a hA
 refine seq_do hA rfl rfl rfl (d_assign rfl) ?_
 intro a hA
 refine seq_end ?_
 refine hK1 _ _ ?_
 refine wp_seq_k (fun K6 hK6 => ?_)
 refine wp_region_lit ?_
 refine seq_do (v := .pointer (some ⟨g2, 0, none⟩)) hA rfl rfl rfl (d_field BiK_fld_24_0 rfl rfl) ?_
 intro a hA
 refine seq_do hA rfl rfl rfl (d_load1 hS BiK_is1_4 rfl 1 rfl rfl) ?_
 intro a hA
 refine seq_do (v := .pointer (some ⟨g4, 0, none⟩)) hA rfl rfl rfl (d_field BiK_fld_24_0 rfl rfl) ?_
 intro a hA
 refine seq_do hA rfl rfl rfl (d_load1 hS BiK_is1_4 rfl 0 rfl rfl) ?_
 intro a hA
 rcases Bool.eq_false_or_eq_true ((b == b')) with hb7 | hb7
 · have hb7' := eq_of_beq hb7
   refine seq_do (v := .bool true) hA rfl rfl rfl (d_bin rfl rfl (fun w => ((bin_eqlB Try.underlying4) w).trans (by rw [hb7]))) ?_
   intro a hA
   refine seq_do hA rfl rfl rfl (d_move rfl) ?_
   intro a hA
   refine seq_do (v := .pointer (some ⟨g2, 1, none⟩)) hA rfl rfl rfl (d_field BiK_fld_24_1 rfl rfl) ?_
   intro a hA
   refine seq_do hA rfl rfl rfl (d_load1 hS BiK_is1_22 rfl 1 rfl rfl) ?_
   intro a hA
   refine seq_do (v := .pointer (some ⟨g4, 1, none⟩)) hA rfl rfl rfl (d_field BiK_fld_24_1 rfl rfl) ?_
   intro a hA
   refine seq_do hA rfl rfl rfl (d_load1 hS BiK_is1_22 rfl 0 rfl rfl) ?_
   intro a hA
   rcases Bool.eq_false_or_eq_true (decide (t = t')) with hb8 | hb8
   · have hb8' := of_decide_eq_true hb8
     refine seq_call hA rfl rfl rfl (enters_func  rfl rfl (fun w => by kernel_rfl)) (rsameB_any _ _ (hS.rd 3 rfl) (hS.rd 1 rfl) l1 l3 hb8) ?_
     rintro _ w10 ⟨rfl, hb9⟩
     replace hS := hS.call hb9
     refine ⟨_, rfl, ?_⟩
     intro a hA
     refine seq_do (v := .bool true) hA rfl rfl rfl (d_pick rfl rfl rfl rfl) ?_
     intro a hA
     refine seq_do hA rfl rfl rfl (d_move rfl) ?_
     intro a hA
     refine seq_do (v := .pointer (some ⟨g2, 2, none⟩)) hA rfl rfl rfl (d_field BiK_fld_24_2 rfl rfl) ?_
     intro a hA
     refine seq_do hA rfl rfl rfl (d_load1 hS BiK_is1_22 rfl 1 rfl rfl) ?_
     intro a hA
     refine seq_do (v := .pointer (some ⟨g4, 2, none⟩)) hA rfl rfl rfl (d_field BiK_fld_24_2 rfl rfl) ?_
     intro a hA
     refine seq_do hA rfl rfl rfl (d_load1 hS BiK_is1_22 rfl 0 rfl rfl) ?_
     intro a hA
     rcases Bool.eq_false_or_eq_true (decide (q = q')) with hb11 | hb11
     · have hb11' := of_decide_eq_true hb11
       refine seq_call hA rfl rfl rfl (enters_func  rfl rfl (fun w => by kernel_rfl)) (rsameB_any _ _ (hS.rd 2 rfl) (hS.rd 0 rfl) l2 l4 hb11) ?_
       rintro _ w13 ⟨rfl, hb12⟩
       replace hS := hS.call hb12
       refine ⟨_, rfl, ?_⟩
       intro a hA
       refine seq_do (v := .bool true) hA rfl rfl rfl (d_pick rfl rfl rfl rfl) ?_
       intro a hA
       refine seq_do hA rfl rfl rfl (d_assign rfl) ?_
       intro a hA
       refine seq_end ?_
       refine hK6 _ _ ?_
       refine wp_ret ?_
       refine hret _ _ ?_
       refine ends (v := .bool true) hA rfl (.cons (res_tmp rfl) .nil) rfl ?_
       subst hr
       exact ⟨by unfold sameF; rw [hb7, hb8, hb11]; try rfl, hS.bel⟩
     · have hb11' := of_decide_eq_false hb11
       refine seq_call hA rfl rfl rfl (enters_func  rfl rfl (fun w => by kernel_rfl)) (rsameB_any _ _ (hS.rd 2 rfl) (hS.rd 0 rfl) l2 l4 hb11) ?_
       rintro _ w15 ⟨rfl, hb14⟩
       replace hS := hS.call hb14
       refine ⟨_, rfl, ?_⟩
       intro a hA
       refine seq_do (v := .bool false) hA rfl rfl rfl (d_pick rfl rfl rfl rfl) ?_
       intro a hA
       refine seq_do hA rfl rfl rfl (d_assign rfl) ?_
       intro a hA
       refine seq_end ?_
       refine hK6 _ _ ?_
       refine wp_ret ?_
       refine hret _ _ ?_
       refine ends (v := .bool false) hA rfl (.cons (res_tmp rfl) .nil) rfl ?_
       subst hr
       exact ⟨by unfold sameF; rw [hb7, hb8, hb11]; try rfl, hS.bel⟩
   · have hb8' := of_decide_eq_false hb8
     refine seq_call hA rfl rfl rfl (enters_func  rfl rfl (fun w => by kernel_rfl)) (rsameB_any _ _ (hS.rd 3 rfl) (hS.rd 1 rfl) l1 l3 hb8) ?_
     rintro _ w17 ⟨rfl, hb16⟩
     replace hS := hS.call hb16
     refine ⟨_, rfl, ?_⟩
     intro a hA
     refine seq_do (v := .bool false) hA rfl rfl rfl (d_pick rfl rfl rfl rfl) ?_
     intro a hA
     refine seq_do hA rfl rfl rfl (d_move rfl) ?_
     intro a hA
     refine seq_skip hA rfl rfl rfl ?_
     intro a hA
     refine seq_skip hA rfl rfl rfl ?_
     intro a hA
     refine seq_skip hA rfl rfl rfl ?_
     intro a hA
     refine seq_skip hA rfl rfl rfl ?_
     intro a hA
     refine seq_skip hA rfl rfl rfl ?_
     intro a hA
     refine seq_do (v := .bool false) hA rfl rfl rfl (d_pick rfl rfl rfl rfl) ?_
     intro a hA
     refine seq_do hA rfl rfl rfl (d_assign rfl) ?_
     intro a hA
     refine seq_end ?_
     refine hK6 _ _ ?_
     refine wp_ret ?_
     refine hret _ _ ?_
     refine ends (v := .bool false) hA rfl (.cons (res_tmp rfl) .nil) rfl ?_
     subst hr
     exact ⟨by unfold sameF; rw [hb7, hb8]; try rfl, hS.bel⟩
 · have hb7' := ne_of_beq_false hb7
   refine seq_do (v := .bool false) hA rfl rfl rfl (d_bin rfl rfl (fun w => ((bin_eqlB Try.underlying4) w).trans (by rw [hb7]))) ?_
   intro a hA
   refine seq_do hA rfl rfl rfl (d_move rfl) ?_
   intro a hA
   refine seq_skip hA rfl rfl rfl ?_
   intro a hA
   refine seq_skip hA rfl rfl rfl ?_
   intro a hA
   refine seq_skip hA rfl rfl rfl ?_
   intro a hA
   refine seq_skip hA rfl rfl rfl ?_
   intro a hA
   refine seq_skip hA rfl rfl rfl ?_
   intro a hA
   refine seq_do (v := .bool false) hA rfl rfl rfl (d_pick rfl rfl rfl rfl) ?_
   intro a hA
   refine seq_do hA rfl rfl rfl (d_move rfl) ?_
   intro a hA
   refine seq_skip hA rfl rfl rfl ?_
   intro a hA
   refine seq_skip hA rfl rfl rfl ?_
   intro a hA
   refine seq_skip hA rfl rfl rfl ?_
   intro a hA
   refine seq_skip hA rfl rfl rfl ?_
   intro a hA
   refine seq_skip hA rfl rfl rfl ?_
   intro a hA
   refine seq_do (v := .bool false) hA rfl rfl rfl (d_pick rfl rfl rfl rfl) ?_
   intro a hA
   refine seq_do hA rfl rfl rfl (d_assign rfl) ?_
   intro a hA
   refine seq_end ?_
   refine hK6 _ _ ?_
   refine wp_ret ?_
   refine hret _ _ ?_
   refine ends (v := .bool false) hA rfl (.cons (res_tmp rfl) .nil) rfl ?_
   subst hr
   exact ⟨by unfold sameF; rw [hb7]; try rfl, hS.bel⟩
theorem alike_any {w : World} {q : Q6} {a1 a2 a3 a4 : Option Addr} {ac1 ac2 ac3 ac4 : Nat} (ha : Nm w q a1 ac1 a2 ac2 a3 ac3 a4 ac4) (hl : LenQ q) {u1 u2 u3 u4 : Option Addr} {uc1 uc2 uc3 uc4 : Nat} (hu : Nm w q u1 uc1 u2 uc2 u3 uc3 u4 uc4) : Calls Try.prog 13 #[numV q a1 ac1 a2 ac2 a3 ac3 a4 ac4, numV q u1 uc1 u2 uc2 u3 uc3 u4 uc4] w fun e w' => e = .returned (.bool true) ∧ Below w.heap.size w w' := by
 have hS : St w w [] [(u4, q.q2), (u3, q.t2), (u2, q.q1), (u1, q.t1), (a4, q.q2), (a3, q.t2), (a2, q.q1), (a1, q.t1)] [] := ((((((((St.start w).addR ha.s1.rd).addR ha.s2.rd).addR ha.s3.rd).addR ha.s4.rd).addR hu.s1.rd).addR hu.s2.rd).addR hu.s3.rd).addR hu.s4.rd
 refine walk_of (l := [(0, .agg #[.bool q.b1, .slice a1 q.t1.length ac1, .slice a2 q.q1.length ac2, .bool q.b2, .slice a3 q.t2.length ac3, .slice a4 q.q2.length ac4]), (1, .agg #[.bool q.b1, .slice u1 q.t1.length uc1, .slice u2 q.q1.length uc2, .bool q.b2, .slice u3 q.t2.length uc3, .slice u4 q.q2.length uc4])]) Try.func13 rfl Try.ntmps13 rfl rfl ?_
 intro Q hret hnorm hP a hA
 refine wp_seq_k (fun K1 hK1 => ?_)
 refine wp_region_lit ?_
 refine seq_new hA hS rfl rfl rfl (fun g => .pointer (some ⟨g, 0, none⟩)) (d_box rfl rfl) rfl ?_
 intro g2 w3 hS a hA
 refine seq_new hA hS rfl rfl rfl (fun g => .pointer (some ⟨g, 0, none⟩)) (d_box rfl rfl) rfl ?_
 intro g4 w5 hS a hA
 refine seq_do hA rfl rfl rfl (d_assign rfl) ?_
 intro a hA
 refine seq_end ?_
 refine hK1 _ _ ?_
 refine wp_seq_k (fun K6 hK6 => ?_)
 refine wp_region_lit ?_
 refine seq_do (v := .pointer (some ⟨g2, 0, none⟩)) hA rfl rfl rfl (d_field BiK_fld_26_0 rfl rfl) ?_
 intro a hA
 refine seq_do hA rfl rfl rfl (d_loadS hS BiK_isS_24 rfl 1 rfl (cs := [.bool q.b1, .slice a1 q.t1.length ac1, .slice a2 q.q1.length ac2]) rfl rfl) ?_
 intro a hA
 refine seq_do (v := .pointer (some ⟨g4, 0, none⟩)) hA rfl rfl rfl (d_field BiK_fld_26_0 rfl rfl) ?_
 intro a hA
 refine seq_do hA rfl rfl rfl (d_loadS hS BiK_isS_24 rfl 0 rfl (cs := [.bool q.b1, .slice u1 q.t1.length uc1, .slice u2 q.q1.length uc2]) rfl rfl) ?_
 intro a hA
 refine seq_call hA rfl rfl rfl (enters_func  rfl rfl (fun w => by kernel_rfl)) (ratSame_any ⟨(hS.rd 7 rfl), ha.s1.nil, ha.s1.cap⟩ ⟨(hS.rd 6 rfl), ha.s2.nil, ha.s2.cap⟩ ⟨(hS.rd 3 rfl), hu.s1.nil, hu.s1.cap⟩ ⟨(hS.rd 2 rfl), hu.s2.nil, hu.s2.cap⟩ hl.l1 hl.l2 hl.l1 hl.l2 (sameF_refl _ _ _)) ?_
 rintro _ w8 ⟨rfl, hb7⟩
 replace hS := hS.call hb7
 refine ⟨_, rfl, ?_⟩
 intro a hA
 refine seq_do hA rfl rfl rfl (d_move rfl) ?_
 intro a hA
 refine seq_do (v := .pointer (some ⟨g2, 3, none⟩)) hA rfl rfl rfl (d_field BiK_fld_26_1 rfl rfl) ?_
 intro a hA
 refine seq_do hA rfl rfl rfl (d_loadS hS BiK_isS_24 rfl 1 rfl (cs := [.bool q.b2, .slice a3 q.t2.length ac3, .slice a4 q.q2.length ac4]) rfl rfl) ?_
 intro a hA
 refine seq_do (v := .pointer (some ⟨g4, 3, none⟩)) hA rfl rfl rfl (d_field BiK_fld_26_1 rfl rfl) ?_
 intro a hA
 refine seq_do hA rfl rfl rfl (d_loadS hS BiK_isS_24 rfl 0 rfl (cs := [.bool q.b2, .slice u3 q.t2.length uc3, .slice u4 q.q2.length uc4]) rfl rfl) ?_
 intro a hA
 refine seq_call hA rfl rfl rfl (enters_func  rfl rfl (fun w => by kernel_rfl)) (ratSame_any ⟨(hS.rd 5 rfl), ha.s3.nil, ha.s3.cap⟩ ⟨(hS.rd 4 rfl), ha.s4.nil, ha.s4.cap⟩ ⟨(hS.rd 1 rfl), hu.s3.nil, hu.s3.cap⟩ ⟨(hS.rd 0 rfl), hu.s4.nil, hu.s4.cap⟩ hl.l3 hl.l4 hl.l3 hl.l4 (sameF_refl _ _ _)) ?_
 rintro _ w10 ⟨rfl, hb9⟩
 replace hS := hS.call hb9
 refine ⟨_, rfl, ?_⟩
 intro a hA
 refine seq_do (v := .bool true) hA rfl rfl rfl (d_pick rfl rfl rfl rfl) ?_
 intro a hA
 refine seq_do hA rfl rfl rfl (d_assign rfl) ?_
 intro a hA
 refine seq_end ?_
 refine hK6 _ _ ?_
 refine wp_ret ?_
 refine hret _ _ ?_
 refine ends (v := .bool true) hA rfl (.cons (res_tmp rfl) .nil) rfl ?_
 exact ⟨rfl, hS.bel⟩
theorem awake4_any {w : World} : Calls Try.prog 12 #[] w fun e w' => e = .returned (.bool true) ∧ Below w.heap.size w w' := by
 have hS : St w w [] [] [] := St.start w
 refine walk_of (l := []) Try.func12 rfl Try.ntmps12 rfl rfl ?_
 intro Q hret hnorm hP a hA
 refine wp_seq_k (fun K1 hK1 => ?_)
 refine wp_region_lit ?_
 refine seq_do hA rfl rfl rfl (d_assign rfl) ?_
 intro a hA
 refine seq_end ?_
 refine hK1 _ _ ?_
 refine wp_seq_k (fun K2 hK2 => ?_)
 refine wp_region_lit ?_
 refine seq_call hA rfl rfl rfl (enters_func  rfl rfl (fun w => by kernel_rfl)) ((show Calls Try.prog 34 #[.int .i64 (-1)] _ (AnsV _ (Q6.whole true 1)) from intN_any (k := 1) (by decide) (by decide))) ?_
 rintro _ w6 ⟨p3_1, p3_c1, p3_2, p3_c2, p3_3, p3_c3, p3_4, p3_c4, rfl, hn4, hb5⟩
 replace hS := hS.call hb5
 replace hS := hS.addR hn4.s1.rd
 replace hS := hS.addR hn4.s2.rd
 replace hS := hS.addR hn4.s3.rd
 replace hS := hS.addR hn4.s4.rd
 refine ⟨_, rfl, ?_⟩
 intro a hA
 refine seq_call hA rfl rfl rfl (enters_func  rfl rfl (fun w => by kernel_rfl)) ((show Calls Try.prog 34 #[.int .i64 (5)] _ (AnsV _ (Q6.whole false 5)) from intP_any (k := 5) (by decide))) ?_
 rintro _ w10 ⟨p7_1, p7_c1, p7_2, p7_c2, p7_3, p7_c3, p7_4, p7_c4, rfl, hn8, hb9⟩
 replace hS := hS.call hb9
 replace hS := hS.addR hn8.s1.rd
 replace hS := hS.addR hn8.s2.rd
 replace hS := hS.addR hn8.s3.rd
 replace hS := hS.addR hn8.s4.rd
 refine ⟨_, rfl, ?_⟩
 intro a hA
 refine seq_call hA rfl rfl rfl (enters_func  rfl rfl (fun w => by kernel_rfl)) ((awake_and ▸ andQ_any (p := Q6.whole true 1) (q := Q6.whole false 5) (show Nm _ _ p3_1 p3_c1 p3_2 p3_c2 p3_3 p3_c3 p3_4 p3_c4 from ⟨⟨(hS.rd 7 rfl), hn4.s1.nil, hn4.s1.cap⟩, ⟨(hS.rd 6 rfl), hn4.s2.nil, hn4.s2.cap⟩, ⟨(hS.rd 5 rfl), hn4.s3.nil, hn4.s3.cap⟩, ⟨(hS.rd 4 rfl), hn4.s4.nil, hn4.s4.cap⟩⟩) (lenQ_whole one_len) (show Nm _ _ p7_1 p7_c1 p7_2 p7_c2 p7_3 p7_c3 p7_4 p7_c4 from ⟨⟨(hS.rd 3 rfl), hn8.s1.nil, hn8.s1.cap⟩, ⟨(hS.rd 2 rfl), hn8.s2.nil, hn8.s2.cap⟩, ⟨(hS.rd 1 rfl), hn8.s3.nil, hn8.s3.cap⟩, ⟨(hS.rd 0 rfl), hn8.s4.nil, hn8.s4.cap⟩⟩) (lenQ_whole five_len))) ?_
 rintro _ w14 ⟨p11_1, p11_c1, p11_2, p11_c2, p11_3, p11_c3, p11_4, p11_c4, rfl, hn12, hb13⟩
 replace hS := hS.call hb13
 replace hS := hS.addR hn12.s1.rd
 replace hS := hS.addR hn12.s2.rd
 replace hS := hS.addR hn12.s3.rd
 replace hS := hS.addR hn12.s4.rd
 refine ⟨_, rfl, ?_⟩
 intro a hA
 refine seq_do hA rfl rfl rfl (d_move rfl) ?_
 intro a hA
 refine seq_do (v := .agg #[.bool false, .slice p11_1 ((words 5).length) p11_c1, .slice p11_2 1 p11_c2, .bool false, .slice p11_3 0 p11_c3, .slice p11_4 1 p11_c4]) hA rfl rfl rfl (d_extract (vs := [.agg #[.bool false, .slice p11_1 ((words 5).length) p11_c1, .slice p11_2 1 p11_c2, .bool false, .slice p11_3 0 p11_c3, .slice p11_4 1 p11_c4], .int .i64 0]) rfl rfl) ?_
 intro a hA
 refine seq_do (v := .int .i64 0) hA rfl rfl rfl (d_extract (vs := [.agg #[.bool false, .slice p11_1 ((words 5).length) p11_c1, .slice p11_2 1 p11_c2, .bool false, .slice p11_3 0 p11_c3, .slice p11_4 1 p11_c4], .int .i64 0]) rfl rfl) ?_
 intro a hA
 refine seq_new (vs := [.bool false, .slice none 0 0, .slice none 0 0, .bool false, .slice none 0 0, .slice none 0 0]) (t := 26) hA hS rfl rfl rfl (fun g => .pointer (some ⟨g, 0, none⟩)) (d_alloc (z := .agg #[.bool false, .slice none 0 0, .slice none 0 0, .bool false, .slice none 0 0, .slice none 0 0]) (by kernel_rfl) rfl) rfl ?_
 intro g15 w16 hS a hA
 refine seq_store (us := [.bool false, .slice p11_1 ((words 5).length) p11_c1, .slice p11_2 1 p11_c2, .bool false, .slice p11_3 0 p11_c3, .slice p11_4 1 p11_c4]) hA hS rfl rfl (sets_store rfl rfl rfl (by kernel_rfl) hS 0 rfl rfl rfl) 0 rfl rfl rfl rfl ?_
 intro w17 hS
 refine seq_do hA rfl rfl rfl (d_assign rfl) ?_
 intro a hA
 refine seq_end ?_
 refine hK2 _ _ ?_
 refine wp_seq_k (fun K18 hK18 => ?_)
 refine wp_draw (S := fun w1 => St w w1 [(g15, [.bool false, .slice p11_1 ((words 5).length) p11_c1, .slice p11_2 1 p11_c2, .bool false, .slice p11_3 0 p11_c3, .slice p11_4 1 p11_c4])] [(p11_4, [1]), (p11_3, []), (p11_2, [1]), (p11_1, words 5), (p7_4, [1]), (p7_3, []), (p7_2, [1]), (p7_1, words 5), (p3_4, [1]), (p3_3, []), (p3_2, [1]), (p3_1, words 1)] []) (by kernel_rfl) ?_
 replace hS := hS.drew
 refine any_tk hA 0 rfl rfl rfl rfl hP hS (fun w1 hS => d_move rfl) ?_
 intro a hA
 refine any_tk (v := .bool true) hA 1 rfl rfl rfl rfl hP hS (fun w1 hS => d_bin rfl rfl (fun w => by kernel_rfl)) ?_
 intro a hA
 refine any_tk hA 2 rfl rfl rfl rfl hP hS (fun w1 hS => d_move rfl) ?_
 intro a hA
 refine any_tk hA 3 rfl rfl rfl rfl hP hS (fun w1 hS => d_loadS hS BiK_isS_26 rfl 0 rfl (cs := [.bool false, .slice p11_1 ((words 5).length) p11_c1, .slice p11_2 1 p11_c2, .bool false, .slice p11_3 0 p11_c3, .slice p11_4 1 p11_c4]) rfl rfl) ?_
 intro a hA
 refine any_one (by kernel_rfl) (op_call hA 4 rfl rfl rfl rfl (enters_func  rfl rfl (fun w => by kernel_rfl)) ((show Calls Try.prog 34 #[.int .i64 (5)] _ (AnsV _ (Q6.whole false 5)) from intP_any (k := 5) (by decide))) ?_)
 rintro _ w22 ⟨p19_1, p19_c1, p19_2, p19_c2, p19_3, p19_c3, p19_4, p19_c4, rfl, hn20, hb21⟩
 replace hS := hS.call hb21
 replace hS := hS.addR hn20.s1.rd
 replace hS := hS.addR hn20.s2.rd
 replace hS := hS.addR hn20.s3.rd
 replace hS := hS.addR hn20.s4.rd
 refine ⟨_, rfl, (hS.partD (.refl _) 4 rfl (.refl _)), ?_⟩
 intro a hA
 refine any_one (by kernel_rfl) (op_call hA 5 rfl rfl rfl rfl (enters_func  rfl rfl (fun w => by kernel_rfl)) (sameQ_any (p := Q6.whole false 5) (q := Q6.whole false 5) (show Nm _ _ p11_1 p11_c1 p11_2 p11_c2 p11_3 p11_c3 p11_4 p11_c4 from ⟨⟨(hS.rd 7 rfl), hn12.s1.nil, hn12.s1.cap⟩, ⟨(hS.rd 6 rfl), hn12.s2.nil, hn12.s2.cap⟩, ⟨(hS.rd 5 rfl), hn12.s3.nil, hn12.s3.cap⟩, ⟨(hS.rd 4 rfl), hn12.s4.nil, hn12.s4.cap⟩⟩) (lenQ_whole five_len) (show Nm _ _ p19_1 p19_c1 p19_2 p19_c2 p19_3 p19_c3 p19_4 p19_c4 from ⟨⟨(hS.rd 3 rfl), hn20.s1.nil, hn20.s1.cap⟩, ⟨(hS.rd 2 rfl), hn20.s2.nil, hn20.s2.cap⟩, ⟨(hS.rd 1 rfl), hn20.s3.nil, hn20.s3.cap⟩, ⟨(hS.rd 0 rfl), hn20.s4.nil, hn20.s4.cap⟩⟩) (lenQ_whole five_len) (sameQ_self (soundQ_whole five_len (by decide)))) ?_)
 rintro _ w24 ⟨rfl, hb23⟩
 replace hS := hS.call hb23
 refine ⟨_, rfl, (hS.partD (.refl _) 4 rfl (.refl _)), ?_⟩
 intro a hA
 refine any_tk (v := .bool true) hA 6 rfl rfl rfl rfl hP (hS.partD (.refl _) 4 rfl (.refl _)) (fun w1 hS => d_pick rfl rfl rfl rfl) ?_
 intro a hA
 refine any_tk hA 7 rfl rfl rfl rfl hP (hS.partD (.refl _) 4 rfl (.refl _)) (fun w1 hS => d_assign rfl) ?_
 intro a hA
 refine any_end (by kernel_rfl) ?_
 refine hK18 _ _ ?_
 refine wp_ret ?_
 refine hret _ _ ?_
 refine ends (v := .bool true) hA rfl (.cons (res_tmp rfl) .nil) rfl ?_
 exact ⟨rfl, hS.bel⟩
end Go.Proofs.Ytfhpeeljjcphpaa
namespace Go.Proofs.Ytfhpeeljjcphpaa
open Go.RowKit
set_option linter.unusedVariables false
set_option linter.unusedSimpArgs false

def rowL (b : Bool) (y n : Nat) : List Nat := (List.range n).map (rwd b y)
theorem rowL_len (b : Bool) (y n : Nat) : (rowL b y n).length = n := by simp [rowL]
theorem rowL_get {b : Bool} {y n i : Nat} (h : i < n) : (rowL b y n).getD i 0 = rwd b y i := by simp [rowL, h]
theorem rowL_dig (b : Bool) (y n : Nat) : Dig (rowL b y n) := by
  intro x hx
  obtain ⟨i, _, rfl⟩ := List.mem_map.1 hx
  exact rwd_lt b y i
theorem getD_set (l : List Nat) (i j d : Nat) (hi : i < l.length) : (l.set i d).getD j 0 = if i = j then d else l.getD j 0 := by
  simp only [List.getD_eq_getElem?_getD]
  by_cases h : i = j
  · subst h; rw [List.getElem?_set_self hi, if_pos rfl]; rfl
  · rw [List.getElem?_set_ne h, if_neg h]
/-- A row in work: the first i words are there, the others are 0. -/
def RowIn (b : Bool) (y n i : Nat) (l : List Nat) : Prop := l.length = n ∧ (∀ j, j < i → l.getD j 0 = rwd b y j) ∧ ∀ j, i ≤ j → l.getD j 0 = 0
theorem RowIn.start (b : Bool) (y n : Nat) : RowIn b y n 0 (List.replicate n 0) := ⟨by simp, fun j hj => by omega, fun j _ => by simp [List.getD_eq_getElem?_getD, List.getElem?_replicate]; split <;> rfl⟩
theorem RowIn.step {b : Bool} {y n i : Nat} {l l' : List Nat} (h : RowIn b y n i l) (h1 : l'.length = n) (h2 : l'.getD i 0 = rwd b y i) (h3 : ∀ j, i ≠ j → l'.getD j 0 = l.getD j 0) : RowIn b y n (i + 1) l' := by
  refine ⟨h1, fun j hj => ?_, fun j hj => ?_⟩
  · by_cases e : i = j
    · subst e; exact h2
    · rw [h3 j e]; exact h.2.1 j (by omega)
  · rw [h3 j (by omega)]; exact h.2.2 j (by omega)
theorem RowIn.done {b : Bool} {y n : Nat} {l : List Nat} (h : RowIn b y n n l) : l = rowL b y n := list_of_getD (by rw [rowL_len]; exact h.1) (fun j hj => by rw [h.1] at hj; rw [rowL_get hj]; exact h.2.1 j hj)
theorem un_xorU {P : Program} {x : Nat} (hx : x < 4294967296) : ∀ w, (Op.unary .xor (.int .u32 ((x : Nat) : Int))).run P w = .ok (.int .u32 ((x ^^^ 4294967295 : Nat) : Int)) w := fun w => by
  have h := xor_u32 4294967295 x (by decide) hx
  have s : IntKind.u32.signed = false := rfl
  have hb : (2 : Int) ^ IntKind.u32.bits - 1 = ((4294967295 : Nat) : Int) := by decide
  rw [Nat.xor_comm]
  simp [go_sem, s]
  exact h
end Go.Proofs.Ytfhpeeljjcphpaa
namespace Go.Proofs.Ytfhpeeljjcphpaa
open Go.RowKit
set_option linter.unusedVariables false
set_option linter.unusedSimpArgs false
set_option maxRecDepth 100000
theorem BiM_is1_22 : Is1 Try.prog 22 := ⟨⟨_, Try.underlying22, rfl⟩, by kernel_rfl⟩
theorem BiM_is1_4 : Is1 Try.prog 4 := ⟨⟨_, Try.underlying4, rfl⟩, by kernel_rfl⟩
theorem BiM_is1_41 : Is1 Try.prog 41 := ⟨⟨_, Try.underlying41, rfl⟩, by kernel_rfl⟩
theorem BiM_fld_24_0 : FieldAt Try.prog 24 0 0 := ⟨_, _, Try.underlying24, rfl, rfl, by kernel_rfl⟩
theorem BiM_fld_24_1 : FieldAt Try.prog 24 1 1 := ⟨_, _, Try.underlying24, rfl, rfl, by kernel_rfl⟩
theorem BiM_fld_26_0 : FieldAt Try.prog 26 0 0 := ⟨_, _, Try.underlying26, rfl, rfl, by kernel_rfl⟩
theorem BiM_isS_26 : IsS Try.prog 26 6 := ⟨⟨_, Try.underlying26⟩, by kernel_rfl⟩
/-- A row is answered: so many words. -/
def AnsRow (w : World) (l : List Nat) (e : Ending) (w' : World) : Prop := ∃ o c, e = .returned (.slice o l.length c) ∧ Own w.heap.size w' o c l ∧ Below w.heap.size w w'
theorem rrow_any {w : World} {b : Bool} {x n : Nat} {a1 a2 a3 a4 : Option Addr} {ac1 ac2 ac3 ac4 : Nat} (ha : Nm w (Q6.whole b x) a1 ac1 a2 ac2 a3 ac3 a4 ac4) (hx : (words x).length ≤ 512) (hb : b.toNat ≤ x) (hn : n ≤ 5000) : Calls Try.prog 25 #[numV (Q6.whole b x) a1 ac1 a2 ac2 a3 ac3 a4 ac4, .int .i64 ((n : Nat) : Int)] w (AnsRow w (rowL b (x - b.toNat) n)) := by
 cases b
 · have hS : St w w [] [(a4, [1]), (a3, []), (a2, [1]), (a1, words x)] [] := ((((St.start w).addR ha.s1.rd).addR ha.s2.rd).addR ha.s3.rd).addR ha.s4.rd
   refine walk_of (l := [(0, .agg #[.bool false, .slice a1 ((words x).length) ac1, .slice a2 1 ac2, .bool false, .slice a3 0 ac3, .slice a4 1 ac4]), (1, .int .i64 (((n : Nat) : Int)))]) Try.func25 rfl Try.ntmps25 rfl rfl ?_
   intro Q hret hnorm hP a hA
   refine wp_seq_k (fun K1 hK1 => ?_)
   refine wp_region_lit ?_
   refine seq_new hA hS rfl rfl rfl (fun g => .pointer (some ⟨g, 0, none⟩)) (d_box rfl rfl) rfl ?_
   intro g2 w3 hS a hA
   refine seq_do hA rfl rfl rfl (d_assign rfl) ?_
   intro a hA
   refine seq_end ?_
   refine hK1 _ _ ?_
   refine wp_seq_k (fun K4 hK4 => ?_)
   refine wp_region_lit ?_
   refine seq_do hA rfl rfl rfl (d_move rfl) ?_
   intro a hA
   refine seq_make (m := n) hA hS rfl rfl rfl (d_make Try.underlying22 (by kernel_rfl) rfl rfl (by omega)) (by omega) ?_
   intro g5 w6 hS a hA
   refine seq_do hA rfl rfl rfl (d_assign rfl) ?_
   intro a hA
   refine seq_end ?_
   refine hK4 _ _ ?_
   refine wp_seq_k (fun K7 hK7 => ?_)
   refine wp_region_lit ?_
   refine seq_do hA rfl rfl rfl (d_loadS hS BiM_isS_26 rfl 0 rfl (cs := [.bool false, .slice a1 ((words x).length) ac1, .slice a2 1 ac2, .bool false, .slice a3 0 ac3, .slice a4 1 ac4]) rfl rfl) ?_
   intro a hA
   refine seq_new (vs := [.bool false, .slice none 0 0, .slice none 0 0, .bool false, .slice none 0 0, .slice none 0 0]) (t := 26) hA hS rfl rfl rfl (fun g => .pointer (some ⟨g, 0, none⟩)) (d_alloc (z := .agg #[.bool false, .slice none 0 0, .slice none 0 0, .bool false, .slice none 0 0, .slice none 0 0]) (by kernel_rfl) rfl) rfl ?_
   intro g8 w9 hS a hA
   refine seq_store (us := [.bool false, .slice a1 ((words x).length) ac1, .slice a2 1 ac2, .bool false, .slice a3 0 ac3, .slice a4 1 ac4]) hA hS rfl rfl (sets_store rfl rfl rfl (by kernel_rfl) hS 0 rfl rfl rfl) 0 rfl rfl rfl rfl ?_
   intro w10 hS
   refine seq_end ?_
   refine hK7 _ _ ?_
   refine wp_seq_k (fun K11 hK11 => ?_)
   refine wp_seq_k (fun K12 hK12 => ?_)
   refine wp_region_lit ?_
   refine seq_do (v := .pointer (some ⟨g2, 0, none⟩)) hA rfl rfl rfl (d_field BiM_fld_26_0 rfl rfl) ?_
   intro a hA
   refine seq_do (v := .pointer (some ⟨g2, 0, none⟩)) hA rfl rfl rfl (d_field BiM_fld_24_0 rfl rfl) ?_
   intro a hA
   refine seq_do hA rfl rfl rfl (d_load1 hS BiM_is1_4 rfl 1 rfl rfl) ?_
   intro a hA
   refine seq_end ?_
   refine hK12 _ _ ?_
   refine wp_cond_false (hA.ev rfl) ?_
   refine wp_skip ?_
   refine hK11 _ _ ?_
   refine wp_seq_k (fun K13 hK13 => ?_)
   refine wp_seq_k (fun K14 hK14 => ?_)
   refine wp_region_lit ?_
   refine seq_do hA rfl rfl rfl (d_assign rfl) ?_
   intro a hA
   refine seq_end ?_
   refine hK14 _ _ ?_
   refine wp_block ?_
   refine wp_loop_n (fun m a w1 => ∃ (i : Nat) (l : List Nat), m = n - i ∧ (i ≤ n ∧ RowIn false (x) n i l) ∧ Sl a 48 [(0, .agg #[.bool false, .slice a1 ((words x).length) ac1, .slice a2 1 ac2, .bool false, .slice a3 0 ac3, .slice a4 1 ac4]), (1, .int .i64 (((n : Nat) : Int))), (2, .pointer (some ⟨g2, 0, none⟩)), (4, .slice none 0 0), (5, .slice (some ⟨g5, 0, none⟩) n n), (6, .pointer (some ⟨g8, 0, none⟩)), (7, .int .i64 (((i : Nat) : Int))), (8, .int .i64 (((n : Nat) : Int))), (9, .slice (some ⟨g5, 0, none⟩) n n), (10, .agg #[.bool false, .slice a1 ((words x).length) ac1, .slice a2 1 ac2, .bool false, .slice a3 0 ac3, .slice a4 1 ac4]), (11, .pointer (some ⟨g2, 0, none⟩)), (12, .pointer (some ⟨g2, 0, none⟩)), (13, .bool false)] ∧ St w w1 [(g8, [.bool false, .slice a1 ((words x).length) ac1, .slice a2 1 ac2, .bool false, .slice a3 0 ac3, .slice a4 1 ac4]), (g2, [.bool false, .slice a1 ((words x).length) ac1, .slice a2 1 ac2, .bool false, .slice a3 0 ac3, .slice a4 1 ac4])] [(a4, [1]), (a3, []), (a2, [1]), (a1, words x)] [(some ⟨g5, 0, none⟩, n, l)]) _ ⟨0, List.replicate n 0, rfl, ⟨Nat.zero_le _, RowIn.start _ _ _⟩, hA.keep _ ⟨rfl, rfl, rfl, rfl, rfl, rfl, rfl, rfl, rfl, rfl, rfl, rfl, rfl, trivial⟩, hS⟩ ?_
   clear hS hA
   rintro m a w15 ⟨i, l, rfl, hinv17, hA, hS⟩ K16 hK16
   obtain ⟨hle9, hrow9⟩ := hinv17
   have hll9 := hrow9.1
   have hdig9 := (hS.row 0 rfl).dig
   refine wp_seq_k (fun K18 hK18 => ?_)
   refine wp_seq_k (fun K19 hK19 => ?_)
   refine wp_region_lit ?_
   refine seq_do hA rfl rfl rfl (d_move rfl) ?_
   intro a hA
   refine seq_do hA rfl rfl rfl (d_move rfl) ?_
   intro a hA
   rcases Bool.eq_false_or_eq_true (decide (((i : Nat) : Int) < ((n : Nat) : Int))) with hb20 | hb20
   · have hb20' := of_decide_eq_true hb20
     refine seq_do (v := .bool true) hA rfl rfl rfl (d_bin rfl rfl (fun w => (bin_lss w).trans (by rw [hb20]))) ?_
     intro a hA
     refine seq_end ?_
     refine hK19 _ _ ?_
     refine wp_cond_true (hA.ev rfl) ?_
     refine wp_skip ?_
     refine hK18 _ _ ?_
     refine wp_seq_k (fun K21 hK21 => ?_)
     refine wp_block ?_
     refine wp_seq_k (fun K22 hK22 => ?_)
     refine wp_seq_k (fun K23 hK23 => ?_)
     refine wp_region_lit ?_
     refine seq_do hA rfl rfl rfl (d_move rfl) ?_
     intro a hA
     refine seq_do (v := .pointer (some ⟨g8, 0, none⟩)) hA rfl rfl rfl (d_field BiM_fld_26_0 rfl rfl) ?_
     intro a hA
     refine seq_do (v := .pointer (some ⟨g8, 1, none⟩)) hA rfl rfl rfl (d_field BiM_fld_24_1 rfl rfl) ?_
     intro a hA
     refine seq_do hA rfl rfl rfl (d_load1 hS BiM_is1_22 rfl 0 rfl rfl) ?_
     intro a hA
     refine seq_do (v := .int .i64 ((((words x).length : Nat) : Int))) hA rfl rfl rfl (d_len Try.underlying22 rfl) ?_
     intro a hA
     rcases Bool.eq_false_or_eq_true (decide (((i : Nat) : Int) < (((words x).length : Nat) : Int))) with hb24 | hb24
     · have hb24' := of_decide_eq_true hb24
       refine seq_do (v := .bool true) hA rfl rfl rfl (d_bin rfl rfl (fun w => (bin_lss w).trans (by rw [hb24]))) ?_
       intro a hA
       refine seq_end ?_
       refine hK23 _ _ ?_
       refine wp_cond_true (hA.ev rfl) ?_
       refine wp_region_lit ?_
       refine seq_do hA rfl rfl rfl (d_move rfl) ?_
       intro a hA
       refine seq_do hA rfl rfl rfl (d_move rfl) ?_
       intro a hA
       refine seq_do (v := .pointer (some ⟨g8, 0, none⟩)) hA rfl rfl rfl (d_field BiM_fld_26_0 rfl rfl) ?_
       intro a hA
       refine seq_do (v := .pointer (some ⟨g8, 1, none⟩)) hA rfl rfl rfl (d_field BiM_fld_24_1 rfl rfl) ?_
       intro a hA
       refine seq_do hA rfl rfl rfl (d_load1 hS BiM_is1_22 rfl 0 rfl rfl) ?_
       intro a hA
       refine seq_do hA rfl rfl rfl (d_move rfl) ?_
       intro a hA
       have hi28 : i < (words x).length := by first | omega | (simp only [List.length_set]; omega)
       obtain ⟨b25, f26, hso27⟩ := Rd.addr (hS.rd 3 rfl) hi28
       refine seq_do (v := .pointer (some ⟨b25, f26 + i, none⟩)) hA rfl rfl rfl (d_indexRow (k := i) Try.underlying22 (by kernel_rfl) rfl rfl (by omega) hso27 hi28) ?_
       intro a hA
       refine seq_do (v := .int .u32 ((((words x).getD i 0 : Nat) : Int))) hA rfl rfl rfl (d_loadRow (hS.rd 3 rfl) hso27 hi28 BiM_is1_41 rfl) ?_
       intro a hA
       have hi32 : i < l.length := by first | omega | (simp only [List.length_set]; omega)
       refine seq_do (v := .pointer (some ⟨g5, 0 + i, none⟩)) hA rfl rfl rfl (d_indexRow (k := i) Try.underlying22 (by kernel_rfl) rfl rfl (by omega) rfl (by omega)) ?_
       intro a hA
       refine seq_row (us' := l.set i ((words x).getD i 0)) hA hS rfl rfl (sets_row (d := (words x).getD i 0) (by kernel_rfl) rfl rfl hS 0 rfl hi32) 0 rfl (Dig.getD (words_dig _) _) rfl ?_
       intro w33 hS
       refine seq_end ?_
       refine hK22 _ _ ?_
       refine wp_seq_k (fun K34 hK34 => ?_)
       refine wp_region_lit ?_
       refine seq_do (v := .pointer (some ⟨g2, 0, none⟩)) hA rfl rfl rfl (d_field BiM_fld_26_0 rfl rfl) ?_
       intro a hA
       refine seq_do (v := .pointer (some ⟨g2, 0, none⟩)) hA rfl rfl rfl (d_field BiM_fld_24_0 rfl rfl) ?_
       intro a hA
       refine seq_do hA rfl rfl rfl (d_load1 hS BiM_is1_4 rfl 1 rfl rfl) ?_
       intro a hA
       refine seq_end ?_
       refine hK34 _ _ ?_
       refine wp_cond_false (hA.ev rfl) ?_
       refine wp_skip ?_
       refine hK21 _ _ ?_
       refine wp_region_lit ?_
       refine seq_do hA rfl rfl rfl (d_move rfl) ?_
       intro a hA
       refine seq_do (v := .int .i64 (((i + 1 : Nat) : Int))) hA rfl rfl rfl (d_bin rfl rfl (fun w => (bin_add (i64In (by omega) (by omega)) w).trans (by rw [show (((i : Nat) : Int) + 1 : Int) = ((i + 1 : Nat) : Int) from by omega]))) ?_
       intro a hA
       refine seq_do hA rfl rfl rfl (d_assign rfl) ?_
       intro a hA
       refine seq_end ?_
       refine hK16 _ _ _ (by omega) ⟨i + 1, l.set i ((words x).getD i 0), rfl, ⟨by omega, hrow9.step (by simp only [List.length_set]; exact hrow9.1) (by rw [getD_set _ _ _ _ (by omega), if_pos rfl, words_getD]; simp [rwd]) (fun j hj => by rw [getD_set _ _ _ _ (by omega), if_neg hj])⟩, hA.keep _ ⟨rfl, rfl, rfl, rfl, rfl, rfl, rfl, rfl, rfl, rfl, rfl, rfl, rfl, trivial⟩, hS⟩
     · have hb24' := of_decide_eq_false hb24
       refine seq_do (v := .bool false) hA rfl rfl rfl (d_bin rfl rfl (fun w => (bin_lss w).trans (by rw [hb24]))) ?_
       intro a hA
       refine seq_end ?_
       refine hK23 _ _ ?_
       refine wp_cond_false (hA.ev rfl) ?_
       refine wp_skip ?_
       refine hK22 _ _ ?_
       refine wp_seq_k (fun K35 hK35 => ?_)
       refine wp_region_lit ?_
       refine seq_do (v := .pointer (some ⟨g2, 0, none⟩)) hA rfl rfl rfl (d_field BiM_fld_26_0 rfl rfl) ?_
       intro a hA
       refine seq_do (v := .pointer (some ⟨g2, 0, none⟩)) hA rfl rfl rfl (d_field BiM_fld_24_0 rfl rfl) ?_
       intro a hA
       refine seq_do hA rfl rfl rfl (d_load1 hS BiM_is1_4 rfl 1 rfl rfl) ?_
       intro a hA
       refine seq_end ?_
       refine hK35 _ _ ?_
       refine wp_cond_false (hA.ev rfl) ?_
       refine wp_skip ?_
       refine hK21 _ _ ?_
       refine wp_region_lit ?_
       refine seq_do hA rfl rfl rfl (d_move rfl) ?_
       intro a hA
       refine seq_do (v := .int .i64 (((i + 1 : Nat) : Int))) hA rfl rfl rfl (d_bin rfl rfl (fun w => (bin_add (i64In (by omega) (by omega)) w).trans (by rw [show (((i : Nat) : Int) + 1 : Int) = ((i + 1 : Nat) : Int) from by omega]))) ?_
       intro a hA
       refine seq_do hA rfl rfl rfl (d_assign rfl) ?_
       intro a hA
       refine seq_end ?_
       refine hK16 _ _ _ (by omega) ⟨i + 1, l, rfl, ⟨by omega, hrow9.step hrow9.1 (by rw [hrow9.2.2 i (Nat.le_refl _), rwd_end (by omega)]; rfl) (fun j hj => rfl)⟩, hA.keep _ ⟨rfl, rfl, rfl, rfl, rfl, rfl, rfl, rfl, rfl, rfl, rfl, rfl, rfl, trivial⟩, hS⟩
   · have hb20' := of_decide_eq_false hb20
     refine seq_do (v := .bool false) hA rfl rfl rfl (d_bin rfl rfl (fun w => (bin_lss w).trans (by rw [hb20]))) ?_
     intro a hA
     refine seq_end ?_
     refine hK19 _ _ ?_
     refine wp_cond_false (hA.ev rfl) ?_
     refine wp_exit ?_
     refine hK13 _ _ ?_
     refine wp_seq_k (fun K36 hK36 => ?_)
     refine wp_region_lit ?_
     refine seq_do hA rfl rfl rfl (d_move rfl) ?_
     intro a hA
     refine seq_do hA rfl rfl rfl (d_assign rfl) ?_
     intro a hA
     refine seq_end ?_
     refine hK36 _ _ ?_
     refine wp_ret ?_
     refine hret _ _ ?_
     refine ends (v := .slice (some ⟨g5, 0, none⟩) n n) hA rfl (.cons (res_tmp rfl) .nil) rfl ?_
     have hi9 : i = n := by omega
     subst hi9
     have el := hrow9.done
     subst el
     rw [show (AnsRow w (rowL false (x - false.toNat) i)) = AnsRow w (rowL false (x) i) from rfl]
     exact ⟨_, _, by rw [rowL_len], hS.row 0 rfl, hS.bel⟩
 · have hS : St w w [] [(a4, [1]), (a3, []), (a2, [1]), (a1, words x)] [] := ((((St.start w).addR ha.s1.rd).addR ha.s2.rd).addR ha.s3.rd).addR ha.s4.rd
   refine walk_of (l := [(0, .agg #[.bool true, .slice a1 ((words x).length) ac1, .slice a2 1 ac2, .bool false, .slice a3 0 ac3, .slice a4 1 ac4]), (1, .int .i64 (((n : Nat) : Int)))]) Try.func25 rfl Try.ntmps25 rfl rfl ?_
   intro Q hret hnorm hP a hA
   refine wp_seq_k (fun K1 hK1 => ?_)
   refine wp_region_lit ?_
   refine seq_new hA hS rfl rfl rfl (fun g => .pointer (some ⟨g, 0, none⟩)) (d_box rfl rfl) rfl ?_
   intro g2 w3 hS a hA
   refine seq_do hA rfl rfl rfl (d_assign rfl) ?_
   intro a hA
   refine seq_end ?_
   refine hK1 _ _ ?_
   refine wp_seq_k (fun K4 hK4 => ?_)
   refine wp_region_lit ?_
   refine seq_do hA rfl rfl rfl (d_move rfl) ?_
   intro a hA
   refine seq_make (m := n) hA hS rfl rfl rfl (d_make Try.underlying22 (by kernel_rfl) rfl rfl (by omega)) (by omega) ?_
   intro g5 w6 hS a hA
   refine seq_do hA rfl rfl rfl (d_assign rfl) ?_
   intro a hA
   refine seq_end ?_
   refine hK4 _ _ ?_
   refine wp_seq_k (fun K7 hK7 => ?_)
   refine wp_region_lit ?_
   refine seq_do hA rfl rfl rfl (d_loadS hS BiM_isS_26 rfl 0 rfl (cs := [.bool true, .slice a1 ((words x).length) ac1, .slice a2 1 ac2, .bool false, .slice a3 0 ac3, .slice a4 1 ac4]) rfl rfl) ?_
   intro a hA
   refine seq_new (vs := [.bool false, .slice none 0 0, .slice none 0 0, .bool false, .slice none 0 0, .slice none 0 0]) (t := 26) hA hS rfl rfl rfl (fun g => .pointer (some ⟨g, 0, none⟩)) (d_alloc (z := .agg #[.bool false, .slice none 0 0, .slice none 0 0, .bool false, .slice none 0 0, .slice none 0 0]) (by kernel_rfl) rfl) rfl ?_
   intro g8 w9 hS a hA
   refine seq_store (us := [.bool true, .slice a1 ((words x).length) ac1, .slice a2 1 ac2, .bool false, .slice a3 0 ac3, .slice a4 1 ac4]) hA hS rfl rfl (sets_store rfl rfl rfl (by kernel_rfl) hS 0 rfl rfl rfl) 0 rfl rfl rfl rfl ?_
   intro w10 hS
   refine seq_end ?_
   refine hK7 _ _ ?_
   refine wp_seq_k (fun K11 hK11 => ?_)
   refine wp_seq_k (fun K12 hK12 => ?_)
   refine wp_region_lit ?_
   refine seq_do (v := .pointer (some ⟨g2, 0, none⟩)) hA rfl rfl rfl (d_field BiM_fld_26_0 rfl rfl) ?_
   intro a hA
   refine seq_do (v := .pointer (some ⟨g2, 0, none⟩)) hA rfl rfl rfl (d_field BiM_fld_24_0 rfl rfl) ?_
   intro a hA
   refine seq_do hA rfl rfl rfl (d_load1 hS BiM_is1_4 rfl 1 rfl rfl) ?_
   intro a hA
   refine seq_end ?_
   refine hK12 _ _ ?_
   refine wp_cond_true (hA.ev rfl) ?_
   refine wp_region_lit ?_
   refine seq_do hA rfl rfl rfl (d_loadS hS BiM_isS_26 rfl 1 rfl (cs := [.bool true, .slice a1 ((words x).length) ac1, .slice a2 1 ac2, .bool false, .slice a3 0 ac3, .slice a4 1 ac4]) rfl rfl) ?_
   intro a hA
   refine seq_call hA rfl rfl rfl (enters_func  rfl rfl (fun w => by kernel_rfl)) (rturn_any (b := true) (x := x) (show Nm _ _ a1 ac1 a2 ac2 a3 ac3 a4 ac4 from ⟨⟨(hS.rd 3 rfl), ha.s1.nil, ha.s1.cap⟩, ⟨(hS.rd 2 rfl), ha.s2.nil, ha.s2.cap⟩, ⟨(hS.rd 1 rfl), ha.s3.nil, ha.s3.cap⟩, ⟨(hS.rd 0 rfl), ha.s4.nil, ha.s4.cap⟩⟩) (by omega) hb) ?_
   rintro _ w16 ⟨p13_1, p13_c1, p13_2, p13_c2, p13_3, p13_c3, p13_4, p13_c4, rfl, hn14, hb15⟩
   have hS0 := hS
   replace hS := hS.call hb15
   replace hS := hS.addRZ hn14.s1.rd (fun h => (words_top _).resolve_left h)
   replace hS := hS.addRZ hn14.s2.rd (fun _ => show ([1] : List Nat).getD 0 0 ≠ 0 from by decide)
   replace hS := hS.addRZ hn14.s3.rd (fun h => absurd rfl h)
   replace hS := hS.addRZ hn14.s4.rd (fun _ => show ([1] : List Nat).getD 0 0 ≠ 0 from by decide)
   refine ⟨_, rfl, ?_⟩
   intro a hA
   refine seq_store (us := [.bool false, .slice p13_1 ((words (turnN true x)).length) p13_c1, .slice p13_2 1 p13_c2, .bool false, .slice p13_3 0 p13_c3, .slice p13_4 1 p13_c4]) hA hS rfl rfl (sets_store rfl rfl rfl (by kernel_rfl) hS 0 rfl rfl rfl) 0 rfl rfl rfl rfl ?_
   intro w17 hS
   refine seq_end ?_
   refine hK11 _ _ ?_
   refine wp_seq_k (fun K18 hK18 => ?_)
   refine wp_seq_k (fun K19 hK19 => ?_)
   refine wp_region_lit ?_
   refine seq_do hA rfl rfl rfl (d_assign rfl) ?_
   intro a hA
   refine seq_end ?_
   refine hK19 _ _ ?_
   refine wp_block ?_
   refine wp_loop_n (fun m a w1 => ∃ (i : Nat) (l : List Nat), m = n - i ∧ (i ≤ n ∧ RowIn true (turnN true x) n i l) ∧ Sl a 48 [(0, .agg #[.bool true, .slice a1 ((words x).length) ac1, .slice a2 1 ac2, .bool false, .slice a3 0 ac3, .slice a4 1 ac4]), (1, .int .i64 (((n : Nat) : Int))), (2, .pointer (some ⟨g2, 0, none⟩)), (4, .slice none 0 0), (5, .slice (some ⟨g5, 0, none⟩) n n), (6, .pointer (some ⟨g8, 0, none⟩)), (7, .int .i64 (((i : Nat) : Int))), (8, .int .i64 (((n : Nat) : Int))), (9, .slice (some ⟨g5, 0, none⟩) n n), (10, .agg #[.bool true, .slice a1 ((words x).length) ac1, .slice a2 1 ac2, .bool false, .slice a3 0 ac3, .slice a4 1 ac4]), (11, .pointer (some ⟨g2, 0, none⟩)), (12, .pointer (some ⟨g2, 0, none⟩)), (13, .bool true), (14, .agg #[.bool true, .slice a1 ((words x).length) ac1, .slice a2 1 ac2, .bool false, .slice a3 0 ac3, .slice a4 1 ac4]), (15, .agg #[.bool false, .slice p13_1 ((words (turnN true x)).length) p13_c1, .slice p13_2 1 p13_c2, .bool false, .slice p13_3 0 p13_c3, .slice p13_4 1 p13_c4])] ∧ St w w1 [(g8, [.bool false, .slice p13_1 ((words (turnN true x)).length) p13_c1, .slice p13_2 1 p13_c2, .bool false, .slice p13_3 0 p13_c3, .slice p13_4 1 p13_c4]), (g2, [.bool true, .slice a1 ((words x).length) ac1, .slice a2 1 ac2, .bool false, .slice a3 0 ac3, .slice a4 1 ac4])] [(p13_4, [1]), (p13_3, []), (p13_2, [1]), (p13_1, words (turnN true x)), (a4, [1]), (a3, []), (a2, [1]), (a1, words x)] [(some ⟨g5, 0, none⟩, n, l)]) _ ⟨0, List.replicate n 0, rfl, ⟨Nat.zero_le _, RowIn.start _ _ _⟩, hA.keep _ ⟨rfl, rfl, rfl, rfl, rfl, rfl, rfl, rfl, rfl, rfl, rfl, rfl, rfl, rfl, rfl, trivial⟩, hS⟩ ?_
   clear hS hA
   rintro m a w20 ⟨i, l, rfl, hinv22, hA, hS⟩ K21 hK21
   obtain ⟨hle9, hrow9⟩ := hinv22
   have hll9 := hrow9.1
   have hdig9 := (hS.row 0 rfl).dig
   refine wp_seq_k (fun K23 hK23 => ?_)
   refine wp_seq_k (fun K24 hK24 => ?_)
   refine wp_region_lit ?_
   refine seq_do hA rfl rfl rfl (d_move rfl) ?_
   intro a hA
   refine seq_do hA rfl rfl rfl (d_move rfl) ?_
   intro a hA
   rcases Bool.eq_false_or_eq_true (decide (((i : Nat) : Int) < ((n : Nat) : Int))) with hb25 | hb25
   · have hb25' := of_decide_eq_true hb25
     refine seq_do (v := .bool true) hA rfl rfl rfl (d_bin rfl rfl (fun w => (bin_lss w).trans (by rw [hb25]))) ?_
     intro a hA
     refine seq_end ?_
     refine hK24 _ _ ?_
     refine wp_cond_true (hA.ev rfl) ?_
     refine wp_skip ?_
     refine hK23 _ _ ?_
     refine wp_seq_k (fun K26 hK26 => ?_)
     refine wp_block ?_
     refine wp_seq_k (fun K27 hK27 => ?_)
     refine wp_seq_k (fun K28 hK28 => ?_)
     refine wp_region_lit ?_
     refine seq_do hA rfl rfl rfl (d_move rfl) ?_
     intro a hA
     refine seq_do (v := .pointer (some ⟨g8, 0, none⟩)) hA rfl rfl rfl (d_field BiM_fld_26_0 rfl rfl) ?_
     intro a hA
     refine seq_do (v := .pointer (some ⟨g8, 1, none⟩)) hA rfl rfl rfl (d_field BiM_fld_24_1 rfl rfl) ?_
     intro a hA
     refine seq_do hA rfl rfl rfl (d_load1 hS BiM_is1_22 rfl 0 rfl rfl) ?_
     intro a hA
     refine seq_do (v := .int .i64 ((((words (turnN true x)).length : Nat) : Int))) hA rfl rfl rfl (d_len Try.underlying22 rfl) ?_
     intro a hA
     rcases Bool.eq_false_or_eq_true (decide (((i : Nat) : Int) < (((words (turnN true x)).length : Nat) : Int))) with hb29 | hb29
     · have hb29' := of_decide_eq_true hb29
       refine seq_do (v := .bool true) hA rfl rfl rfl (d_bin rfl rfl (fun w => (bin_lss w).trans (by rw [hb29]))) ?_
       intro a hA
       refine seq_end ?_
       refine hK28 _ _ ?_
       refine wp_cond_true (hA.ev rfl) ?_
       refine wp_region_lit ?_
       refine seq_do hA rfl rfl rfl (d_move rfl) ?_
       intro a hA
       refine seq_do hA rfl rfl rfl (d_move rfl) ?_
       intro a hA
       refine seq_do (v := .pointer (some ⟨g8, 0, none⟩)) hA rfl rfl rfl (d_field BiM_fld_26_0 rfl rfl) ?_
       intro a hA
       refine seq_do (v := .pointer (some ⟨g8, 1, none⟩)) hA rfl rfl rfl (d_field BiM_fld_24_1 rfl rfl) ?_
       intro a hA
       refine seq_do hA rfl rfl rfl (d_load1 hS BiM_is1_22 rfl 0 rfl rfl) ?_
       intro a hA
       refine seq_do hA rfl rfl rfl (d_move rfl) ?_
       intro a hA
       have hi33 : i < (words (turnN true x)).length := by first | omega | (simp only [List.length_set]; omega)
       obtain ⟨b30, f31, hso32⟩ := Rd.addr (hS.rd 3 rfl) hi33
       refine seq_do (v := .pointer (some ⟨b30, f31 + i, none⟩)) hA rfl rfl rfl (d_indexRow (k := i) Try.underlying22 (by kernel_rfl) rfl rfl (by omega) hso32 hi33) ?_
       intro a hA
       refine seq_do (v := .int .u32 ((((words (turnN true x)).getD i 0 : Nat) : Int))) hA rfl rfl rfl (d_loadRow (hS.rd 3 rfl) hso32 hi33 BiM_is1_41 rfl) ?_
       intro a hA
       have hi37 : i < l.length := by first | omega | (simp only [List.length_set]; omega)
       refine seq_do (v := .pointer (some ⟨g5, 0 + i, none⟩)) hA rfl rfl rfl (d_indexRow (k := i) Try.underlying22 (by kernel_rfl) rfl rfl (by omega) rfl (by omega)) ?_
       intro a hA
       refine seq_row (us' := l.set i ((words (turnN true x)).getD i 0)) hA hS rfl rfl (sets_row (d := (words (turnN true x)).getD i 0) (by kernel_rfl) rfl rfl hS 0 rfl hi37) 0 rfl (Dig.getD (words_dig _) _) rfl ?_
       intro w38 hS
       refine seq_end ?_
       refine hK27 _ _ ?_
       refine wp_seq_k (fun K39 hK39 => ?_)
       refine wp_region_lit ?_
       refine seq_do (v := .pointer (some ⟨g2, 0, none⟩)) hA rfl rfl rfl (d_field BiM_fld_26_0 rfl rfl) ?_
       intro a hA
       refine seq_do (v := .pointer (some ⟨g2, 0, none⟩)) hA rfl rfl rfl (d_field BiM_fld_24_0 rfl rfl) ?_
       intro a hA
       refine seq_do hA rfl rfl rfl (d_load1 hS BiM_is1_4 rfl 1 rfl rfl) ?_
       intro a hA
       refine seq_end ?_
       refine hK39 _ _ ?_
       refine wp_cond_true (hA.ev rfl) ?_
       refine wp_region_lit ?_
       refine seq_do hA rfl rfl rfl (d_move rfl) ?_
       intro a hA
       refine seq_do hA rfl rfl rfl (d_move rfl) ?_
       intro a hA
       refine seq_do hA rfl rfl rfl (d_move rfl) ?_
       intro a hA
       refine seq_do hA rfl rfl rfl (d_move rfl) ?_
       intro a hA
       have hi43 : i < (l.set i ((words (turnN true x)).getD i 0)).length := by first | omega | (simp only [List.length_set]; omega)
       refine seq_do (v := .pointer (some ⟨g5, 0 + i, none⟩)) hA rfl rfl rfl (d_indexRow (k := i) Try.underlying22 (by kernel_rfl) rfl rfl (by omega) rfl (by omega)) ?_
       intro a hA
       refine seq_do (v := .int .u32 ((((l.set i ((words (turnN true x)).getD i 0)).getD i 0 : Nat) : Int))) hA rfl rfl rfl (d_loadRow (hS.row 0 rfl).rd rfl hi43 BiM_is1_41 rfl) ?_
       intro a hA
       refine seq_do (v := .int .u32 ((((l.set i ((words (turnN true x)).getD i 0)).getD i 0 ^^^ 4294967295 : Nat) : Int))) hA rfl rfl rfl (d_un rfl (un_xorU (Dig.getD ((hS.row 0 rfl).rd.dig) _))) ?_
       intro a hA
       have hi47 : i < (l.set i ((words (turnN true x)).getD i 0)).length := by first | omega | (simp only [List.length_set]; omega)
       refine seq_do (v := .pointer (some ⟨g5, 0 + i, none⟩)) hA rfl rfl rfl (d_indexRow (k := i) Try.underlying22 (by kernel_rfl) rfl rfl (by omega) rfl (by omega)) ?_
       intro a hA
       refine seq_row (us' := (l.set i ((words (turnN true x)).getD i 0)).set i ((l.set i ((words (turnN true x)).getD i 0)).getD i 0 ^^^ 4294967295)) hA hS rfl rfl (sets_row (d := (l.set i ((words (turnN true x)).getD i 0)).getD i 0 ^^^ 4294967295) (by kernel_rfl) rfl rfl hS 0 rfl hi47) 0 rfl (Nat.xor_lt_two_pow (n := 32) (Dig.getD (hS.row 0 rfl).rd.dig _) (by decide)) rfl ?_
       intro w48 hS
       refine seq_end ?_
       refine hK26 _ _ ?_
       refine wp_region_lit ?_
       refine seq_do hA rfl rfl rfl (d_move rfl) ?_
       intro a hA
       refine seq_do (v := .int .i64 (((i + 1 : Nat) : Int))) hA rfl rfl rfl (d_bin rfl rfl (fun w => (bin_add (i64In (by omega) (by omega)) w).trans (by rw [show (((i : Nat) : Int) + 1 : Int) = ((i + 1 : Nat) : Int) from by omega]))) ?_
       intro a hA
       refine seq_do hA rfl rfl rfl (d_assign rfl) ?_
       intro a hA
       refine seq_end ?_
       refine hK21 _ _ _ (by omega) ⟨i + 1, (l.set i ((words (turnN true x)).getD i 0)).set i ((l.set i ((words (turnN true x)).getD i 0)).getD i 0 ^^^ 4294967295), rfl, ⟨by omega, hrow9.step (by simp only [List.length_set]; exact hrow9.1) (by rw [getD_set _ _ _ _ (by rw [List.length_set]; omega), if_pos rfl, getD_set _ _ _ _ (by omega), if_pos rfl, words_getD]; rfl) (fun j hj => by rw [getD_set _ _ _ _ (by rw [List.length_set]; omega), if_neg hj, getD_set _ _ _ _ (by omega), if_neg hj])⟩, hA.keep _ ⟨rfl, rfl, rfl, rfl, rfl, rfl, rfl, rfl, rfl, rfl, rfl, rfl, rfl, rfl, rfl, trivial⟩, hS⟩
     · have hb29' := of_decide_eq_false hb29
       refine seq_do (v := .bool false) hA rfl rfl rfl (d_bin rfl rfl (fun w => (bin_lss w).trans (by rw [hb29]))) ?_
       intro a hA
       refine seq_end ?_
       refine hK28 _ _ ?_
       refine wp_cond_false (hA.ev rfl) ?_
       refine wp_skip ?_
       refine hK27 _ _ ?_
       refine wp_seq_k (fun K49 hK49 => ?_)
       refine wp_region_lit ?_
       refine seq_do (v := .pointer (some ⟨g2, 0, none⟩)) hA rfl rfl rfl (d_field BiM_fld_26_0 rfl rfl) ?_
       intro a hA
       refine seq_do (v := .pointer (some ⟨g2, 0, none⟩)) hA rfl rfl rfl (d_field BiM_fld_24_0 rfl rfl) ?_
       intro a hA
       refine seq_do hA rfl rfl rfl (d_load1 hS BiM_is1_4 rfl 1 rfl rfl) ?_
       intro a hA
       refine seq_end ?_
       refine hK49 _ _ ?_
       refine wp_cond_true (hA.ev rfl) ?_
       refine wp_region_lit ?_
       refine seq_do hA rfl rfl rfl (d_move rfl) ?_
       intro a hA
       refine seq_do hA rfl rfl rfl (d_move rfl) ?_
       intro a hA
       refine seq_do hA rfl rfl rfl (d_move rfl) ?_
       intro a hA
       refine seq_do hA rfl rfl rfl (d_move rfl) ?_
       intro a hA
       have hi53 : i < l.length := by first | omega | (simp only [List.length_set]; omega)
       refine seq_do (v := .pointer (some ⟨g5, 0 + i, none⟩)) hA rfl rfl rfl (d_indexRow (k := i) Try.underlying22 (by kernel_rfl) rfl rfl (by omega) rfl (by omega)) ?_
       intro a hA
       refine seq_do (v := .int .u32 (((l.getD i 0 : Nat) : Int))) hA rfl rfl rfl (d_loadRow (hS.row 0 rfl).rd rfl hi53 BiM_is1_41 rfl) ?_
       intro a hA
       refine seq_do (v := .int .u32 (((l.getD i 0 ^^^ 4294967295 : Nat) : Int))) hA rfl rfl rfl (d_un rfl (un_xorU (Dig.getD ((hS.row 0 rfl).rd.dig) _))) ?_
       intro a hA
       have hi57 : i < l.length := by first | omega | (simp only [List.length_set]; omega)
       refine seq_do (v := .pointer (some ⟨g5, 0 + i, none⟩)) hA rfl rfl rfl (d_indexRow (k := i) Try.underlying22 (by kernel_rfl) rfl rfl (by omega) rfl (by omega)) ?_
       intro a hA
       refine seq_row (us' := l.set i (l.getD i 0 ^^^ 4294967295)) hA hS rfl rfl (sets_row (d := l.getD i 0 ^^^ 4294967295) (by kernel_rfl) rfl rfl hS 0 rfl hi57) 0 rfl (Nat.xor_lt_two_pow (n := 32) (Dig.getD (hS.row 0 rfl).rd.dig _) (by decide)) rfl ?_
       intro w58 hS
       refine seq_end ?_
       refine hK26 _ _ ?_
       refine wp_region_lit ?_
       refine seq_do hA rfl rfl rfl (d_move rfl) ?_
       intro a hA
       refine seq_do (v := .int .i64 (((i + 1 : Nat) : Int))) hA rfl rfl rfl (d_bin rfl rfl (fun w => (bin_add (i64In (by omega) (by omega)) w).trans (by rw [show (((i : Nat) : Int) + 1 : Int) = ((i + 1 : Nat) : Int) from by omega]))) ?_
       intro a hA
       refine seq_do hA rfl rfl rfl (d_assign rfl) ?_
       intro a hA
       refine seq_end ?_
       refine hK21 _ _ _ (by omega) ⟨i + 1, l.set i (l.getD i 0 ^^^ 4294967295), rfl, ⟨by omega, hrow9.step (by simp only [List.length_set]; exact hrow9.1) (by rw [getD_set _ _ _ _ (by omega), if_pos rfl, hrow9.2.2 i (Nat.le_refl _), rwd_end (by omega)]; rfl) (fun j hj => by rw [getD_set _ _ _ _ (by omega), if_neg hj])⟩, hA.keep _ ⟨rfl, rfl, rfl, rfl, rfl, rfl, rfl, rfl, rfl, rfl, rfl, rfl, rfl, rfl, rfl, trivial⟩, hS⟩
   · have hb25' := of_decide_eq_false hb25
     refine seq_do (v := .bool false) hA rfl rfl rfl (d_bin rfl rfl (fun w => (bin_lss w).trans (by rw [hb25]))) ?_
     intro a hA
     refine seq_end ?_
     refine hK24 _ _ ?_
     refine wp_cond_false (hA.ev rfl) ?_
     refine wp_exit ?_
     refine hK18 _ _ ?_
     refine wp_seq_k (fun K59 hK59 => ?_)
     refine wp_region_lit ?_
     refine seq_do hA rfl rfl rfl (d_move rfl) ?_
     intro a hA
     refine seq_do hA rfl rfl rfl (d_assign rfl) ?_
     intro a hA
     refine seq_end ?_
     refine hK59 _ _ ?_
     refine wp_ret ?_
     refine hret _ _ ?_
     refine ends (v := .slice (some ⟨g5, 0, none⟩) n n) hA rfl (.cons (res_tmp rfl) .nil) rfl ?_
     have hi9 : i = n := by omega
     subst hi9
     have el := hrow9.done
     subst el
     rw [show (AnsRow w (rowL true (x - true.toNat) i)) = AnsRow w (rowL true (turnN true x) i) from rfl]
     exact ⟨_, _, by rw [rowL_len], hS.row 0 rfl, hS.bel⟩
theorem rnumberF_any {w : World} {u : List Nat} {wo : Option Addr} {wc : Nat} (hd : Dig u) (h0 : 0 < u.length) (h1 : u.length ≤ 2500) (hlast : u.getD (u.length - 1) 0 = 0) (hw : Sc w wo wc u) : Calls Try.prog 26 #[.slice wo u.length wc] w (AnsN w (bigS false (val u + false.toNat))) := by
 have htop9 : u.getD (u.length - 1) 0 = 0 := hlast
 have hS : St w w [] [] [] := St.start w
 refine walk_of (l := [(0, .slice wo u.length wc)]) Try.func26 rfl Try.ntmps26 rfl rfl ?_
 intro Q hret hnorm hP a hA
 refine wp_seq_k (fun K1 hK1 => ?_)
 refine wp_region_lit ?_
 refine seq_new (vs := [.bool false, .slice none 0 0, .slice none 0 0, .bool false, .slice none 0 0, .slice none 0 0]) (t := 26) hA hS rfl rfl rfl (fun g => .pointer (some ⟨g, 0, none⟩)) (d_alloc (z := .agg #[.bool false, .slice none 0 0, .slice none 0 0, .bool false, .slice none 0 0, .slice none 0 0]) (by kernel_rfl) rfl) rfl ?_
 intro g2 w3 hS a hA
 refine seq_do hA rfl rfl rfl (d_assign rfl) ?_
 intro a hA
 refine seq_end ?_
 refine hK1 _ _ ?_
 refine wp_seq_k (fun K4 hK4 => ?_)
 refine wp_region_lit ?_
 refine seq_call hA rfl rfl rfl (enters_func  rfl rfl (fun w => by kernel_rfl)) (rzero_any _) ?_
 rintro _ w9 ⟨f5_1, f5_c1, f5_2, f5_c2, rfl, hs6, hs7, hb8⟩
 replace hS := hS.call hb8
 replace hS := hS.addR hs6.rd
 replace hS := hS.addR hs7.rd
 refine ⟨_, rfl, ?_⟩
 intro a hA
 refine seq_call hA rfl rfl rfl (enters_func  rfl rfl (fun w => by kernel_rfl)) (rzero_any _) ?_
 rintro _ w14 ⟨f10_1, f10_c1, f10_2, f10_c2, rfl, hs11, hs12, hb13⟩
 replace hS := hS.call hb13
 replace hS := hS.addR hs11.rd
 replace hS := hS.addR hs12.rd
 refine ⟨_, rfl, ?_⟩
 intro a hA
 refine seq_do (v := .agg #[.bool false, .slice f5_1 0 f5_c1, .slice f5_2 1 f5_c2, .bool false, .slice f10_1 0 f10_c1, .slice f10_2 1 f10_c2]) hA rfl rfl rfl (d_build rfl (fun w => by kernel_rfl)) ?_
 intro a hA
 refine seq_new (vs := [.bool false, .slice none 0 0, .slice none 0 0, .bool false, .slice none 0 0, .slice none 0 0]) (t := 26) hA hS rfl rfl rfl (fun g => .pointer (some ⟨g, 0, none⟩)) (d_alloc (z := .agg #[.bool false, .slice none 0 0, .slice none 0 0, .bool false, .slice none 0 0, .slice none 0 0]) (by kernel_rfl) rfl) rfl ?_
 intro g15 w16 hS a hA
 refine seq_store (us := [.bool false, .slice f5_1 0 f5_c1, .slice f5_2 1 f5_c2, .bool false, .slice f10_1 0 f10_c1, .slice f10_2 1 f10_c2]) hA hS rfl rfl (sets_store rfl rfl rfl (by kernel_rfl) hS 0 rfl rfl rfl) 0 rfl rfl rfl rfl ?_
 intro w17 hS
 refine seq_end ?_
 refine hK4 _ _ ?_
 refine wp_seq_k (fun K18 hK18 => ?_)
 refine wp_seq_k (fun K19 hK19 => ?_)
 refine wp_region_lit ?_
 refine seq_do hA rfl rfl rfl (d_move rfl) ?_
 intro a hA
 refine seq_do hA rfl rfl rfl (d_move rfl) ?_
 intro a hA
 refine seq_do (v := .int .i64 (((u.length : Nat) : Int))) hA rfl rfl rfl (d_len Try.underlying22 rfl) ?_
 intro a hA
 refine seq_do (v := .int .i64 (((u.length - 1 : Nat) : Int))) hA rfl rfl rfl (d_bin rfl rfl (fun w => (bin_sub (i64In (by omega) (by omega)) w).trans (by rw [show (((u.length : Nat) : Int) - 1 : Int) = ((u.length - 1 : Nat) : Int) from by omega]))) ?_
 intro a hA
 have hi23 : u.length - 1 < u.length := by first | omega | (simp only [List.length_set]; omega)
 obtain ⟨b20, f21, hso22⟩ := Rd.addr (hw.rd.below hS.bel) hi23
 refine seq_do (v := .pointer (some ⟨b20, f21 + (u.length - 1), none⟩)) hA rfl rfl rfl (d_indexRow (k := u.length - 1) Try.underlying22 (by kernel_rfl) rfl rfl (by omega) hso22 hi23) ?_
 intro a hA
 refine seq_do (v := .int .u32 (((u.getD (u.length - 1) 0 : Nat) : Int))) hA rfl rfl rfl (d_loadRow (hw.rd.below hS.bel) hso22 hi23 BiM_is1_41 rfl) ?_
 intro a hA
 refine seq_do (v := .int .u32 (((u.getD (u.length - 1) 0 / 2 ^ 31 : Nat) : Int))) hA rfl rfl rfl (d_bin rfl rfl (bin_shr (Dig.getD (hw.rd.below hS.bel).dig _) (by decide))) ?_
 intro a hA
 refine seq_do (v := .bool false) hA rfl rfl rfl (d_bin rfl rfl (fun w => (bin_eql w).trans (by rw [show ((((u.getD (u.length - 1) 0 / 2 ^ 31 : Nat) : Int) == 1)) = false from (by rw [htop9]; rfl)]))) ?_
 intro a hA
 refine seq_end ?_
 refine hK19 _ _ ?_
 refine wp_cond_false (hA.ev rfl) ?_
 refine wp_region_lit ?_
 refine seq_do hA rfl rfl rfl (d_move rfl) ?_
 intro a hA
 refine seq_call hA rfl rfl rfl (enters_func  rfl rfl (fun w => by kernel_rfl)) (norm_any _ (hw.rd.below hS.bel) (by omega) hw.cap hw.nil) ?_
 rintro _ w28 ⟨ro24, rc25, rfl, ho26, hb27⟩
 replace hS := hS.call hb27
 replace hS := hS.addR ho26.rd
 refine ⟨_, rfl, ?_⟩
 intro a hA
 refine seq_do (v := .pointer (some ⟨g15, 0, none⟩)) hA rfl rfl rfl (d_field BiM_fld_26_0 rfl rfl) ?_
 intro a hA
 refine seq_do (v := .pointer (some ⟨g15, 1, none⟩)) hA rfl rfl rfl (d_field BiM_fld_24_1 rfl rfl) ?_
 intro a hA
 refine seq_store (us := [.bool false, .slice ro24 ((words (val u)).length) rc25, .slice f5_2 1 f5_c2, .bool false, .slice f10_1 0 f10_c1, .slice f10_2 1 f10_c2]) hA hS rfl rfl (sets_store rfl rfl rfl (by kernel_rfl) hS 0 rfl rfl rfl) 0 rfl rfl rfl rfl ?_
 intro w29 hS
 refine seq_end ?_
 refine hK18 _ _ ?_
 refine wp_seq_k (fun K30 hK30 => ?_)
 refine wp_seq_k (fun K31 hK31 => ?_)
 refine wp_region_lit ?_
 refine seq_do (v := .pointer (some ⟨g15, 0, none⟩)) hA rfl rfl rfl (d_field BiM_fld_26_0 rfl rfl) ?_
 intro a hA
 refine seq_do (v := .pointer (some ⟨g15, 1, none⟩)) hA rfl rfl rfl (d_field BiM_fld_24_1 rfl rfl) ?_
 intro a hA
 refine seq_do hA rfl rfl rfl (d_load1 hS BiM_is1_22 rfl 0 rfl rfl) ?_
 intro a hA
 refine seq_do (v := .int .i64 ((((words (val u)).length : Nat) : Int))) hA rfl rfl rfl (d_len Try.underlying22 rfl) ?_
 intro a hA
 rcases Bool.eq_false_or_eq_true (decide (512 < (((words (val u)).length : Nat) : Int))) with hb32 | hb32
 · have hb32' := of_decide_eq_true hb32
   refine seq_do (v := .bool true) hA rfl rfl rfl (d_bin rfl rfl (fun w => (bin_gtr w).trans (by rw [hb32]))) ?_
   intro a hA
   refine seq_end ?_
   refine hK31 _ _ ?_
   refine wp_cond_true (hA.ev rfl) ?_
   refine wp_seq_k (fun K33 hK33 => ?_)
   refine wp_region_lit ?_
   refine seq_do (v := .agg #[.bool false, .slice none 0 0, .slice none 0 0, .bool false, .slice none 0 0, .slice none 0 0]) hA rfl rfl rfl (d_build rfl (fun w => by kernel_rfl)) ?_
   intro a hA
   refine seq_store (us := [.bool false, .slice none 0 0, .slice none 0 0, .bool false, .slice none 0 0, .slice none 0 0]) hA hS rfl rfl (sets_store rfl rfl rfl (by kernel_rfl) hS 1 rfl rfl rfl) 1 rfl rfl rfl rfl ?_
   intro w34 hS
   refine seq_do hA rfl rfl rfl (d_assign rfl) ?_
   intro a hA
   refine seq_end ?_
   refine hK33 _ _ ?_
   refine wp_ret ?_
   refine hret _ _ ?_
   refine ends (v := .tuple #[.agg #[.bool false, .slice none 0 0, .slice none 0 0, .bool false, .slice none 0 0, .slice none 0 0], .int .i64 4]) hA rfl (.cons (res_cell hS BiM_isS_26 rfl 1 rfl (cs := [.bool false, .slice none 0 0, .slice none 0 0, .bool false, .slice none 0 0, .slice none 0 0]) rfl rfl) (.cons (res_tmp rfl) .nil)) rfl ?_
   rw [show val u + false.toNat = val u from rfl, bigS_neg (by omega)]
   exact ⟨none, 0, none, 0, none, 0, none, 0, rfl, ⟨(Sc.none _), (Sc.none _), (Sc.none _), (Sc.none _)⟩, hS.bel⟩
 · have hb32' := of_decide_eq_false hb32
   refine seq_do (v := .bool false) hA rfl rfl rfl (d_bin rfl rfl (fun w => (bin_gtr w).trans (by rw [hb32]))) ?_
   intro a hA
   refine seq_end ?_
   refine hK31 _ _ ?_
   refine wp_cond_false (hA.ev rfl) ?_
   refine wp_skip ?_
   refine hK30 _ _ ?_
   refine wp_seq_k (fun K35 hK35 => ?_)
   refine wp_region_lit ?_
   refine seq_do hA rfl rfl rfl (d_loadS hS BiM_isS_26 rfl 0 rfl (cs := [.bool false, .slice ro24 ((words (val u)).length) rc25, .slice f5_2 1 f5_c2, .bool false, .slice f10_1 0 f10_c1, .slice f10_2 1 f10_c2]) rfl rfl) ?_
   intro a hA
   refine seq_store (us := [.bool false, .slice ro24 ((words (val u)).length) rc25, .slice f5_2 1 f5_c2, .bool false, .slice f10_1 0 f10_c1, .slice f10_2 1 f10_c2]) hA hS rfl rfl (sets_store rfl rfl rfl (by kernel_rfl) hS 1 rfl rfl rfl) 1 rfl rfl rfl rfl ?_
   intro w36 hS
   refine seq_do hA rfl rfl rfl (d_assign rfl) ?_
   intro a hA
   refine seq_end ?_
   refine hK35 _ _ ?_
   refine wp_ret ?_
   refine hret _ _ ?_
   refine ends (v := .tuple #[.agg #[.bool false, .slice ro24 ((words (val u)).length) rc25, .slice f5_2 1 f5_c2, .bool false, .slice f10_1 0 f10_c1, .slice f10_2 1 f10_c2], .int .i64 0]) hA rfl (.cons (res_cell hS BiM_isS_26 rfl 1 rfl (cs := [.bool false, .slice ro24 ((words (val u)).length) rc25, .slice f5_2 1 f5_c2, .bool false, .slice f10_1 0 f10_c1, .slice f10_2 1 f10_c2]) rfl rfl) (.cons (res_tmp rfl) .nil)) rfl ?_
   rw [show val u + false.toNat = val u from rfl, bigS_pos (by omega)]
   exact ⟨ro24, rc25, f5_2, f5_c2, f10_1, f10_c1, f10_2, f10_c2, rfl, ⟨⟨(hS.rd 0 rfl), ho26.nocap, ho26.caps⟩, ⟨(hS.rd 3 rfl), hs7.nil, hs7.cap⟩, ⟨(hS.rd 2 rfl), hs11.nil, hs11.cap⟩, ⟨(hS.rd 1 rfl), hs12.nil, hs12.cap⟩⟩, hS.bel⟩
end Go.Proofs.Ytfhpeeljjcphpaa
namespace Go.Proofs.Ytfhpeeljjcphpaa
open Go.RowKit
set_option linter.unusedVariables false
set_option linter.unusedSimpArgs false
set_option maxRecDepth 100000
end Go.Proofs.Ytfhpeeljjcphpaa
namespace Go.Proofs.Ytfhpeeljjcphpaa
open Go.RowKit
set_option linter.unusedVariables false
set_option linter.unusedSimpArgs false
set_option maxRecDepth 100000
theorem lenQ_zero : LenQ Q6.zero := ⟨by decide, by decide, by decide, by decide⟩
end Go.Proofs.Ytfhpeeljjcphpaa
namespace Go.Proofs.Ytfhpeeljjcphpaa
open Go.RowKit
set_option linter.unusedVariables false
set_option linter.unusedSimpArgs false
set_option maxRecDepth 100000
end Go.Proofs.Ytfhpeeljjcphpaa
namespace Go.Proofs.Ytfhpeeljjcphpaa
open Go.RowKit
set_option linter.unusedVariables false
set_option linter.unusedSimpArgs false

/-- The bit k of a row without end. -/
def tbit (b : Bool) (y k : Nat) : Nat := (y.testBit k ^^ b).toNat
theorem tbit_le (b : Bool) (y k : Nat) : tbit b y k ≤ 1 := Bool.toNat_le _
/-- The bits from s on, so many, as a number. -/
def fld (b : Bool) (y s : Nat) : Nat → Nat
  | 0 => 0
  | c + 1 => fld b y s c + tbit b y (s + c) * 2 ^ c
theorem fld_lt (b : Bool) (y s : Nat) : ∀ c, fld b y s c < 2 ^ c
  | 0 => by simp [fld]
  | c + 1 => by
    have h1 := fld_lt b y s c
    have h2 := tbit_le b y (s + c)
    have h3 : tbit b y (s + c) * 2 ^ c ≤ 1 * 2 ^ c := Nat.mul_le_mul_right _ h2
    unfold fld
    rw [Nat.pow_succ]
    omega
theorem fld_down (b : Bool) (y s : Nat) : ∀ c, fld b (y / 2 ^ s) 0 c = fld b y s c
  | 0 => rfl
  | c + 1 => by
    unfold fld
    rw [fld_down b y s c]
    unfold tbit
    rw [Nat.zero_add, Nat.testBit_div_two_pow, Nat.add_comm c s]
/-- A number's lowest bits are told by its bits. -/
theorem mod_bits {X b y : Nat} {B : Bool} : ∀ c, (∀ k, k < c → X / 2 ^ k % 2 = tbit B y k) → X % 2 ^ c = fld B y 0 c
  | 0, _ => by simp [fld, Nat.mod_one]
  | c + 1, h => by
    have ih := mod_bits (X := X) (b := b) c (fun k hk => h k (by omega))
    have e := h c (by omega)
    unfold fld
    rw [Nat.zero_add, ← e, ← ih, Nat.pow_succ, Nat.mod_mul, Nat.mul_comm (X / 2 ^ c % 2)]
theorem rwd_bit {b : Bool} {y J r : Nat} (hr : r < 32) : rwd b y J / 2 ^ r % 2 = tbit b y (32 * J + r) := by
  rw [← Nat.toNat_testBit]
  unfold tbit rwd
  rw [Nat.testBit_xor]
  have e1 : (y / pw J % 4294967296).testBit r = y.testBit (32 * J + r) := by
    rw [show (4294967296 : Nat) = 2 ^ 32 from rfl, Nat.testBit_mod_two_pow, pw_two, Nat.testBit_div_two_pow, Nat.add_comm r]
    simp [hr]
  have e2 : (b.toNat * 4294967295).testBit r = b := by
    cases b with
    | false => simp
    | true =>
      show (1 * 4294967295).testBit r = true
      rw [Nat.one_mul, show (4294967295 : Nat) = 2 ^ 32 - 1 from rfl, Nat.testBit_two_pow_sub_one]
      simp [hr]
  rw [e1, e2]
/-- A bit of a list of words. -/
theorem val_bit {l : List Nat} (hd : Dig l) (k : Nat) : val l / 2 ^ k % 2 = l.getD (k / 32) 0 / 2 ^ (k % 32) % 2 := by
  have h1 : l.getD (k / 32) 0 = val l / pw (k / 32) % 4294967296 := by
    have h2 := val_split l (k / 32)
    by_cases hk : k / 32 < l.length
    · have hm : min (k / 32) l.length = k / 32 := by omega
      rw [hm] at h2
      have h3 : val (l.take (k / 32)) < pw (k / 32) := by
        have := val_lt (hd.take (k / 32))
        rwa [List.length_take, hm] at this
      have h4 : val l / pw (k / 32) = val (l.drop (k / 32)) := by
        rw [h2, Nat.add_mul_div_left _ _ (pw_pos _), Nat.div_eq_of_lt h3, Nat.zero_add]
      rw [h4, List.drop_eq_getElem_cons hk, val_cons, Nat.add_mul_mod_self_left, Nat.mod_eq_of_lt (hd _ (List.getElem_mem hk))]
      simp [hk]
    · have : val l < pw (k / 32) := Nat.lt_of_lt_of_le (val_lt hd) (pw_le (by omega))
      rw [Nat.div_eq_of_lt this]
      simp [List.getD_eq_getElem?_getD, List.getElem?_eq_none (by omega : l.length ≤ k / 32)]
  rw [h1, ← Nat.toNat_testBit, ← Nat.toNat_testBit, show (4294967296 : Nat) = 2 ^ 32 from rfl, Nat.testBit_mod_two_pow, pw_two, Nat.testBit_div_two_pow]
  have e : k % 32 + 32 * (k / 32) = k := by omega
  rw [e]
  have : k % 32 < 32 := Nat.mod_lt _ (by decide)
  simp [this]
theorem rowL_bit {b : Bool} {y n k : Nat} (h : k / 32 < n) : (rowL b y n).getD (k / 32) 0 / 2 ^ (k % 32) % 2 = tbit b y k := by
  rw [rowL_get h, rwd_bit (Nat.mod_lt _ (by decide))]
  congr 1
  omega
theorem rowL_mod {b : Bool} {y n c : Nat} (h : c ≤ 32 * n) : val (rowL b y n) % 2 ^ c = fld b y 0 c :=
  mod_bits (b := 0) c (fun k hk => by rw [val_bit (rowL_dig _ _ _), rowL_bit (by omega)])
/-- The last word cut down. -/
theorem mask_val {l : List Nat} {n r : Nat} (hd : Dig l) (hl : l.length = n + 1) : val (l.set n (l.getD n 0 &&& (2 ^ r - 1))) = val l % (pw n * 2 ^ r) := by
  have e : l.getD n 0 &&& (2 ^ r - 1) = l.getD n 0 % 2 ^ r := Nat.and_two_pow_sub_one_eq_mod _ _
  have h1 : val l = val (l.take n) + pw n * l.getD n 0 := by
    have := val_take_succ l n
    rwa [List.take_of_length_le (by omega)] at this
  have h2 : val (l.set n (l.getD n 0 % 2 ^ r)) = val (l.take n) + pw n * (l.getD n 0 % 2 ^ r) := by
    have := val_set_take l n (l.getD n 0 % 2 ^ r) (by omega)
    rwa [List.take_of_length_le (by rw [List.length_set]; omega)] at this
  have h3 : val (l.take n) < pw n := by
    have := val_lt (hd.take n)
    rwa [List.length_take, Nat.min_eq_left (by omega)] at this
  rw [e, h2, Nat.mod_mul, h1, Nat.add_mul_mod_self_left, Nat.mod_eq_of_lt h3, Nat.add_mul_div_left _ _ (pw_pos _), Nat.div_eq_of_lt h3, Nat.zero_add]
/-- A number's words, in a list of a given length. -/
def Pads (F n : Nat) (l : List Nat) : Prop := l.length = n ∧ ∀ j, l.getD j 0 = F / pw j % 4294967296
theorem Pads.start (n : Nat) : Pads 0 n (List.replicate n 0) := ⟨by simp, fun j => by simp [List.getD_eq_getElem?_getD, List.getElem?_replicate]; split <;> rfl⟩
theorem Pads.step {F n k t : Nat} {l : List Nat} (h : Pads F n l) (hF : F < 2 ^ k) (ht : t ≤ 1) (hk : k / 32 < n) : Pads (F + t * 2 ^ k) n (l.set (k / 32) (l.getD (k / 32) 0 ||| t * 2 ^ (k % 32))) := by
  have hk2 : 2 ^ k = pw (k / 32) * 2 ^ (k % 32) := by rw [pw_two, ← Nat.pow_add]; congr 1; omega
  have hr : 2 ^ (k % 32) ≤ 2 ^ 31 := Nat.pow_le_pow_right (by omega) (by omega)
  have hq : F / pw (k / 32) < 2 ^ (k % 32) := by
    rw [Nat.div_lt_iff_lt_mul (pw_pos _), Nat.mul_comm, ← hk2]
    exact hF
  have hold : l.getD (k / 32) 0 = F / pw (k / 32) := by
    rw [h.2, Nat.mod_eq_of_lt (by omega)]
  refine ⟨by rw [List.length_set]; exact h.1, fun j => ?_⟩
  rw [getD_set _ _ _ _ (by rw [h.1]; exact hk)]
  by_cases e : k / 32 = j
  · subst e
    have h8 : t * 2 ^ (k % 32) ≤ 1 * 2 ^ (k % 32) := Nat.mul_le_mul_right _ ht
    have h9 : (2 : Nat) ^ 31 = 2147483648 := rfl
    have e1 : (F / pw (k / 32) ||| t * 2 ^ (k % 32)) = t * 2 ^ (k % 32) + F / pw (k / 32) := by
      rw [Nat.or_comm]
      exact or_add t (F / pw (k / 32)) (k % 32) hq
    have e2 : (F + t * 2 ^ k) / pw (k / 32) = F / pw (k / 32) + t * 2 ^ (k % 32) := by
      rw [hk2, Nat.mul_left_comm t, Nat.add_mul_div_left _ _ (pw_pos _)]
    rw [if_pos rfl, hold, e1, e2, Nat.mod_eq_of_lt (show F / pw (k / 32) + t * 2 ^ (k % 32) < 4294967296 from by omega), Nat.add_comm]
  · rw [if_neg e, h.2]
    by_cases hlt : j < k / 32
    · have : 2 ^ k = pw j * (4294967296 * (pw (k / 32 - j - 1) * 2 ^ (k % 32))) := by
        rw [hk2, show k / 32 = j + (1 + (k / 32 - j - 1)) by omega, pw_add, pw_add]
        have : pw 1 = 4294967296 := by rw [pw_succ, pw_zero]
        rw [this, Nat.mul_assoc, Nat.mul_assoc]
        congr 3
        congr 1
        omega
      rw [this, Nat.mul_left_comm t, Nat.add_mul_div_left _ _ (pw_pos _), Nat.mul_left_comm t, Nat.add_mul_mod_self_left]
    · have h1 : pw (k / 32 + 1) ≤ pw j := pw_le (by omega)
      rw [pw_succ] at h1
      have h2 : F + t * 2 ^ k < pw j := by
        have : t * 2 ^ k ≤ 1 * 2 ^ k := Nat.mul_le_mul_right _ ht
        have h3 : 2 ^ k ≤ pw (k / 32) * 2 ^ 31 := by rw [hk2]; exact Nat.mul_le_mul_left _ hr
        have : (2 : Nat) ^ 31 = 2147483648 := rfl
        omega
      rw [Nat.div_eq_of_lt h2, Nat.div_eq_of_lt (by omega)]
theorem Pads.val_eq {F n : Nat} {l : List Nat} (h : Pads F n l) (hd : Dig l) (hF : F < pw n) : val l = F := by
  have e : words (val l) = words F := by
    apply top_inj (words_dig _) (words_top _) (words_dig _) (words_top _)
    rw [val_words, val_words]
    apply Nat.eq_of_testBit_eq
    intro k
    have h1 := val_bit hd k
    rw [h.2] at h1
    have h2 := val_bit (words_dig F) k
    rw [val_words, words_getD] at h2
    have h3 : val l / 2 ^ k % 2 = F / 2 ^ k % 2 := by rw [h1, h2]
    rw [← Nat.toNat_testBit, ← Nat.toNat_testBit] at h3
    cases h5 : (val l).testBit k <;> cases h6 : F.testBit k <;> simp_all
  exact words_inj e
def fieldQ (q : Q6) (s e : Int) : Q6 × Int :=
  if want1 q = 0 then (if s < 0 ∨ e < s ∨ 16384 < e then (Q6.zero, 1) else (Q6.whole false (fld q.b1 (val q.t1 - q.b1.toNat) s.toNat (e - s).toNat), 0)) else (Q6.zero, want1 q)
theorem fieldQ_err {q : Q6} {s e : Int} (h : (want1 q != 0) = true) : fieldQ q s e = (Q6.zero, want1 q) := by unfold fieldQ; rw [if_neg (bne_iff_ne.1 h)]
theorem fieldQ_arg {b : Bool} {x : Nat} {s e : Int} (h : want1 (Q6.whole b x) = 0) (hn : s < 0 ∨ e < s ∨ 16384 < e) : fieldQ (Q6.whole b x) s e = (Q6.zero, 1) := by unfold fieldQ; rw [if_pos h, if_pos hn]
theorem fieldQ_ok {b : Bool} {x S E : Nat} (h : want1 (Q6.whole b x) = 0) (h1 : S ≤ E) (h2 : E ≤ 16384) : fieldQ (Q6.whole b x) (S : Int) (E : Int) = (Q6.whole false (fld b (x - b.toNat) S (E - S)), 0) := by
  unfold fieldQ
  rw [if_pos h, if_neg (by omega)]
  simp only [Q6.whole, val_words, Int.toNat_natCast]
  rw [show ((E : Int) - (S : Int)).toNat = E - S from by omega]
theorem fld_len {b : Bool} {y s c : Nat} (h : c ≤ 16384) : (words (fld b y s c)).length ≤ 512 := by
  apply words_length_le
  have h1 := fld_lt b y s c
  have h2 : pw 512 = 2 ^ (32 * 512) := pw_two 512
  have h3 : c ≤ 32 * 512 := h
  generalize 32 * 512 = K at h2 h3
  rw [h2]
  exact Nat.lt_of_lt_of_le h1 (Nat.pow_le_pow_right (Nat.zero_lt_succ 1) h3)
section
variable {P : Program} {t : TypeId} {a b : Operand}
theorem bin_quo {n : Nat} (hn : n ≤ 1000000000) : ∀ w, (do eqGuard .quo t a b (.int .i64 ((n : Nat) : Int)) (.int .i64 32); binOp .quo t (.int .i64 ((n : Nat) : Int)) (.int .i64 32) : Sem Value).run P w = .ok (.int .i64 ((n / 32 : Nat) : Int)) w := fun w => by
  have e : ((n : Nat) : Int).tdiv 32 = ((n / 32 : Nat) : Int) := by rw [Int.tdiv_eq_ediv_of_nonneg (by omega)]; omega
  have h := i64In (a := ((n / 32 : Nat) : Int)) (by omega) (by omega)
  rw [show ((n / 32 : Nat) : Int) = ((n : Nat) : Int) / 32 from by omega] at h
  simp [go_sem, e, h]
theorem bin_rem {n : Nat} (hn : n ≤ 1000000000) : ∀ w, (do eqGuard .rem t a b (.int .i64 ((n : Nat) : Int)) (.int .i64 32); binOp .rem t (.int .i64 ((n : Nat) : Int)) (.int .i64 32) : Sem Value).run P w = .ok (.int .i64 ((n % 32 : Nat) : Int)) w := fun w => by
  have e : ((n : Nat) : Int).tmod 32 = ((n % 32 : Nat) : Int) := by rw [Int.tmod_eq_emod_of_nonneg (by omega)]; omega
  have h := i64In (a := ((n % 32 : Nat) : Int)) (by omega) (by omega)
  simp [go_sem, e, h]
theorem bin_shr64 {x k : Nat} (hx : x < 4294967296) (hk : k < 32) : ∀ w, (do eqGuard .shr t a b (.int .u64 ((x : Nat) : Int)) (.int .i64 ((k : Nat) : Int)); binOp .shr t (.int .u64 ((x : Nat) : Int)) (.int .i64 ((k : Nat) : Int)) : Sem Value).run P w = .ok (.int .u64 ((x / 2 ^ k : Nat) : Int)) w := fun w => by
  have h : ¬ ((k : Nat) : Int) < 0 := by omega
  simp [go_sem, h]
theorem conv_64 {s d : TypeId} {m : Nat} (hs : P.underlying s = some (.int .u64)) (hd : P.underlying d = some (.int .u32)) (hm : m < 4294967296) : ∀ w, (convert s d (.int .u64 ((m : Nat) : Int))).run P w = .ok (.int .u32 ((m : Nat) : Int)) w := fun w => by
  have := wrap_u32 m hm
  simp [convert, run_underlying hs, run_underlying hd, go_sem, this]
theorem bin_and1 {x : Nat} (hx : x < 4294967296) : ∀ w, (do eqGuard .and t a b (.int .u32 ((x : Nat) : Int)) (.int .u32 1); binOp .and t (.int .u32 ((x : Nat) : Int)) (.int .u32 1) : Sem Value).run P w = .ok (.int .u32 ((x % 2 : Nat) : Int)) w := fun w => by
  have h := bin_and (P := P) (t := t) (a := a) (b := b) (x := x) (y := 1) hx (by decide) w
  rw [and_one] at h
  exact h
theorem bin_shl {x k : Nat} (hx : x ≤ 1) (hk : k < 32) : ∀ w, (do eqGuard .shl t a b (.int .u32 ((x : Nat) : Int)) (.int .i64 ((k : Nat) : Int)); binOp .shl t (.int .u32 ((x : Nat) : Int)) (.int .i64 ((k : Nat) : Int)) : Sem Value).run P w = .ok (.int .u32 ((x * 2 ^ k : Nat) : Int)) w := fun w => by
  have h : ¬ ((k : Nat) : Int) < 0 := by omega
  have h1 : x * 2 ^ k < 4294967296 := by
    have h2 : x * 2 ^ k ≤ 1 * 2 ^ k := Nat.mul_le_mul_right _ hx
    have h3 : 2 ^ k ≤ 2 ^ 31 := Nat.pow_le_pow_right (by decide) (by omega)
    have h4 : (2 : Nat) ^ 31 = 2147483648 := rfl
    omega
  have h5 := wrap_u32 (x * 2 ^ k) h1
  rw [Int.natCast_mul, Int.natCast_pow] at h5
  simp only [Int.cast_ofNat_Int] at h5
  simp [go_sem, h, h5]
theorem bin_subU {k : Nat} (hk : k < 32) : ∀ w, (do eqGuard .sub t a b (.int .u32 ((1 * 2 ^ k : Nat) : Int)) (.int .u32 1); binOp .sub t (.int .u32 ((1 * 2 ^ k : Nat) : Int)) (.int .u32 1) : Sem Value).run P w = .ok (.int .u32 ((2 ^ k - 1 : Nat) : Int)) w := fun w => by
  have h3 : 2 ^ k ≤ 2 ^ 31 := Nat.pow_le_pow_right (by decide) (by omega)
  have h4 : (2 : Nat) ^ 31 = 2147483648 := rfl
  have hp : 0 < 2 ^ k := Nat.pow_pos (by decide)
  have e : ((1 * 2 ^ k : Nat) : Int) - 1 = ((2 ^ k - 1 : Nat) : Int) := by omega
  have h5 := wrap_u32 (2 ^ k - 1) (by omega)
  rw [← e] at h5
  rw [bin_sub h5, e]
end
end Go.Proofs.Ytfhpeeljjcphpaa
