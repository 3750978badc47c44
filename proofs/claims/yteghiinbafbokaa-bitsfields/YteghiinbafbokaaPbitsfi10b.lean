/- Walks of the document's sums of fractions. The document's -a - 1, and shifts of numbers. Walks of the document's -a - 1, and of shifts. How long numbers are in bits, and their opposites less one. -/
import Derived.Test.YteghiinbafbokaaPbitsfi10a
import Derived.Test.YteghiinbafbokaaShiftRef2
import Derived.Test.YteghiinbafbokaaNatQ
namespace Go.Proofs.Yteghiinbafbokaa
open Go.RowKit
set_option linter.unusedVariables false
set_option linter.unusedSimpArgs false
set_option maxRecDepth 100000

theorem rminus_any {w : World} {b : Bool} {n1 n2 : Nat} {a1 a2 : Option Addr} {ac1 ac2 : Nat} {r : Bool} (hr : (!b && decide (0 < n1)) = r) : Calls Try.prog 58 #[.agg #[.bool b, .slice a1 n1 ac1, .slice a2 n2 ac2]] w fun e w' => e = .returned (.agg #[.bool r, .slice a1 n1 ac1, .slice a2 n2 ac2]) ∧ Below w.heap.size w w' := by
  cases b
  · have hS : St w w [] [] [] := St.start w
    refine walk_of (l := [(0, .agg #[.bool false, .slice a1 n1 ac1, .slice a2 n2 ac2])]) Try.func58 rfl Try.ntmps58 rfl rfl ?_
    intro Q hret hnorm hP a hA
    refine wp_seq_k (fun K1 hK1 => ?_)
    refine wp_region_lit ?_
    refine seq_new (vs := [.bool false, .slice a1 n1 ac1, .slice a2 n2 ac2]) (t := 24) hA hS rfl rfl rfl (fun g => .pointer (some ⟨g, 0, none⟩)) (does_box rfl rfl) rfl ?_
    intro g2 w3 hS a hA
    refine seq_new (vs := [.bool false, .slice none 0 0, .slice none 0 0]) (t := 24) hA hS rfl rfl rfl (fun g => .pointer (some ⟨g, 0, none⟩)) (does_alloc (z := .agg #[.bool false, .slice none 0 0, .slice none 0 0]) (by kernel_rfl) rfl) rfl ?_
    intro g4 w5 hS a hA
    refine seq_end ?_
    refine hK1 _ _ ?_
    refine wp_seq_k (fun K6 hK6 => ?_)
    refine wp_region_lit ?_
    refine seq_do (v := .pointer (some ⟨g2, 0, none⟩)) hA rfl rfl rfl (does_field fld_24_0 rfl rfl) ?_
    intro a hA
    refine seq_do hA rfl rfl rfl (does_load1 hS is1_4 rfl 1 rfl rfl) ?_
    intro a hA
    refine seq_do (v := .bool true) hA rfl rfl rfl (does_un rfl un_not) ?_
    intro a hA
    refine seq_do hA rfl rfl rfl (does_move rfl) ?_
    intro a hA
    refine seq_do (v := .pointer (some ⟨g2, 1, none⟩)) hA rfl rfl rfl (does_field fld_24_1 rfl rfl) ?_
    intro a hA
    refine seq_do hA rfl rfl rfl (does_load1 hS is1_22 rfl 1 rfl rfl) ?_
    intro a hA
    refine seq_do (v := .int .i64 (((n1 : Nat) : Int))) hA rfl rfl rfl (does_len Try.underlying22 rfl) ?_
    intro a hA
    rcases Bool.eq_false_or_eq_true (decide (0 < ((n1 : Nat) : Int))) with hb7 | hb7
    · have hb7' := of_decide_eq_true hb7
      refine seq_do (v := .bool true) hA rfl rfl rfl (does_bin rfl rfl (fun w => (bin_gtr w).trans (by rw [hb7]))) ?_
      intro a hA
      refine seq_do (v := .bool true) hA rfl rfl rfl (does_pick rfl rfl rfl rfl) ?_
      intro a hA
      refine seq_do (v := .pointer (some ⟨g2, 1, none⟩)) hA rfl rfl rfl (does_field fld_24_1 rfl rfl) ?_
      intro a hA
      refine seq_do hA rfl rfl rfl (does_load1 hS is1_22 rfl 1 rfl rfl) ?_
      intro a hA
      refine seq_do (v := .pointer (some ⟨g2, 2, none⟩)) hA rfl rfl rfl (does_field fld_24_2 rfl rfl) ?_
      intro a hA
      refine seq_do hA rfl rfl rfl (does_load1 hS is1_22 rfl 1 rfl rfl) ?_
      intro a hA
      refine seq_do (v := .agg #[.bool true, .slice a1 n1 ac1, .slice a2 n2 ac2]) hA rfl rfl rfl (does_build rfl (fun w => by kernel_rfl)) ?_
      intro a hA
      refine seq_store (us := [.bool true, .slice a1 n1 ac1, .slice a2 n2 ac2]) hA hS rfl rfl (sets_store (cs := [.bool true, .slice a1 n1 ac1, .slice a2 n2 ac2]) rfl rfl rfl (by kernel_rfl) hS 0 rfl rfl rfl) 0 rfl rfl rfl rfl ?_
      intro w8 hS
      refine seq_end ?_
      refine hK6 _ _ ?_
      refine wp_ret ?_
      refine hret _ _ ?_
      refine ends (v := .agg #[.bool true, .slice a1 n1 ac1, .slice a2 n2 ac2]) hA rfl (.cons (res_cell hS isS_24 rfl 0 rfl (cs := [.bool true, .slice a1 n1 ac1, .slice a2 n2 ac2]) rfl rfl) .nil) rfl ?_
      subst hr
      exact ⟨by rw [show decide (0 < n1) = true from decide_eq_true (by omega)]; rfl, hS.bel⟩
    · have hb7' := of_decide_eq_false hb7
      refine seq_do (v := .bool false) hA rfl rfl rfl (does_bin rfl rfl (fun w => (bin_gtr w).trans (by rw [hb7]))) ?_
      intro a hA
      refine seq_do (v := .bool false) hA rfl rfl rfl (does_pick rfl rfl rfl rfl) ?_
      intro a hA
      refine seq_do (v := .pointer (some ⟨g2, 1, none⟩)) hA rfl rfl rfl (does_field fld_24_1 rfl rfl) ?_
      intro a hA
      refine seq_do hA rfl rfl rfl (does_load1 hS is1_22 rfl 1 rfl rfl) ?_
      intro a hA
      refine seq_do (v := .pointer (some ⟨g2, 2, none⟩)) hA rfl rfl rfl (does_field fld_24_2 rfl rfl) ?_
      intro a hA
      refine seq_do hA rfl rfl rfl (does_load1 hS is1_22 rfl 1 rfl rfl) ?_
      intro a hA
      refine seq_do (v := .agg #[.bool false, .slice a1 n1 ac1, .slice a2 n2 ac2]) hA rfl rfl rfl (does_build rfl (fun w => by kernel_rfl)) ?_
      intro a hA
      refine seq_store (us := [.bool false, .slice a1 n1 ac1, .slice a2 n2 ac2]) hA hS rfl rfl (sets_store (cs := [.bool false, .slice a1 n1 ac1, .slice a2 n2 ac2]) rfl rfl rfl (by kernel_rfl) hS 0 rfl rfl rfl) 0 rfl rfl rfl rfl ?_
      intro w9 hS
      refine seq_end ?_
      refine hK6 _ _ ?_
      refine wp_ret ?_
      refine hret _ _ ?_
      refine ends (v := .agg #[.bool false, .slice a1 n1 ac1, .slice a2 n2 ac2]) hA rfl (.cons (res_cell hS isS_24 rfl 0 rfl (cs := [.bool false, .slice a1 n1 ac1, .slice a2 n2 ac2]) rfl rfl) .nil) rfl ?_
      subst hr
      exact ⟨by rw [show decide (0 < n1) = false from decide_eq_false (by omega)]; rfl, hS.bel⟩
  · have hS : St w w [] [] [] := St.start w
    refine walk_of (l := [(0, .agg #[.bool true, .slice a1 n1 ac1, .slice a2 n2 ac2])]) Try.func58 rfl Try.ntmps58 rfl rfl ?_
    intro Q hret hnorm hP a hA
    refine wp_seq_k (fun K1 hK1 => ?_)
    refine wp_region_lit ?_
    refine seq_new (vs := [.bool true, .slice a1 n1 ac1, .slice a2 n2 ac2]) (t := 24) hA hS rfl rfl rfl (fun g => .pointer (some ⟨g, 0, none⟩)) (does_box rfl rfl) rfl ?_
    intro g2 w3 hS a hA
    refine seq_new (vs := [.bool false, .slice none 0 0, .slice none 0 0]) (t := 24) hA hS rfl rfl rfl (fun g => .pointer (some ⟨g, 0, none⟩)) (does_alloc (z := .agg #[.bool false, .slice none 0 0, .slice none 0 0]) (by kernel_rfl) rfl) rfl ?_
    intro g4 w5 hS a hA
    refine seq_end ?_
    refine hK1 _ _ ?_
    refine wp_seq_k (fun K6 hK6 => ?_)
    refine wp_region_lit ?_
    refine seq_do (v := .pointer (some ⟨g2, 0, none⟩)) hA rfl rfl rfl (does_field fld_24_0 rfl rfl) ?_
    intro a hA
    refine seq_do hA rfl rfl rfl (does_load1 hS is1_4 rfl 1 rfl rfl) ?_
    intro a hA
    refine seq_do (v := .bool false) hA rfl rfl rfl (does_un rfl un_not) ?_
    intro a hA
    refine seq_do hA rfl rfl rfl (does_move rfl) ?_
    intro a hA
    refine seq_skip hA rfl rfl rfl ?_
    intro a hA
    refine seq_skip hA rfl rfl rfl ?_
    intro a hA
    refine seq_skip hA rfl rfl rfl ?_
    intro a hA
    refine seq_skip hA rfl rfl rfl ?_
    intro a hA
    refine seq_do (v := .bool false) hA rfl rfl rfl (does_pick rfl rfl rfl rfl) ?_
    intro a hA
    refine seq_do (v := .pointer (some ⟨g2, 1, none⟩)) hA rfl rfl rfl (does_field fld_24_1 rfl rfl) ?_
    intro a hA
    refine seq_do hA rfl rfl rfl (does_load1 hS is1_22 rfl 1 rfl rfl) ?_
    intro a hA
    refine seq_do (v := .pointer (some ⟨g2, 2, none⟩)) hA rfl rfl rfl (does_field fld_24_2 rfl rfl) ?_
    intro a hA
    refine seq_do hA rfl rfl rfl (does_load1 hS is1_22 rfl 1 rfl rfl) ?_
    intro a hA
    refine seq_do (v := .agg #[.bool false, .slice a1 n1 ac1, .slice a2 n2 ac2]) hA rfl rfl rfl (does_build rfl (fun w => by kernel_rfl)) ?_
    intro a hA
    refine seq_store (us := [.bool false, .slice a1 n1 ac1, .slice a2 n2 ac2]) hA hS rfl rfl (sets_store (cs := [.bool false, .slice a1 n1 ac1, .slice a2 n2 ac2]) rfl rfl rfl (by kernel_rfl) hS 0 rfl rfl rfl) 0 rfl rfl rfl rfl ?_
    intro w7 hS
    refine seq_end ?_
    refine hK6 _ _ ?_
    refine wp_ret ?_
    refine hret _ _ ?_
    refine ends (v := .agg #[.bool false, .slice a1 n1 ac1, .slice a2 n2 ac2]) hA rfl (.cons (res_cell hS isS_24 rfl 0 rfl (cs := [.bool false, .slice a1 n1 ac1, .slice a2 n2 ac2]) rfl rfl) .nil) rfl ?_
    subst hr
    exact ⟨rfl, hS.bel⟩
theorem rrat_any {w : World} (b : Bool) {x d : Nat} {a1 a2 : Option Addr} {ac1 ac2 : Nat} (ha1 : Sc w a1 ac1 (words x)) (ha2 : Sc w a2 ac2 (words d)) (hx : (words x).length ≤ 9000) (hd : (words d).length ≤ 9000) (hd0 : d ≠ 0) : Calls Try.prog 81 #[.bool b, .slice a1 (words x).length ac1, .slice a2 (words d).length ac2] w (AnsF w (b && decide (0 < x / Nat.gcd x d)) (words (x / Nat.gcd x d)) (words (d / Nat.gcd x d))) := by
  cases b
  · have hS : St w w [] [(a2, words d), (a1, words x)] [] := ((St.start w).addR ha1.rd).addR ha2.rd
    refine walk_of (l := [(0, .bool false), (1, .slice a1 ((words x).length) ac1), (2, .slice a2 ((words d).length) ac2)]) Try.func81 rfl Try.ntmps81 rfl rfl ?_
    intro Q hret hnorm hP a hA
    refine wp_seq_k (fun K1 hK1 => ?_)
    refine wp_region_lit ?_
    refine seq_new (vs := [.bool false, .slice none 0 0, .slice none 0 0]) (t := 24) hA hS rfl rfl rfl (fun g => .pointer (some ⟨g, 0, none⟩)) (does_alloc (z := .agg #[.bool false, .slice none 0 0, .slice none 0 0]) (by kernel_rfl) rfl) rfl ?_
    intro g2 w3 hS a hA
    refine seq_end ?_
    refine hK1 _ _ ?_
    refine wp_seq_k (fun K4 hK4 => ?_)
    refine wp_region_lit ?_
    refine seq_do hA rfl rfl rfl (does_move rfl) ?_
    intro a hA
    refine seq_do hA rfl rfl rfl (does_move rfl) ?_
    intro a hA
    refine seq_call hA rfl rfl rfl (enters_func  rfl rfl (fun w => by kernel_rfl)) (rdivisor_any ac1 ac2 (hS.rd 1 rfl) (hS.rd 0 rfl) (by omega) (by omega) ha1.cap ha2.cap ha1.nil ha2.nil) ?_
    rintro _ w9 ⟨ro5, rc6, rfl, ho7, hb8⟩
    replace hS := hS.call hb8
    replace hS := hS.addR ho7.rd
    refine ⟨_, rfl, ?_⟩
    intro a hA
    refine seq_do hA rfl rfl rfl (does_assign rfl) ?_
    intro a hA
    refine seq_end ?_
    refine hK4 _ _ ?_
    refine wp_seq_k (fun K10 hK10 => ?_)
    refine wp_region_lit ?_
    refine seq_do hA rfl rfl rfl (does_move rfl) ?_
    intro a hA
    refine seq_do hA rfl rfl rfl (does_move rfl) ?_
    intro a hA
    refine seq_call hA rfl rfl rfl (enters_func  rfl rfl (fun w => by kernel_rfl)) (over_any (x := x) (y := Nat.gcd x d) _ _ (hS.rd 2 rfl) (hS.rd 0 rfl) hx (gcd_len hd0 hd) (gcd_ne hd0)) ?_
    rintro _ w18 ⟨ro11, rc12, uo13, uc14, rfl, ho15, hp16, hb17⟩
    replace hS := hS.call hb17
    replace hS := hS.addR ho15.rd
    replace hS := hS.addR hp16.rd
    refine ⟨_, rfl, ?_⟩
    intro a hA
    refine seq_do hA rfl rfl rfl (does_move rfl) ?_
    intro a hA
    refine seq_do (v := .slice ro11 ((words (x / (Nat.gcd x d))).length) rc12) hA rfl rfl rfl (does_extract (vs := [.slice ro11 ((words (x / (Nat.gcd x d))).length) rc12, .slice uo13 ((words (x % (Nat.gcd x d))).length) uc14]) rfl rfl) ?_
    intro a hA
    refine seq_do (v := .slice uo13 ((words (x % (Nat.gcd x d))).length) uc14) hA rfl rfl rfl (does_extract (vs := [.slice ro11 ((words (x / (Nat.gcd x d))).length) rc12, .slice uo13 ((words (x % (Nat.gcd x d))).length) uc14]) rfl rfl) ?_
    intro a hA
    refine seq_do hA rfl rfl rfl (does_assign rfl) ?_
    intro a hA
    refine seq_do hA rfl rfl rfl (does_assign rfl) ?_
    intro a hA
    refine seq_end ?_
    refine hK10 _ _ ?_
    refine wp_seq_k (fun K19 hK19 => ?_)
    refine wp_region_lit ?_
    refine seq_do hA rfl rfl rfl (does_move rfl) ?_
    intro a hA
    refine seq_do hA rfl rfl rfl (does_move rfl) ?_
    intro a hA
    refine seq_call hA rfl rfl rfl (enters_func  rfl rfl (fun w => by kernel_rfl)) (over_any (x := d) (y := Nat.gcd x d) _ _ (hS.rd 3 rfl) (hS.rd 2 rfl) hd (gcd_len hd0 hd) (gcd_ne hd0)) ?_
    rintro _ w27 ⟨ro20, rc21, uo22, uc23, rfl, ho24, hp25, hb26⟩
    replace hS := hS.call hb26
    replace hS := hS.addR ho24.rd
    replace hS := hS.addR hp25.rd
    refine ⟨_, rfl, ?_⟩
    intro a hA
    refine seq_do hA rfl rfl rfl (does_move rfl) ?_
    intro a hA
    refine seq_do (v := .slice ro20 ((words (d / (Nat.gcd x d))).length) rc21) hA rfl rfl rfl (does_extract (vs := [.slice ro20 ((words (d / (Nat.gcd x d))).length) rc21, .slice uo22 ((words (d % (Nat.gcd x d))).length) uc23]) rfl rfl) ?_
    intro a hA
    refine seq_do (v := .slice uo22 ((words (d % (Nat.gcd x d))).length) uc23) hA rfl rfl rfl (does_extract (vs := [.slice ro20 ((words (d / (Nat.gcd x d))).length) rc21, .slice uo22 ((words (d % (Nat.gcd x d))).length) uc23]) rfl rfl) ?_
    intro a hA
    refine seq_do hA rfl rfl rfl (does_assign rfl) ?_
    intro a hA
    refine seq_do hA rfl rfl rfl (does_assign rfl) ?_
    intro a hA
    refine seq_end ?_
    refine hK19 _ _ ?_
    refine wp_seq_k (fun K28 hK28 => ?_)
    refine wp_region_lit ?_
    refine seq_do hA rfl rfl rfl (does_move rfl) ?_
    intro a hA
    refine seq_do hA rfl rfl rfl (does_move rfl) ?_
    intro a hA
    refine seq_skip hA rfl rfl rfl ?_
    intro a hA
    refine seq_skip hA rfl rfl rfl ?_
    intro a hA
    refine seq_skip hA rfl rfl rfl ?_
    intro a hA
    refine seq_do (v := .bool false) hA rfl rfl rfl (does_pick rfl rfl rfl rfl) ?_
    intro a hA
    refine seq_do hA rfl rfl rfl (does_move rfl) ?_
    intro a hA
    refine seq_do hA rfl rfl rfl (does_move rfl) ?_
    intro a hA
    refine seq_do (v := .agg #[.bool false, .slice ro11 ((words (x / (Nat.gcd x d))).length) rc12, .slice ro20 ((words (d / (Nat.gcd x d))).length) rc21]) hA rfl rfl rfl (does_build rfl (fun w => by kernel_rfl)) ?_
    intro a hA
    refine seq_store (us := [.bool false, .slice ro11 ((words (x / (Nat.gcd x d))).length) rc12, .slice ro20 ((words (d / (Nat.gcd x d))).length) rc21]) hA hS rfl rfl (sets_store (cs := [.bool false, .slice ro11 ((words (x / (Nat.gcd x d))).length) rc12, .slice ro20 ((words (d / (Nat.gcd x d))).length) rc21]) rfl rfl rfl (by kernel_rfl) hS 0 rfl rfl rfl) 0 rfl rfl rfl rfl ?_
    intro w29 hS
    refine seq_end ?_
    refine hK28 _ _ ?_
    refine wp_ret ?_
    refine hret _ _ ?_
    refine ends (v := .agg #[.bool false, .slice ro11 ((words (x / (Nat.gcd x d))).length) rc12, .slice ro20 ((words (d / (Nat.gcd x d))).length) rc21]) hA rfl (.cons (res_cell hS isS_24 rfl 0 rfl (cs := [.bool false, .slice ro11 ((words (x / (Nat.gcd x d))).length) rc12, .slice ro20 ((words (d / (Nat.gcd x d))).length) rc21]) rfl rfl) .nil) rfl ?_
    exact ⟨ro11, rc12, ro20, rc21, rfl, ⟨(hS.rd 3 rfl), ho15.nocap, ho15.caps⟩, ⟨(hS.rd 1 rfl), ho24.nocap, ho24.caps⟩, hS.bel⟩
  · have hS : St w w [] [(a2, words d), (a1, words x)] [] := ((St.start w).addR ha1.rd).addR ha2.rd
    refine walk_of (l := [(0, .bool true), (1, .slice a1 ((words x).length) ac1), (2, .slice a2 ((words d).length) ac2)]) Try.func81 rfl Try.ntmps81 rfl rfl ?_
    intro Q hret hnorm hP a hA
    refine wp_seq_k (fun K1 hK1 => ?_)
    refine wp_region_lit ?_
    refine seq_new (vs := [.bool false, .slice none 0 0, .slice none 0 0]) (t := 24) hA hS rfl rfl rfl (fun g => .pointer (some ⟨g, 0, none⟩)) (does_alloc (z := .agg #[.bool false, .slice none 0 0, .slice none 0 0]) (by kernel_rfl) rfl) rfl ?_
    intro g2 w3 hS a hA
    refine seq_end ?_
    refine hK1 _ _ ?_
    refine wp_seq_k (fun K4 hK4 => ?_)
    refine wp_region_lit ?_
    refine seq_do hA rfl rfl rfl (does_move rfl) ?_
    intro a hA
    refine seq_do hA rfl rfl rfl (does_move rfl) ?_
    intro a hA
    refine seq_call hA rfl rfl rfl (enters_func  rfl rfl (fun w => by kernel_rfl)) (rdivisor_any ac1 ac2 (hS.rd 1 rfl) (hS.rd 0 rfl) (by omega) (by omega) ha1.cap ha2.cap ha1.nil ha2.nil) ?_
    rintro _ w9 ⟨ro5, rc6, rfl, ho7, hb8⟩
    replace hS := hS.call hb8
    replace hS := hS.addR ho7.rd
    refine ⟨_, rfl, ?_⟩
    intro a hA
    refine seq_do hA rfl rfl rfl (does_assign rfl) ?_
    intro a hA
    refine seq_end ?_
    refine hK4 _ _ ?_
    refine wp_seq_k (fun K10 hK10 => ?_)
    refine wp_region_lit ?_
    refine seq_do hA rfl rfl rfl (does_move rfl) ?_
    intro a hA
    refine seq_do hA rfl rfl rfl (does_move rfl) ?_
    intro a hA
    refine seq_call hA rfl rfl rfl (enters_func  rfl rfl (fun w => by kernel_rfl)) (over_any (x := x) (y := Nat.gcd x d) _ _ (hS.rd 2 rfl) (hS.rd 0 rfl) hx (gcd_len hd0 hd) (gcd_ne hd0)) ?_
    rintro _ w18 ⟨ro11, rc12, uo13, uc14, rfl, ho15, hp16, hb17⟩
    replace hS := hS.call hb17
    replace hS := hS.addR ho15.rd
    replace hS := hS.addR hp16.rd
    refine ⟨_, rfl, ?_⟩
    intro a hA
    refine seq_do hA rfl rfl rfl (does_move rfl) ?_
    intro a hA
    refine seq_do (v := .slice ro11 ((words (x / (Nat.gcd x d))).length) rc12) hA rfl rfl rfl (does_extract (vs := [.slice ro11 ((words (x / (Nat.gcd x d))).length) rc12, .slice uo13 ((words (x % (Nat.gcd x d))).length) uc14]) rfl rfl) ?_
    intro a hA
    refine seq_do (v := .slice uo13 ((words (x % (Nat.gcd x d))).length) uc14) hA rfl rfl rfl (does_extract (vs := [.slice ro11 ((words (x / (Nat.gcd x d))).length) rc12, .slice uo13 ((words (x % (Nat.gcd x d))).length) uc14]) rfl rfl) ?_
    intro a hA
    refine seq_do hA rfl rfl rfl (does_assign rfl) ?_
    intro a hA
    refine seq_do hA rfl rfl rfl (does_assign rfl) ?_
    intro a hA
    refine seq_end ?_
    refine hK10 _ _ ?_
    refine wp_seq_k (fun K19 hK19 => ?_)
    refine wp_region_lit ?_
    refine seq_do hA rfl rfl rfl (does_move rfl) ?_
    intro a hA
    refine seq_do hA rfl rfl rfl (does_move rfl) ?_
    intro a hA
    refine seq_call hA rfl rfl rfl (enters_func  rfl rfl (fun w => by kernel_rfl)) (over_any (x := d) (y := Nat.gcd x d) _ _ (hS.rd 3 rfl) (hS.rd 2 rfl) hd (gcd_len hd0 hd) (gcd_ne hd0)) ?_
    rintro _ w27 ⟨ro20, rc21, uo22, uc23, rfl, ho24, hp25, hb26⟩
    replace hS := hS.call hb26
    replace hS := hS.addR ho24.rd
    replace hS := hS.addR hp25.rd
    refine ⟨_, rfl, ?_⟩
    intro a hA
    refine seq_do hA rfl rfl rfl (does_move rfl) ?_
    intro a hA
    refine seq_do (v := .slice ro20 ((words (d / (Nat.gcd x d))).length) rc21) hA rfl rfl rfl (does_extract (vs := [.slice ro20 ((words (d / (Nat.gcd x d))).length) rc21, .slice uo22 ((words (d % (Nat.gcd x d))).length) uc23]) rfl rfl) ?_
    intro a hA
    refine seq_do (v := .slice uo22 ((words (d % (Nat.gcd x d))).length) uc23) hA rfl rfl rfl (does_extract (vs := [.slice ro20 ((words (d / (Nat.gcd x d))).length) rc21, .slice uo22 ((words (d % (Nat.gcd x d))).length) uc23]) rfl rfl) ?_
    intro a hA
    refine seq_do hA rfl rfl rfl (does_assign rfl) ?_
    intro a hA
    refine seq_do hA rfl rfl rfl (does_assign rfl) ?_
    intro a hA
    refine seq_end ?_
    refine hK19 _ _ ?_
    refine wp_seq_k (fun K28 hK28 => ?_)
    refine wp_region_lit ?_
    refine seq_do hA rfl rfl rfl (does_move rfl) ?_
    intro a hA
    refine seq_do hA rfl rfl rfl (does_move rfl) ?_
    intro a hA
    refine seq_do hA rfl rfl rfl (does_move rfl) ?_
    intro a hA
    refine seq_do (v := .int .i64 ((((words (x / (Nat.gcd x d))).length : Nat) : Int))) hA rfl rfl rfl (does_len Try.underlying22 rfl) ?_
    intro a hA
    rcases Bool.eq_false_or_eq_true (decide (0 < (((words (x / (Nat.gcd x d))).length : Nat) : Int))) with hb29 | hb29
    · have hb29' := of_decide_eq_true hb29
      refine seq_do (v := .bool true) hA rfl rfl rfl (does_bin rfl rfl (fun w => (bin_gtr w).trans (by rw [hb29]))) ?_
      intro a hA
      refine seq_do (v := .bool true) hA rfl rfl rfl (does_pick rfl rfl rfl rfl) ?_
      intro a hA
      refine seq_do hA rfl rfl rfl (does_move rfl) ?_
      intro a hA
      refine seq_do hA rfl rfl rfl (does_move rfl) ?_
      intro a hA
      refine seq_do (v := .agg #[.bool true, .slice ro11 ((words (x / (Nat.gcd x d))).length) rc12, .slice ro20 ((words (d / (Nat.gcd x d))).length) rc21]) hA rfl rfl rfl (does_build rfl (fun w => by kernel_rfl)) ?_
      intro a hA
      refine seq_store (us := [.bool true, .slice ro11 ((words (x / (Nat.gcd x d))).length) rc12, .slice ro20 ((words (d / (Nat.gcd x d))).length) rc21]) hA hS rfl rfl (sets_store (cs := [.bool true, .slice ro11 ((words (x / (Nat.gcd x d))).length) rc12, .slice ro20 ((words (d / (Nat.gcd x d))).length) rc21]) rfl rfl rfl (by kernel_rfl) hS 0 rfl rfl rfl) 0 rfl rfl rfl rfl ?_
      intro w30 hS
      refine seq_end ?_
      refine hK28 _ _ ?_
      refine wp_ret ?_
      refine hret _ _ ?_
      refine ends (v := .agg #[.bool true, .slice ro11 ((words (x / (Nat.gcd x d))).length) rc12, .slice ro20 ((words (d / (Nat.gcd x d))).length) rc21]) hA rfl (.cons (res_cell hS isS_24 rfl 0 rfl (cs := [.bool true, .slice ro11 ((words (x / (Nat.gcd x d))).length) rc12, .slice ro20 ((words (d / (Nat.gcd x d))).length) rc21]) rfl rfl) .nil) rfl ?_
      rw [show decide (0 < x / Nat.gcd x d) = true from decide_eq_true (by have := words_pos_len (x / Nat.gcd x d); omega)]
      exact ⟨ro11, rc12, ro20, rc21, rfl, ⟨(hS.rd 3 rfl), ho15.nocap, ho15.caps⟩, ⟨(hS.rd 1 rfl), ho24.nocap, ho24.caps⟩, hS.bel⟩
    · have hb29' := of_decide_eq_false hb29
      refine seq_do (v := .bool false) hA rfl rfl rfl (does_bin rfl rfl (fun w => (bin_gtr w).trans (by rw [hb29]))) ?_
      intro a hA
      refine seq_do (v := .bool false) hA rfl rfl rfl (does_pick rfl rfl rfl rfl) ?_
      intro a hA
      refine seq_do hA rfl rfl rfl (does_move rfl) ?_
      intro a hA
      refine seq_do hA rfl rfl rfl (does_move rfl) ?_
      intro a hA
      refine seq_do (v := .agg #[.bool false, .slice ro11 ((words (x / (Nat.gcd x d))).length) rc12, .slice ro20 ((words (d / (Nat.gcd x d))).length) rc21]) hA rfl rfl rfl (does_build rfl (fun w => by kernel_rfl)) ?_
      intro a hA
      refine seq_store (us := [.bool false, .slice ro11 ((words (x / (Nat.gcd x d))).length) rc12, .slice ro20 ((words (d / (Nat.gcd x d))).length) rc21]) hA hS rfl rfl (sets_store (cs := [.bool false, .slice ro11 ((words (x / (Nat.gcd x d))).length) rc12, .slice ro20 ((words (d / (Nat.gcd x d))).length) rc21]) rfl rfl rfl (by kernel_rfl) hS 0 rfl rfl rfl) 0 rfl rfl rfl rfl ?_
      intro w31 hS
      refine seq_end ?_
      refine hK28 _ _ ?_
      refine wp_ret ?_
      refine hret _ _ ?_
      refine ends (v := .agg #[.bool false, .slice ro11 ((words (x / (Nat.gcd x d))).length) rc12, .slice ro20 ((words (d / (Nat.gcd x d))).length) rc21]) hA rfl (.cons (res_cell hS isS_24 rfl 0 rfl (cs := [.bool false, .slice ro11 ((words (x / (Nat.gcd x d))).length) rc12, .slice ro20 ((words (d / (Nat.gcd x d))).length) rc21]) rfl rfl) .nil) rfl ?_
      rw [show decide (0 < x / Nat.gcd x d) = false from decide_eq_false (by have := words_pos_len (x / Nat.gcd x d); omega)]
      exact ⟨ro11, rc12, ro20, rc21, rfl, ⟨(hS.rd 3 rfl), ho15.nocap, ho15.caps⟩, ⟨(hS.rd 1 rfl), ho24.nocap, ho24.caps⟩, hS.bel⟩
theorem rratI_any {w : World} (b : Bool) {x d : Nat} {a1 a2 : Option Addr} {ac1 ac2 : Nat} (ha1 : Sc w a1 ac1 (words x)) (ha2 : Sc w a2 ac2 (words d)) (hx : (words x).length ≤ 9000) (hd : (words d).length ≤ 9000) (hd0 : d ≠ 0) {z : Int} (hz : z = sgn b x) : Calls Try.prog 81 #[.bool b, .slice a1 (words x).length ac1, .slice a2 (words d).length ac2] w (AnsF w (rb z) (words (rt z d)) (words (rq z d))) := by
  subst hz
  have h := rrat_any b ha1 ha2 hx hd hd0
  rw [rb_sgn b x d hd0]
  unfold rt rq
  rw [sgn_abs]
  exact h
theorem rsum_any {w : World} {b1 b2 : Bool} {x1 y1 x2 y2 : Nat} {a1 a2 : Option Addr} {ac1 ac2 : Nat} (ha1 : Sc w a1 ac1 (words x1)) (ha2 : Sc w a2 ac2 (words y1)) {u1 u2 : Option Addr} {uc1 uc2 : Nat} (hu1 : Sc w u1 uc1 (words x2)) (hu2 : Sc w u2 uc2 (words y2)) (hx1 : (words x1).length ≤ 3000) (hy1 : (words y1).length ≤ 3000) (hx2 : (words x2).length ≤ 3000) (hy2 : (words y2).length ≤ 3000) (h01 : y1 ≠ 0) (h02 : y2 ≠ 0) :
    Calls Try.prog 57 #[.agg #[.bool b1, .slice a1 (words x1).length ac1, .slice a2 (words y1).length ac2], .agg #[.bool b2, .slice u1 (words x2).length uc1, .slice u2 (words y2).length uc2]] w (AnsF w (rb (sgn b1 x1 * (y2 : Int) + sgn b2 x2 * (y1 : Int))) (words (rt (sgn b1 x1 * (y2 : Int) + sgn b2 x2 * (y1 : Int)) (y1 * y2))) (words (rq (sgn b1 x1 * (y2 : Int) + sgn b2 x2 * (y1 : Int)) (y1 * y2)))) := by
  have k1 := words_mul_length (x := x1) (y := y2) (k := 3000) (m := 3000) hx1 hy2
  have k2 := words_mul_length (x := x2) (y := y1) (k := 3000) (m := 3000) hx2 hy1
  have k3 := words_mul_length (x := y1) (y := y2) (k := 3000) (m := 3000) hy1 hy2
  have k4 := words_add_length (x := x1 * y2) (y := x2 * y1) (k := 6000) k1 k2
  have k5 := words_mono (Nat.sub_le (x1 * y2) (x2 * y1))
  have k6 := words_mono (Nat.sub_le (x2 * y1) (x1 * y2))
  have hd0 : y1 * y2 ≠ 0 := Nat.mul_ne_zero h01 h02
  generalize hZ : sgn b1 x1 * (y2 : Int) + sgn b2 x2 * (y1 : Int) = Z
  rw [sgn_scale, sgn_scale] at hZ
  cases b1 <;> cases b2
  · have hzS : Z = sgn false (x1 * y2 + x2 * y1) := by rw [← hZ]; exact sum_same false _ _
    have hS : St w w [] [(u2, words y2), (u1, words x2), (a2, words y1), (a1, words x1)] [] := ((((St.start w).addR ha1.rd).addR ha2.rd).addR hu1.rd).addR hu2.rd
    refine walk_of (l := [(0, .agg #[.bool false, .slice a1 ((words x1).length) ac1, .slice a2 ((words y1).length) ac2]), (1, .agg #[.bool false, .slice u1 ((words x2).length) uc1, .slice u2 ((words y2).length) uc2])]) Try.func57 rfl Try.ntmps57 rfl rfl ?_
    intro Q hret hnorm hP a hA
    refine wp_seq_k (fun K1 hK1 => ?_)
    refine wp_region_lit ?_
    refine seq_new (vs := [.bool false, .slice a1 ((words x1).length) ac1, .slice a2 ((words y1).length) ac2]) (t := 24) hA hS rfl rfl rfl (fun g => .pointer (some ⟨g, 0, none⟩)) (does_box rfl rfl) rfl ?_
    intro g2 w3 hS a hA
    refine seq_new (vs := [.bool false, .slice u1 ((words x2).length) uc1, .slice u2 ((words y2).length) uc2]) (t := 24) hA hS rfl rfl rfl (fun g => .pointer (some ⟨g, 0, none⟩)) (does_box rfl rfl) rfl ?_
    intro g4 w5 hS a hA
    refine seq_new (vs := [.bool false, .slice none 0 0, .slice none 0 0]) (t := 24) hA hS rfl rfl rfl (fun g => .pointer (some ⟨g, 0, none⟩)) (does_alloc (z := .agg #[.bool false, .slice none 0 0, .slice none 0 0]) (by kernel_rfl) rfl) rfl ?_
    intro g6 w7 hS a hA
    refine seq_end ?_
    refine hK1 _ _ ?_
    refine wp_seq_k (fun K8 hK8 => ?_)
    refine wp_draw (S := fun w1 => St w w1 [(g6, [.bool false, .slice none 0 0, .slice none 0 0]), (g4, [.bool false, .slice u1 ((words x2).length) uc1, .slice u2 ((words y2).length) uc2]), (g2, [.bool false, .slice a1 ((words x1).length) ac1, .slice a2 ((words y1).length) ac2])] [(u2, words y2), (u1, words x2), (a2, words y1), (a1, words x1)] []) (by kernel_rfl) ?_
    replace hS := hS.drew
    refine any_take (v := .pointer (some ⟨g2, 1, none⟩)) hA 0 rfl rfl rfl rfl (by kernel_rfl) (by kernel_rfl) (by kernel_rfl) (fun c a w h => hP c a _ _ w h) (hS.part (.cons_cons _ (.cons_cons _ (.cons_cons _ .slnil))) ⟨⟨0, rfl⟩, ⟨⟨1, rfl⟩, ⟨⟨2, rfl⟩, ⟨⟨3, rfl⟩, trivial⟩⟩⟩⟩ .slnil) (fun w1 hS => does_field fld_24_1 rfl rfl) ?_
    intro a hA
    refine any_take hA 1 rfl rfl rfl rfl (by kernel_rfl) (by kernel_rfl) (by kernel_rfl) (fun c a w h => hP c a _ _ w h) (hS.part (.cons_cons _ (.cons_cons _ (.cons_cons _ .slnil))) ⟨⟨0, rfl⟩, ⟨⟨1, rfl⟩, ⟨⟨2, rfl⟩, ⟨⟨3, rfl⟩, trivial⟩⟩⟩⟩ .slnil) (fun w1 hS => does_load1 hS is1_22 rfl 2 rfl rfl) ?_
    intro a hA
    refine any_take (v := .pointer (some ⟨g4, 2, none⟩)) hA 2 rfl rfl rfl rfl (by kernel_rfl) (by kernel_rfl) (by kernel_rfl) (fun c a w h => hP c a _ _ w h) (hS.part (.cons_cons _ (.cons_cons _ (.cons_cons _ .slnil))) ⟨⟨0, rfl⟩, ⟨⟨1, rfl⟩, ⟨⟨2, rfl⟩, ⟨⟨3, rfl⟩, trivial⟩⟩⟩⟩ .slnil) (fun w1 hS => does_field fld_24_2 rfl rfl) ?_
    intro a hA
    refine any_take hA 3 rfl rfl rfl rfl (by kernel_rfl) (by kernel_rfl) (by kernel_rfl) (fun c a w h => hP c a _ _ w h) (hS.part (.cons_cons _ (.cons_cons _ (.cons_cons _ .slnil))) ⟨⟨0, rfl⟩, ⟨⟨1, rfl⟩, ⟨⟨2, rfl⟩, ⟨⟨3, rfl⟩, trivial⟩⟩⟩⟩ .slnil) (fun w1 hS => does_load1 hS is1_22 rfl 1 rfl rfl) ?_
    intro a hA
    refine any_take (v := .pointer (some ⟨g4, 1, none⟩)) hA 5 rfl rfl rfl rfl (by kernel_rfl) (by kernel_rfl) (by kernel_rfl) (fun c a w h => hP c a _ _ w h) (hS.part (.cons_cons _ (.cons_cons _ (.cons_cons _ .slnil))) ⟨⟨0, rfl⟩, ⟨⟨1, rfl⟩, ⟨⟨2, rfl⟩, ⟨⟨3, rfl⟩, trivial⟩⟩⟩⟩ .slnil) (fun w1 hS => does_field fld_24_1 rfl rfl) ?_
    intro a hA
    refine any_take hA 6 rfl rfl rfl rfl (by kernel_rfl) (by kernel_rfl) (by kernel_rfl) (fun c a w h => hP c a _ _ w h) (hS.part (.cons_cons _ (.cons_cons _ (.cons_cons _ .slnil))) ⟨⟨0, rfl⟩, ⟨⟨1, rfl⟩, ⟨⟨2, rfl⟩, ⟨⟨3, rfl⟩, trivial⟩⟩⟩⟩ .slnil) (fun w1 hS => does_load1 hS is1_22 rfl 1 rfl rfl) ?_
    intro a hA
    refine any_take (v := .pointer (some ⟨g2, 2, none⟩)) hA 7 rfl rfl rfl rfl (by kernel_rfl) (by kernel_rfl) (by kernel_rfl) (fun c a w h => hP c a _ _ w h) (hS.part (.cons_cons _ (.cons_cons _ (.cons_cons _ .slnil))) ⟨⟨0, rfl⟩, ⟨⟨1, rfl⟩, ⟨⟨2, rfl⟩, ⟨⟨3, rfl⟩, trivial⟩⟩⟩⟩ .slnil) (fun w1 hS => does_field fld_24_2 rfl rfl) ?_
    intro a hA
    refine any_take hA 8 rfl rfl rfl rfl (by kernel_rfl) (by kernel_rfl) (by kernel_rfl) (fun c a w h => hP c a _ _ w h) (hS.part (.cons_cons _ (.cons_cons _ (.cons_cons _ .slnil))) ⟨⟨0, rfl⟩, ⟨⟨1, rfl⟩, ⟨⟨2, rfl⟩, ⟨⟨3, rfl⟩, trivial⟩⟩⟩⟩ .slnil) (fun w1 hS => does_load1 hS is1_22 rfl 2 rfl rfl) ?_
    intro a hA
    refine any_one (by kernel_rfl) (op_call hA 4 rfl rfl rfl rfl (enters_func  rfl rfl (fun w => by kernel_rfl)) (rtimes_any _ _ (hS.rd 3 rfl) (hS.rd 0 rfl) (by omega) (by omega)) ?_)
    rintro _ w13 ⟨ro9, rc10, rfl, ho11, hb12⟩
    replace hS := hS.call hb12
    replace hS := hS.addR ho11.rd
    refine ⟨_, rfl, (hS.part (.cons_cons _ (.cons_cons _ (.cons_cons _ .slnil))) ⟨⟨1, rfl⟩, ⟨⟨2, rfl⟩, ⟨⟨3, rfl⟩, ⟨⟨4, rfl⟩, trivial⟩⟩⟩⟩ .slnil), ?_⟩
    intro a hA
    refine any_one (by kernel_rfl) (op_call hA 9 rfl rfl rfl rfl (enters_func  rfl rfl (fun w => by kernel_rfl)) (rtimes_any _ _ (hS.rd 2 rfl) (hS.rd 3 rfl) (by omega) (by omega)) ?_)
    rintro _ w18 ⟨ro14, rc15, rfl, ho16, hb17⟩
    replace hS := hS.call hb17
    replace hS := hS.addR ho16.rd
    refine ⟨_, rfl, (hS.part (.cons_cons _ (.cons_cons _ (.cons_cons _ .slnil))) ⟨⟨2, rfl⟩, ⟨⟨3, rfl⟩, ⟨⟨4, rfl⟩, ⟨⟨5, rfl⟩, trivial⟩⟩⟩⟩ .slnil), ?_⟩
    intro a hA
    refine any_take hA 10 rfl rfl rfl rfl (by kernel_rfl) (by kernel_rfl) (by kernel_rfl) (fun c a w h => hP c a _ _ w h) (hS.part (.cons_cons _ (.cons_cons _ (.cons_cons _ .slnil))) ⟨⟨2, rfl⟩, ⟨⟨3, rfl⟩, ⟨⟨4, rfl⟩, ⟨⟨5, rfl⟩, trivial⟩⟩⟩⟩ .slnil) (fun w1 hS => does_assign rfl) ?_
    intro a hA
    refine any_take hA 11 rfl rfl rfl rfl (by kernel_rfl) (by kernel_rfl) (by kernel_rfl) (fun c a w h => hP c a _ _ w h) (hS.part (.cons_cons _ (.cons_cons _ (.cons_cons _ .slnil))) ⟨⟨2, rfl⟩, ⟨⟨3, rfl⟩, ⟨⟨4, rfl⟩, ⟨⟨5, rfl⟩, trivial⟩⟩⟩⟩ .slnil) (fun w1 hS => does_assign rfl) ?_
    intro a hA
    refine any_end (by kernel_rfl) ?_
    refine hK8 _ _ ?_
    refine wp_seq_k (fun K19 hK19 => ?_)
    refine wp_region_lit ?_
    refine seq_do (v := .pointer (some ⟨g2, 2, none⟩)) hA rfl rfl rfl (does_field fld_24_2 rfl rfl) ?_
    intro a hA
    refine seq_do hA rfl rfl rfl (does_load1 hS is1_22 rfl 2 rfl rfl) ?_
    intro a hA
    refine seq_do (v := .pointer (some ⟨g4, 2, none⟩)) hA rfl rfl rfl (does_field fld_24_2 rfl rfl) ?_
    intro a hA
    refine seq_do hA rfl rfl rfl (does_load1 hS is1_22 rfl 1 rfl rfl) ?_
    intro a hA
    refine seq_call hA rfl rfl rfl (enters_func  rfl rfl (fun w => by kernel_rfl)) (rtimes_any _ _ (hS.rd 4 rfl) (hS.rd 2 rfl) (by omega) (by omega)) ?_
    rintro _ w24 ⟨ro20, rc21, rfl, ho22, hb23⟩
    replace hS := hS.call hb23
    replace hS := hS.addR ho22.rd
    refine ⟨_, rfl, ?_⟩
    intro a hA
    refine seq_do hA rfl rfl rfl (does_assign rfl) ?_
    intro a hA
    refine seq_end ?_
    refine hK19 _ _ ?_
    refine wp_seq_k (fun K25 hK25 => ?_)
    refine wp_seq_k (fun K26 hK26 => ?_)
    refine wp_region_lit ?_
    refine seq_do (v := .pointer (some ⟨g2, 0, none⟩)) hA rfl rfl rfl (does_field fld_24_0 rfl rfl) ?_
    intro a hA
    refine seq_do hA rfl rfl rfl (does_load1 hS is1_4 rfl 2 rfl rfl) ?_
    intro a hA
    refine seq_do (v := .pointer (some ⟨g4, 0, none⟩)) hA rfl rfl rfl (does_field fld_24_0 rfl rfl) ?_
    intro a hA
    refine seq_do hA rfl rfl rfl (does_load1 hS is1_4 rfl 1 rfl rfl) ?_
    intro a hA
    refine seq_do (v := .bool true) hA rfl rfl rfl (does_bin rfl rfl (bin_eqlB Try.underlying4)) ?_
    intro a hA
    refine seq_end ?_
    refine hK26 _ _ ?_
    refine wp_cond_true (hA.ev rfl) ?_
    refine wp_seq_k (fun K27 hK27 => ?_)
    refine wp_draw (S := fun w1 => St w w1 [(g4, [.bool false, .slice u1 ((words x2).length) uc1, .slice u2 ((words y2).length) uc2]), (g2, [.bool false, .slice a1 ((words x1).length) ac1, .slice a2 ((words y1).length) ac2])] [(ro20, words (y1 * y2)), (ro14, words (x2 * y1)), (ro9, words (x1 * y2)), (u2, words y2), (u1, words x2), (a2, words y1), (a1, words x1)] []) (by kernel_rfl) ?_
    replace hS := hS.drew
    refine any_take (v := .pointer (some ⟨g2, 0, none⟩)) hA 0 rfl rfl rfl rfl (by kernel_rfl) (by kernel_rfl) (by kernel_rfl) (fun c a w h => hP c a _ _ w h) (hS.part (.cons _ (.cons_cons _ (.cons_cons _ .slnil))) ⟨⟨0, rfl⟩, ⟨⟨1, rfl⟩, ⟨⟨2, rfl⟩, ⟨⟨3, rfl⟩, ⟨⟨4, rfl⟩, ⟨⟨5, rfl⟩, ⟨⟨6, rfl⟩, trivial⟩⟩⟩⟩⟩⟩⟩ .slnil) (fun w1 hS => does_field fld_24_0 rfl rfl) ?_
    intro a hA
    refine any_take hA 1 rfl rfl rfl rfl (by kernel_rfl) (by kernel_rfl) (by kernel_rfl) (fun c a w h => hP c a _ _ w h) (hS.part (.cons _ (.cons_cons _ (.cons_cons _ .slnil))) ⟨⟨0, rfl⟩, ⟨⟨1, rfl⟩, ⟨⟨2, rfl⟩, ⟨⟨3, rfl⟩, ⟨⟨4, rfl⟩, ⟨⟨5, rfl⟩, ⟨⟨6, rfl⟩, trivial⟩⟩⟩⟩⟩⟩⟩ .slnil) (fun w1 hS => does_load1 hS is1_4 rfl 1 rfl rfl) ?_
    intro a hA
    refine any_take hA 2 rfl rfl rfl rfl (by kernel_rfl) (by kernel_rfl) (by kernel_rfl) (fun c a w h => hP c a _ _ w h) (hS.part (.cons _ (.cons_cons _ (.cons_cons _ .slnil))) ⟨⟨0, rfl⟩, ⟨⟨1, rfl⟩, ⟨⟨2, rfl⟩, ⟨⟨3, rfl⟩, ⟨⟨4, rfl⟩, ⟨⟨5, rfl⟩, ⟨⟨6, rfl⟩, trivial⟩⟩⟩⟩⟩⟩⟩ .slnil) (fun w1 hS => does_move rfl) ?_
    intro a hA
    refine any_take hA 3 rfl rfl rfl rfl (by kernel_rfl) (by kernel_rfl) (by kernel_rfl) (fun c a w h => hP c a _ _ w h) (hS.part (.cons _ (.cons_cons _ (.cons_cons _ .slnil))) ⟨⟨0, rfl⟩, ⟨⟨1, rfl⟩, ⟨⟨2, rfl⟩, ⟨⟨3, rfl⟩, ⟨⟨4, rfl⟩, ⟨⟨5, rfl⟩, ⟨⟨6, rfl⟩, trivial⟩⟩⟩⟩⟩⟩⟩ .slnil) (fun w1 hS => does_move rfl) ?_
    intro a hA
    refine any_take hA 5 rfl rfl rfl rfl (by kernel_rfl) (by kernel_rfl) (by kernel_rfl) (fun c a w h => hP c a _ _ w h) (hS.part (.cons _ (.cons_cons _ (.cons_cons _ .slnil))) ⟨⟨0, rfl⟩, ⟨⟨1, rfl⟩, ⟨⟨2, rfl⟩, ⟨⟨3, rfl⟩, ⟨⟨4, rfl⟩, ⟨⟨5, rfl⟩, ⟨⟨6, rfl⟩, trivial⟩⟩⟩⟩⟩⟩⟩ .slnil) (fun w1 hS => does_move rfl) ?_
    intro a hA
    refine any_one (by kernel_rfl) (op_call hA 4 rfl rfl rfl rfl (enters_func  rfl rfl (fun w => by kernel_rfl)) (plus_any _ _ (hS.rd 2 rfl) (hS.rd 1 rfl) (by omega) (by omega)) ?_)
    rintro _ w32 ⟨ro28, rc29, rfl, ho30, hb31⟩
    replace hS := hS.call hb31
    replace hS := hS.addR ho30.rd
    refine ⟨_, rfl, (hS.part (.cons _ (.cons_cons _ (.cons_cons _ .slnil))) ⟨⟨1, rfl⟩, ⟨⟨2, rfl⟩, ⟨⟨3, rfl⟩, ⟨⟨4, rfl⟩, ⟨⟨5, rfl⟩, ⟨⟨6, rfl⟩, ⟨⟨7, rfl⟩, trivial⟩⟩⟩⟩⟩⟩⟩ .slnil), ?_⟩
    intro a hA
    refine any_one (by kernel_rfl) (op_call hA 6 rfl rfl rfl rfl (enters_func  rfl rfl (fun w => by kernel_rfl)) (rratI_any false ⟨(hS.rd 0 rfl), ho30.nocap, ho30.caps⟩ ⟨(hS.rd 1 rfl), ho22.nocap, ho22.caps⟩ (by omega) (by omega) hd0 (z := Z) hzS) ?_)
    rintro _ w37 ⟨f33_1, f33_c1, f33_2, f33_c2, rfl, hs34, hs35, hb36⟩
    replace hS := hS.call hb36
    replace hS := hS.addR hs34.rd
    replace hS := hS.addR hs35.rd
    refine ⟨_, rfl, (hS.part (.cons _ (.cons_cons _ (.cons_cons _ .slnil))) ⟨⟨3, rfl⟩, ⟨⟨4, rfl⟩, ⟨⟨5, rfl⟩, ⟨⟨6, rfl⟩, ⟨⟨7, rfl⟩, ⟨⟨8, rfl⟩, ⟨⟨9, rfl⟩, trivial⟩⟩⟩⟩⟩⟩⟩ .slnil), ?_⟩
    intro a hA
    refine any_one (by kernel_rfl) (op_store (us := [.bool (rb Z), .slice f33_1 ((words (rt Z (y1 * y2))).length) f33_c1, .slice f33_2 ((words (rq Z (y1 * y2))).length) f33_c2]) hA hS 7 rfl rfl rfl (sets_store (cs := [.bool (rb Z), .slice f33_1 ((words (rt Z (y1 * y2))).length) f33_c1, .slice f33_2 ((words (rq Z (y1 * y2))).length) f33_c2]) rfl rfl rfl (by kernel_rfl) hS 0 rfl rfl rfl) 0 rfl rfl rfl rfl ?_)
    intro w38 hS
    refine ⟨(hS.part (.cons _ (.cons_cons _ (.cons_cons _ .slnil))) ⟨⟨3, rfl⟩, ⟨⟨4, rfl⟩, ⟨⟨5, rfl⟩, ⟨⟨6, rfl⟩, ⟨⟨7, rfl⟩, ⟨⟨8, rfl⟩, ⟨⟨9, rfl⟩, trivial⟩⟩⟩⟩⟩⟩⟩ .slnil), ?_⟩
    refine any_end (by kernel_rfl) ?_
    refine hK27 _ _ ?_
    refine wp_ret ?_
    refine hret _ _ ?_
    refine ends (v := .agg #[.bool (rb Z), .slice f33_1 ((words (rt Z (y1 * y2))).length) f33_c1, .slice f33_2 ((words (rq Z (y1 * y2))).length) f33_c2]) hA rfl (.cons (res_cell hS isS_24 rfl 0 rfl (cs := [.bool (rb Z), .slice f33_1 ((words (rt Z (y1 * y2))).length) f33_c1, .slice f33_2 ((words (rq Z (y1 * y2))).length) f33_c2]) rfl rfl) .nil) rfl ?_
    exact ⟨f33_1, f33_c1, f33_2, f33_c2, rfl, ⟨(hS.rd 1 rfl), hs34.nil, hs34.cap⟩, ⟨(hS.rd 0 rfl), hs35.nil, hs35.cap⟩, hS.bel⟩
  · have hzD1 : x2 * y1 ≤ x1 * y2 → Z = sgn false (x1 * y2 - x2 * y1) := fun h => by rw [← hZ]; exact sum_more false h
    have hzD2 : ¬ x2 * y1 ≤ x1 * y2 → Z = sgn true (x2 * y1 - x1 * y2) := fun h => by rw [← hZ, Int.add_comm]; exact sum_more true (by omega)
    have hS : St w w [] [(u2, words y2), (u1, words x2), (a2, words y1), (a1, words x1)] [] := ((((St.start w).addR ha1.rd).addR ha2.rd).addR hu1.rd).addR hu2.rd
    refine walk_of (l := [(0, .agg #[.bool false, .slice a1 ((words x1).length) ac1, .slice a2 ((words y1).length) ac2]), (1, .agg #[.bool true, .slice u1 ((words x2).length) uc1, .slice u2 ((words y2).length) uc2])]) Try.func57 rfl Try.ntmps57 rfl rfl ?_
    intro Q hret hnorm hP a hA
    refine wp_seq_k (fun K1 hK1 => ?_)
    refine wp_region_lit ?_
    refine seq_new (vs := [.bool false, .slice a1 ((words x1).length) ac1, .slice a2 ((words y1).length) ac2]) (t := 24) hA hS rfl rfl rfl (fun g => .pointer (some ⟨g, 0, none⟩)) (does_box rfl rfl) rfl ?_
    intro g2 w3 hS a hA
    refine seq_new (vs := [.bool true, .slice u1 ((words x2).length) uc1, .slice u2 ((words y2).length) uc2]) (t := 24) hA hS rfl rfl rfl (fun g => .pointer (some ⟨g, 0, none⟩)) (does_box rfl rfl) rfl ?_
    intro g4 w5 hS a hA
    refine seq_new (vs := [.bool false, .slice none 0 0, .slice none 0 0]) (t := 24) hA hS rfl rfl rfl (fun g => .pointer (some ⟨g, 0, none⟩)) (does_alloc (z := .agg #[.bool false, .slice none 0 0, .slice none 0 0]) (by kernel_rfl) rfl) rfl ?_
    intro g6 w7 hS a hA
    refine seq_end ?_
    refine hK1 _ _ ?_
    refine wp_seq_k (fun K8 hK8 => ?_)
    refine wp_draw (S := fun w1 => St w w1 [(g6, [.bool false, .slice none 0 0, .slice none 0 0]), (g4, [.bool true, .slice u1 ((words x2).length) uc1, .slice u2 ((words y2).length) uc2]), (g2, [.bool false, .slice a1 ((words x1).length) ac1, .slice a2 ((words y1).length) ac2])] [(u2, words y2), (u1, words x2), (a2, words y1), (a1, words x1)] []) (by kernel_rfl) ?_
    replace hS := hS.drew
    refine any_take (v := .pointer (some ⟨g2, 1, none⟩)) hA 0 rfl rfl rfl rfl (by kernel_rfl) (by kernel_rfl) (by kernel_rfl) (fun c a w h => hP c a _ _ w h) (hS.part (.cons_cons _ (.cons_cons _ (.cons_cons _ .slnil))) ⟨⟨0, rfl⟩, ⟨⟨1, rfl⟩, ⟨⟨2, rfl⟩, ⟨⟨3, rfl⟩, trivial⟩⟩⟩⟩ .slnil) (fun w1 hS => does_field fld_24_1 rfl rfl) ?_
    intro a hA
    refine any_take hA 1 rfl rfl rfl rfl (by kernel_rfl) (by kernel_rfl) (by kernel_rfl) (fun c a w h => hP c a _ _ w h) (hS.part (.cons_cons _ (.cons_cons _ (.cons_cons _ .slnil))) ⟨⟨0, rfl⟩, ⟨⟨1, rfl⟩, ⟨⟨2, rfl⟩, ⟨⟨3, rfl⟩, trivial⟩⟩⟩⟩ .slnil) (fun w1 hS => does_load1 hS is1_22 rfl 2 rfl rfl) ?_
    intro a hA
    refine any_take (v := .pointer (some ⟨g4, 2, none⟩)) hA 2 rfl rfl rfl rfl (by kernel_rfl) (by kernel_rfl) (by kernel_rfl) (fun c a w h => hP c a _ _ w h) (hS.part (.cons_cons _ (.cons_cons _ (.cons_cons _ .slnil))) ⟨⟨0, rfl⟩, ⟨⟨1, rfl⟩, ⟨⟨2, rfl⟩, ⟨⟨3, rfl⟩, trivial⟩⟩⟩⟩ .slnil) (fun w1 hS => does_field fld_24_2 rfl rfl) ?_
    intro a hA
    refine any_take hA 3 rfl rfl rfl rfl (by kernel_rfl) (by kernel_rfl) (by kernel_rfl) (fun c a w h => hP c a _ _ w h) (hS.part (.cons_cons _ (.cons_cons _ (.cons_cons _ .slnil))) ⟨⟨0, rfl⟩, ⟨⟨1, rfl⟩, ⟨⟨2, rfl⟩, ⟨⟨3, rfl⟩, trivial⟩⟩⟩⟩ .slnil) (fun w1 hS => does_load1 hS is1_22 rfl 1 rfl rfl) ?_
    intro a hA
    refine any_take (v := .pointer (some ⟨g4, 1, none⟩)) hA 5 rfl rfl rfl rfl (by kernel_rfl) (by kernel_rfl) (by kernel_rfl) (fun c a w h => hP c a _ _ w h) (hS.part (.cons_cons _ (.cons_cons _ (.cons_cons _ .slnil))) ⟨⟨0, rfl⟩, ⟨⟨1, rfl⟩, ⟨⟨2, rfl⟩, ⟨⟨3, rfl⟩, trivial⟩⟩⟩⟩ .slnil) (fun w1 hS => does_field fld_24_1 rfl rfl) ?_
    intro a hA
    refine any_take hA 6 rfl rfl rfl rfl (by kernel_rfl) (by kernel_rfl) (by kernel_rfl) (fun c a w h => hP c a _ _ w h) (hS.part (.cons_cons _ (.cons_cons _ (.cons_cons _ .slnil))) ⟨⟨0, rfl⟩, ⟨⟨1, rfl⟩, ⟨⟨2, rfl⟩, ⟨⟨3, rfl⟩, trivial⟩⟩⟩⟩ .slnil) (fun w1 hS => does_load1 hS is1_22 rfl 1 rfl rfl) ?_
    intro a hA
    refine any_take (v := .pointer (some ⟨g2, 2, none⟩)) hA 7 rfl rfl rfl rfl (by kernel_rfl) (by kernel_rfl) (by kernel_rfl) (fun c a w h => hP c a _ _ w h) (hS.part (.cons_cons _ (.cons_cons _ (.cons_cons _ .slnil))) ⟨⟨0, rfl⟩, ⟨⟨1, rfl⟩, ⟨⟨2, rfl⟩, ⟨⟨3, rfl⟩, trivial⟩⟩⟩⟩ .slnil) (fun w1 hS => does_field fld_24_2 rfl rfl) ?_
    intro a hA
    refine any_take hA 8 rfl rfl rfl rfl (by kernel_rfl) (by kernel_rfl) (by kernel_rfl) (fun c a w h => hP c a _ _ w h) (hS.part (.cons_cons _ (.cons_cons _ (.cons_cons _ .slnil))) ⟨⟨0, rfl⟩, ⟨⟨1, rfl⟩, ⟨⟨2, rfl⟩, ⟨⟨3, rfl⟩, trivial⟩⟩⟩⟩ .slnil) (fun w1 hS => does_load1 hS is1_22 rfl 2 rfl rfl) ?_
    intro a hA
    refine any_one (by kernel_rfl) (op_call hA 4 rfl rfl rfl rfl (enters_func  rfl rfl (fun w => by kernel_rfl)) (rtimes_any _ _ (hS.rd 3 rfl) (hS.rd 0 rfl) (by omega) (by omega)) ?_)
    rintro _ w13 ⟨ro9, rc10, rfl, ho11, hb12⟩
    replace hS := hS.call hb12
    replace hS := hS.addR ho11.rd
    refine ⟨_, rfl, (hS.part (.cons_cons _ (.cons_cons _ (.cons_cons _ .slnil))) ⟨⟨1, rfl⟩, ⟨⟨2, rfl⟩, ⟨⟨3, rfl⟩, ⟨⟨4, rfl⟩, trivial⟩⟩⟩⟩ .slnil), ?_⟩
    intro a hA
    refine any_one (by kernel_rfl) (op_call hA 9 rfl rfl rfl rfl (enters_func  rfl rfl (fun w => by kernel_rfl)) (rtimes_any _ _ (hS.rd 2 rfl) (hS.rd 3 rfl) (by omega) (by omega)) ?_)
    rintro _ w18 ⟨ro14, rc15, rfl, ho16, hb17⟩
    replace hS := hS.call hb17
    replace hS := hS.addR ho16.rd
    refine ⟨_, rfl, (hS.part (.cons_cons _ (.cons_cons _ (.cons_cons _ .slnil))) ⟨⟨2, rfl⟩, ⟨⟨3, rfl⟩, ⟨⟨4, rfl⟩, ⟨⟨5, rfl⟩, trivial⟩⟩⟩⟩ .slnil), ?_⟩
    intro a hA
    refine any_take hA 10 rfl rfl rfl rfl (by kernel_rfl) (by kernel_rfl) (by kernel_rfl) (fun c a w h => hP c a _ _ w h) (hS.part (.cons_cons _ (.cons_cons _ (.cons_cons _ .slnil))) ⟨⟨2, rfl⟩, ⟨⟨3, rfl⟩, ⟨⟨4, rfl⟩, ⟨⟨5, rfl⟩, trivial⟩⟩⟩⟩ .slnil) (fun w1 hS => does_assign rfl) ?_
    intro a hA
    refine any_take hA 11 rfl rfl rfl rfl (by kernel_rfl) (by kernel_rfl) (by kernel_rfl) (fun c a w h => hP c a _ _ w h) (hS.part (.cons_cons _ (.cons_cons _ (.cons_cons _ .slnil))) ⟨⟨2, rfl⟩, ⟨⟨3, rfl⟩, ⟨⟨4, rfl⟩, ⟨⟨5, rfl⟩, trivial⟩⟩⟩⟩ .slnil) (fun w1 hS => does_assign rfl) ?_
    intro a hA
    refine any_end (by kernel_rfl) ?_
    refine hK8 _ _ ?_
    refine wp_seq_k (fun K19 hK19 => ?_)
    refine wp_region_lit ?_
    refine seq_do (v := .pointer (some ⟨g2, 2, none⟩)) hA rfl rfl rfl (does_field fld_24_2 rfl rfl) ?_
    intro a hA
    refine seq_do hA rfl rfl rfl (does_load1 hS is1_22 rfl 2 rfl rfl) ?_
    intro a hA
    refine seq_do (v := .pointer (some ⟨g4, 2, none⟩)) hA rfl rfl rfl (does_field fld_24_2 rfl rfl) ?_
    intro a hA
    refine seq_do hA rfl rfl rfl (does_load1 hS is1_22 rfl 1 rfl rfl) ?_
    intro a hA
    refine seq_call hA rfl rfl rfl (enters_func  rfl rfl (fun w => by kernel_rfl)) (rtimes_any _ _ (hS.rd 4 rfl) (hS.rd 2 rfl) (by omega) (by omega)) ?_
    rintro _ w24 ⟨ro20, rc21, rfl, ho22, hb23⟩
    replace hS := hS.call hb23
    replace hS := hS.addR ho22.rd
    refine ⟨_, rfl, ?_⟩
    intro a hA
    refine seq_do hA rfl rfl rfl (does_assign rfl) ?_
    intro a hA
    refine seq_end ?_
    refine hK19 _ _ ?_
    refine wp_seq_k (fun K25 hK25 => ?_)
    refine wp_seq_k (fun K26 hK26 => ?_)
    refine wp_region_lit ?_
    refine seq_do (v := .pointer (some ⟨g2, 0, none⟩)) hA rfl rfl rfl (does_field fld_24_0 rfl rfl) ?_
    intro a hA
    refine seq_do hA rfl rfl rfl (does_load1 hS is1_4 rfl 2 rfl rfl) ?_
    intro a hA
    refine seq_do (v := .pointer (some ⟨g4, 0, none⟩)) hA rfl rfl rfl (does_field fld_24_0 rfl rfl) ?_
    intro a hA
    refine seq_do hA rfl rfl rfl (does_load1 hS is1_4 rfl 1 rfl rfl) ?_
    intro a hA
    refine seq_do (v := .bool false) hA rfl rfl rfl (does_bin rfl rfl (bin_eqlB Try.underlying4)) ?_
    intro a hA
    refine seq_end ?_
    refine hK26 _ _ ?_
    refine wp_cond_false (hA.ev rfl) ?_
    refine wp_skip ?_
    refine hK25 _ _ ?_
    refine wp_seq_k (fun K27 hK27 => ?_)
    refine wp_seq_k (fun K28 hK28 => ?_)
    refine wp_region_lit ?_
    refine seq_do hA rfl rfl rfl (does_move rfl) ?_
    intro a hA
    refine seq_do hA rfl rfl rfl (does_move rfl) ?_
    intro a hA
    rcases Bool.eq_false_or_eq_true (decide (x2 * y1 ≤ x1 * y2)) with hb29 | hb29
    · have hb29' := of_decide_eq_true hb29
      refine seq_call hA rfl rfl rfl (enters_func  rfl rfl (fun w => by kernel_rfl)) (rorder_any _ _ (hS.rd 2 rfl) (hS.rd 1 rfl) (by omega) (by omega)) ?_
      rintro _ w31 ⟨rfl, hb30⟩
      replace hS := hS.call hb30
      refine ⟨_, rfl, ?_⟩
      intro a hA
      refine seq_do (v := .bool true) hA rfl rfl rfl (does_bin rfl rfl (fun w => (bin_geq w).trans (by rw [show (decide (0 ≤ cmpN (x1 * y2) (x2 * y1))) = true from (by have h9 := of_decide_eq_true hb29; apply decide_eq_true; unfold cmpN; split <;> (try split) <;> omega)]))) ?_
      intro a hA
      refine seq_end ?_
      refine hK28 _ _ ?_
      refine wp_cond_true (hA.ev rfl) ?_
      refine wp_seq_k (fun K32 hK32 => ?_)
      refine wp_draw (S := fun w1 => St w w1 [(g4, [.bool true, .slice u1 ((words x2).length) uc1, .slice u2 ((words y2).length) uc2]), (g2, [.bool false, .slice a1 ((words x1).length) ac1, .slice a2 ((words y1).length) ac2])] [(ro20, words (y1 * y2)), (ro14, words (x2 * y1)), (ro9, words (x1 * y2)), (u2, words y2), (u1, words x2), (a2, words y1), (a1, words x1)] []) (by kernel_rfl) ?_
      replace hS := hS.drew
      refine any_take (v := .pointer (some ⟨g2, 0, none⟩)) hA 0 rfl rfl rfl rfl (by kernel_rfl) (by kernel_rfl) (by kernel_rfl) (fun c a w h => hP c a _ _ w h) (hS.part (.cons _ (.cons_cons _ (.cons_cons _ .slnil))) ⟨⟨0, rfl⟩, ⟨⟨1, rfl⟩, ⟨⟨2, rfl⟩, ⟨⟨3, rfl⟩, ⟨⟨4, rfl⟩, ⟨⟨5, rfl⟩, ⟨⟨6, rfl⟩, trivial⟩⟩⟩⟩⟩⟩⟩ .slnil) (fun w1 hS => does_field fld_24_0 rfl rfl) ?_
      intro a hA
      refine any_take hA 1 rfl rfl rfl rfl (by kernel_rfl) (by kernel_rfl) (by kernel_rfl) (fun c a w h => hP c a _ _ w h) (hS.part (.cons _ (.cons_cons _ (.cons_cons _ .slnil))) ⟨⟨0, rfl⟩, ⟨⟨1, rfl⟩, ⟨⟨2, rfl⟩, ⟨⟨3, rfl⟩, ⟨⟨4, rfl⟩, ⟨⟨5, rfl⟩, ⟨⟨6, rfl⟩, trivial⟩⟩⟩⟩⟩⟩⟩ .slnil) (fun w1 hS => does_load1 hS is1_4 rfl 1 rfl rfl) ?_
      intro a hA
      refine any_take hA 2 rfl rfl rfl rfl (by kernel_rfl) (by kernel_rfl) (by kernel_rfl) (fun c a w h => hP c a _ _ w h) (hS.part (.cons _ (.cons_cons _ (.cons_cons _ .slnil))) ⟨⟨0, rfl⟩, ⟨⟨1, rfl⟩, ⟨⟨2, rfl⟩, ⟨⟨3, rfl⟩, ⟨⟨4, rfl⟩, ⟨⟨5, rfl⟩, ⟨⟨6, rfl⟩, trivial⟩⟩⟩⟩⟩⟩⟩ .slnil) (fun w1 hS => does_move rfl) ?_
      intro a hA
      refine any_take hA 3 rfl rfl rfl rfl (by kernel_rfl) (by kernel_rfl) (by kernel_rfl) (fun c a w h => hP c a _ _ w h) (hS.part (.cons _ (.cons_cons _ (.cons_cons _ .slnil))) ⟨⟨0, rfl⟩, ⟨⟨1, rfl⟩, ⟨⟨2, rfl⟩, ⟨⟨3, rfl⟩, ⟨⟨4, rfl⟩, ⟨⟨5, rfl⟩, ⟨⟨6, rfl⟩, trivial⟩⟩⟩⟩⟩⟩⟩ .slnil) (fun w1 hS => does_move rfl) ?_
      intro a hA
      refine any_take hA 5 rfl rfl rfl rfl (by kernel_rfl) (by kernel_rfl) (by kernel_rfl) (fun c a w h => hP c a _ _ w h) (hS.part (.cons _ (.cons_cons _ (.cons_cons _ .slnil))) ⟨⟨0, rfl⟩, ⟨⟨1, rfl⟩, ⟨⟨2, rfl⟩, ⟨⟨3, rfl⟩, ⟨⟨4, rfl⟩, ⟨⟨5, rfl⟩, ⟨⟨6, rfl⟩, trivial⟩⟩⟩⟩⟩⟩⟩ .slnil) (fun w1 hS => does_move rfl) ?_
      intro a hA
      refine any_one (by kernel_rfl) (op_call hA 4 rfl rfl rfl rfl (enters_func  rfl rfl (fun w => by kernel_rfl)) (rless_any _ _ (hS.rd 2 rfl) (hS.rd 1 rfl) (by omega) (by omega)) ?_)
      rintro _ w37 ⟨ro33, rc34, rfl, ho35, hb36⟩
      replace hS := hS.call hb36
      replace hS := hS.addR ho35.rd
      refine ⟨_, rfl, (hS.part (.cons _ (.cons_cons _ (.cons_cons _ .slnil))) ⟨⟨1, rfl⟩, ⟨⟨2, rfl⟩, ⟨⟨3, rfl⟩, ⟨⟨4, rfl⟩, ⟨⟨5, rfl⟩, ⟨⟨6, rfl⟩, ⟨⟨7, rfl⟩, trivial⟩⟩⟩⟩⟩⟩⟩ .slnil), ?_⟩
      intro a hA
      refine any_one (by kernel_rfl) (op_call hA 6 rfl rfl rfl rfl (enters_func  rfl rfl (fun w => by kernel_rfl)) (rratI_any false ⟨(hS.rd 0 rfl), ho35.nocap, ho35.caps⟩ ⟨(hS.rd 1 rfl), ho22.nocap, ho22.caps⟩ (by omega) (by omega) hd0 (z := Z) (hzD1 (of_decide_eq_true hb29))) ?_)
      rintro _ w42 ⟨f38_1, f38_c1, f38_2, f38_c2, rfl, hs39, hs40, hb41⟩
      replace hS := hS.call hb41
      replace hS := hS.addR hs39.rd
      replace hS := hS.addR hs40.rd
      refine ⟨_, rfl, (hS.part (.cons _ (.cons_cons _ (.cons_cons _ .slnil))) ⟨⟨3, rfl⟩, ⟨⟨4, rfl⟩, ⟨⟨5, rfl⟩, ⟨⟨6, rfl⟩, ⟨⟨7, rfl⟩, ⟨⟨8, rfl⟩, ⟨⟨9, rfl⟩, trivial⟩⟩⟩⟩⟩⟩⟩ .slnil), ?_⟩
      intro a hA
      refine any_one (by kernel_rfl) (op_store (us := [.bool (rb Z), .slice f38_1 ((words (rt Z (y1 * y2))).length) f38_c1, .slice f38_2 ((words (rq Z (y1 * y2))).length) f38_c2]) hA hS 7 rfl rfl rfl (sets_store (cs := [.bool (rb Z), .slice f38_1 ((words (rt Z (y1 * y2))).length) f38_c1, .slice f38_2 ((words (rq Z (y1 * y2))).length) f38_c2]) rfl rfl rfl (by kernel_rfl) hS 0 rfl rfl rfl) 0 rfl rfl rfl rfl ?_)
      intro w43 hS
      refine ⟨(hS.part (.cons _ (.cons_cons _ (.cons_cons _ .slnil))) ⟨⟨3, rfl⟩, ⟨⟨4, rfl⟩, ⟨⟨5, rfl⟩, ⟨⟨6, rfl⟩, ⟨⟨7, rfl⟩, ⟨⟨8, rfl⟩, ⟨⟨9, rfl⟩, trivial⟩⟩⟩⟩⟩⟩⟩ .slnil), ?_⟩
      refine any_end (by kernel_rfl) ?_
      refine hK32 _ _ ?_
      refine wp_ret ?_
      refine hret _ _ ?_
      refine ends (v := .agg #[.bool (rb Z), .slice f38_1 ((words (rt Z (y1 * y2))).length) f38_c1, .slice f38_2 ((words (rq Z (y1 * y2))).length) f38_c2]) hA rfl (.cons (res_cell hS isS_24 rfl 0 rfl (cs := [.bool (rb Z), .slice f38_1 ((words (rt Z (y1 * y2))).length) f38_c1, .slice f38_2 ((words (rq Z (y1 * y2))).length) f38_c2]) rfl rfl) .nil) rfl ?_
      exact ⟨f38_1, f38_c1, f38_2, f38_c2, rfl, ⟨(hS.rd 1 rfl), hs39.nil, hs39.cap⟩, ⟨(hS.rd 0 rfl), hs40.nil, hs40.cap⟩, hS.bel⟩
    · have hb29' := of_decide_eq_false hb29
      refine seq_call hA rfl rfl rfl (enters_func  rfl rfl (fun w => by kernel_rfl)) (rorder_any _ _ (hS.rd 2 rfl) (hS.rd 1 rfl) (by omega) (by omega)) ?_
      rintro _ w45 ⟨rfl, hb44⟩
      replace hS := hS.call hb44
      refine ⟨_, rfl, ?_⟩
      intro a hA
      refine seq_do (v := .bool false) hA rfl rfl rfl (does_bin rfl rfl (fun w => (bin_geq w).trans (by rw [show (decide (0 ≤ cmpN (x1 * y2) (x2 * y1))) = false from (by have h9 := of_decide_eq_false hb29; apply decide_eq_false; unfold cmpN; split <;> (try split) <;> omega)]))) ?_
      intro a hA
      refine seq_end ?_
      refine hK28 _ _ ?_
      refine wp_cond_false (hA.ev rfl) ?_
      refine wp_skip ?_
      refine hK27 _ _ ?_
      refine wp_seq_k (fun K46 hK46 => ?_)
      refine wp_draw (S := fun w1 => St w w1 [(g4, [.bool true, .slice u1 ((words x2).length) uc1, .slice u2 ((words y2).length) uc2]), (g2, [.bool false, .slice a1 ((words x1).length) ac1, .slice a2 ((words y1).length) ac2])] [(ro20, words (y1 * y2)), (ro14, words (x2 * y1)), (ro9, words (x1 * y2)), (u2, words y2), (u1, words x2), (a2, words y1), (a1, words x1)] []) (by kernel_rfl) ?_
      replace hS := hS.drew
      refine any_take (v := .pointer (some ⟨g4, 0, none⟩)) hA 0 rfl rfl rfl rfl (by kernel_rfl) (by kernel_rfl) (by kernel_rfl) (fun c a w h => hP c a _ _ w h) (hS.part (.cons _ (.cons_cons _ (.cons_cons _ .slnil))) ⟨⟨0, rfl⟩, ⟨⟨1, rfl⟩, ⟨⟨2, rfl⟩, ⟨⟨3, rfl⟩, ⟨⟨4, rfl⟩, ⟨⟨5, rfl⟩, ⟨⟨6, rfl⟩, trivial⟩⟩⟩⟩⟩⟩⟩ .slnil) (fun w1 hS => does_field fld_24_0 rfl rfl) ?_
      intro a hA
      refine any_take hA 1 rfl rfl rfl rfl (by kernel_rfl) (by kernel_rfl) (by kernel_rfl) (fun c a w h => hP c a _ _ w h) (hS.part (.cons _ (.cons_cons _ (.cons_cons _ .slnil))) ⟨⟨0, rfl⟩, ⟨⟨1, rfl⟩, ⟨⟨2, rfl⟩, ⟨⟨3, rfl⟩, ⟨⟨4, rfl⟩, ⟨⟨5, rfl⟩, ⟨⟨6, rfl⟩, trivial⟩⟩⟩⟩⟩⟩⟩ .slnil) (fun w1 hS => does_load1 hS is1_4 rfl 0 rfl rfl) ?_
      intro a hA
      refine any_take hA 2 rfl rfl rfl rfl (by kernel_rfl) (by kernel_rfl) (by kernel_rfl) (fun c a w h => hP c a _ _ w h) (hS.part (.cons _ (.cons_cons _ (.cons_cons _ .slnil))) ⟨⟨0, rfl⟩, ⟨⟨1, rfl⟩, ⟨⟨2, rfl⟩, ⟨⟨3, rfl⟩, ⟨⟨4, rfl⟩, ⟨⟨5, rfl⟩, ⟨⟨6, rfl⟩, trivial⟩⟩⟩⟩⟩⟩⟩ .slnil) (fun w1 hS => does_move rfl) ?_
      intro a hA
      refine any_take hA 3 rfl rfl rfl rfl (by kernel_rfl) (by kernel_rfl) (by kernel_rfl) (fun c a w h => hP c a _ _ w h) (hS.part (.cons _ (.cons_cons _ (.cons_cons _ .slnil))) ⟨⟨0, rfl⟩, ⟨⟨1, rfl⟩, ⟨⟨2, rfl⟩, ⟨⟨3, rfl⟩, ⟨⟨4, rfl⟩, ⟨⟨5, rfl⟩, ⟨⟨6, rfl⟩, trivial⟩⟩⟩⟩⟩⟩⟩ .slnil) (fun w1 hS => does_move rfl) ?_
      intro a hA
      refine any_take hA 5 rfl rfl rfl rfl (by kernel_rfl) (by kernel_rfl) (by kernel_rfl) (fun c a w h => hP c a _ _ w h) (hS.part (.cons _ (.cons_cons _ (.cons_cons _ .slnil))) ⟨⟨0, rfl⟩, ⟨⟨1, rfl⟩, ⟨⟨2, rfl⟩, ⟨⟨3, rfl⟩, ⟨⟨4, rfl⟩, ⟨⟨5, rfl⟩, ⟨⟨6, rfl⟩, trivial⟩⟩⟩⟩⟩⟩⟩ .slnil) (fun w1 hS => does_move rfl) ?_
      intro a hA
      refine any_one (by kernel_rfl) (op_call hA 4 rfl rfl rfl rfl (enters_func  rfl rfl (fun w => by kernel_rfl)) (rless_any _ _ (hS.rd 1 rfl) (hS.rd 2 rfl) (by omega) (by omega)) ?_)
      rintro _ w51 ⟨ro47, rc48, rfl, ho49, hb50⟩
      replace hS := hS.call hb50
      replace hS := hS.addR ho49.rd
      refine ⟨_, rfl, (hS.part (.cons _ (.cons_cons _ (.cons_cons _ .slnil))) ⟨⟨1, rfl⟩, ⟨⟨2, rfl⟩, ⟨⟨3, rfl⟩, ⟨⟨4, rfl⟩, ⟨⟨5, rfl⟩, ⟨⟨6, rfl⟩, ⟨⟨7, rfl⟩, trivial⟩⟩⟩⟩⟩⟩⟩ .slnil), ?_⟩
      intro a hA
      refine any_one (by kernel_rfl) (op_call hA 6 rfl rfl rfl rfl (enters_func  rfl rfl (fun w => by kernel_rfl)) (rratI_any true ⟨(hS.rd 0 rfl), ho49.nocap, ho49.caps⟩ ⟨(hS.rd 1 rfl), ho22.nocap, ho22.caps⟩ (by omega) (by omega) hd0 (z := Z) (hzD2 (of_decide_eq_false hb29))) ?_)
      rintro _ w56 ⟨f52_1, f52_c1, f52_2, f52_c2, rfl, hs53, hs54, hb55⟩
      replace hS := hS.call hb55
      replace hS := hS.addR hs53.rd
      replace hS := hS.addR hs54.rd
      refine ⟨_, rfl, (hS.part (.cons _ (.cons_cons _ (.cons_cons _ .slnil))) ⟨⟨3, rfl⟩, ⟨⟨4, rfl⟩, ⟨⟨5, rfl⟩, ⟨⟨6, rfl⟩, ⟨⟨7, rfl⟩, ⟨⟨8, rfl⟩, ⟨⟨9, rfl⟩, trivial⟩⟩⟩⟩⟩⟩⟩ .slnil), ?_⟩
      intro a hA
      refine any_one (by kernel_rfl) (op_store (us := [.bool (rb Z), .slice f52_1 ((words (rt Z (y1 * y2))).length) f52_c1, .slice f52_2 ((words (rq Z (y1 * y2))).length) f52_c2]) hA hS 7 rfl rfl rfl (sets_store (cs := [.bool (rb Z), .slice f52_1 ((words (rt Z (y1 * y2))).length) f52_c1, .slice f52_2 ((words (rq Z (y1 * y2))).length) f52_c2]) rfl rfl rfl (by kernel_rfl) hS 0 rfl rfl rfl) 0 rfl rfl rfl rfl ?_)
      intro w57 hS
      refine ⟨(hS.part (.cons _ (.cons_cons _ (.cons_cons _ .slnil))) ⟨⟨3, rfl⟩, ⟨⟨4, rfl⟩, ⟨⟨5, rfl⟩, ⟨⟨6, rfl⟩, ⟨⟨7, rfl⟩, ⟨⟨8, rfl⟩, ⟨⟨9, rfl⟩, trivial⟩⟩⟩⟩⟩⟩⟩ .slnil), ?_⟩
      refine any_end (by kernel_rfl) ?_
      refine hK46 _ _ ?_
      refine wp_ret ?_
      refine hret _ _ ?_
      refine ends (v := .agg #[.bool (rb Z), .slice f52_1 ((words (rt Z (y1 * y2))).length) f52_c1, .slice f52_2 ((words (rq Z (y1 * y2))).length) f52_c2]) hA rfl (.cons (res_cell hS isS_24 rfl 0 rfl (cs := [.bool (rb Z), .slice f52_1 ((words (rt Z (y1 * y2))).length) f52_c1, .slice f52_2 ((words (rq Z (y1 * y2))).length) f52_c2]) rfl rfl) .nil) rfl ?_
      exact ⟨f52_1, f52_c1, f52_2, f52_c2, rfl, ⟨(hS.rd 1 rfl), hs53.nil, hs53.cap⟩, ⟨(hS.rd 0 rfl), hs54.nil, hs54.cap⟩, hS.bel⟩
  · have hzD1 : x2 * y1 ≤ x1 * y2 → Z = sgn true (x1 * y2 - x2 * y1) := fun h => by rw [← hZ]; exact sum_more true h
    have hzD2 : ¬ x2 * y1 ≤ x1 * y2 → Z = sgn false (x2 * y1 - x1 * y2) := fun h => by rw [← hZ, Int.add_comm]; exact sum_more false (by omega)
    have hS : St w w [] [(u2, words y2), (u1, words x2), (a2, words y1), (a1, words x1)] [] := ((((St.start w).addR ha1.rd).addR ha2.rd).addR hu1.rd).addR hu2.rd
    refine walk_of (l := [(0, .agg #[.bool true, .slice a1 ((words x1).length) ac1, .slice a2 ((words y1).length) ac2]), (1, .agg #[.bool false, .slice u1 ((words x2).length) uc1, .slice u2 ((words y2).length) uc2])]) Try.func57 rfl Try.ntmps57 rfl rfl ?_
    intro Q hret hnorm hP a hA
    refine wp_seq_k (fun K1 hK1 => ?_)
    refine wp_region_lit ?_
    refine seq_new (vs := [.bool true, .slice a1 ((words x1).length) ac1, .slice a2 ((words y1).length) ac2]) (t := 24) hA hS rfl rfl rfl (fun g => .pointer (some ⟨g, 0, none⟩)) (does_box rfl rfl) rfl ?_
    intro g2 w3 hS a hA
    refine seq_new (vs := [.bool false, .slice u1 ((words x2).length) uc1, .slice u2 ((words y2).length) uc2]) (t := 24) hA hS rfl rfl rfl (fun g => .pointer (some ⟨g, 0, none⟩)) (does_box rfl rfl) rfl ?_
    intro g4 w5 hS a hA
    refine seq_new (vs := [.bool false, .slice none 0 0, .slice none 0 0]) (t := 24) hA hS rfl rfl rfl (fun g => .pointer (some ⟨g, 0, none⟩)) (does_alloc (z := .agg #[.bool false, .slice none 0 0, .slice none 0 0]) (by kernel_rfl) rfl) rfl ?_
    intro g6 w7 hS a hA
    refine seq_end ?_
    refine hK1 _ _ ?_
    refine wp_seq_k (fun K8 hK8 => ?_)
    refine wp_draw (S := fun w1 => St w w1 [(g6, [.bool false, .slice none 0 0, .slice none 0 0]), (g4, [.bool false, .slice u1 ((words x2).length) uc1, .slice u2 ((words y2).length) uc2]), (g2, [.bool true, .slice a1 ((words x1).length) ac1, .slice a2 ((words y1).length) ac2])] [(u2, words y2), (u1, words x2), (a2, words y1), (a1, words x1)] []) (by kernel_rfl) ?_
    replace hS := hS.drew
    refine any_take (v := .pointer (some ⟨g2, 1, none⟩)) hA 0 rfl rfl rfl rfl (by kernel_rfl) (by kernel_rfl) (by kernel_rfl) (fun c a w h => hP c a _ _ w h) (hS.part (.cons_cons _ (.cons_cons _ (.cons_cons _ .slnil))) ⟨⟨0, rfl⟩, ⟨⟨1, rfl⟩, ⟨⟨2, rfl⟩, ⟨⟨3, rfl⟩, trivial⟩⟩⟩⟩ .slnil) (fun w1 hS => does_field fld_24_1 rfl rfl) ?_
    intro a hA
    refine any_take hA 1 rfl rfl rfl rfl (by kernel_rfl) (by kernel_rfl) (by kernel_rfl) (fun c a w h => hP c a _ _ w h) (hS.part (.cons_cons _ (.cons_cons _ (.cons_cons _ .slnil))) ⟨⟨0, rfl⟩, ⟨⟨1, rfl⟩, ⟨⟨2, rfl⟩, ⟨⟨3, rfl⟩, trivial⟩⟩⟩⟩ .slnil) (fun w1 hS => does_load1 hS is1_22 rfl 2 rfl rfl) ?_
    intro a hA
    refine any_take (v := .pointer (some ⟨g4, 2, none⟩)) hA 2 rfl rfl rfl rfl (by kernel_rfl) (by kernel_rfl) (by kernel_rfl) (fun c a w h => hP c a _ _ w h) (hS.part (.cons_cons _ (.cons_cons _ (.cons_cons _ .slnil))) ⟨⟨0, rfl⟩, ⟨⟨1, rfl⟩, ⟨⟨2, rfl⟩, ⟨⟨3, rfl⟩, trivial⟩⟩⟩⟩ .slnil) (fun w1 hS => does_field fld_24_2 rfl rfl) ?_
    intro a hA
    refine any_take hA 3 rfl rfl rfl rfl (by kernel_rfl) (by kernel_rfl) (by kernel_rfl) (fun c a w h => hP c a _ _ w h) (hS.part (.cons_cons _ (.cons_cons _ (.cons_cons _ .slnil))) ⟨⟨0, rfl⟩, ⟨⟨1, rfl⟩, ⟨⟨2, rfl⟩, ⟨⟨3, rfl⟩, trivial⟩⟩⟩⟩ .slnil) (fun w1 hS => does_load1 hS is1_22 rfl 1 rfl rfl) ?_
    intro a hA
    refine any_take (v := .pointer (some ⟨g4, 1, none⟩)) hA 5 rfl rfl rfl rfl (by kernel_rfl) (by kernel_rfl) (by kernel_rfl) (fun c a w h => hP c a _ _ w h) (hS.part (.cons_cons _ (.cons_cons _ (.cons_cons _ .slnil))) ⟨⟨0, rfl⟩, ⟨⟨1, rfl⟩, ⟨⟨2, rfl⟩, ⟨⟨3, rfl⟩, trivial⟩⟩⟩⟩ .slnil) (fun w1 hS => does_field fld_24_1 rfl rfl) ?_
    intro a hA
    refine any_take hA 6 rfl rfl rfl rfl (by kernel_rfl) (by kernel_rfl) (by kernel_rfl) (fun c a w h => hP c a _ _ w h) (hS.part (.cons_cons _ (.cons_cons _ (.cons_cons _ .slnil))) ⟨⟨0, rfl⟩, ⟨⟨1, rfl⟩, ⟨⟨2, rfl⟩, ⟨⟨3, rfl⟩, trivial⟩⟩⟩⟩ .slnil) (fun w1 hS => does_load1 hS is1_22 rfl 1 rfl rfl) ?_
    intro a hA
    refine any_take (v := .pointer (some ⟨g2, 2, none⟩)) hA 7 rfl rfl rfl rfl (by kernel_rfl) (by kernel_rfl) (by kernel_rfl) (fun c a w h => hP c a _ _ w h) (hS.part (.cons_cons _ (.cons_cons _ (.cons_cons _ .slnil))) ⟨⟨0, rfl⟩, ⟨⟨1, rfl⟩, ⟨⟨2, rfl⟩, ⟨⟨3, rfl⟩, trivial⟩⟩⟩⟩ .slnil) (fun w1 hS => does_field fld_24_2 rfl rfl) ?_
    intro a hA
    refine any_take hA 8 rfl rfl rfl rfl (by kernel_rfl) (by kernel_rfl) (by kernel_rfl) (fun c a w h => hP c a _ _ w h) (hS.part (.cons_cons _ (.cons_cons _ (.cons_cons _ .slnil))) ⟨⟨0, rfl⟩, ⟨⟨1, rfl⟩, ⟨⟨2, rfl⟩, ⟨⟨3, rfl⟩, trivial⟩⟩⟩⟩ .slnil) (fun w1 hS => does_load1 hS is1_22 rfl 2 rfl rfl) ?_
    intro a hA
    refine any_one (by kernel_rfl) (op_call hA 4 rfl rfl rfl rfl (enters_func  rfl rfl (fun w => by kernel_rfl)) (rtimes_any _ _ (hS.rd 3 rfl) (hS.rd 0 rfl) (by omega) (by omega)) ?_)
    rintro _ w13 ⟨ro9, rc10, rfl, ho11, hb12⟩
    replace hS := hS.call hb12
    replace hS := hS.addR ho11.rd
    refine ⟨_, rfl, (hS.part (.cons_cons _ (.cons_cons _ (.cons_cons _ .slnil))) ⟨⟨1, rfl⟩, ⟨⟨2, rfl⟩, ⟨⟨3, rfl⟩, ⟨⟨4, rfl⟩, trivial⟩⟩⟩⟩ .slnil), ?_⟩
    intro a hA
    refine any_one (by kernel_rfl) (op_call hA 9 rfl rfl rfl rfl (enters_func  rfl rfl (fun w => by kernel_rfl)) (rtimes_any _ _ (hS.rd 2 rfl) (hS.rd 3 rfl) (by omega) (by omega)) ?_)
    rintro _ w18 ⟨ro14, rc15, rfl, ho16, hb17⟩
    replace hS := hS.call hb17
    replace hS := hS.addR ho16.rd
    refine ⟨_, rfl, (hS.part (.cons_cons _ (.cons_cons _ (.cons_cons _ .slnil))) ⟨⟨2, rfl⟩, ⟨⟨3, rfl⟩, ⟨⟨4, rfl⟩, ⟨⟨5, rfl⟩, trivial⟩⟩⟩⟩ .slnil), ?_⟩
    intro a hA
    refine any_take hA 10 rfl rfl rfl rfl (by kernel_rfl) (by kernel_rfl) (by kernel_rfl) (fun c a w h => hP c a _ _ w h) (hS.part (.cons_cons _ (.cons_cons _ (.cons_cons _ .slnil))) ⟨⟨2, rfl⟩, ⟨⟨3, rfl⟩, ⟨⟨4, rfl⟩, ⟨⟨5, rfl⟩, trivial⟩⟩⟩⟩ .slnil) (fun w1 hS => does_assign rfl) ?_
    intro a hA
    refine any_take hA 11 rfl rfl rfl rfl (by kernel_rfl) (by kernel_rfl) (by kernel_rfl) (fun c a w h => hP c a _ _ w h) (hS.part (.cons_cons _ (.cons_cons _ (.cons_cons _ .slnil))) ⟨⟨2, rfl⟩, ⟨⟨3, rfl⟩, ⟨⟨4, rfl⟩, ⟨⟨5, rfl⟩, trivial⟩⟩⟩⟩ .slnil) (fun w1 hS => does_assign rfl) ?_
    intro a hA
    refine any_end (by kernel_rfl) ?_
    refine hK8 _ _ ?_
    refine wp_seq_k (fun K19 hK19 => ?_)
    refine wp_region_lit ?_
    refine seq_do (v := .pointer (some ⟨g2, 2, none⟩)) hA rfl rfl rfl (does_field fld_24_2 rfl rfl) ?_
    intro a hA
    refine seq_do hA rfl rfl rfl (does_load1 hS is1_22 rfl 2 rfl rfl) ?_
    intro a hA
    refine seq_do (v := .pointer (some ⟨g4, 2, none⟩)) hA rfl rfl rfl (does_field fld_24_2 rfl rfl) ?_
    intro a hA
    refine seq_do hA rfl rfl rfl (does_load1 hS is1_22 rfl 1 rfl rfl) ?_
    intro a hA
    refine seq_call hA rfl rfl rfl (enters_func  rfl rfl (fun w => by kernel_rfl)) (rtimes_any _ _ (hS.rd 4 rfl) (hS.rd 2 rfl) (by omega) (by omega)) ?_
    rintro _ w24 ⟨ro20, rc21, rfl, ho22, hb23⟩
    replace hS := hS.call hb23
    replace hS := hS.addR ho22.rd
    refine ⟨_, rfl, ?_⟩
    intro a hA
    refine seq_do hA rfl rfl rfl (does_assign rfl) ?_
    intro a hA
    refine seq_end ?_
    refine hK19 _ _ ?_
    refine wp_seq_k (fun K25 hK25 => ?_)
    refine wp_seq_k (fun K26 hK26 => ?_)
    refine wp_region_lit ?_
    refine seq_do (v := .pointer (some ⟨g2, 0, none⟩)) hA rfl rfl rfl (does_field fld_24_0 rfl rfl) ?_
    intro a hA
    refine seq_do hA rfl rfl rfl (does_load1 hS is1_4 rfl 2 rfl rfl) ?_
    intro a hA
    refine seq_do (v := .pointer (some ⟨g4, 0, none⟩)) hA rfl rfl rfl (does_field fld_24_0 rfl rfl) ?_
    intro a hA
    refine seq_do hA rfl rfl rfl (does_load1 hS is1_4 rfl 1 rfl rfl) ?_
    intro a hA
    refine seq_do (v := .bool false) hA rfl rfl rfl (does_bin rfl rfl (bin_eqlB Try.underlying4)) ?_
    intro a hA
    refine seq_end ?_
    refine hK26 _ _ ?_
    refine wp_cond_false (hA.ev rfl) ?_
    refine wp_skip ?_
    refine hK25 _ _ ?_
    refine wp_seq_k (fun K27 hK27 => ?_)
    refine wp_seq_k (fun K28 hK28 => ?_)
    refine wp_region_lit ?_
    refine seq_do hA rfl rfl rfl (does_move rfl) ?_
    intro a hA
    refine seq_do hA rfl rfl rfl (does_move rfl) ?_
    intro a hA
    rcases Bool.eq_false_or_eq_true (decide (x2 * y1 ≤ x1 * y2)) with hb29 | hb29
    · have hb29' := of_decide_eq_true hb29
      refine seq_call hA rfl rfl rfl (enters_func  rfl rfl (fun w => by kernel_rfl)) (rorder_any _ _ (hS.rd 2 rfl) (hS.rd 1 rfl) (by omega) (by omega)) ?_
      rintro _ w31 ⟨rfl, hb30⟩
      replace hS := hS.call hb30
      refine ⟨_, rfl, ?_⟩
      intro a hA
      refine seq_do (v := .bool true) hA rfl rfl rfl (does_bin rfl rfl (fun w => (bin_geq w).trans (by rw [show (decide (0 ≤ cmpN (x1 * y2) (x2 * y1))) = true from (by have h9 := of_decide_eq_true hb29; apply decide_eq_true; unfold cmpN; split <;> (try split) <;> omega)]))) ?_
      intro a hA
      refine seq_end ?_
      refine hK28 _ _ ?_
      refine wp_cond_true (hA.ev rfl) ?_
      refine wp_seq_k (fun K32 hK32 => ?_)
      refine wp_draw (S := fun w1 => St w w1 [(g4, [.bool false, .slice u1 ((words x2).length) uc1, .slice u2 ((words y2).length) uc2]), (g2, [.bool true, .slice a1 ((words x1).length) ac1, .slice a2 ((words y1).length) ac2])] [(ro20, words (y1 * y2)), (ro14, words (x2 * y1)), (ro9, words (x1 * y2)), (u2, words y2), (u1, words x2), (a2, words y1), (a1, words x1)] []) (by kernel_rfl) ?_
      replace hS := hS.drew
      refine any_take (v := .pointer (some ⟨g2, 0, none⟩)) hA 0 rfl rfl rfl rfl (by kernel_rfl) (by kernel_rfl) (by kernel_rfl) (fun c a w h => hP c a _ _ w h) (hS.part (.cons _ (.cons_cons _ (.cons_cons _ .slnil))) ⟨⟨0, rfl⟩, ⟨⟨1, rfl⟩, ⟨⟨2, rfl⟩, ⟨⟨3, rfl⟩, ⟨⟨4, rfl⟩, ⟨⟨5, rfl⟩, ⟨⟨6, rfl⟩, trivial⟩⟩⟩⟩⟩⟩⟩ .slnil) (fun w1 hS => does_field fld_24_0 rfl rfl) ?_
      intro a hA
      refine any_take hA 1 rfl rfl rfl rfl (by kernel_rfl) (by kernel_rfl) (by kernel_rfl) (fun c a w h => hP c a _ _ w h) (hS.part (.cons _ (.cons_cons _ (.cons_cons _ .slnil))) ⟨⟨0, rfl⟩, ⟨⟨1, rfl⟩, ⟨⟨2, rfl⟩, ⟨⟨3, rfl⟩, ⟨⟨4, rfl⟩, ⟨⟨5, rfl⟩, ⟨⟨6, rfl⟩, trivial⟩⟩⟩⟩⟩⟩⟩ .slnil) (fun w1 hS => does_load1 hS is1_4 rfl 1 rfl rfl) ?_
      intro a hA
      refine any_take hA 2 rfl rfl rfl rfl (by kernel_rfl) (by kernel_rfl) (by kernel_rfl) (fun c a w h => hP c a _ _ w h) (hS.part (.cons _ (.cons_cons _ (.cons_cons _ .slnil))) ⟨⟨0, rfl⟩, ⟨⟨1, rfl⟩, ⟨⟨2, rfl⟩, ⟨⟨3, rfl⟩, ⟨⟨4, rfl⟩, ⟨⟨5, rfl⟩, ⟨⟨6, rfl⟩, trivial⟩⟩⟩⟩⟩⟩⟩ .slnil) (fun w1 hS => does_move rfl) ?_
      intro a hA
      refine any_take hA 3 rfl rfl rfl rfl (by kernel_rfl) (by kernel_rfl) (by kernel_rfl) (fun c a w h => hP c a _ _ w h) (hS.part (.cons _ (.cons_cons _ (.cons_cons _ .slnil))) ⟨⟨0, rfl⟩, ⟨⟨1, rfl⟩, ⟨⟨2, rfl⟩, ⟨⟨3, rfl⟩, ⟨⟨4, rfl⟩, ⟨⟨5, rfl⟩, ⟨⟨6, rfl⟩, trivial⟩⟩⟩⟩⟩⟩⟩ .slnil) (fun w1 hS => does_move rfl) ?_
      intro a hA
      refine any_take hA 5 rfl rfl rfl rfl (by kernel_rfl) (by kernel_rfl) (by kernel_rfl) (fun c a w h => hP c a _ _ w h) (hS.part (.cons _ (.cons_cons _ (.cons_cons _ .slnil))) ⟨⟨0, rfl⟩, ⟨⟨1, rfl⟩, ⟨⟨2, rfl⟩, ⟨⟨3, rfl⟩, ⟨⟨4, rfl⟩, ⟨⟨5, rfl⟩, ⟨⟨6, rfl⟩, trivial⟩⟩⟩⟩⟩⟩⟩ .slnil) (fun w1 hS => does_move rfl) ?_
      intro a hA
      refine any_one (by kernel_rfl) (op_call hA 4 rfl rfl rfl rfl (enters_func  rfl rfl (fun w => by kernel_rfl)) (rless_any _ _ (hS.rd 2 rfl) (hS.rd 1 rfl) (by omega) (by omega)) ?_)
      rintro _ w37 ⟨ro33, rc34, rfl, ho35, hb36⟩
      replace hS := hS.call hb36
      replace hS := hS.addR ho35.rd
      refine ⟨_, rfl, (hS.part (.cons _ (.cons_cons _ (.cons_cons _ .slnil))) ⟨⟨1, rfl⟩, ⟨⟨2, rfl⟩, ⟨⟨3, rfl⟩, ⟨⟨4, rfl⟩, ⟨⟨5, rfl⟩, ⟨⟨6, rfl⟩, ⟨⟨7, rfl⟩, trivial⟩⟩⟩⟩⟩⟩⟩ .slnil), ?_⟩
      intro a hA
      refine any_one (by kernel_rfl) (op_call hA 6 rfl rfl rfl rfl (enters_func  rfl rfl (fun w => by kernel_rfl)) (rratI_any true ⟨(hS.rd 0 rfl), ho35.nocap, ho35.caps⟩ ⟨(hS.rd 1 rfl), ho22.nocap, ho22.caps⟩ (by omega) (by omega) hd0 (z := Z) (hzD1 (of_decide_eq_true hb29))) ?_)
      rintro _ w42 ⟨f38_1, f38_c1, f38_2, f38_c2, rfl, hs39, hs40, hb41⟩
      replace hS := hS.call hb41
      replace hS := hS.addR hs39.rd
      replace hS := hS.addR hs40.rd
      refine ⟨_, rfl, (hS.part (.cons _ (.cons_cons _ (.cons_cons _ .slnil))) ⟨⟨3, rfl⟩, ⟨⟨4, rfl⟩, ⟨⟨5, rfl⟩, ⟨⟨6, rfl⟩, ⟨⟨7, rfl⟩, ⟨⟨8, rfl⟩, ⟨⟨9, rfl⟩, trivial⟩⟩⟩⟩⟩⟩⟩ .slnil), ?_⟩
      intro a hA
      refine any_one (by kernel_rfl) (op_store (us := [.bool (rb Z), .slice f38_1 ((words (rt Z (y1 * y2))).length) f38_c1, .slice f38_2 ((words (rq Z (y1 * y2))).length) f38_c2]) hA hS 7 rfl rfl rfl (sets_store (cs := [.bool (rb Z), .slice f38_1 ((words (rt Z (y1 * y2))).length) f38_c1, .slice f38_2 ((words (rq Z (y1 * y2))).length) f38_c2]) rfl rfl rfl (by kernel_rfl) hS 0 rfl rfl rfl) 0 rfl rfl rfl rfl ?_)
      intro w43 hS
      refine ⟨(hS.part (.cons _ (.cons_cons _ (.cons_cons _ .slnil))) ⟨⟨3, rfl⟩, ⟨⟨4, rfl⟩, ⟨⟨5, rfl⟩, ⟨⟨6, rfl⟩, ⟨⟨7, rfl⟩, ⟨⟨8, rfl⟩, ⟨⟨9, rfl⟩, trivial⟩⟩⟩⟩⟩⟩⟩ .slnil), ?_⟩
      refine any_end (by kernel_rfl) ?_
      refine hK32 _ _ ?_
      refine wp_ret ?_
      refine hret _ _ ?_
      refine ends (v := .agg #[.bool (rb Z), .slice f38_1 ((words (rt Z (y1 * y2))).length) f38_c1, .slice f38_2 ((words (rq Z (y1 * y2))).length) f38_c2]) hA rfl (.cons (res_cell hS isS_24 rfl 0 rfl (cs := [.bool (rb Z), .slice f38_1 ((words (rt Z (y1 * y2))).length) f38_c1, .slice f38_2 ((words (rq Z (y1 * y2))).length) f38_c2]) rfl rfl) .nil) rfl ?_
      exact ⟨f38_1, f38_c1, f38_2, f38_c2, rfl, ⟨(hS.rd 1 rfl), hs39.nil, hs39.cap⟩, ⟨(hS.rd 0 rfl), hs40.nil, hs40.cap⟩, hS.bel⟩
    · have hb29' := of_decide_eq_false hb29
      refine seq_call hA rfl rfl rfl (enters_func  rfl rfl (fun w => by kernel_rfl)) (rorder_any _ _ (hS.rd 2 rfl) (hS.rd 1 rfl) (by omega) (by omega)) ?_
      rintro _ w45 ⟨rfl, hb44⟩
      replace hS := hS.call hb44
      refine ⟨_, rfl, ?_⟩
      intro a hA
      refine seq_do (v := .bool false) hA rfl rfl rfl (does_bin rfl rfl (fun w => (bin_geq w).trans (by rw [show (decide (0 ≤ cmpN (x1 * y2) (x2 * y1))) = false from (by have h9 := of_decide_eq_false hb29; apply decide_eq_false; unfold cmpN; split <;> (try split) <;> omega)]))) ?_
      intro a hA
      refine seq_end ?_
      refine hK28 _ _ ?_
      refine wp_cond_false (hA.ev rfl) ?_
      refine wp_skip ?_
      refine hK27 _ _ ?_
      refine wp_seq_k (fun K46 hK46 => ?_)
      refine wp_draw (S := fun w1 => St w w1 [(g4, [.bool false, .slice u1 ((words x2).length) uc1, .slice u2 ((words y2).length) uc2]), (g2, [.bool true, .slice a1 ((words x1).length) ac1, .slice a2 ((words y1).length) ac2])] [(ro20, words (y1 * y2)), (ro14, words (x2 * y1)), (ro9, words (x1 * y2)), (u2, words y2), (u1, words x2), (a2, words y1), (a1, words x1)] []) (by kernel_rfl) ?_
      replace hS := hS.drew
      refine any_take (v := .pointer (some ⟨g4, 0, none⟩)) hA 0 rfl rfl rfl rfl (by kernel_rfl) (by kernel_rfl) (by kernel_rfl) (fun c a w h => hP c a _ _ w h) (hS.part (.cons _ (.cons_cons _ (.cons_cons _ .slnil))) ⟨⟨0, rfl⟩, ⟨⟨1, rfl⟩, ⟨⟨2, rfl⟩, ⟨⟨3, rfl⟩, ⟨⟨4, rfl⟩, ⟨⟨5, rfl⟩, ⟨⟨6, rfl⟩, trivial⟩⟩⟩⟩⟩⟩⟩ .slnil) (fun w1 hS => does_field fld_24_0 rfl rfl) ?_
      intro a hA
      refine any_take hA 1 rfl rfl rfl rfl (by kernel_rfl) (by kernel_rfl) (by kernel_rfl) (fun c a w h => hP c a _ _ w h) (hS.part (.cons _ (.cons_cons _ (.cons_cons _ .slnil))) ⟨⟨0, rfl⟩, ⟨⟨1, rfl⟩, ⟨⟨2, rfl⟩, ⟨⟨3, rfl⟩, ⟨⟨4, rfl⟩, ⟨⟨5, rfl⟩, ⟨⟨6, rfl⟩, trivial⟩⟩⟩⟩⟩⟩⟩ .slnil) (fun w1 hS => does_load1 hS is1_4 rfl 0 rfl rfl) ?_
      intro a hA
      refine any_take hA 2 rfl rfl rfl rfl (by kernel_rfl) (by kernel_rfl) (by kernel_rfl) (fun c a w h => hP c a _ _ w h) (hS.part (.cons _ (.cons_cons _ (.cons_cons _ .slnil))) ⟨⟨0, rfl⟩, ⟨⟨1, rfl⟩, ⟨⟨2, rfl⟩, ⟨⟨3, rfl⟩, ⟨⟨4, rfl⟩, ⟨⟨5, rfl⟩, ⟨⟨6, rfl⟩, trivial⟩⟩⟩⟩⟩⟩⟩ .slnil) (fun w1 hS => does_move rfl) ?_
      intro a hA
      refine any_take hA 3 rfl rfl rfl rfl (by kernel_rfl) (by kernel_rfl) (by kernel_rfl) (fun c a w h => hP c a _ _ w h) (hS.part (.cons _ (.cons_cons _ (.cons_cons _ .slnil))) ⟨⟨0, rfl⟩, ⟨⟨1, rfl⟩, ⟨⟨2, rfl⟩, ⟨⟨3, rfl⟩, ⟨⟨4, rfl⟩, ⟨⟨5, rfl⟩, ⟨⟨6, rfl⟩, trivial⟩⟩⟩⟩⟩⟩⟩ .slnil) (fun w1 hS => does_move rfl) ?_
      intro a hA
      refine any_take hA 5 rfl rfl rfl rfl (by kernel_rfl) (by kernel_rfl) (by kernel_rfl) (fun c a w h => hP c a _ _ w h) (hS.part (.cons _ (.cons_cons _ (.cons_cons _ .slnil))) ⟨⟨0, rfl⟩, ⟨⟨1, rfl⟩, ⟨⟨2, rfl⟩, ⟨⟨3, rfl⟩, ⟨⟨4, rfl⟩, ⟨⟨5, rfl⟩, ⟨⟨6, rfl⟩, trivial⟩⟩⟩⟩⟩⟩⟩ .slnil) (fun w1 hS => does_move rfl) ?_
      intro a hA
      refine any_one (by kernel_rfl) (op_call hA 4 rfl rfl rfl rfl (enters_func  rfl rfl (fun w => by kernel_rfl)) (rless_any _ _ (hS.rd 1 rfl) (hS.rd 2 rfl) (by omega) (by omega)) ?_)
      rintro _ w51 ⟨ro47, rc48, rfl, ho49, hb50⟩
      replace hS := hS.call hb50
      replace hS := hS.addR ho49.rd
      refine ⟨_, rfl, (hS.part (.cons _ (.cons_cons _ (.cons_cons _ .slnil))) ⟨⟨1, rfl⟩, ⟨⟨2, rfl⟩, ⟨⟨3, rfl⟩, ⟨⟨4, rfl⟩, ⟨⟨5, rfl⟩, ⟨⟨6, rfl⟩, ⟨⟨7, rfl⟩, trivial⟩⟩⟩⟩⟩⟩⟩ .slnil), ?_⟩
      intro a hA
      refine any_one (by kernel_rfl) (op_call hA 6 rfl rfl rfl rfl (enters_func  rfl rfl (fun w => by kernel_rfl)) (rratI_any false ⟨(hS.rd 0 rfl), ho49.nocap, ho49.caps⟩ ⟨(hS.rd 1 rfl), ho22.nocap, ho22.caps⟩ (by omega) (by omega) hd0 (z := Z) (hzD2 (of_decide_eq_false hb29))) ?_)
      rintro _ w56 ⟨f52_1, f52_c1, f52_2, f52_c2, rfl, hs53, hs54, hb55⟩
      replace hS := hS.call hb55
      replace hS := hS.addR hs53.rd
      replace hS := hS.addR hs54.rd
      refine ⟨_, rfl, (hS.part (.cons _ (.cons_cons _ (.cons_cons _ .slnil))) ⟨⟨3, rfl⟩, ⟨⟨4, rfl⟩, ⟨⟨5, rfl⟩, ⟨⟨6, rfl⟩, ⟨⟨7, rfl⟩, ⟨⟨8, rfl⟩, ⟨⟨9, rfl⟩, trivial⟩⟩⟩⟩⟩⟩⟩ .slnil), ?_⟩
      intro a hA
      refine any_one (by kernel_rfl) (op_store (us := [.bool (rb Z), .slice f52_1 ((words (rt Z (y1 * y2))).length) f52_c1, .slice f52_2 ((words (rq Z (y1 * y2))).length) f52_c2]) hA hS 7 rfl rfl rfl (sets_store (cs := [.bool (rb Z), .slice f52_1 ((words (rt Z (y1 * y2))).length) f52_c1, .slice f52_2 ((words (rq Z (y1 * y2))).length) f52_c2]) rfl rfl rfl (by kernel_rfl) hS 0 rfl rfl rfl) 0 rfl rfl rfl rfl ?_)
      intro w57 hS
      refine ⟨(hS.part (.cons _ (.cons_cons _ (.cons_cons _ .slnil))) ⟨⟨3, rfl⟩, ⟨⟨4, rfl⟩, ⟨⟨5, rfl⟩, ⟨⟨6, rfl⟩, ⟨⟨7, rfl⟩, ⟨⟨8, rfl⟩, ⟨⟨9, rfl⟩, trivial⟩⟩⟩⟩⟩⟩⟩ .slnil), ?_⟩
      refine any_end (by kernel_rfl) ?_
      refine hK46 _ _ ?_
      refine wp_ret ?_
      refine hret _ _ ?_
      refine ends (v := .agg #[.bool (rb Z), .slice f52_1 ((words (rt Z (y1 * y2))).length) f52_c1, .slice f52_2 ((words (rq Z (y1 * y2))).length) f52_c2]) hA rfl (.cons (res_cell hS isS_24 rfl 0 rfl (cs := [.bool (rb Z), .slice f52_1 ((words (rt Z (y1 * y2))).length) f52_c1, .slice f52_2 ((words (rq Z (y1 * y2))).length) f52_c2]) rfl rfl) .nil) rfl ?_
      exact ⟨f52_1, f52_c1, f52_2, f52_c2, rfl, ⟨(hS.rd 1 rfl), hs53.nil, hs53.cap⟩, ⟨(hS.rd 0 rfl), hs54.nil, hs54.cap⟩, hS.bel⟩
  · have hzS : Z = sgn true (x1 * y2 + x2 * y1) := by rw [← hZ]; exact sum_same true _ _
    have hS : St w w [] [(u2, words y2), (u1, words x2), (a2, words y1), (a1, words x1)] [] := ((((St.start w).addR ha1.rd).addR ha2.rd).addR hu1.rd).addR hu2.rd
    refine walk_of (l := [(0, .agg #[.bool true, .slice a1 ((words x1).length) ac1, .slice a2 ((words y1).length) ac2]), (1, .agg #[.bool true, .slice u1 ((words x2).length) uc1, .slice u2 ((words y2).length) uc2])]) Try.func57 rfl Try.ntmps57 rfl rfl ?_
    intro Q hret hnorm hP a hA
    refine wp_seq_k (fun K1 hK1 => ?_)
    refine wp_region_lit ?_
    refine seq_new (vs := [.bool true, .slice a1 ((words x1).length) ac1, .slice a2 ((words y1).length) ac2]) (t := 24) hA hS rfl rfl rfl (fun g => .pointer (some ⟨g, 0, none⟩)) (does_box rfl rfl) rfl ?_
    intro g2 w3 hS a hA
    refine seq_new (vs := [.bool true, .slice u1 ((words x2).length) uc1, .slice u2 ((words y2).length) uc2]) (t := 24) hA hS rfl rfl rfl (fun g => .pointer (some ⟨g, 0, none⟩)) (does_box rfl rfl) rfl ?_
    intro g4 w5 hS a hA
    refine seq_new (vs := [.bool false, .slice none 0 0, .slice none 0 0]) (t := 24) hA hS rfl rfl rfl (fun g => .pointer (some ⟨g, 0, none⟩)) (does_alloc (z := .agg #[.bool false, .slice none 0 0, .slice none 0 0]) (by kernel_rfl) rfl) rfl ?_
    intro g6 w7 hS a hA
    refine seq_end ?_
    refine hK1 _ _ ?_
    refine wp_seq_k (fun K8 hK8 => ?_)
    refine wp_draw (S := fun w1 => St w w1 [(g6, [.bool false, .slice none 0 0, .slice none 0 0]), (g4, [.bool true, .slice u1 ((words x2).length) uc1, .slice u2 ((words y2).length) uc2]), (g2, [.bool true, .slice a1 ((words x1).length) ac1, .slice a2 ((words y1).length) ac2])] [(u2, words y2), (u1, words x2), (a2, words y1), (a1, words x1)] []) (by kernel_rfl) ?_
    replace hS := hS.drew
    refine any_take (v := .pointer (some ⟨g2, 1, none⟩)) hA 0 rfl rfl rfl rfl (by kernel_rfl) (by kernel_rfl) (by kernel_rfl) (fun c a w h => hP c a _ _ w h) (hS.part (.cons_cons _ (.cons_cons _ (.cons_cons _ .slnil))) ⟨⟨0, rfl⟩, ⟨⟨1, rfl⟩, ⟨⟨2, rfl⟩, ⟨⟨3, rfl⟩, trivial⟩⟩⟩⟩ .slnil) (fun w1 hS => does_field fld_24_1 rfl rfl) ?_
    intro a hA
    refine any_take hA 1 rfl rfl rfl rfl (by kernel_rfl) (by kernel_rfl) (by kernel_rfl) (fun c a w h => hP c a _ _ w h) (hS.part (.cons_cons _ (.cons_cons _ (.cons_cons _ .slnil))) ⟨⟨0, rfl⟩, ⟨⟨1, rfl⟩, ⟨⟨2, rfl⟩, ⟨⟨3, rfl⟩, trivial⟩⟩⟩⟩ .slnil) (fun w1 hS => does_load1 hS is1_22 rfl 2 rfl rfl) ?_
    intro a hA
    refine any_take (v := .pointer (some ⟨g4, 2, none⟩)) hA 2 rfl rfl rfl rfl (by kernel_rfl) (by kernel_rfl) (by kernel_rfl) (fun c a w h => hP c a _ _ w h) (hS.part (.cons_cons _ (.cons_cons _ (.cons_cons _ .slnil))) ⟨⟨0, rfl⟩, ⟨⟨1, rfl⟩, ⟨⟨2, rfl⟩, ⟨⟨3, rfl⟩, trivial⟩⟩⟩⟩ .slnil) (fun w1 hS => does_field fld_24_2 rfl rfl) ?_
    intro a hA
    refine any_take hA 3 rfl rfl rfl rfl (by kernel_rfl) (by kernel_rfl) (by kernel_rfl) (fun c a w h => hP c a _ _ w h) (hS.part (.cons_cons _ (.cons_cons _ (.cons_cons _ .slnil))) ⟨⟨0, rfl⟩, ⟨⟨1, rfl⟩, ⟨⟨2, rfl⟩, ⟨⟨3, rfl⟩, trivial⟩⟩⟩⟩ .slnil) (fun w1 hS => does_load1 hS is1_22 rfl 1 rfl rfl) ?_
    intro a hA
    refine any_take (v := .pointer (some ⟨g4, 1, none⟩)) hA 5 rfl rfl rfl rfl (by kernel_rfl) (by kernel_rfl) (by kernel_rfl) (fun c a w h => hP c a _ _ w h) (hS.part (.cons_cons _ (.cons_cons _ (.cons_cons _ .slnil))) ⟨⟨0, rfl⟩, ⟨⟨1, rfl⟩, ⟨⟨2, rfl⟩, ⟨⟨3, rfl⟩, trivial⟩⟩⟩⟩ .slnil) (fun w1 hS => does_field fld_24_1 rfl rfl) ?_
    intro a hA
    refine any_take hA 6 rfl rfl rfl rfl (by kernel_rfl) (by kernel_rfl) (by kernel_rfl) (fun c a w h => hP c a _ _ w h) (hS.part (.cons_cons _ (.cons_cons _ (.cons_cons _ .slnil))) ⟨⟨0, rfl⟩, ⟨⟨1, rfl⟩, ⟨⟨2, rfl⟩, ⟨⟨3, rfl⟩, trivial⟩⟩⟩⟩ .slnil) (fun w1 hS => does_load1 hS is1_22 rfl 1 rfl rfl) ?_
    intro a hA
    refine any_take (v := .pointer (some ⟨g2, 2, none⟩)) hA 7 rfl rfl rfl rfl (by kernel_rfl) (by kernel_rfl) (by kernel_rfl) (fun c a w h => hP c a _ _ w h) (hS.part (.cons_cons _ (.cons_cons _ (.cons_cons _ .slnil))) ⟨⟨0, rfl⟩, ⟨⟨1, rfl⟩, ⟨⟨2, rfl⟩, ⟨⟨3, rfl⟩, trivial⟩⟩⟩⟩ .slnil) (fun w1 hS => does_field fld_24_2 rfl rfl) ?_
    intro a hA
    refine any_take hA 8 rfl rfl rfl rfl (by kernel_rfl) (by kernel_rfl) (by kernel_rfl) (fun c a w h => hP c a _ _ w h) (hS.part (.cons_cons _ (.cons_cons _ (.cons_cons _ .slnil))) ⟨⟨0, rfl⟩, ⟨⟨1, rfl⟩, ⟨⟨2, rfl⟩, ⟨⟨3, rfl⟩, trivial⟩⟩⟩⟩ .slnil) (fun w1 hS => does_load1 hS is1_22 rfl 2 rfl rfl) ?_
    intro a hA
    refine any_one (by kernel_rfl) (op_call hA 4 rfl rfl rfl rfl (enters_func  rfl rfl (fun w => by kernel_rfl)) (rtimes_any _ _ (hS.rd 3 rfl) (hS.rd 0 rfl) (by omega) (by omega)) ?_)
    rintro _ w13 ⟨ro9, rc10, rfl, ho11, hb12⟩
    replace hS := hS.call hb12
    replace hS := hS.addR ho11.rd
    refine ⟨_, rfl, (hS.part (.cons_cons _ (.cons_cons _ (.cons_cons _ .slnil))) ⟨⟨1, rfl⟩, ⟨⟨2, rfl⟩, ⟨⟨3, rfl⟩, ⟨⟨4, rfl⟩, trivial⟩⟩⟩⟩ .slnil), ?_⟩
    intro a hA
    refine any_one (by kernel_rfl) (op_call hA 9 rfl rfl rfl rfl (enters_func  rfl rfl (fun w => by kernel_rfl)) (rtimes_any _ _ (hS.rd 2 rfl) (hS.rd 3 rfl) (by omega) (by omega)) ?_)
    rintro _ w18 ⟨ro14, rc15, rfl, ho16, hb17⟩
    replace hS := hS.call hb17
    replace hS := hS.addR ho16.rd
    refine ⟨_, rfl, (hS.part (.cons_cons _ (.cons_cons _ (.cons_cons _ .slnil))) ⟨⟨2, rfl⟩, ⟨⟨3, rfl⟩, ⟨⟨4, rfl⟩, ⟨⟨5, rfl⟩, trivial⟩⟩⟩⟩ .slnil), ?_⟩
    intro a hA
    refine any_take hA 10 rfl rfl rfl rfl (by kernel_rfl) (by kernel_rfl) (by kernel_rfl) (fun c a w h => hP c a _ _ w h) (hS.part (.cons_cons _ (.cons_cons _ (.cons_cons _ .slnil))) ⟨⟨2, rfl⟩, ⟨⟨3, rfl⟩, ⟨⟨4, rfl⟩, ⟨⟨5, rfl⟩, trivial⟩⟩⟩⟩ .slnil) (fun w1 hS => does_assign rfl) ?_
    intro a hA
    refine any_take hA 11 rfl rfl rfl rfl (by kernel_rfl) (by kernel_rfl) (by kernel_rfl) (fun c a w h => hP c a _ _ w h) (hS.part (.cons_cons _ (.cons_cons _ (.cons_cons _ .slnil))) ⟨⟨2, rfl⟩, ⟨⟨3, rfl⟩, ⟨⟨4, rfl⟩, ⟨⟨5, rfl⟩, trivial⟩⟩⟩⟩ .slnil) (fun w1 hS => does_assign rfl) ?_
    intro a hA
    refine any_end (by kernel_rfl) ?_
    refine hK8 _ _ ?_
    refine wp_seq_k (fun K19 hK19 => ?_)
    refine wp_region_lit ?_
    refine seq_do (v := .pointer (some ⟨g2, 2, none⟩)) hA rfl rfl rfl (does_field fld_24_2 rfl rfl) ?_
    intro a hA
    refine seq_do hA rfl rfl rfl (does_load1 hS is1_22 rfl 2 rfl rfl) ?_
    intro a hA
    refine seq_do (v := .pointer (some ⟨g4, 2, none⟩)) hA rfl rfl rfl (does_field fld_24_2 rfl rfl) ?_
    intro a hA
    refine seq_do hA rfl rfl rfl (does_load1 hS is1_22 rfl 1 rfl rfl) ?_
    intro a hA
    refine seq_call hA rfl rfl rfl (enters_func  rfl rfl (fun w => by kernel_rfl)) (rtimes_any _ _ (hS.rd 4 rfl) (hS.rd 2 rfl) (by omega) (by omega)) ?_
    rintro _ w24 ⟨ro20, rc21, rfl, ho22, hb23⟩
    replace hS := hS.call hb23
    replace hS := hS.addR ho22.rd
    refine ⟨_, rfl, ?_⟩
    intro a hA
    refine seq_do hA rfl rfl rfl (does_assign rfl) ?_
    intro a hA
    refine seq_end ?_
    refine hK19 _ _ ?_
    refine wp_seq_k (fun K25 hK25 => ?_)
    refine wp_seq_k (fun K26 hK26 => ?_)
    refine wp_region_lit ?_
    refine seq_do (v := .pointer (some ⟨g2, 0, none⟩)) hA rfl rfl rfl (does_field fld_24_0 rfl rfl) ?_
    intro a hA
    refine seq_do hA rfl rfl rfl (does_load1 hS is1_4 rfl 2 rfl rfl) ?_
    intro a hA
    refine seq_do (v := .pointer (some ⟨g4, 0, none⟩)) hA rfl rfl rfl (does_field fld_24_0 rfl rfl) ?_
    intro a hA
    refine seq_do hA rfl rfl rfl (does_load1 hS is1_4 rfl 1 rfl rfl) ?_
    intro a hA
    refine seq_do (v := .bool true) hA rfl rfl rfl (does_bin rfl rfl (bin_eqlB Try.underlying4)) ?_
    intro a hA
    refine seq_end ?_
    refine hK26 _ _ ?_
    refine wp_cond_true (hA.ev rfl) ?_
    refine wp_seq_k (fun K27 hK27 => ?_)
    refine wp_draw (S := fun w1 => St w w1 [(g4, [.bool true, .slice u1 ((words x2).length) uc1, .slice u2 ((words y2).length) uc2]), (g2, [.bool true, .slice a1 ((words x1).length) ac1, .slice a2 ((words y1).length) ac2])] [(ro20, words (y1 * y2)), (ro14, words (x2 * y1)), (ro9, words (x1 * y2)), (u2, words y2), (u1, words x2), (a2, words y1), (a1, words x1)] []) (by kernel_rfl) ?_
    replace hS := hS.drew
    refine any_take (v := .pointer (some ⟨g2, 0, none⟩)) hA 0 rfl rfl rfl rfl (by kernel_rfl) (by kernel_rfl) (by kernel_rfl) (fun c a w h => hP c a _ _ w h) (hS.part (.cons _ (.cons_cons _ (.cons_cons _ .slnil))) ⟨⟨0, rfl⟩, ⟨⟨1, rfl⟩, ⟨⟨2, rfl⟩, ⟨⟨3, rfl⟩, ⟨⟨4, rfl⟩, ⟨⟨5, rfl⟩, ⟨⟨6, rfl⟩, trivial⟩⟩⟩⟩⟩⟩⟩ .slnil) (fun w1 hS => does_field fld_24_0 rfl rfl) ?_
    intro a hA
    refine any_take hA 1 rfl rfl rfl rfl (by kernel_rfl) (by kernel_rfl) (by kernel_rfl) (fun c a w h => hP c a _ _ w h) (hS.part (.cons _ (.cons_cons _ (.cons_cons _ .slnil))) ⟨⟨0, rfl⟩, ⟨⟨1, rfl⟩, ⟨⟨2, rfl⟩, ⟨⟨3, rfl⟩, ⟨⟨4, rfl⟩, ⟨⟨5, rfl⟩, ⟨⟨6, rfl⟩, trivial⟩⟩⟩⟩⟩⟩⟩ .slnil) (fun w1 hS => does_load1 hS is1_4 rfl 1 rfl rfl) ?_
    intro a hA
    refine any_take hA 2 rfl rfl rfl rfl (by kernel_rfl) (by kernel_rfl) (by kernel_rfl) (fun c a w h => hP c a _ _ w h) (hS.part (.cons _ (.cons_cons _ (.cons_cons _ .slnil))) ⟨⟨0, rfl⟩, ⟨⟨1, rfl⟩, ⟨⟨2, rfl⟩, ⟨⟨3, rfl⟩, ⟨⟨4, rfl⟩, ⟨⟨5, rfl⟩, ⟨⟨6, rfl⟩, trivial⟩⟩⟩⟩⟩⟩⟩ .slnil) (fun w1 hS => does_move rfl) ?_
    intro a hA
    refine any_take hA 3 rfl rfl rfl rfl (by kernel_rfl) (by kernel_rfl) (by kernel_rfl) (fun c a w h => hP c a _ _ w h) (hS.part (.cons _ (.cons_cons _ (.cons_cons _ .slnil))) ⟨⟨0, rfl⟩, ⟨⟨1, rfl⟩, ⟨⟨2, rfl⟩, ⟨⟨3, rfl⟩, ⟨⟨4, rfl⟩, ⟨⟨5, rfl⟩, ⟨⟨6, rfl⟩, trivial⟩⟩⟩⟩⟩⟩⟩ .slnil) (fun w1 hS => does_move rfl) ?_
    intro a hA
    refine any_take hA 5 rfl rfl rfl rfl (by kernel_rfl) (by kernel_rfl) (by kernel_rfl) (fun c a w h => hP c a _ _ w h) (hS.part (.cons _ (.cons_cons _ (.cons_cons _ .slnil))) ⟨⟨0, rfl⟩, ⟨⟨1, rfl⟩, ⟨⟨2, rfl⟩, ⟨⟨3, rfl⟩, ⟨⟨4, rfl⟩, ⟨⟨5, rfl⟩, ⟨⟨6, rfl⟩, trivial⟩⟩⟩⟩⟩⟩⟩ .slnil) (fun w1 hS => does_move rfl) ?_
    intro a hA
    refine any_one (by kernel_rfl) (op_call hA 4 rfl rfl rfl rfl (enters_func  rfl rfl (fun w => by kernel_rfl)) (plus_any _ _ (hS.rd 2 rfl) (hS.rd 1 rfl) (by omega) (by omega)) ?_)
    rintro _ w32 ⟨ro28, rc29, rfl, ho30, hb31⟩
    replace hS := hS.call hb31
    replace hS := hS.addR ho30.rd
    refine ⟨_, rfl, (hS.part (.cons _ (.cons_cons _ (.cons_cons _ .slnil))) ⟨⟨1, rfl⟩, ⟨⟨2, rfl⟩, ⟨⟨3, rfl⟩, ⟨⟨4, rfl⟩, ⟨⟨5, rfl⟩, ⟨⟨6, rfl⟩, ⟨⟨7, rfl⟩, trivial⟩⟩⟩⟩⟩⟩⟩ .slnil), ?_⟩
    intro a hA
    refine any_one (by kernel_rfl) (op_call hA 6 rfl rfl rfl rfl (enters_func  rfl rfl (fun w => by kernel_rfl)) (rratI_any true ⟨(hS.rd 0 rfl), ho30.nocap, ho30.caps⟩ ⟨(hS.rd 1 rfl), ho22.nocap, ho22.caps⟩ (by omega) (by omega) hd0 (z := Z) hzS) ?_)
    rintro _ w37 ⟨f33_1, f33_c1, f33_2, f33_c2, rfl, hs34, hs35, hb36⟩
    replace hS := hS.call hb36
    replace hS := hS.addR hs34.rd
    replace hS := hS.addR hs35.rd
    refine ⟨_, rfl, (hS.part (.cons _ (.cons_cons _ (.cons_cons _ .slnil))) ⟨⟨3, rfl⟩, ⟨⟨4, rfl⟩, ⟨⟨5, rfl⟩, ⟨⟨6, rfl⟩, ⟨⟨7, rfl⟩, ⟨⟨8, rfl⟩, ⟨⟨9, rfl⟩, trivial⟩⟩⟩⟩⟩⟩⟩ .slnil), ?_⟩
    intro a hA
    refine any_one (by kernel_rfl) (op_store (us := [.bool (rb Z), .slice f33_1 ((words (rt Z (y1 * y2))).length) f33_c1, .slice f33_2 ((words (rq Z (y1 * y2))).length) f33_c2]) hA hS 7 rfl rfl rfl (sets_store (cs := [.bool (rb Z), .slice f33_1 ((words (rt Z (y1 * y2))).length) f33_c1, .slice f33_2 ((words (rq Z (y1 * y2))).length) f33_c2]) rfl rfl rfl (by kernel_rfl) hS 0 rfl rfl rfl) 0 rfl rfl rfl rfl ?_)
    intro w38 hS
    refine ⟨(hS.part (.cons _ (.cons_cons _ (.cons_cons _ .slnil))) ⟨⟨3, rfl⟩, ⟨⟨4, rfl⟩, ⟨⟨5, rfl⟩, ⟨⟨6, rfl⟩, ⟨⟨7, rfl⟩, ⟨⟨8, rfl⟩, ⟨⟨9, rfl⟩, trivial⟩⟩⟩⟩⟩⟩⟩ .slnil), ?_⟩
    refine any_end (by kernel_rfl) ?_
    refine hK27 _ _ ?_
    refine wp_ret ?_
    refine hret _ _ ?_
    refine ends (v := .agg #[.bool (rb Z), .slice f33_1 ((words (rt Z (y1 * y2))).length) f33_c1, .slice f33_2 ((words (rq Z (y1 * y2))).length) f33_c2]) hA rfl (.cons (res_cell hS isS_24 rfl 0 rfl (cs := [.bool (rb Z), .slice f33_1 ((words (rt Z (y1 * y2))).length) f33_c1, .slice f33_2 ((words (rq Z (y1 * y2))).length) f33_c2]) rfl rfl) .nil) rfl ?_
    exact ⟨f33_1, f33_c1, f33_2, f33_c2, rfl, ⟨(hS.rd 1 rfl), hs34.nil, hs34.cap⟩, ⟨(hS.rd 0 rfl), hs35.nil, hs35.cap⟩, hS.bel⟩
end Go.Proofs.Yteghiinbafbokaa
namespace Go.Proofs.Yteghiinbafbokaa
open Go.RowKit
set_option linter.unusedVariables false
set_option linter.unusedSimpArgs false

theorem rsumOne_any {w : World} {b1 : Bool} {x : Nat} {a1 a2 : Option Addr} {ac1 ac2 : Nat} (ha1 : Sc w a1 ac1 (words x)) (ha2 : Sc w a2 ac2 [1]) {u1 u2 : Option Addr} {uc1 uc2 : Nat} (hu1 : Sc w u1 uc1 [1]) (hu2 : Sc w u2 uc2 [1]) (hx : (words x).length ≤ 3000) {c : Bool} {y : Nat} (hy : sgn b1 x + (-1) = sgn c y) (hc : (c && decide (0 < y)) = c) :
    Calls Try.prog 57 #[.agg #[.bool b1, .slice a1 (words x).length ac1, .slice a2 1 ac2], .agg #[.bool true, .slice u1 1 uc1, .slice u2 1 uc2]] w (AnsF w c (words y) [1]) := by
  have h1 : (words 1).length = 1 := by rw [words_one]; rfl
  rw [← words_one] at hu1 hu2 ha2
  have h := rsum_any (b1 := b1) (b2 := true) ha1 ha2 hu1 hu2 hx (by omega) (by omega) (by omega) (by omega) (by omega)
  have e : sgn b1 x * ((1 : Nat) : Int) + sgn true 1 * ((1 : Nat) : Int) = sgn c y := by rw [← hy]; simp [sgn]
  rw [e] at h
  have e1 : rb (sgn c y) = c := by unfold rb; rw [sgn_neg]; exact hc
  have e2 : rt (sgn c y) (1 * 1) = y := by unfold rt; rw [sgn_abs]; simp
  have e3 : rq (sgn c y) (1 * 1) = 1 := by unfold rq; simp
  rw [e1, e2, e3, h1, words_one] at h
  exact h
/-- The size of -a - 1. -/
def turnN (b : Bool) (x : Nat) : Nat := cond b (x - 1) (x + 1)
theorem shift_down {w : World} {ao : Option Addr} {x : Nat} (ca k : Nat) (ha : Rd w ao (words x)) (hx : (words x).length ≤ 512) (hk : k ≤ 16384) :
    Calls Try.prog 38 #[.slice ao (words x).length ca, .int .i64 (-(k : Int))] w fun e w' => ∃ ro rc, e = .returned (.tuple #[.slice ro (words (x / 2 ^ k)).length rc, .int .i64 0]) ∧ Own w.heap.size w' ro rc (words (x / 2 ^ k)) ∧ Below w.heap.size w w' := by
  have h := shift_any ca (-(k : Int)) ha (by omega) (by omega) (by omega)
  have e : shiftS (words x) (-(k : Int)) = (words (x / 2 ^ k), 0) := by
    unfold shiftS
    rw [if_pos (sound_of_words hx), if_neg (by omega), val_words]
    by_cases h0 : k = 0
    · subst h0
      simp only [Int.ofNat_eq_natCast, Int.natCast_zero, Int.neg_zero, Int.lt_irrefl, if_false, Int.toNat_zero, Nat.pow_zero, Nat.mul_one, Nat.div_one]
      unfold fitS
      rw [if_pos hx]
    · rw [if_pos (by omega)]
      have : (-(-(k : Int))).toNat = k := by omega
      rw [this]
  rw [e] at h
  exact h
theorem shift_up {w : World} {ao : Option Addr} {x : Nat} (ca k : Nat) (ha : Rd w ao (words x)) (hx : (words x).length ≤ 512) (hk : k ≤ 16384) :
    Calls Try.prog 38 #[.slice ao (words x).length ca, .int .i64 ((k : Nat) : Int)] w (Ans w (fitS (x * 2 ^ k))) := by
  have h := shift_any ca (k : Int) ha (by omega) (by omega) (by omega)
  have e : shiftS (words x) (k : Int) = fitS (x * 2 ^ k) := by
    unfold shiftS
    rw [if_pos (sound_of_words hx), if_neg (by omega), val_words, if_neg (by omega), Int.toNat_natCast]
  rw [e] at h
  exact h
theorem shift_fit {w : World} {ao : Option Addr} {x : Nat} (ca k : Nat) (ha : Rd w ao (words x)) (hx : (words x).length ≤ 512) (hk : k ≤ 16384) (h : (words (x * 2 ^ k)).length ≤ 512) :
    Calls Try.prog 38 #[.slice ao (words x).length ca, .int .i64 ((k : Nat) : Int)] w fun e w' => ∃ ro rc, e = .returned (.tuple #[.slice ro (words (x * 2 ^ k)).length rc, .int .i64 0]) ∧ Own w.heap.size w' ro rc (words (x * 2 ^ k)) ∧ Below w.heap.size w w' := by
  have := shift_up ca k ha hx hk
  unfold fitS at this
  rw [if_pos h] at this
  exact this
theorem shift_big {w : World} {ao : Option Addr} {x : Nat} (ca k : Nat) (ha : Rd w ao (words x)) (hx : (words x).length ≤ 512) (hk : k ≤ 16384) (h : ¬ (words (x * 2 ^ k)).length ≤ 512) :
    Calls Try.prog 38 #[.slice ao (words x).length ca, .int .i64 ((k : Nat) : Int)] w fun e w' => ∃ ro rc, e = .returned (.tuple #[.slice ro 0 rc, .int .i64 4]) ∧ Own w.heap.size w' ro rc [] ∧ Below w.heap.size w w' := by
  have := shift_up ca k ha hx hk
  unfold fitS at this
  rw [if_neg h] at this
  exact this
theorem shift_downI {w : World} {ao : Option Addr} {x : Nat} (ca : Nat) {n : Int} (ha : Rd w ao (words x)) (hx : (words x).length ≤ 512) (h0 : 0 ≤ n) (h1 : n ≤ 16384) :
    Calls Try.prog 38 #[.slice ao (words x).length ca, .int .i64 (-n)] w fun e w' => ∃ ro rc, e = .returned (.tuple #[.slice ro (words (x / 2 ^ n.toNat)).length rc, .int .i64 0]) ∧ Own w.heap.size w' ro rc (words (x / 2 ^ n.toNat)) ∧ Below w.heap.size w w' := by
  obtain ⟨k, rfl⟩ := Int.eq_ofNat_of_zero_le h0
  rw [Int.toNat_natCast]
  exact shift_down ca k ha hx (by omega)
theorem shift_fitI {w : World} {ao : Option Addr} {x : Nat} (ca : Nat) {n : Int} (ha : Rd w ao (words x)) (hx : (words x).length ≤ 512) (h0 : 0 ≤ n) (h1 : n ≤ 16384) (h : (words (x * 2 ^ n.toNat)).length ≤ 512) :
    Calls Try.prog 38 #[.slice ao (words x).length ca, .int .i64 n] w fun e w' => ∃ ro rc, e = .returned (.tuple #[.slice ro (words (x * 2 ^ n.toNat)).length rc, .int .i64 0]) ∧ Own w.heap.size w' ro rc (words (x * 2 ^ n.toNat)) ∧ Below w.heap.size w w' := by
  obtain ⟨k, rfl⟩ := Int.eq_ofNat_of_zero_le h0
  rw [Int.toNat_natCast] at h ⊢
  exact shift_fit ca k ha hx (by omega) h
theorem shift_bigI {w : World} {ao : Option Addr} {x : Nat} (ca : Nat) {n : Int} (ha : Rd w ao (words x)) (hx : (words x).length ≤ 512) (h0 : 0 ≤ n) (h1 : n ≤ 16384) (h : ¬ (words (x * 2 ^ n.toNat)).length ≤ 512) :
    Calls Try.prog 38 #[.slice ao (words x).length ca, .int .i64 n] w fun e w' => ∃ ro rc, e = .returned (.tuple #[.slice ro 0 rc, .int .i64 4]) ∧ Own w.heap.size w' ro rc [] ∧ Below w.heap.size w w' := by
  obtain ⟨k, rfl⟩ := Int.eq_ofNat_of_zero_le h0
  rw [Int.toNat_natCast] at h
  exact shift_big ca k ha hx (by omega) h
theorem rupI_any {w : World} {ao : Option Addr} {x : Nat} (ca : Nat) {n : Int} (ha : Rd w ao (words x)) (hx : (words x).length ≤ 100000) (h0 : 0 ≤ n) (h1 : n ≤ 1000000) :
    Calls Try.prog 41 #[.slice ao (words x).length ca, .int .i64 n] w (Row1 w (words (x * 2 ^ n.toNat))) := by
  obtain ⟨k, rfl⟩ := Int.eq_ofNat_of_zero_le h0
  rw [Int.toNat_natCast]
  exact rup_any ca k ha hx (by omega)
theorem rdownI_any {w : World} {ao : Option Addr} {x : Nat} (ca : Nat) {n : Int} (ha : Rd w ao (words x)) (hx : (words x).length ≤ 100000) (h0 : 0 ≤ n) (h1 : n ≤ 1000000) :
    Calls Try.prog 42 #[.slice ao (words x).length ca, .int .i64 n] w (Row1 w (words (x / 2 ^ n.toNat))) := by
  obtain ⟨k, rfl⟩ := Int.eq_ofNat_of_zero_le h0
  rw [Int.toNat_natCast]
  exact rdown_any ca k ha hx (by omega)
/-- A number's bits, shifted. -/
def shiftQ (q : Q6) (n : Int) : Q6 × Int :=
  if want1 q = 0 then
    (if n < -16384 ∨ 16384 < n then (Q6.zero, 1)
     else if n < 0 then bigS q.b1 ((val q.t1 - q.b1.toNat) / 2 ^ (-n).toNat + q.b1.toNat)
     else bigS q.b1 (val q.t1 * 2 ^ n.toNat))
  else (Q6.zero, want1 q)
theorem shiftQ_err {q : Q6} {n : Int} (h : (want1 q != 0) = true) : shiftQ q n = (Q6.zero, want1 q) := by
  unfold shiftQ
  rw [if_neg (bne_iff_ne.1 h)]
theorem shiftQ_arg {b : Bool} {x : Nat} {n : Int} (h : want1 (Q6.whole b x) = 0) (hn : n < -16384 ∨ 16384 < n) : shiftQ (Q6.whole b x) n = (Q6.zero, 1) := by
  unfold shiftQ
  rw [if_pos h, if_pos hn]
theorem shiftQ_down {b : Bool} {x : Nat} {n : Int} (h : want1 (Q6.whole b x) = 0) (h0 : -16384 ≤ n) (h1 : n < 0) : shiftQ (Q6.whole b x) n = bigS b ((x - b.toNat) / 2 ^ (-n).toNat + b.toNat) := by
  unfold shiftQ
  rw [if_pos h, if_neg (by omega), if_pos h1]
  simp only [Q6.whole, val_words]
theorem shiftQ_up {b : Bool} {x : Nat} {n : Int} (h : want1 (Q6.whole b x) = 0) (h0 : 0 ≤ n) (h1 : n ≤ 16384) : shiftQ (Q6.whole b x) n = bigS b (x * 2 ^ n.toNat) := by
  unfold shiftQ
  rw [if_pos h, if_neg (by omega), if_neg (by omega)]
  simp only [Q6.whole, val_words]
theorem want1_cases (q : Q6) : (want1 q = 0 ∧ wholeQ q = true) ∨ ((want1 q != 0) = true ∧ wholeQ q = false) := by
  unfold want1
  cases h1 : soundQ q with
  | false =>
    refine .inr ⟨by simp, ?_⟩
    unfold wholeQ
    rw [h1]
    rfl
  | true =>
    cases h2 : wholeQ q with
    | false => exact .inr ⟨by simp, rfl⟩
    | true => exact .inl ⟨by simp, rfl⟩
end Go.Proofs.Yteghiinbafbokaa
namespace Go.Proofs.Yteghiinbafbokaa
open Go.RowKit
set_option linter.unusedVariables false
set_option linter.unusedSimpArgs false
set_option maxRecDepth 100000

theorem rturn_any {w : World} {b : Bool} {x : Nat} {a1 a2 a3 a4 : Option Addr} {ac1 ac2 ac3 ac4 : Nat} (ha : Nm w (Q6.whole b x) a1 ac1 a2 ac2 a3 ac3 a4 ac4) (hx : (words x).length ≤ 3000) (hb : b.toNat ≤ x) : Calls Try.prog 33 #[numV (Q6.whole b x) a1 ac1 a2 ac2 a3 ac3 a4 ac4] w (AnsV w (Q6.whole (!b) (turnN b x))) := by
  cases b
  · have hS : St w w [] [(a4, [1]), (a3, []), (a2, [1]), (a1, words x)] [] := ((((St.start w).addR ha.s1.rd).addR ha.s2.rd).addR ha.s3.rd).addR ha.s4.rd
    refine walk_of (l := [(0, .agg #[.bool false, .slice a1 ((words x).length) ac1, .slice a2 1 ac2, .bool false, .slice a3 0 ac3, .slice a4 1 ac4])]) Try.func33 rfl Try.ntmps33 rfl rfl ?_
    intro Q hret hnorm hP a hA
    refine wp_seq_k (fun K1 hK1 => ?_)
    refine wp_region_lit ?_
    refine seq_new (vs := [.bool false, .slice a1 ((words x).length) ac1, .slice a2 1 ac2, .bool false, .slice a3 0 ac3, .slice a4 1 ac4]) (t := 26) hA hS rfl rfl rfl (fun g => .pointer (some ⟨g, 0, none⟩)) (does_box rfl rfl) rfl ?_
    intro g2 w3 hS a hA
    refine seq_new (vs := [.bool false, .slice none 0 0, .slice none 0 0, .bool false, .slice none 0 0, .slice none 0 0]) (t := 26) hA hS rfl rfl rfl (fun g => .pointer (some ⟨g, 0, none⟩)) (does_alloc (z := .agg #[.bool false, .slice none 0 0, .slice none 0 0, .bool false, .slice none 0 0, .slice none 0 0]) (by kernel_rfl) rfl) rfl ?_
    intro g4 w5 hS a hA
    refine seq_end ?_
    refine hK1 _ _ ?_
    refine wp_seq_k (fun K6 hK6 => ?_)
    refine wp_region_lit ?_
    refine seq_newU (us := [1]) (t := 41) (m := 1) hA hS rfl rfl rfl (does_buildSlice rfl (by kernel_rfl)) (by simp [Dig]) ?_
    intro g7 w8 hS a hA
    refine seq_newU (us := [1]) (t := 41) (m := 1) hA hS rfl rfl rfl (does_buildSlice rfl (by kernel_rfl)) (by simp [Dig]) ?_
    intro g9 w10 hS a hA
    refine seq_do (v := .agg #[.bool false, .slice (some ⟨g7, 0, none⟩) 1 1, .slice (some ⟨g9, 0, none⟩) 1 1]) hA rfl rfl rfl (does_build rfl (fun w => by kernel_rfl)) ?_
    intro a hA
    refine seq_new (vs := [.bool false, .slice none 0 0, .slice none 0 0]) (t := 24) hA hS rfl rfl rfl (fun g => .pointer (some ⟨g, 0, none⟩)) (does_alloc (z := .agg #[.bool false, .slice none 0 0, .slice none 0 0]) (by kernel_rfl) rfl) rfl ?_
    intro g11 w12 hS a hA
    refine seq_store (us := [.bool false, .slice (some ⟨g7, 0, none⟩) 1 1, .slice (some ⟨g9, 0, none⟩) 1 1]) hA hS rfl rfl (sets_store (cs := [.bool false, .slice (some ⟨g7, 0, none⟩) 1 1, .slice (some ⟨g9, 0, none⟩) 1 1]) rfl rfl rfl (by kernel_rfl) hS 0 rfl rfl rfl) 0 rfl rfl rfl rfl ?_
    intro w13 hS
    refine seq_end ?_
    refine hK6 _ _ ?_
    refine wp_seq_k (fun K14 hK14 => ?_)
    refine wp_draw (S := fun w1 => St w w1 [(g11, [.bool false, .slice (some ⟨g7, 0, none⟩) 1 1, .slice (some ⟨g9, 0, none⟩) 1 1]), (g2, [.bool false, .slice a1 ((words x).length) ac1, .slice a2 1 ac2, .bool false, .slice a3 0 ac3, .slice a4 1 ac4])] [(some ⟨g9, 0, none⟩, [1]), (some ⟨g7, 0, none⟩, [1]), (a4, [1]), (a3, []), (a2, [1]), (a1, words x)] []) (by kernel_rfl) ?_
    replace hS := hS.drew
    refine any_take (v := .pointer (some ⟨g2, 0, none⟩)) hA 0 rfl rfl rfl rfl (by kernel_rfl) (by kernel_rfl) (by kernel_rfl) (fun c a w h => hP c a _ _ w h) (hS.part (.cons_cons _ (.cons _ (.cons_cons _ .slnil))) ⟨⟨0, rfl⟩, ⟨⟨1, rfl⟩, ⟨⟨2, rfl⟩, ⟨⟨3, rfl⟩, ⟨⟨4, rfl⟩, ⟨⟨5, rfl⟩, trivial⟩⟩⟩⟩⟩⟩ .slnil) (fun w1 hS => does_field fld_26_0 rfl rfl) ?_
    intro a hA
    refine any_take (v := .agg #[.bool false, .slice a1 ((words x).length) ac1, .slice a2 1 ac2]) hA 1 rfl rfl rfl rfl (by kernel_rfl) (by kernel_rfl) (by kernel_rfl) (fun c a w h => hP c a _ _ w h) (hS.part (.cons_cons _ (.cons _ (.cons_cons _ .slnil))) ⟨⟨0, rfl⟩, ⟨⟨1, rfl⟩, ⟨⟨2, rfl⟩, ⟨⟨3, rfl⟩, ⟨⟨4, rfl⟩, ⟨⟨5, rfl⟩, trivial⟩⟩⟩⟩⟩⟩ .slnil) (fun w1 hS => does_loadS hS isS_24 rfl 1 rfl (cs := [.bool false, .slice a1 ((words x).length) ac1, .slice a2 1 ac2]) rfl rfl) ?_
    intro a hA
    refine any_take (v := .agg #[.bool false, .slice (some ⟨g7, 0, none⟩) 1 1, .slice (some ⟨g9, 0, none⟩) 1 1]) hA 3 rfl rfl rfl rfl (by kernel_rfl) (by kernel_rfl) (by kernel_rfl) (fun c a w h => hP c a _ _ w h) (hS.part (.cons_cons _ (.cons _ (.cons_cons _ .slnil))) ⟨⟨0, rfl⟩, ⟨⟨1, rfl⟩, ⟨⟨2, rfl⟩, ⟨⟨3, rfl⟩, ⟨⟨4, rfl⟩, ⟨⟨5, rfl⟩, trivial⟩⟩⟩⟩⟩⟩ .slnil) (fun w1 hS => does_loadS hS isS_24 rfl 0 rfl (cs := [.bool false, .slice (some ⟨g7, 0, none⟩) 1 1, .slice (some ⟨g9, 0, none⟩) 1 1]) rfl rfl) ?_
    intro a hA
    refine any_take (v := .pointer (some ⟨g2, 3, none⟩)) hA 6 rfl rfl rfl rfl (by kernel_rfl) (by kernel_rfl) (by kernel_rfl) (fun c a w h => hP c a _ _ w h) (hS.part (.cons_cons _ (.cons _ (.cons_cons _ .slnil))) ⟨⟨0, rfl⟩, ⟨⟨1, rfl⟩, ⟨⟨2, rfl⟩, ⟨⟨3, rfl⟩, ⟨⟨4, rfl⟩, ⟨⟨5, rfl⟩, trivial⟩⟩⟩⟩⟩⟩ .slnil) (fun w1 hS => does_field fld_26_1 rfl rfl) ?_
    intro a hA
    refine any_take (v := .agg #[.bool false, .slice a3 0 ac3, .slice a4 1 ac4]) hA 7 rfl rfl rfl rfl (by kernel_rfl) (by kernel_rfl) (by kernel_rfl) (fun c a w h => hP c a _ _ w h) (hS.part (.cons_cons _ (.cons _ (.cons_cons _ .slnil))) ⟨⟨0, rfl⟩, ⟨⟨1, rfl⟩, ⟨⟨2, rfl⟩, ⟨⟨3, rfl⟩, ⟨⟨4, rfl⟩, ⟨⟨5, rfl⟩, trivial⟩⟩⟩⟩⟩⟩ .slnil) (fun w1 hS => does_loadS hS isS_24 rfl 1 rfl (cs := [.bool false, .slice a3 0 ac3, .slice a4 1 ac4]) rfl rfl) ?_
    intro a hA
    rcases Bool.eq_false_or_eq_true (decide (0 < (words x).length)) with hb15 | hb15
    · have hb15' := of_decide_eq_true hb15
      refine any_one (by kernel_rfl) (op_call hA 2 rfl rfl rfl rfl (enters_func  rfl rfl (fun w => by kernel_rfl)) (rminus_any (by rw [hb15]; try rfl)) ?_)
      rintro _ w17 ⟨rfl, hb16⟩
      replace hS := hS.call hb16
      refine ⟨_, rfl, (hS.part (.cons_cons _ (.cons _ (.cons_cons _ .slnil))) ⟨⟨0, rfl⟩, ⟨⟨1, rfl⟩, ⟨⟨2, rfl⟩, ⟨⟨3, rfl⟩, ⟨⟨4, rfl⟩, ⟨⟨5, rfl⟩, trivial⟩⟩⟩⟩⟩⟩ .slnil), ?_⟩
      intro a hA
      refine any_one (by kernel_rfl) (op_call hA 4 rfl rfl rfl rfl (enters_func  rfl rfl (fun w => by kernel_rfl)) (rminus_any rfl) ?_)
      rintro _ w19 ⟨rfl, hb18⟩
      replace hS := hS.call hb18
      refine ⟨_, rfl, (hS.part (.cons_cons _ (.cons _ (.cons_cons _ .slnil))) ⟨⟨0, rfl⟩, ⟨⟨1, rfl⟩, ⟨⟨2, rfl⟩, ⟨⟨3, rfl⟩, ⟨⟨4, rfl⟩, ⟨⟨5, rfl⟩, trivial⟩⟩⟩⟩⟩⟩ .slnil), ?_⟩
      intro a hA
      refine any_one (by kernel_rfl) (op_call hA 5 rfl rfl rfl rfl (enters_func  rfl rfl (fun w => by kernel_rfl)) (rsumOne_any ⟨(hS.rd 5 rfl), ha.s1.nil, ha.s1.cap⟩ ⟨(hS.rd 4 rfl), ha.s2.nil, ha.s2.cap⟩ ⟨(hS.rd 1 rfl), (fun h => by cases h), (Nat.le_refl _)⟩ ⟨(hS.rd 0 rfl), (fun h => by cases h), (Nat.le_refl _)⟩ hx (c := true) (y := x + 1) (by have h9 := words_pos_len x; simp only [sgn]; first | omega | (simp; omega)) (by simp)) ?_)
      rintro _ w24 ⟨f20_1, f20_c1, f20_2, f20_c2, rfl, hs21, hs22, hb23⟩
      replace hS := hS.call hb23
      replace hS := hS.addR hs21.rd
      replace hS := hS.addR hs22.rd
      refine ⟨_, rfl, (hS.part (.cons_cons _ (.cons _ (.cons_cons _ .slnil))) ⟨⟨2, rfl⟩, ⟨⟨3, rfl⟩, ⟨⟨4, rfl⟩, ⟨⟨5, rfl⟩, ⟨⟨6, rfl⟩, ⟨⟨7, rfl⟩, trivial⟩⟩⟩⟩⟩⟩ .slnil), ?_⟩
      intro a hA
      refine any_take (v := .agg #[.bool true, .slice f20_1 ((words (x + 1)).length) f20_c1, .slice f20_2 1 f20_c2, .bool false, .slice a3 0 ac3, .slice a4 1 ac4]) hA 8 rfl rfl rfl rfl (by kernel_rfl) (by kernel_rfl) (by kernel_rfl) (fun c a w h => hP c a _ _ w h) (hS.part (.cons_cons _ (.cons _ (.cons_cons _ .slnil))) ⟨⟨2, rfl⟩, ⟨⟨3, rfl⟩, ⟨⟨4, rfl⟩, ⟨⟨5, rfl⟩, ⟨⟨6, rfl⟩, ⟨⟨7, rfl⟩, trivial⟩⟩⟩⟩⟩⟩ .slnil) (fun w1 hS => does_build rfl (fun w => by kernel_rfl)) ?_
      intro a hA
      refine any_one (by kernel_rfl) (op_store (us := [.bool true, .slice f20_1 ((words (x + 1)).length) f20_c1, .slice f20_2 1 f20_c2, .bool false, .slice a3 0 ac3, .slice a4 1 ac4]) hA hS 9 rfl rfl rfl (sets_store (cs := [.bool true, .slice f20_1 ((words (x + 1)).length) f20_c1, .slice f20_2 1 f20_c2, .bool false, .slice a3 0 ac3, .slice a4 1 ac4]) rfl rfl rfl (by kernel_rfl) hS 1 rfl rfl rfl) 1 rfl rfl rfl rfl ?_)
      intro w25 hS
      refine ⟨(hS.part (.cons_cons _ (.cons _ (.cons_cons _ .slnil))) ⟨⟨2, rfl⟩, ⟨⟨3, rfl⟩, ⟨⟨4, rfl⟩, ⟨⟨5, rfl⟩, ⟨⟨6, rfl⟩, ⟨⟨7, rfl⟩, trivial⟩⟩⟩⟩⟩⟩ .slnil), ?_⟩
      refine any_end (by kernel_rfl) ?_
      refine hK14 _ _ ?_
      refine wp_ret ?_
      refine hret _ _ ?_
      refine ends (v := .agg #[.bool true, .slice f20_1 ((words (x + 1)).length) f20_c1, .slice f20_2 1 f20_c2, .bool false, .slice a3 0 ac3, .slice a4 1 ac4]) hA rfl (.cons (res_cell hS isS_26 rfl 1 rfl (cs := [.bool true, .slice f20_1 ((words (x + 1)).length) f20_c1, .slice f20_2 1 f20_c2, .bool false, .slice a3 0 ac3, .slice a4 1 ac4]) rfl rfl) .nil) rfl ?_
      exact ⟨f20_1, f20_c1, f20_2, f20_c2, a3, ac3, a4, ac4, rfl, ⟨⟨(hS.rd 1 rfl), hs21.nil, hs21.cap⟩, ⟨(hS.rd 0 rfl), hs22.nil, hs22.cap⟩, ⟨(hS.rd 5 rfl), ha.s3.nil, ha.s3.cap⟩, ⟨(hS.rd 4 rfl), ha.s4.nil, ha.s4.cap⟩⟩, hS.bel⟩
    · have hb15' := of_decide_eq_false hb15
      refine any_one (by kernel_rfl) (op_call hA 2 rfl rfl rfl rfl (enters_func  rfl rfl (fun w => by kernel_rfl)) (rminus_any (by rw [hb15]; try rfl)) ?_)
      rintro _ w27 ⟨rfl, hb26⟩
      replace hS := hS.call hb26
      refine ⟨_, rfl, (hS.part (.cons_cons _ (.cons _ (.cons_cons _ .slnil))) ⟨⟨0, rfl⟩, ⟨⟨1, rfl⟩, ⟨⟨2, rfl⟩, ⟨⟨3, rfl⟩, ⟨⟨4, rfl⟩, ⟨⟨5, rfl⟩, trivial⟩⟩⟩⟩⟩⟩ .slnil), ?_⟩
      intro a hA
      refine any_one (by kernel_rfl) (op_call hA 4 rfl rfl rfl rfl (enters_func  rfl rfl (fun w => by kernel_rfl)) (rminus_any rfl) ?_)
      rintro _ w29 ⟨rfl, hb28⟩
      replace hS := hS.call hb28
      refine ⟨_, rfl, (hS.part (.cons_cons _ (.cons _ (.cons_cons _ .slnil))) ⟨⟨0, rfl⟩, ⟨⟨1, rfl⟩, ⟨⟨2, rfl⟩, ⟨⟨3, rfl⟩, ⟨⟨4, rfl⟩, ⟨⟨5, rfl⟩, trivial⟩⟩⟩⟩⟩⟩ .slnil), ?_⟩
      intro a hA
      refine any_one (by kernel_rfl) (op_call hA 5 rfl rfl rfl rfl (enters_func  rfl rfl (fun w => by kernel_rfl)) (rsumOne_any ⟨(hS.rd 5 rfl), ha.s1.nil, ha.s1.cap⟩ ⟨(hS.rd 4 rfl), ha.s2.nil, ha.s2.cap⟩ ⟨(hS.rd 1 rfl), (fun h => by cases h), (Nat.le_refl _)⟩ ⟨(hS.rd 0 rfl), (fun h => by cases h), (Nat.le_refl _)⟩ hx (c := true) (y := x + 1) (by have h9 := words_pos_len x; simp only [sgn]; first | omega | (simp; omega)) (by simp)) ?_)
      rintro _ w34 ⟨f30_1, f30_c1, f30_2, f30_c2, rfl, hs31, hs32, hb33⟩
      replace hS := hS.call hb33
      replace hS := hS.addR hs31.rd
      replace hS := hS.addR hs32.rd
      refine ⟨_, rfl, (hS.part (.cons_cons _ (.cons _ (.cons_cons _ .slnil))) ⟨⟨2, rfl⟩, ⟨⟨3, rfl⟩, ⟨⟨4, rfl⟩, ⟨⟨5, rfl⟩, ⟨⟨6, rfl⟩, ⟨⟨7, rfl⟩, trivial⟩⟩⟩⟩⟩⟩ .slnil), ?_⟩
      intro a hA
      refine any_take (v := .agg #[.bool true, .slice f30_1 ((words (x + 1)).length) f30_c1, .slice f30_2 1 f30_c2, .bool false, .slice a3 0 ac3, .slice a4 1 ac4]) hA 8 rfl rfl rfl rfl (by kernel_rfl) (by kernel_rfl) (by kernel_rfl) (fun c a w h => hP c a _ _ w h) (hS.part (.cons_cons _ (.cons _ (.cons_cons _ .slnil))) ⟨⟨2, rfl⟩, ⟨⟨3, rfl⟩, ⟨⟨4, rfl⟩, ⟨⟨5, rfl⟩, ⟨⟨6, rfl⟩, ⟨⟨7, rfl⟩, trivial⟩⟩⟩⟩⟩⟩ .slnil) (fun w1 hS => does_build rfl (fun w => by kernel_rfl)) ?_
      intro a hA
      refine any_one (by kernel_rfl) (op_store (us := [.bool true, .slice f30_1 ((words (x + 1)).length) f30_c1, .slice f30_2 1 f30_c2, .bool false, .slice a3 0 ac3, .slice a4 1 ac4]) hA hS 9 rfl rfl rfl (sets_store (cs := [.bool true, .slice f30_1 ((words (x + 1)).length) f30_c1, .slice f30_2 1 f30_c2, .bool false, .slice a3 0 ac3, .slice a4 1 ac4]) rfl rfl rfl (by kernel_rfl) hS 1 rfl rfl rfl) 1 rfl rfl rfl rfl ?_)
      intro w35 hS
      refine ⟨(hS.part (.cons_cons _ (.cons _ (.cons_cons _ .slnil))) ⟨⟨2, rfl⟩, ⟨⟨3, rfl⟩, ⟨⟨4, rfl⟩, ⟨⟨5, rfl⟩, ⟨⟨6, rfl⟩, ⟨⟨7, rfl⟩, trivial⟩⟩⟩⟩⟩⟩ .slnil), ?_⟩
      refine any_end (by kernel_rfl) ?_
      refine hK14 _ _ ?_
      refine wp_ret ?_
      refine hret _ _ ?_
      refine ends (v := .agg #[.bool true, .slice f30_1 ((words (x + 1)).length) f30_c1, .slice f30_2 1 f30_c2, .bool false, .slice a3 0 ac3, .slice a4 1 ac4]) hA rfl (.cons (res_cell hS isS_26 rfl 1 rfl (cs := [.bool true, .slice f30_1 ((words (x + 1)).length) f30_c1, .slice f30_2 1 f30_c2, .bool false, .slice a3 0 ac3, .slice a4 1 ac4]) rfl rfl) .nil) rfl ?_
      exact ⟨f30_1, f30_c1, f30_2, f30_c2, a3, ac3, a4, ac4, rfl, ⟨⟨(hS.rd 1 rfl), hs31.nil, hs31.cap⟩, ⟨(hS.rd 0 rfl), hs32.nil, hs32.cap⟩, ⟨(hS.rd 5 rfl), ha.s3.nil, ha.s3.cap⟩, ⟨(hS.rd 4 rfl), ha.s4.nil, ha.s4.cap⟩⟩, hS.bel⟩
  · have hS : St w w [] [(a4, [1]), (a3, []), (a2, [1]), (a1, words x)] [] := ((((St.start w).addR ha.s1.rd).addR ha.s2.rd).addR ha.s3.rd).addR ha.s4.rd
    refine walk_of (l := [(0, .agg #[.bool true, .slice a1 ((words x).length) ac1, .slice a2 1 ac2, .bool false, .slice a3 0 ac3, .slice a4 1 ac4])]) Try.func33 rfl Try.ntmps33 rfl rfl ?_
    intro Q hret hnorm hP a hA
    refine wp_seq_k (fun K1 hK1 => ?_)
    refine wp_region_lit ?_
    refine seq_new (vs := [.bool true, .slice a1 ((words x).length) ac1, .slice a2 1 ac2, .bool false, .slice a3 0 ac3, .slice a4 1 ac4]) (t := 26) hA hS rfl rfl rfl (fun g => .pointer (some ⟨g, 0, none⟩)) (does_box rfl rfl) rfl ?_
    intro g2 w3 hS a hA
    refine seq_new (vs := [.bool false, .slice none 0 0, .slice none 0 0, .bool false, .slice none 0 0, .slice none 0 0]) (t := 26) hA hS rfl rfl rfl (fun g => .pointer (some ⟨g, 0, none⟩)) (does_alloc (z := .agg #[.bool false, .slice none 0 0, .slice none 0 0, .bool false, .slice none 0 0, .slice none 0 0]) (by kernel_rfl) rfl) rfl ?_
    intro g4 w5 hS a hA
    refine seq_end ?_
    refine hK1 _ _ ?_
    refine wp_seq_k (fun K6 hK6 => ?_)
    refine wp_region_lit ?_
    refine seq_newU (us := [1]) (t := 41) (m := 1) hA hS rfl rfl rfl (does_buildSlice rfl (by kernel_rfl)) (by simp [Dig]) ?_
    intro g7 w8 hS a hA
    refine seq_newU (us := [1]) (t := 41) (m := 1) hA hS rfl rfl rfl (does_buildSlice rfl (by kernel_rfl)) (by simp [Dig]) ?_
    intro g9 w10 hS a hA
    refine seq_do (v := .agg #[.bool false, .slice (some ⟨g7, 0, none⟩) 1 1, .slice (some ⟨g9, 0, none⟩) 1 1]) hA rfl rfl rfl (does_build rfl (fun w => by kernel_rfl)) ?_
    intro a hA
    refine seq_new (vs := [.bool false, .slice none 0 0, .slice none 0 0]) (t := 24) hA hS rfl rfl rfl (fun g => .pointer (some ⟨g, 0, none⟩)) (does_alloc (z := .agg #[.bool false, .slice none 0 0, .slice none 0 0]) (by kernel_rfl) rfl) rfl ?_
    intro g11 w12 hS a hA
    refine seq_store (us := [.bool false, .slice (some ⟨g7, 0, none⟩) 1 1, .slice (some ⟨g9, 0, none⟩) 1 1]) hA hS rfl rfl (sets_store (cs := [.bool false, .slice (some ⟨g7, 0, none⟩) 1 1, .slice (some ⟨g9, 0, none⟩) 1 1]) rfl rfl rfl (by kernel_rfl) hS 0 rfl rfl rfl) 0 rfl rfl rfl rfl ?_
    intro w13 hS
    refine seq_end ?_
    refine hK6 _ _ ?_
    refine wp_seq_k (fun K14 hK14 => ?_)
    refine wp_draw (S := fun w1 => St w w1 [(g11, [.bool false, .slice (some ⟨g7, 0, none⟩) 1 1, .slice (some ⟨g9, 0, none⟩) 1 1]), (g2, [.bool true, .slice a1 ((words x).length) ac1, .slice a2 1 ac2, .bool false, .slice a3 0 ac3, .slice a4 1 ac4])] [(some ⟨g9, 0, none⟩, [1]), (some ⟨g7, 0, none⟩, [1]), (a4, [1]), (a3, []), (a2, [1]), (a1, words x)] []) (by kernel_rfl) ?_
    replace hS := hS.drew
    refine any_take (v := .pointer (some ⟨g2, 0, none⟩)) hA 0 rfl rfl rfl rfl (by kernel_rfl) (by kernel_rfl) (by kernel_rfl) (fun c a w h => hP c a _ _ w h) (hS.part (.cons_cons _ (.cons _ (.cons_cons _ .slnil))) ⟨⟨0, rfl⟩, ⟨⟨1, rfl⟩, ⟨⟨2, rfl⟩, ⟨⟨3, rfl⟩, ⟨⟨4, rfl⟩, ⟨⟨5, rfl⟩, trivial⟩⟩⟩⟩⟩⟩ .slnil) (fun w1 hS => does_field fld_26_0 rfl rfl) ?_
    intro a hA
    refine any_take (v := .agg #[.bool true, .slice a1 ((words x).length) ac1, .slice a2 1 ac2]) hA 1 rfl rfl rfl rfl (by kernel_rfl) (by kernel_rfl) (by kernel_rfl) (fun c a w h => hP c a _ _ w h) (hS.part (.cons_cons _ (.cons _ (.cons_cons _ .slnil))) ⟨⟨0, rfl⟩, ⟨⟨1, rfl⟩, ⟨⟨2, rfl⟩, ⟨⟨3, rfl⟩, ⟨⟨4, rfl⟩, ⟨⟨5, rfl⟩, trivial⟩⟩⟩⟩⟩⟩ .slnil) (fun w1 hS => does_loadS hS isS_24 rfl 1 rfl (cs := [.bool true, .slice a1 ((words x).length) ac1, .slice a2 1 ac2]) rfl rfl) ?_
    intro a hA
    refine any_take (v := .agg #[.bool false, .slice (some ⟨g7, 0, none⟩) 1 1, .slice (some ⟨g9, 0, none⟩) 1 1]) hA 3 rfl rfl rfl rfl (by kernel_rfl) (by kernel_rfl) (by kernel_rfl) (fun c a w h => hP c a _ _ w h) (hS.part (.cons_cons _ (.cons _ (.cons_cons _ .slnil))) ⟨⟨0, rfl⟩, ⟨⟨1, rfl⟩, ⟨⟨2, rfl⟩, ⟨⟨3, rfl⟩, ⟨⟨4, rfl⟩, ⟨⟨5, rfl⟩, trivial⟩⟩⟩⟩⟩⟩ .slnil) (fun w1 hS => does_loadS hS isS_24 rfl 0 rfl (cs := [.bool false, .slice (some ⟨g7, 0, none⟩) 1 1, .slice (some ⟨g9, 0, none⟩) 1 1]) rfl rfl) ?_
    intro a hA
    refine any_take (v := .pointer (some ⟨g2, 3, none⟩)) hA 6 rfl rfl rfl rfl (by kernel_rfl) (by kernel_rfl) (by kernel_rfl) (fun c a w h => hP c a _ _ w h) (hS.part (.cons_cons _ (.cons _ (.cons_cons _ .slnil))) ⟨⟨0, rfl⟩, ⟨⟨1, rfl⟩, ⟨⟨2, rfl⟩, ⟨⟨3, rfl⟩, ⟨⟨4, rfl⟩, ⟨⟨5, rfl⟩, trivial⟩⟩⟩⟩⟩⟩ .slnil) (fun w1 hS => does_field fld_26_1 rfl rfl) ?_
    intro a hA
    refine any_take (v := .agg #[.bool false, .slice a3 0 ac3, .slice a4 1 ac4]) hA 7 rfl rfl rfl rfl (by kernel_rfl) (by kernel_rfl) (by kernel_rfl) (fun c a w h => hP c a _ _ w h) (hS.part (.cons_cons _ (.cons _ (.cons_cons _ .slnil))) ⟨⟨0, rfl⟩, ⟨⟨1, rfl⟩, ⟨⟨2, rfl⟩, ⟨⟨3, rfl⟩, ⟨⟨4, rfl⟩, ⟨⟨5, rfl⟩, trivial⟩⟩⟩⟩⟩⟩ .slnil) (fun w1 hS => does_loadS hS isS_24 rfl 1 rfl (cs := [.bool false, .slice a3 0 ac3, .slice a4 1 ac4]) rfl rfl) ?_
    intro a hA
    refine any_one (by kernel_rfl) (op_call hA 2 rfl rfl rfl rfl (enters_func  rfl rfl (fun w => by kernel_rfl)) (rminus_any rfl) ?_)
    rintro _ w16 ⟨rfl, hb15⟩
    replace hS := hS.call hb15
    refine ⟨_, rfl, (hS.part (.cons_cons _ (.cons _ (.cons_cons _ .slnil))) ⟨⟨0, rfl⟩, ⟨⟨1, rfl⟩, ⟨⟨2, rfl⟩, ⟨⟨3, rfl⟩, ⟨⟨4, rfl⟩, ⟨⟨5, rfl⟩, trivial⟩⟩⟩⟩⟩⟩ .slnil), ?_⟩
    intro a hA
    refine any_one (by kernel_rfl) (op_call hA 4 rfl rfl rfl rfl (enters_func  rfl rfl (fun w => by kernel_rfl)) (rminus_any rfl) ?_)
    rintro _ w18 ⟨rfl, hb17⟩
    replace hS := hS.call hb17
    refine ⟨_, rfl, (hS.part (.cons_cons _ (.cons _ (.cons_cons _ .slnil))) ⟨⟨0, rfl⟩, ⟨⟨1, rfl⟩, ⟨⟨2, rfl⟩, ⟨⟨3, rfl⟩, ⟨⟨4, rfl⟩, ⟨⟨5, rfl⟩, trivial⟩⟩⟩⟩⟩⟩ .slnil), ?_⟩
    intro a hA
    refine any_one (by kernel_rfl) (op_call hA 5 rfl rfl rfl rfl (enters_func  rfl rfl (fun w => by kernel_rfl)) (rsumOne_any ⟨(hS.rd 5 rfl), ha.s1.nil, ha.s1.cap⟩ ⟨(hS.rd 4 rfl), ha.s2.nil, ha.s2.cap⟩ ⟨(hS.rd 1 rfl), (fun h => by cases h), (Nat.le_refl _)⟩ ⟨(hS.rd 0 rfl), (fun h => by cases h), (Nat.le_refl _)⟩ hx (c := false) (y := x - 1) (by simp [sgn]; simp at hb; omega) (by simp)) ?_)
    rintro _ w23 ⟨f19_1, f19_c1, f19_2, f19_c2, rfl, hs20, hs21, hb22⟩
    replace hS := hS.call hb22
    replace hS := hS.addR hs20.rd
    replace hS := hS.addR hs21.rd
    refine ⟨_, rfl, (hS.part (.cons_cons _ (.cons _ (.cons_cons _ .slnil))) ⟨⟨2, rfl⟩, ⟨⟨3, rfl⟩, ⟨⟨4, rfl⟩, ⟨⟨5, rfl⟩, ⟨⟨6, rfl⟩, ⟨⟨7, rfl⟩, trivial⟩⟩⟩⟩⟩⟩ .slnil), ?_⟩
    intro a hA
    refine any_take (v := .agg #[.bool false, .slice f19_1 ((words (x - 1)).length) f19_c1, .slice f19_2 1 f19_c2, .bool false, .slice a3 0 ac3, .slice a4 1 ac4]) hA 8 rfl rfl rfl rfl (by kernel_rfl) (by kernel_rfl) (by kernel_rfl) (fun c a w h => hP c a _ _ w h) (hS.part (.cons_cons _ (.cons _ (.cons_cons _ .slnil))) ⟨⟨2, rfl⟩, ⟨⟨3, rfl⟩, ⟨⟨4, rfl⟩, ⟨⟨5, rfl⟩, ⟨⟨6, rfl⟩, ⟨⟨7, rfl⟩, trivial⟩⟩⟩⟩⟩⟩ .slnil) (fun w1 hS => does_build rfl (fun w => by kernel_rfl)) ?_
    intro a hA
    refine any_one (by kernel_rfl) (op_store (us := [.bool false, .slice f19_1 ((words (x - 1)).length) f19_c1, .slice f19_2 1 f19_c2, .bool false, .slice a3 0 ac3, .slice a4 1 ac4]) hA hS 9 rfl rfl rfl (sets_store (cs := [.bool false, .slice f19_1 ((words (x - 1)).length) f19_c1, .slice f19_2 1 f19_c2, .bool false, .slice a3 0 ac3, .slice a4 1 ac4]) rfl rfl rfl (by kernel_rfl) hS 1 rfl rfl rfl) 1 rfl rfl rfl rfl ?_)
    intro w24 hS
    refine ⟨(hS.part (.cons_cons _ (.cons _ (.cons_cons _ .slnil))) ⟨⟨2, rfl⟩, ⟨⟨3, rfl⟩, ⟨⟨4, rfl⟩, ⟨⟨5, rfl⟩, ⟨⟨6, rfl⟩, ⟨⟨7, rfl⟩, trivial⟩⟩⟩⟩⟩⟩ .slnil), ?_⟩
    refine any_end (by kernel_rfl) ?_
    refine hK14 _ _ ?_
    refine wp_ret ?_
    refine hret _ _ ?_
    refine ends (v := .agg #[.bool false, .slice f19_1 ((words (x - 1)).length) f19_c1, .slice f19_2 1 f19_c2, .bool false, .slice a3 0 ac3, .slice a4 1 ac4]) hA rfl (.cons (res_cell hS isS_26 rfl 1 rfl (cs := [.bool false, .slice f19_1 ((words (x - 1)).length) f19_c1, .slice f19_2 1 f19_c2, .bool false, .slice a3 0 ac3, .slice a4 1 ac4]) rfl rfl) .nil) rfl ?_
    exact ⟨f19_1, f19_c1, f19_2, f19_c2, a3, ac3, a4, ac4, rfl, ⟨⟨(hS.rd 1 rfl), hs20.nil, hs20.cap⟩, ⟨(hS.rd 0 rfl), hs21.nil, hs21.cap⟩, ⟨(hS.rd 5 rfl), ha.s3.nil, ha.s3.cap⟩, ⟨(hS.rd 4 rfl), ha.s4.nil, ha.s4.cap⟩⟩, hS.bel⟩
theorem down_any {w : World} {b : Bool} {ro : Option Addr} {rc y : Nat} {n : Int} (hr : Sc w ro rc (words y)) (hy : (words y).length ≤ 512) (h0 : 0 ≤ n) (h1 : n ≤ 16384) :
    Calls Try.prog 37 #[.agg #[.bool b, .slice ro (words y).length rc], .int .i64 n] w fun e w' => ∃ o c, e = .returned (.agg #[.bool b, .slice o (words (y / 2 ^ n.toNat)).length c]) ∧ Sc w' o c (words (y / 2 ^ n.toNat)) ∧ Below w.heap.size w w' := by
  have hS : St w w [] [(ro, words y)] [] := (St.start w).addR hr.rd
  refine walk_of (l := [(0, .agg #[.bool b, .slice ro ((words y).length) rc]), (1, .int .i64 n)]) Try.func37 rfl Try.ntmps37 rfl rfl ?_
  intro Q hret hnorm hP a hA
  refine wp_seq_k (fun K1 hK1 => ?_)
  refine wp_region_lit ?_
  refine seq_new (vs := [.bool b, .slice ro ((words y).length) rc]) (t := 49) hA hS rfl rfl rfl (fun g => .pointer (some ⟨g, 0, none⟩)) (does_box rfl rfl) rfl ?_
  intro g2 w3 hS a hA
  refine seq_new (vs := [.bool false, .slice none 0 0]) (t := 49) hA hS rfl rfl rfl (fun g => .pointer (some ⟨g, 0, none⟩)) (does_alloc (z := .agg #[.bool false, .slice none 0 0]) (by kernel_rfl) rfl) rfl ?_
  intro g4 w5 hS a hA
  refine seq_end ?_
  refine hK1 _ _ ?_
  refine wp_seq_k (fun K6 hK6 => ?_)
  refine wp_region_lit ?_
  refine seq_do (v := .pointer (some ⟨g2, 1, none⟩)) hA rfl rfl rfl (does_field fld_49_1 rfl rfl) ?_
  intro a hA
  refine seq_do hA rfl rfl rfl (does_load1 hS is1_22 rfl 1 rfl rfl) ?_
  intro a hA
  refine seq_do hA rfl rfl rfl (does_move rfl) ?_
  intro a hA
  refine seq_do (v := .int .i64 (-n)) hA rfl rfl rfl (does_un rfl (un_neg (i64In (by omega) (by omega)))) ?_
  intro a hA
  refine seq_call hA rfl rfl rfl (enters_func  rfl rfl (fun w => by kernel_rfl)) (shift_downI (n := n) _ (hS.rd 0 rfl) hy (by omega) (by omega)) ?_
  rintro _ w11 ⟨ro7, rc8, rfl, ho9, hb10⟩
  replace hS := hS.call hb10
  replace hS := hS.addR ho9.rd
  refine ⟨_, rfl, ?_⟩
  intro a hA
  refine seq_do hA rfl rfl rfl (does_move rfl) ?_
  intro a hA
  refine seq_do (v := .slice ro7 ((words (y / 2 ^ n.toNat)).length) rc8) hA rfl rfl rfl (does_extract (vs := [.slice ro7 ((words (y / 2 ^ n.toNat)).length) rc8, .int .i64 0]) rfl rfl) ?_
  intro a hA
  refine seq_do (v := .int .i64 0) hA rfl rfl rfl (does_extract (vs := [.slice ro7 ((words (y / 2 ^ n.toNat)).length) rc8, .int .i64 0]) rfl rfl) ?_
  intro a hA
  refine seq_do hA rfl rfl rfl (does_assign rfl) ?_
  intro a hA
  refine seq_do hA rfl rfl rfl (does_assign rfl) ?_
  intro a hA
  refine seq_end ?_
  refine hK6 _ _ ?_
  refine wp_seq_k (fun K12 hK12 => ?_)
  refine wp_region_lit ?_
  refine seq_do (v := .pointer (some ⟨g2, 0, none⟩)) hA rfl rfl rfl (does_field fld_49_0 rfl rfl) ?_
  intro a hA
  refine seq_do hA rfl rfl rfl (does_load1 hS is1_4 rfl 1 rfl rfl) ?_
  intro a hA
  refine seq_do hA rfl rfl rfl (does_move rfl) ?_
  intro a hA
  refine seq_do (v := .agg #[.bool b, .slice ro7 ((words (y / 2 ^ n.toNat)).length) rc8]) hA rfl rfl rfl (does_build rfl (fun w => by kernel_rfl)) ?_
  intro a hA
  refine seq_store (us := [.bool b, .slice ro7 ((words (y / 2 ^ n.toNat)).length) rc8]) hA hS rfl rfl (sets_store (cs := [.bool b, .slice ro7 ((words (y / 2 ^ n.toNat)).length) rc8]) rfl rfl rfl (by kernel_rfl) hS 0 rfl rfl rfl) 0 rfl rfl rfl rfl ?_
  intro w13 hS
  refine seq_end ?_
  refine hK12 _ _ ?_
  refine wp_ret ?_
  refine hret _ _ ?_
  refine ends (v := .agg #[.bool b, .slice ro7 ((words (y / 2 ^ n.toNat)).length) rc8]) hA rfl (.cons (res_cell hS isS_49 rfl 0 rfl (cs := [.bool b, .slice ro7 ((words (y / 2 ^ n.toNat)).length) rc8]) rfl rfl) .nil) rfl ?_
  exact ⟨_, _, rfl, ⟨(hS.rd 0 rfl), ho9.nocap, ho9.caps⟩, hS.bel⟩
theorem shiftE_any {w : World} {q : Q6} {a1 a2 a3 a4 : Option Addr} {ac1 ac2 ac3 ac4 : Nat} (ha : Nm w q a1 ac1 a2 ac2 a3 ac3 a4 ac4) (hl : LenQ q) {n : Int} (hw : (want1 q != 0) = true) : Calls Try.prog 14 #[numV q a1 ac1 a2 ac2 a3 ac3 a4 ac4, .int .i64 n] w (AnsN w (shiftQ q n)) := by
  have hS : St w w [] [(a4, q.q2), (a3, q.t2), (a2, q.q1), (a1, q.t1)] [] := ((((St.start w).addR ha.s1.rd).addR ha.s2.rd).addR ha.s3.rd).addR ha.s4.rd
  refine walk_of (l := [(0, .agg #[.bool q.b1, .slice a1 q.t1.length ac1, .slice a2 q.q1.length ac2, .bool q.b2, .slice a3 q.t2.length ac3, .slice a4 q.q2.length ac4]), (1, .int .i64 n)]) Try.func14 rfl Try.ntmps14 rfl rfl ?_
  intro Q hret hnorm hP a hA
  refine wp_seq_k (fun K1 hK1 => ?_)
  refine wp_region_lit ?_
  refine seq_new (vs := [.bool q.b1, .slice a1 q.t1.length ac1, .slice a2 q.q1.length ac2, .bool q.b2, .slice a3 q.t2.length ac3, .slice a4 q.q2.length ac4]) (t := 26) hA hS rfl rfl rfl (fun g => .pointer (some ⟨g, 0, none⟩)) (does_box rfl rfl) rfl ?_
  intro g2 w3 hS a hA
  refine seq_new (vs := [.bool false, .slice none 0 0, .slice none 0 0, .bool false, .slice none 0 0, .slice none 0 0]) (t := 26) hA hS rfl rfl rfl (fun g => .pointer (some ⟨g, 0, none⟩)) (does_alloc (z := .agg #[.bool false, .slice none 0 0, .slice none 0 0, .bool false, .slice none 0 0, .slice none 0 0]) (by kernel_rfl) rfl) rfl ?_
  intro g4 w5 hS a hA
  refine seq_do hA rfl rfl rfl (does_assign rfl) ?_
  intro a hA
  refine seq_end ?_
  refine hK1 _ _ ?_
  refine wp_seq_k (fun K6 hK6 => ?_)
  refine wp_seq_k (fun K7 hK7 => ?_)
  refine wp_region_lit ?_
  refine seq_do (v := .agg #[.bool q.b1, .slice a1 q.t1.length ac1, .slice a2 q.q1.length ac2, .bool q.b2, .slice a3 q.t2.length ac3, .slice a4 q.q2.length ac4]) hA rfl rfl rfl (does_loadS hS isS_26 rfl 1 rfl (cs := [.bool q.b1, .slice a1 q.t1.length ac1, .slice a2 q.q1.length ac2, .bool q.b2, .slice a3 q.t2.length ac3, .slice a4 q.q2.length ac4]) rfl rfl) ?_
  intro a hA
  refine seq_new (vs := [.bool q.b1, .slice a1 q.t1.length ac1, .slice a2 q.q1.length ac2, .bool q.b2, .slice a3 q.t2.length ac3, .slice a4 q.q2.length ac4]) (t := 26) hA hS rfl rfl rfl (fun g => .slice (some ⟨g, 0, none⟩) 1 1) (does_buildSlice rfl (by kernel_rfl)) rfl ?_
  intro g8 w9 hS a hA
  refine seq_call hA rfl rfl rfl (enters_func  rfl rfl (fun w => by kernel_rfl)) (want1_any (show Nm _ q a1 ac1 a2 ac2 a3 ac3 a4 ac4 from ⟨⟨(hS.rd 3 rfl), ha.s1.nil, ha.s1.cap⟩, ⟨(hS.rd 2 rfl), ha.s2.nil, ha.s2.cap⟩, ⟨(hS.rd 1 rfl), ha.s3.nil, ha.s3.cap⟩, ⟨(hS.rd 0 rfl), ha.s4.nil, ha.s4.cap⟩⟩) hl (hS.blk 0 rfl) rfl) ?_
  rintro _ w11 ⟨rfl, hb10⟩
  replace hS := hS.call hb10
  refine ⟨_, rfl, ?_⟩
  intro a hA
  refine seq_do hA rfl rfl rfl (does_assign rfl) ?_
  intro a hA
  refine seq_end ?_
  refine hK7 _ _ ?_
  refine wp_seq_k (fun K12 hK12 => ?_)
  refine wp_region_lit ?_
  refine seq_do hA rfl rfl rfl (does_move rfl) ?_
  intro a hA
  refine seq_do (v := .bool true) hA rfl rfl rfl (does_bin rfl rfl (fun w => (bin_neq w).trans (by rw [show ((want1 q != 0)) = true from hw]))) ?_
  intro a hA
  refine seq_end ?_
  refine hK12 _ _ ?_
  refine wp_cond_true (hA.ev rfl) ?_
  refine wp_seq_k (fun K13 hK13 => ?_)
  refine wp_region_lit ?_
  refine seq_do (v := .agg #[.bool false, .slice none 0 0, .slice none 0 0, .bool false, .slice none 0 0, .slice none 0 0]) hA rfl rfl rfl (does_build rfl (fun w => by kernel_rfl)) ?_
  intro a hA
  refine seq_do hA rfl rfl rfl (does_move rfl) ?_
  intro a hA
  refine seq_store (us := [.bool false, .slice none 0 0, .slice none 0 0, .bool false, .slice none 0 0, .slice none 0 0]) hA hS rfl rfl (sets_store (cs := [.bool false, .slice none 0 0, .slice none 0 0, .bool false, .slice none 0 0, .slice none 0 0]) rfl rfl rfl (by kernel_rfl) hS 1 rfl rfl rfl) 1 rfl rfl rfl rfl ?_
  intro w14 hS
  refine seq_do hA rfl rfl rfl (does_assign rfl) ?_
  intro a hA
  refine seq_end ?_
  refine hK13 _ _ ?_
  refine wp_ret ?_
  refine hret _ _ ?_
  refine ends (v := .tuple #[.agg #[.bool false, .slice none 0 0, .slice none 0 0, .bool false, .slice none 0 0, .slice none 0 0], .int .i64 (want1 q)]) hA rfl (.cons (res_cell hS isS_26 rfl 1 rfl (cs := [.bool false, .slice none 0 0, .slice none 0 0, .bool false, .slice none 0 0, .slice none 0 0]) rfl rfl) (.cons (res_tmp rfl) .nil)) rfl ?_
  rw [shiftQ_err hw]
  exact ⟨none, 0, none, 0, none, 0, none, 0, rfl, ⟨(Sc.none _), (Sc.none _), (Sc.none _), (Sc.none _)⟩, hS.bel⟩
theorem shiftW_any {w : World} {b : Bool} {x : Nat} {a1 a2 a3 a4 : Option Addr} {ac1 ac2 ac3 ac4 : Nat} (ha : Nm w (Q6.whole b x) a1 ac1 a2 ac2 a3 ac3 a4 ac4) (hl : LenQ (Q6.whole b x)) {n : Int} (hw : want1 (Q6.whole b x) = 0) (hx : (words x).length ≤ 512) (hb : b.toNat ≤ x) : Calls Try.prog 14 #[numV (Q6.whole b x) a1 ac1 a2 ac2 a3 ac3 a4 ac4, .int .i64 n] w (AnsN w (shiftQ (Q6.whole b x) n)) := by
  have hS : St w w [] [(a4, [1]), (a3, []), (a2, [1]), (a1, words x)] [] := ((((St.start w).addR ha.s1.rd).addR ha.s2.rd).addR ha.s3.rd).addR ha.s4.rd
  refine walk_of (l := [(0, .agg #[.bool b, .slice a1 ((words x).length) ac1, .slice a2 1 ac2, .bool false, .slice a3 0 ac3, .slice a4 1 ac4]), (1, .int .i64 n)]) Try.func14 rfl Try.ntmps14 rfl rfl ?_
  intro Q hret hnorm hP a hA
  refine wp_seq_k (fun K1 hK1 => ?_)
  refine wp_region_lit ?_
  refine seq_new (vs := [.bool b, .slice a1 ((words x).length) ac1, .slice a2 1 ac2, .bool false, .slice a3 0 ac3, .slice a4 1 ac4]) (t := 26) hA hS rfl rfl rfl (fun g => .pointer (some ⟨g, 0, none⟩)) (does_box rfl rfl) rfl ?_
  intro g2 w3 hS a hA
  refine seq_new (vs := [.bool false, .slice none 0 0, .slice none 0 0, .bool false, .slice none 0 0, .slice none 0 0]) (t := 26) hA hS rfl rfl rfl (fun g => .pointer (some ⟨g, 0, none⟩)) (does_alloc (z := .agg #[.bool false, .slice none 0 0, .slice none 0 0, .bool false, .slice none 0 0, .slice none 0 0]) (by kernel_rfl) rfl) rfl ?_
  intro g4 w5 hS a hA
  refine seq_do hA rfl rfl rfl (does_assign rfl) ?_
  intro a hA
  refine seq_end ?_
  refine hK1 _ _ ?_
  refine wp_seq_k (fun K6 hK6 => ?_)
  refine wp_seq_k (fun K7 hK7 => ?_)
  refine wp_region_lit ?_
  refine seq_do (v := .agg #[.bool b, .slice a1 ((words x).length) ac1, .slice a2 1 ac2, .bool false, .slice a3 0 ac3, .slice a4 1 ac4]) hA rfl rfl rfl (does_loadS hS isS_26 rfl 1 rfl (cs := [.bool b, .slice a1 ((words x).length) ac1, .slice a2 1 ac2, .bool false, .slice a3 0 ac3, .slice a4 1 ac4]) rfl rfl) ?_
  intro a hA
  refine seq_new (vs := [.bool b, .slice a1 ((words x).length) ac1, .slice a2 1 ac2, .bool false, .slice a3 0 ac3, .slice a4 1 ac4]) (t := 26) hA hS rfl rfl rfl (fun g => .slice (some ⟨g, 0, none⟩) 1 1) (does_buildSlice rfl (by kernel_rfl)) rfl ?_
  intro g8 w9 hS a hA
  refine seq_call hA rfl rfl rfl (enters_func  rfl rfl (fun w => by kernel_rfl)) (want1_any (show Nm _ (Q6.whole b x) a1 ac1 a2 ac2 a3 ac3 a4 ac4 from ⟨⟨(hS.rd 3 rfl), ha.s1.nil, ha.s1.cap⟩, ⟨(hS.rd 2 rfl), ha.s2.nil, ha.s2.cap⟩, ⟨(hS.rd 1 rfl), ha.s3.nil, ha.s3.cap⟩, ⟨(hS.rd 0 rfl), ha.s4.nil, ha.s4.cap⟩⟩) hl (hS.blk 0 rfl) hw) ?_
  rintro _ w11 ⟨rfl, hb10⟩
  replace hS := hS.call hb10
  refine ⟨_, rfl, ?_⟩
  intro a hA
  refine seq_do hA rfl rfl rfl (does_assign rfl) ?_
  intro a hA
  refine seq_end ?_
  refine hK7 _ _ ?_
  refine wp_seq_k (fun K12 hK12 => ?_)
  refine wp_region_lit ?_
  refine seq_do hA rfl rfl rfl (does_move rfl) ?_
  intro a hA
  refine seq_do (v := .bool false) hA rfl rfl rfl (does_bin rfl rfl (fun w => by kernel_rfl)) ?_
  intro a hA
  refine seq_end ?_
  refine hK12 _ _ ?_
  refine wp_cond_false (hA.ev rfl) ?_
  refine wp_skip ?_
  refine hK6 _ _ ?_
  refine wp_seq_k (fun K13 hK13 => ?_)
  refine wp_seq_k (fun K14 hK14 => ?_)
  refine wp_region_lit ?_
  refine seq_do hA rfl rfl rfl (does_move rfl) ?_
  intro a hA
  rcases Bool.eq_false_or_eq_true (decide (n < -16384)) with hb15 | hb15
  · have hb15' := of_decide_eq_true hb15
    refine seq_do (v := .bool true) hA rfl rfl rfl (does_bin rfl rfl (fun w => (bin_lss w).trans (by rw [hb15]))) ?_
    intro a hA
    refine seq_do hA rfl rfl rfl (does_move rfl) ?_
    intro a hA
    refine seq_skip hA rfl rfl rfl ?_
    intro a hA
    refine seq_skip hA rfl rfl rfl ?_
    intro a hA
    refine seq_do (v := .bool true) hA rfl rfl rfl (does_pick rfl rfl rfl rfl) ?_
    intro a hA
    refine seq_end ?_
    refine hK14 _ _ ?_
    refine wp_cond_true (hA.ev rfl) ?_
    refine wp_seq_k (fun K16 hK16 => ?_)
    refine wp_region_lit ?_
    refine seq_do (v := .agg #[.bool false, .slice none 0 0, .slice none 0 0, .bool false, .slice none 0 0, .slice none 0 0]) hA rfl rfl rfl (does_build rfl (fun w => by kernel_rfl)) ?_
    intro a hA
    refine seq_store (us := [.bool false, .slice none 0 0, .slice none 0 0, .bool false, .slice none 0 0, .slice none 0 0]) hA hS rfl rfl (sets_store (cs := [.bool false, .slice none 0 0, .slice none 0 0, .bool false, .slice none 0 0, .slice none 0 0]) rfl rfl rfl (by kernel_rfl) hS 1 rfl rfl rfl) 1 rfl rfl rfl rfl ?_
    intro w17 hS
    refine seq_do hA rfl rfl rfl (does_assign rfl) ?_
    intro a hA
    refine seq_end ?_
    refine hK16 _ _ ?_
    refine wp_ret ?_
    refine hret _ _ ?_
    refine ends (v := .tuple #[.agg #[.bool false, .slice none 0 0, .slice none 0 0, .bool false, .slice none 0 0, .slice none 0 0], .int .i64 1]) hA rfl (.cons (res_cell hS isS_26 rfl 1 rfl (cs := [.bool false, .slice none 0 0, .slice none 0 0, .bool false, .slice none 0 0, .slice none 0 0]) rfl rfl) (.cons (res_tmp rfl) .nil)) rfl ?_
    rw [shiftQ_arg hw (by omega)]
    exact ⟨none, 0, none, 0, none, 0, none, 0, rfl, ⟨(Sc.none _), (Sc.none _), (Sc.none _), (Sc.none _)⟩, hS.bel⟩
  · have hb15' := of_decide_eq_false hb15
    refine seq_do (v := .bool false) hA rfl rfl rfl (does_bin rfl rfl (fun w => (bin_lss w).trans (by rw [hb15]))) ?_
    intro a hA
    refine seq_do hA rfl rfl rfl (does_move rfl) ?_
    intro a hA
    refine seq_do hA rfl rfl rfl (does_move rfl) ?_
    intro a hA
    rcases Bool.eq_false_or_eq_true (decide (16384 < n)) with hb18 | hb18
    · have hb18' := of_decide_eq_true hb18
      refine seq_do (v := .bool true) hA rfl rfl rfl (does_bin rfl rfl (fun w => (bin_gtr w).trans (by rw [hb18]))) ?_
      intro a hA
      refine seq_do (v := .bool true) hA rfl rfl rfl (does_pick rfl rfl rfl rfl) ?_
      intro a hA
      refine seq_end ?_
      refine hK14 _ _ ?_
      refine wp_cond_true (hA.ev rfl) ?_
      refine wp_seq_k (fun K19 hK19 => ?_)
      refine wp_region_lit ?_
      refine seq_do (v := .agg #[.bool false, .slice none 0 0, .slice none 0 0, .bool false, .slice none 0 0, .slice none 0 0]) hA rfl rfl rfl (does_build rfl (fun w => by kernel_rfl)) ?_
      intro a hA
      refine seq_store (us := [.bool false, .slice none 0 0, .slice none 0 0, .bool false, .slice none 0 0, .slice none 0 0]) hA hS rfl rfl (sets_store (cs := [.bool false, .slice none 0 0, .slice none 0 0, .bool false, .slice none 0 0, .slice none 0 0]) rfl rfl rfl (by kernel_rfl) hS 1 rfl rfl rfl) 1 rfl rfl rfl rfl ?_
      intro w20 hS
      refine seq_do hA rfl rfl rfl (does_assign rfl) ?_
      intro a hA
      refine seq_end ?_
      refine hK19 _ _ ?_
      refine wp_ret ?_
      refine hret _ _ ?_
      refine ends (v := .tuple #[.agg #[.bool false, .slice none 0 0, .slice none 0 0, .bool false, .slice none 0 0, .slice none 0 0], .int .i64 1]) hA rfl (.cons (res_cell hS isS_26 rfl 1 rfl (cs := [.bool false, .slice none 0 0, .slice none 0 0, .bool false, .slice none 0 0, .slice none 0 0]) rfl rfl) (.cons (res_tmp rfl) .nil)) rfl ?_
      rw [shiftQ_arg hw (by omega)]
      exact ⟨none, 0, none, 0, none, 0, none, 0, rfl, ⟨(Sc.none _), (Sc.none _), (Sc.none _), (Sc.none _)⟩, hS.bel⟩
    · have hb18' := of_decide_eq_false hb18
      refine seq_do (v := .bool false) hA rfl rfl rfl (does_bin rfl rfl (fun w => (bin_gtr w).trans (by rw [hb18]))) ?_
      intro a hA
      refine seq_do (v := .bool false) hA rfl rfl rfl (does_pick rfl rfl rfl rfl) ?_
      intro a hA
      refine seq_end ?_
      refine hK14 _ _ ?_
      refine wp_cond_false (hA.ev rfl) ?_
      refine wp_skip ?_
      refine hK13 _ _ ?_
      refine wp_seq_k (fun K21 hK21 => ?_)
      refine wp_seq_k (fun K22 hK22 => ?_)
      refine wp_region_lit ?_
      refine seq_do hA rfl rfl rfl (does_move rfl) ?_
      intro a hA
      rcases Bool.eq_false_or_eq_true (decide (n < 0)) with hb23 | hb23
      · have hb23' := of_decide_eq_true hb23
        refine seq_do (v := .bool true) hA rfl rfl rfl (does_bin rfl rfl (fun w => (bin_lss w).trans (by rw [hb23]))) ?_
        intro a hA
        refine seq_end ?_
        refine hK22 _ _ ?_
        refine wp_cond_true (hA.ev rfl) ?_
        refine wp_seq_k (fun K24 hK24 => ?_)
        refine wp_region_lit ?_
        refine seq_do (v := .agg #[.bool b, .slice a1 ((words x).length) ac1, .slice a2 1 ac2, .bool false, .slice a3 0 ac3, .slice a4 1 ac4]) hA rfl rfl rfl (does_loadS hS isS_26 rfl 2 rfl (cs := [.bool b, .slice a1 ((words x).length) ac1, .slice a2 1 ac2, .bool false, .slice a3 0 ac3, .slice a4 1 ac4]) rfl rfl) ?_
        intro a hA
        refine seq_call hA rfl rfl rfl (enters_func  rfl rfl (fun w => by kernel_rfl)) (rowOf_any (show Nm _ (Q6.whole b x) a1 ac1 a2 ac2 a3 ac3 a4 ac4 from ⟨⟨(hS.rd 3 rfl), ha.s1.nil, ha.s1.cap⟩, ⟨(hS.rd 2 rfl), ha.s2.nil, ha.s2.cap⟩, ⟨(hS.rd 1 rfl), ha.s3.nil, ha.s3.cap⟩, ⟨(hS.rd 0 rfl), ha.s4.nil, ha.s4.cap⟩⟩) hx hb) ?_
        rintro _ w29 ⟨ro25, rc26, rfl, hs27, hb28⟩
        replace hS := hS.call hb28
        replace hS := hS.addR hs27.rd
        refine ⟨_, rfl, ?_⟩
        intro a hA
        refine seq_do hA rfl rfl rfl (does_move rfl) ?_
        intro a hA
        refine seq_do (v := .int .i64 (-n)) hA rfl rfl rfl (does_un rfl (un_neg (i64In (by omega) (by omega)))) ?_
        intro a hA
        refine seq_call hA rfl rfl rfl (enters_func  rfl rfl (fun w => by kernel_rfl)) (down_any ⟨(hS.rd 0 rfl), hs27.nil, hs27.cap⟩ (Nat.le_trans (words_mono (Nat.sub_le x b.toNat)) hx) (by omega) (by omega)) ?_
        rintro _ w34 ⟨ro30, rc31, rfl, hs32, hb33⟩
        replace hS := hS.call hb33
        replace hS := hS.addR hs32.rd
        refine ⟨_, rfl, ?_⟩
        intro a hA
        refine seq_call hA rfl rfl rfl (enters_func  rfl rfl (fun w => by kernel_rfl)) (number_any (b := b) ⟨(hS.rd 0 rfl), hs32.nil, hs32.cap⟩ (div_len (Nat.le_trans (words_mono (Nat.sub_le x b.toNat)) hx))) ?_
        rintro _ w38 ⟨p35_1, p35_c1, p35_2, p35_c2, p35_3, p35_c3, p35_4, p35_c4, rfl, hn36, hb37⟩
        replace hS := hS.call hb37
        replace hS := hS.addR hn36.s1.rd
        replace hS := hS.addR hn36.s2.rd
        replace hS := hS.addR hn36.s3.rd
        replace hS := hS.addR hn36.s4.rd
        refine ⟨_, rfl, ?_⟩
        intro a hA
        refine seq_do (v := .agg #[.bool ((bigS b ((x - b.toNat) / 2 ^ (-n).toNat + b.toNat)).1.b1), .slice p35_1 (((bigS b ((x - b.toNat) / 2 ^ (-n).toNat + b.toNat)).1.t1).length) p35_c1, .slice p35_2 (((bigS b ((x - b.toNat) / 2 ^ (-n).toNat + b.toNat)).1.q1).length) p35_c2, .bool ((bigS b ((x - b.toNat) / 2 ^ (-n).toNat + b.toNat)).1.b2), .slice p35_3 (((bigS b ((x - b.toNat) / 2 ^ (-n).toNat + b.toNat)).1.t2).length) p35_c3, .slice p35_4 (((bigS b ((x - b.toNat) / 2 ^ (-n).toNat + b.toNat)).1.q2).length) p35_c4]) hA rfl rfl rfl (does_extract (vs := [.agg #[.bool ((bigS b ((x - b.toNat) / 2 ^ (-n).toNat + b.toNat)).1.b1), .slice p35_1 (((bigS b ((x - b.toNat) / 2 ^ (-n).toNat + b.toNat)).1.t1).length) p35_c1, .slice p35_2 (((bigS b ((x - b.toNat) / 2 ^ (-n).toNat + b.toNat)).1.q1).length) p35_c2, .bool ((bigS b ((x - b.toNat) / 2 ^ (-n).toNat + b.toNat)).1.b2), .slice p35_3 (((bigS b ((x - b.toNat) / 2 ^ (-n).toNat + b.toNat)).1.t2).length) p35_c3, .slice p35_4 (((bigS b ((x - b.toNat) / 2 ^ (-n).toNat + b.toNat)).1.q2).length) p35_c4], .int .i64 ((bigS b ((x - b.toNat) / 2 ^ (-n).toNat + b.toNat)).2)]) rfl rfl) ?_
        intro a hA
        refine seq_do (v := .int .i64 ((bigS b ((x - b.toNat) / 2 ^ (-n).toNat + b.toNat)).2)) hA rfl rfl rfl (does_extract (vs := [.agg #[.bool ((bigS b ((x - b.toNat) / 2 ^ (-n).toNat + b.toNat)).1.b1), .slice p35_1 (((bigS b ((x - b.toNat) / 2 ^ (-n).toNat + b.toNat)).1.t1).length) p35_c1, .slice p35_2 (((bigS b ((x - b.toNat) / 2 ^ (-n).toNat + b.toNat)).1.q1).length) p35_c2, .bool ((bigS b ((x - b.toNat) / 2 ^ (-n).toNat + b.toNat)).1.b2), .slice p35_3 (((bigS b ((x - b.toNat) / 2 ^ (-n).toNat + b.toNat)).1.t2).length) p35_c3, .slice p35_4 (((bigS b ((x - b.toNat) / 2 ^ (-n).toNat + b.toNat)).1.q2).length) p35_c4], .int .i64 ((bigS b ((x - b.toNat) / 2 ^ (-n).toNat + b.toNat)).2)]) rfl rfl) ?_
        intro a hA
        refine seq_store (us := [.bool ((bigS b ((x - b.toNat) / 2 ^ (-n).toNat + b.toNat)).1.b1), .slice p35_1 (((bigS b ((x - b.toNat) / 2 ^ (-n).toNat + b.toNat)).1.t1).length) p35_c1, .slice p35_2 (((bigS b ((x - b.toNat) / 2 ^ (-n).toNat + b.toNat)).1.q1).length) p35_c2, .bool ((bigS b ((x - b.toNat) / 2 ^ (-n).toNat + b.toNat)).1.b2), .slice p35_3 (((bigS b ((x - b.toNat) / 2 ^ (-n).toNat + b.toNat)).1.t2).length) p35_c3, .slice p35_4 (((bigS b ((x - b.toNat) / 2 ^ (-n).toNat + b.toNat)).1.q2).length) p35_c4]) hA hS rfl rfl (sets_store (cs := [.bool ((bigS b ((x - b.toNat) / 2 ^ (-n).toNat + b.toNat)).1.b1), .slice p35_1 (((bigS b ((x - b.toNat) / 2 ^ (-n).toNat + b.toNat)).1.t1).length) p35_c1, .slice p35_2 (((bigS b ((x - b.toNat) / 2 ^ (-n).toNat + b.toNat)).1.q1).length) p35_c2, .bool ((bigS b ((x - b.toNat) / 2 ^ (-n).toNat + b.toNat)).1.b2), .slice p35_3 (((bigS b ((x - b.toNat) / 2 ^ (-n).toNat + b.toNat)).1.t2).length) p35_c3, .slice p35_4 (((bigS b ((x - b.toNat) / 2 ^ (-n).toNat + b.toNat)).1.q2).length) p35_c4]) rfl rfl rfl (by kernel_rfl) hS 1 rfl rfl rfl) 1 rfl rfl rfl rfl ?_
        intro w39 hS
        refine seq_do hA rfl rfl rfl (does_assign rfl) ?_
        intro a hA
        refine seq_end ?_
        refine hK24 _ _ ?_
        refine wp_ret ?_
        refine hret _ _ ?_
        refine ends (v := .tuple #[.agg #[.bool ((bigS b ((x - b.toNat) / 2 ^ (-n).toNat + b.toNat)).1.b1), .slice p35_1 (((bigS b ((x - b.toNat) / 2 ^ (-n).toNat + b.toNat)).1.t1).length) p35_c1, .slice p35_2 (((bigS b ((x - b.toNat) / 2 ^ (-n).toNat + b.toNat)).1.q1).length) p35_c2, .bool ((bigS b ((x - b.toNat) / 2 ^ (-n).toNat + b.toNat)).1.b2), .slice p35_3 (((bigS b ((x - b.toNat) / 2 ^ (-n).toNat + b.toNat)).1.t2).length) p35_c3, .slice p35_4 (((bigS b ((x - b.toNat) / 2 ^ (-n).toNat + b.toNat)).1.q2).length) p35_c4], .int .i64 ((bigS b ((x - b.toNat) / 2 ^ (-n).toNat + b.toNat)).2)]) hA rfl (.cons (res_cell hS isS_26 rfl 1 rfl (cs := [.bool ((bigS b ((x - b.toNat) / 2 ^ (-n).toNat + b.toNat)).1.b1), .slice p35_1 (((bigS b ((x - b.toNat) / 2 ^ (-n).toNat + b.toNat)).1.t1).length) p35_c1, .slice p35_2 (((bigS b ((x - b.toNat) / 2 ^ (-n).toNat + b.toNat)).1.q1).length) p35_c2, .bool ((bigS b ((x - b.toNat) / 2 ^ (-n).toNat + b.toNat)).1.b2), .slice p35_3 (((bigS b ((x - b.toNat) / 2 ^ (-n).toNat + b.toNat)).1.t2).length) p35_c3, .slice p35_4 (((bigS b ((x - b.toNat) / 2 ^ (-n).toNat + b.toNat)).1.q2).length) p35_c4]) rfl rfl) (.cons (res_tmp rfl) .nil)) rfl ?_
        rw [shiftQ_down hw (by omega) (by omega)]
        exact ⟨p35_1, p35_c1, p35_2, p35_c2, p35_3, p35_c3, p35_4, p35_c4, rfl, ⟨⟨(hS.rd 3 rfl), hn36.s1.nil, hn36.s1.cap⟩, ⟨(hS.rd 2 rfl), hn36.s2.nil, hn36.s2.cap⟩, ⟨(hS.rd 1 rfl), hn36.s3.nil, hn36.s3.cap⟩, ⟨(hS.rd 0 rfl), hn36.s4.nil, hn36.s4.cap⟩⟩, hS.bel⟩
      · have hb23' := of_decide_eq_false hb23
        refine seq_do (v := .bool false) hA rfl rfl rfl (does_bin rfl rfl (fun w => (bin_lss w).trans (by rw [hb23]))) ?_
        intro a hA
        refine seq_end ?_
        refine hK22 _ _ ?_
        refine wp_cond_false (hA.ev rfl) ?_
        refine wp_skip ?_
        refine hK21 _ _ ?_
        refine wp_seq_k (fun K40 hK40 => ?_)
        refine wp_region_lit ?_
        refine seq_do (v := .pointer (some ⟨g2, 0, none⟩)) hA rfl rfl rfl (does_field fld_26_0 rfl rfl) ?_
        intro a hA
        refine seq_do (v := .pointer (some ⟨g2, 1, none⟩)) hA rfl rfl rfl (does_field fld_24_1 rfl rfl) ?_
        intro a hA
        refine seq_do hA rfl rfl rfl (does_load1 hS is1_22 rfl 2 rfl rfl) ?_
        intro a hA
        refine seq_do hA rfl rfl rfl (does_move rfl) ?_
        intro a hA
        rcases Bool.eq_false_or_eq_true (decide ((words (x * 2 ^ n.toNat)).length ≤ 512)) with hb41 | hb41
        · have hb41' := of_decide_eq_true hb41
          refine seq_call hA rfl rfl rfl (enters_func  rfl rfl (fun w => by kernel_rfl)) (shift_fitI _ (hS.rd 3 rfl) hx (by omega) (by omega) (of_decide_eq_true hb41)) ?_
          rintro _ w46 ⟨ro42, rc43, rfl, ho44, hb45⟩
          replace hS := hS.call hb45
          replace hS := hS.addR ho44.rd
          refine ⟨_, rfl, ?_⟩
          intro a hA
          refine seq_do hA rfl rfl rfl (does_move rfl) ?_
          intro a hA
          refine seq_do (v := .slice ro42 ((words (x * 2 ^ n.toNat)).length) rc43) hA rfl rfl rfl (does_extract (vs := [.slice ro42 ((words (x * 2 ^ n.toNat)).length) rc43, .int .i64 0]) rfl rfl) ?_
          intro a hA
          refine seq_do (v := .int .i64 0) hA rfl rfl rfl (does_extract (vs := [.slice ro42 ((words (x * 2 ^ n.toNat)).length) rc43, .int .i64 0]) rfl rfl) ?_
          intro a hA
          refine seq_do hA rfl rfl rfl (does_assign rfl) ?_
          intro a hA
          refine seq_do hA rfl rfl rfl (does_assign rfl) ?_
          intro a hA
          refine seq_end ?_
          refine hK40 _ _ ?_
          refine wp_seq_k (fun K47 hK47 => ?_)
          refine wp_seq_k (fun K48 hK48 => ?_)
          refine wp_region_lit ?_
          refine seq_do hA rfl rfl rfl (does_move rfl) ?_
          intro a hA
          refine seq_do (v := .bool false) hA rfl rfl rfl (does_bin rfl rfl (fun w => by kernel_rfl)) ?_
          intro a hA
          refine seq_end ?_
          refine hK48 _ _ ?_
          refine wp_cond_false (hA.ev rfl) ?_
          refine wp_skip ?_
          refine hK47 _ _ ?_
          refine wp_seq_k (fun K49 hK49 => ?_)
          refine wp_region_lit ?_
          refine seq_do (v := .pointer (some ⟨g2, 0, none⟩)) hA rfl rfl rfl (does_field fld_26_0 rfl rfl) ?_
          intro a hA
          refine seq_do (v := .pointer (some ⟨g2, 0, none⟩)) hA rfl rfl rfl (does_field fld_24_0 rfl rfl) ?_
          intro a hA
          refine seq_do hA rfl rfl rfl (does_load1 hS is1_4 rfl 2 rfl rfl) ?_
          intro a hA
          refine seq_do hA rfl rfl rfl (does_move rfl) ?_
          intro a hA
          refine seq_call hA rfl rfl rfl (enters_func  rfl rfl (fun w => by kernel_rfl)) (wholeV_any b ⟨(hS.rd 0 rfl), ho44.nocap, ho44.caps⟩) ?_
          rintro _ w53 ⟨p50_1, p50_c1, p50_2, p50_c2, p50_3, p50_c3, p50_4, p50_c4, rfl, hn51, hb52⟩
          replace hS := hS.call hb52
          replace hS := hS.addR hn51.s1.rd
          replace hS := hS.addR hn51.s2.rd
          replace hS := hS.addR hn51.s3.rd
          replace hS := hS.addR hn51.s4.rd
          refine ⟨_, rfl, ?_⟩
          intro a hA
          refine seq_store (us := [.bool b, .slice p50_1 ((words (x * 2 ^ n.toNat)).length) p50_c1, .slice p50_2 1 p50_c2, .bool false, .slice p50_3 0 p50_c3, .slice p50_4 1 p50_c4]) hA hS rfl rfl (sets_store (cs := [.bool b, .slice p50_1 ((words (x * 2 ^ n.toNat)).length) p50_c1, .slice p50_2 1 p50_c2, .bool false, .slice p50_3 0 p50_c3, .slice p50_4 1 p50_c4]) rfl rfl rfl (by kernel_rfl) hS 1 rfl rfl rfl) 1 rfl rfl rfl rfl ?_
          intro w54 hS
          refine seq_do hA rfl rfl rfl (does_assign rfl) ?_
          intro a hA
          refine seq_end ?_
          refine hK49 _ _ ?_
          refine wp_ret ?_
          refine hret _ _ ?_
          refine ends (v := .tuple #[.agg #[.bool b, .slice p50_1 ((words (x * 2 ^ n.toNat)).length) p50_c1, .slice p50_2 1 p50_c2, .bool false, .slice p50_3 0 p50_c3, .slice p50_4 1 p50_c4], .int .i64 0]) hA rfl (.cons (res_cell hS isS_26 rfl 1 rfl (cs := [.bool b, .slice p50_1 ((words (x * 2 ^ n.toNat)).length) p50_c1, .slice p50_2 1 p50_c2, .bool false, .slice p50_3 0 p50_c3, .slice p50_4 1 p50_c4]) rfl rfl) (.cons (res_tmp rfl) .nil)) rfl ?_
          rw [shiftQ_up hw (by omega) (by omega), bigS_pos (by omega)]
          exact ⟨p50_1, p50_c1, p50_2, p50_c2, p50_3, p50_c3, p50_4, p50_c4, rfl, ⟨⟨(hS.rd 3 rfl), hn51.s1.nil, hn51.s1.cap⟩, ⟨(hS.rd 2 rfl), hn51.s2.nil, hn51.s2.cap⟩, ⟨(hS.rd 1 rfl), hn51.s3.nil, hn51.s3.cap⟩, ⟨(hS.rd 0 rfl), hn51.s4.nil, hn51.s4.cap⟩⟩, hS.bel⟩
        · have hb41' := of_decide_eq_false hb41
          refine seq_call hA rfl rfl rfl (enters_func  rfl rfl (fun w => by kernel_rfl)) (shift_bigI _ (hS.rd 3 rfl) hx (by omega) (by omega) (of_decide_eq_false hb41)) ?_
          rintro _ w59 ⟨ro55, rc56, rfl, ho57, hb58⟩
          replace hS := hS.call hb58
          replace hS := hS.addR ho57.rd
          refine ⟨_, rfl, ?_⟩
          intro a hA
          refine seq_do hA rfl rfl rfl (does_move rfl) ?_
          intro a hA
          refine seq_do (v := .slice ro55 0 rc56) hA rfl rfl rfl (does_extract (vs := [.slice ro55 0 rc56, .int .i64 4]) rfl rfl) ?_
          intro a hA
          refine seq_do (v := .int .i64 4) hA rfl rfl rfl (does_extract (vs := [.slice ro55 0 rc56, .int .i64 4]) rfl rfl) ?_
          intro a hA
          refine seq_do hA rfl rfl rfl (does_assign rfl) ?_
          intro a hA
          refine seq_do hA rfl rfl rfl (does_assign rfl) ?_
          intro a hA
          refine seq_end ?_
          refine hK40 _ _ ?_
          refine wp_seq_k (fun K60 hK60 => ?_)
          refine wp_seq_k (fun K61 hK61 => ?_)
          refine wp_region_lit ?_
          refine seq_do hA rfl rfl rfl (does_move rfl) ?_
          intro a hA
          refine seq_do (v := .bool true) hA rfl rfl rfl (does_bin rfl rfl (fun w => by kernel_rfl)) ?_
          intro a hA
          refine seq_end ?_
          refine hK61 _ _ ?_
          refine wp_cond_true (hA.ev rfl) ?_
          refine wp_seq_k (fun K62 hK62 => ?_)
          refine wp_region_lit ?_
          refine seq_do (v := .agg #[.bool false, .slice none 0 0, .slice none 0 0, .bool false, .slice none 0 0, .slice none 0 0]) hA rfl rfl rfl (does_build rfl (fun w => by kernel_rfl)) ?_
          intro a hA
          refine seq_do hA rfl rfl rfl (does_move rfl) ?_
          intro a hA
          refine seq_store (us := [.bool false, .slice none 0 0, .slice none 0 0, .bool false, .slice none 0 0, .slice none 0 0]) hA hS rfl rfl (sets_store (cs := [.bool false, .slice none 0 0, .slice none 0 0, .bool false, .slice none 0 0, .slice none 0 0]) rfl rfl rfl (by kernel_rfl) hS 1 rfl rfl rfl) 1 rfl rfl rfl rfl ?_
          intro w63 hS
          refine seq_do hA rfl rfl rfl (does_assign rfl) ?_
          intro a hA
          refine seq_end ?_
          refine hK62 _ _ ?_
          refine wp_ret ?_
          refine hret _ _ ?_
          refine ends (v := .tuple #[.agg #[.bool false, .slice none 0 0, .slice none 0 0, .bool false, .slice none 0 0, .slice none 0 0], .int .i64 4]) hA rfl (.cons (res_cell hS isS_26 rfl 1 rfl (cs := [.bool false, .slice none 0 0, .slice none 0 0, .bool false, .slice none 0 0, .slice none 0 0]) rfl rfl) (.cons (res_tmp rfl) .nil)) rfl ?_
          rw [shiftQ_up hw (by omega) (by omega), bigS_neg (by omega)]
          exact ⟨none, 0, none, 0, none, 0, none, 0, rfl, ⟨(Sc.none _), (Sc.none _), (Sc.none _), (Sc.none _)⟩, hS.bel⟩
end Go.Proofs.Yteghiinbafbokaa
namespace Go.Proofs.Yteghiinbafbokaa
open Go.RowKit
set_option linter.unusedVariables false
set_option linter.unusedSimpArgs false

/-- Two numbers are answered. -/
def AnsII (w : World) (r : Int × Int) (e : Ending) (w' : World) : Prop := e = .returned (.tuple #[.int .i64 r.1, .int .i64 r.2]) ∧ Below w.heap.size w w'
def lengthQ (q : Q6) : Int × Int := if want1 q = 0 then (((bl (val q.t1 - q.b1.toNat) : Nat) : Int), 0) else (0, want1 q)
theorem lengthQ_err {q : Q6} (h : (want1 q != 0) = true) : lengthQ q = (0, want1 q) := by unfold lengthQ; rw [if_neg (bne_iff_ne.1 h)]
theorem lengthQ_whole {b : Bool} {x : Nat} (h : want1 (Q6.whole b x) = 0) : lengthQ (Q6.whole b x) = (((bl (x - b.toNat) : Nat) : Int), 0) := by
  unfold lengthQ; rw [if_pos h]; simp only [Q6.whole, val_words]
theorem bitsW_any {w : World} {ao : Option Addr} {x : Nat} (cap : Nat) (h : Rd w ao (words x)) (hl : (words x).length ≤ 512) :
    Calls Try.prog 45 #[.slice ao (words x).length cap] w fun e w' => e = .returned (.int .i64 ((bl x : Nat) : Int)) ∧ w' = w := by
  have := bits_any cap h (by omega)
  unfold bitsS at this
  rw [if_pos (sound_of_words hl), val_words] at this
  exact this
def notQ (q : Q6) : Q6 × Int := if want1 q = 0 then bigS (!q.b1) (turnN q.b1 (val q.t1)) else (Q6.zero, want1 q)
theorem notQ_err {q : Q6} (h : (want1 q != 0) = true) : notQ q = (Q6.zero, want1 q) := by unfold notQ; rw [if_neg (bne_iff_ne.1 h)]
theorem notQ_whole {b : Bool} {x : Nat} (h : want1 (Q6.whole b x) = 0) : notQ (Q6.whole b x) = bigS (!b) (turnN b x) := by
  unfold notQ; rw [if_pos h]; simp only [Q6.whole, val_words]
theorem turn_sum {b : Bool} {x : Nat} (hb : b.toNat ≤ x) : x - b.toNat + (!b).toNat = turnN b x := by cases b <;> simp [turnN]
theorem turn_len {b : Bool} {x : Nat} (hx : (words x).length ≤ 512) : (words (turnN b x)).length ≤ 513 := by
  cases b with
  | false => exact words_add_length hx (Nat.le_trans (words_toNat true) (by decide))
  | true => exact Nat.le_trans (words_mono (Nat.sub_le x 1)) (by omega)
theorem down_fits {x k : Nat} (hx : (words x).length ≤ 512) (h1 : 1 ≤ x) : (words ((x - 1) / 2 ^ k + 1)).length ≤ 512 := by
  refine Nat.le_trans (words_mono ?_) hx
  have := Nat.div_le_self (x - 1) (2 ^ k)
  omega
end Go.Proofs.Yteghiinbafbokaa
