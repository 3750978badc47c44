/- Walks of the document's sums of fractions. The document's -a - 1, and shifts of numbers. Walks of the document's -a - 1, and of shifts. How long numbers are in bits, and their opposites less one. Walks of the document's shifts, of lengths, of opposites less one, and of questions of sameness. How many bits of a number are 1. Walks of how many bits are 1. Rows of bits put together word by word. Walks of rows of bits put together. Numbers put together bit by bit. Walks of numbers put together bit by bit, and of Not. The fixed fact on bits. Walks of the fixed fact, and of sameness by the document. The document's fractions as rational numbers. Walks of the document's products and inverses. Walks of the document's Mul and Div, and the law on products. Walks of the document's Add, Sub and order. Numbers that come in as arguments. -/
import Derived.Test.YtabjlejolmmeeaaGreatDoorPequalc13c
import Derived.Test.YtabjlejolmmeeaaGreatDoorPequalc13a
import Derived.Test.YtabjlejolmmeeaaGreatDoorBits
import Derived.Test.YtabjlejolmmeeaaGreatDoorNatA
import Derived.Test.YtabjlejolmmeeaaGreatDoorArgs
import Derived.WalkKit
import Derived.ProofKit
import Derived.OpenShut
import Derived.ChangeOld
import Derived.Lib.SmallJoins
import Derived.Deep.Strs
namespace Go.Proofs.YtabjlejolmmeeaaGreatDoor
open Go.RowKit
set_option linter.unusedVariables false
set_option linter.unusedSimpArgs false
set_option maxRecDepth 100000
theorem BiD_is1_22 : Is1 Tryz.prog 22 := ⟨⟨_, Tryz.underlying22, rfl⟩, by kernel_rfl⟩
theorem BiD_is1_4 : Is1 Tryz.prog 4 := ⟨⟨_, Tryz.underlying4, rfl⟩, by kernel_rfl⟩
theorem BiD_fld_24_0 : FieldAt Tryz.prog 24 0 0 := ⟨_, _, Tryz.underlying24, rfl, rfl, by kernel_rfl⟩
theorem BiD_fld_24_1 : FieldAt Tryz.prog 24 1 1 := ⟨_, _, Tryz.underlying24, rfl, rfl, by kernel_rfl⟩
theorem BiD_fld_24_2 : FieldAt Tryz.prog 24 2 2 := ⟨_, _, Tryz.underlying24, rfl, rfl, by kernel_rfl⟩
theorem BiD_isS_24 : IsS Tryz.prog 24 3 := ⟨⟨_, Tryz.underlying24⟩, by kernel_rfl⟩
theorem rminus_any {w : World} {b : Bool} {n1 n2 : Nat} {a1 a2 : Option Addr} {ac1 ac2 : Nat} {r : Bool} (hr : (!b && decide (0 < n1)) = r) : Calls Tryz.prog 45 #[.agg #[.bool b, .slice a1 n1 ac1, .slice a2 n2 ac2]] w fun e w' => e = .returned (.agg #[.bool r, .slice a1 n1 ac1, .slice a2 n2 ac2]) ∧ Below w.heap.size w w' := by
 cases b
 ·
  have V : St w w [] [] [] := St.start w
  refine ze (l := [(0, .agg #[.bool false, .slice a1 n1 ac1, .slice a2 n2 ac2])]) Tryz.func45 rfl Tryz.ntmps45 rfl rfl ?_
  intro Q hret hnorm hP a A
  refine wsk fun K1 hK1 => wrl (zh A V rfl rfl rfl pg (qx rfl rfl) rfl ?_)
  intro g2 w3 V a A
  refine zh (vs := [.bool false, .slice none 0 0, .slice none 0 0]) (t := 24) A V rfl rfl rfl pg (qy (z := .agg #[.bool false, .slice none 0 0, .slice none 0 0]) (by kernel_rfl) rfl) rfl ?_
  intro g4 w5 V a A
  refine qa (hK1 _ _ (wsk fun K6 hK6 => wrl (sdo (v := .pointer (some ⟨g2, 0, none⟩)) A (qe BiD_fld_24_0 rfl rfl) λa A↦?_)))
  refine sdo A (qj V BiD_is1_4 rfl 1 rfl rfl) λa A↦?_
  refine sdo (v := .bool true) A (zl rfl zu) λa A↦?_
  refine sdm A λa A↦?_
  refine sdo (v := .pointer (some ⟨g2, 1, none⟩)) A (qe BiD_fld_24_1 rfl rfl) λa A↦?_
  refine sdo A (qj V BiD_is1_22 rfl 1 rfl rfl) λa A↦?_
  refine sdo A (qt Tryz.underlying22 rfl) λa A↦?_
  rcases tf (decide (0 < ((n1 : Nat) : Int))) with hb7 | hb7
  ·
   have hb7' := of_decide_eq_true hb7
   refine sdo (v := .bool true) A (qb rfl rfl (fun w => (jd w).trans (by rw [hb7]))) λa A↦?_
   refine sdk (v := .bool true) A λa A↦?_
   refine sdo (v := .pointer (some ⟨g2, 1, none⟩)) A (qe BiD_fld_24_1 rfl rfl) λa A↦?_
   refine sdo A (qj V BiD_is1_22 rfl 1 rfl rfl) λa A↦?_
   refine sdo (v := .pointer (some ⟨g2, 2, none⟩)) A (qe BiD_fld_24_2 rfl rfl) λa A↦?_
   refine sdo A (qj V BiD_is1_22 rfl 1 rfl rfl) λa A↦?_
   refine sdo (v := .agg #[.bool true, .slice a1 n1 ac1, .slice a2 n2 ac2]) A (zb rfl (fun w => by kernel_rfl)) λa A↦?_
   refine jq (us := [.bool true, .slice a1 n1 ac1, .slice a2 n2 ac2]) A V rfl rfl (qs rfl rfl rfl (by kernel_rfl) V 0 rfl rfl rfl) 0 rfl rfl rfl rfl ?_
   intro w8 V
   refine qa (hK6 _ _ (wp_ret (hret _ _ (en1 A rfl (jj V BiD_isS_24 rfl 0 rfl (cs := [.bool true, .slice a1 n1 ac1, .slice a2 n2 ac2]) rfl rfl) ?_))))
   subst hr
   exact ⟨by rw [show decide (0 < n1) = true from decide_eq_true (by omega)]; rfl, V.bel⟩
  ·
   have hb7' := of_decide_eq_false hb7
   refine sdo (v := .bool false) A (qb rfl rfl (fun w => (jd w).trans (by rw [hb7]))) λa A↦?_
   refine sdk (v := .bool false) A λa A↦?_
   refine sdo (v := .pointer (some ⟨g2, 1, none⟩)) A (qe BiD_fld_24_1 rfl rfl) λa A↦?_
   refine sdo A (qj V BiD_is1_22 rfl 1 rfl rfl) λa A↦?_
   refine sdo (v := .pointer (some ⟨g2, 2, none⟩)) A (qe BiD_fld_24_2 rfl rfl) λa A↦?_
   refine sdo A (qj V BiD_is1_22 rfl 1 rfl rfl) λa A↦?_
   refine sdo (v := .agg #[.bool false, .slice a1 n1 ac1, .slice a2 n2 ac2]) A (zb rfl (fun w => by kernel_rfl)) λa A↦?_
   refine jq (us := [.bool false, .slice a1 n1 ac1, .slice a2 n2 ac2]) A V rfl rfl (qs rfl rfl rfl (by kernel_rfl) V 0 rfl rfl rfl) 0 rfl rfl rfl rfl ?_
   intro w9 V
   refine qa (hK6 _ _ (wp_ret (hret _ _ (en1 A rfl (jj V BiD_isS_24 rfl 0 rfl (cs := [.bool false, .slice a1 n1 ac1, .slice a2 n2 ac2]) rfl rfl) ?_))))
   subst hr
   exact ⟨by rw [show decide (0 < n1) = false from decide_eq_false (by omega)]; rfl, V.bel⟩
 ·
  have V : St w w [] [] [] := St.start w
  refine ze (l := [(0, .agg #[.bool true, .slice a1 n1 ac1, .slice a2 n2 ac2])]) Tryz.func45 rfl Tryz.ntmps45 rfl rfl ?_
  intro Q hret hnorm hP a A
  refine wsk fun K1 hK1 => wrl (zh A V rfl rfl rfl pg (qx rfl rfl) rfl ?_)
  intro g2 w3 V a A
  refine zh (vs := [.bool false, .slice none 0 0, .slice none 0 0]) (t := 24) A V rfl rfl rfl pg (qy (z := .agg #[.bool false, .slice none 0 0, .slice none 0 0]) (by kernel_rfl) rfl) rfl ?_
  intro g4 w5 V a A
  refine qa (hK1 _ _ (wsk fun K6 hK6 => wrl (sdo (v := .pointer (some ⟨g2, 0, none⟩)) A (qe BiD_fld_24_0 rfl rfl) λa A↦?_)))
  refine sdo A (qj V BiD_is1_4 rfl 1 rfl rfl) λa A↦?_
  refine sdo (v := .bool false) A (zl rfl zu) λa A↦?_
  refine sdm A λa A↦?_
  iterate 4 refine qk A rfl rfl rfl λa A↦?_
  refine sdk (v := .bool false) A λa A↦?_
  refine sdo (v := .pointer (some ⟨g2, 1, none⟩)) A (qe BiD_fld_24_1 rfl rfl) λa A↦?_
  refine sdo A (qj V BiD_is1_22 rfl 1 rfl rfl) λa A↦?_
  refine sdo (v := .pointer (some ⟨g2, 2, none⟩)) A (qe BiD_fld_24_2 rfl rfl) λa A↦?_
  refine sdo A (qj V BiD_is1_22 rfl 1 rfl rfl) λa A↦?_
  refine sdo (v := .agg #[.bool false, .slice a1 n1 ac1, .slice a2 n2 ac2]) A (zb rfl (fun w => by kernel_rfl)) λa A↦?_
  refine jq (us := [.bool false, .slice a1 n1 ac1, .slice a2 n2 ac2]) A V rfl rfl (qs rfl rfl rfl (by kernel_rfl) V 0 rfl rfl rfl) 0 rfl rfl rfl rfl ?_
  intro w7 V
  refine qa (hK6 _ _ (wp_ret (hret _ _ (en1 A rfl (jj V BiD_isS_24 rfl 0 rfl (cs := [.bool false, .slice a1 n1 ac1, .slice a2 n2 ac2]) rfl rfl) ?_))))
  subst hr
  exact ⟨rfl, V.bel⟩
theorem rrat_any {w : World} (b : Bool) {x d : Nat} {a1 a2 : Option Addr} {ac1 ac2 : Nat} (ha1 : Sc w a1 ac1 (words x)) (ha2 : Sc w a2 ac2 (words d)) (hx : (words x).length ≤ 9000) (hd : (words d).length ≤ 9000) (hd0 : d ≠ 0) : Calls Tryz.prog 59 #[.bool b, .slice a1 (words x).length ac1, .slice a2 (words d).length ac2] w (AnsF w (b && decide (0 < x / Nat.gcd x d)) (words (x / Nat.gcd x d)) (words (d / Nat.gcd x d))) := by
 cases b
 ·
  have V : St w w [] [(a2, words d), (a1, words x)] [] := ((St.start w).addR ha1.rd).addR ha2.rd
  refine ze (l := [(0, .bool false), (1, .slice a1 ((words x).length) ac1), (2, .slice a2 ((words d).length) ac2)]) Tryz.func59 rfl Tryz.ntmps59 rfl rfl ?_
  intro Q hret hnorm hP a A
  refine wsk fun K1 hK1 => wrl (zh (vs := [.bool false, .slice none 0 0, .slice none 0 0]) (t := 24) A V rfl rfl rfl pg (qy (z := .agg #[.bool false, .slice none 0 0, .slice none 0 0]) (by kernel_rfl) rfl) rfl ?_)
  intro g2 w3 V a A
  refine qa (hK1 _ _ (wsk fun K4 hK4 => wrl ?_))
  iterate 2 refine sdm A λa A↦?_
  refine qi A rfl rfl rfl (qf  rfl rfl (fun w => by kernel_rfl)) (kb ac1 ac2 (V.rd 1 rfl) (V.rd 0 rfl) (by omega) (by omega) ha1.cap ha2.cap ha1.nil ha2.nil) ?_
  rintro _ w9 ⟨ro5, rc6, rfl, ho7, hb8⟩
  replace V := V.call hb8
  replace V := V.addR ho7.rd
  refine ⟨_, rfl, ?_⟩
  intro a A
  refine sda A λa A↦?_
  refine qa (hK4 _ _ (wsk fun K10 hK10 => wrl ?_))
  iterate 2 refine sdm A λa A↦?_
  refine qi A rfl rfl rfl (qf  rfl rfl (fun w => by kernel_rfl)) (qdg (x := x) (y := Nat.gcd x d) _ _ (V.rd 2 rfl) (V.rd 0 rfl) hx (uk hd0 hd) (qee hd0)) ?_
  rintro _ w18 ⟨ro11, rc12, uo13, uc14, rfl, ho15, hp16, hb17⟩
  replace V := V.call hb17
  replace V := V.addR ho15.rd
  replace V := V.addR hp16.rd
  refine ⟨_, rfl, ?_⟩
  intro a A
  refine sdm A λa A↦?_
  iterate 2 refine sdo A (jp (vs := [.slice ro11 ((words (x / (Nat.gcd x d))).length) rc12, .slice uo13 ((words (x % (Nat.gcd x d))).length) uc14]) rfl rfl) λa A↦?_
  iterate 2 refine sda A λa A↦?_
  refine qa (hK10 _ _ (wsk fun K19 hK19 => wrl ?_))
  iterate 2 refine sdm A λa A↦?_
  refine qi A rfl rfl rfl (qf  rfl rfl (fun w => by kernel_rfl)) (qdg (x := d) (y := Nat.gcd x d) _ _ (V.rd 3 rfl) (V.rd 2 rfl) hd (uk hd0 hd) (qee hd0)) ?_
  rintro _ w27 ⟨ro20, rc21, uo22, uc23, rfl, ho24, hp25, hb26⟩
  replace V := V.call hb26
  replace V := V.addR ho24.rd
  replace V := V.addR hp25.rd
  refine ⟨_, rfl, ?_⟩
  intro a A
  refine sdm A λa A↦?_
  iterate 2 refine sdo A (jp (vs := [.slice ro20 ((words (d / (Nat.gcd x d))).length) rc21, .slice uo22 ((words (d % (Nat.gcd x d))).length) uc23]) rfl rfl) λa A↦?_
  iterate 2 refine sda A λa A↦?_
  refine qa (hK19 _ _ (wsk fun K28 hK28 => wrl ?_))
  iterate 2 refine sdm A λa A↦?_
  iterate 3 refine qk A rfl rfl rfl λa A↦?_
  refine sdk (v := .bool false) A λa A↦?_
  iterate 2 refine sdm A λa A↦?_
  refine sdo (v := .agg #[.bool false, .slice ro11 ((words (x / (Nat.gcd x d))).length) rc12, .slice ro20 ((words (d / (Nat.gcd x d))).length) rc21]) A (zb rfl (fun w => by kernel_rfl)) λa A↦?_
  refine jq (us := [.bool false, .slice ro11 ((words (x / (Nat.gcd x d))).length) rc12, .slice ro20 ((words (d / (Nat.gcd x d))).length) rc21]) A V rfl rfl (qs rfl rfl rfl (by kernel_rfl) V 0 rfl rfl rfl) 0 rfl rfl rfl rfl ?_
  intro w29 V
  refine qa (hK28 _ _ (wp_ret (hret _ _ (en1 A rfl (jj V BiD_isS_24 rfl 0 rfl (cs := [.bool false, .slice ro11 ((words (x / (Nat.gcd x d))).length) rc12, .slice ro20 ((words (d / (Nat.gcd x d))).length) rc21]) rfl rfl) ?_))))
  exact ⟨ro11, rc12, ro20, rc21, rfl, ⟨(V.rd 3 rfl), ho15.nocap, ho15.caps⟩, ⟨(V.rd 1 rfl), ho24.nocap, ho24.caps⟩, V.bel⟩
 ·
  have V : St w w [] [(a2, words d), (a1, words x)] [] := ((St.start w).addR ha1.rd).addR ha2.rd
  refine ze (l := [(0, .bool true), (1, .slice a1 ((words x).length) ac1), (2, .slice a2 ((words d).length) ac2)]) Tryz.func59 rfl Tryz.ntmps59 rfl rfl ?_
  intro Q hret hnorm hP a A
  refine wsk fun K1 hK1 => wrl (zh (vs := [.bool false, .slice none 0 0, .slice none 0 0]) (t := 24) A V rfl rfl rfl pg (qy (z := .agg #[.bool false, .slice none 0 0, .slice none 0 0]) (by kernel_rfl) rfl) rfl ?_)
  intro g2 w3 V a A
  refine qa (hK1 _ _ (wsk fun K4 hK4 => wrl ?_))
  iterate 2 refine sdm A λa A↦?_
  refine qi A rfl rfl rfl (qf  rfl rfl (fun w => by kernel_rfl)) (kb ac1 ac2 (V.rd 1 rfl) (V.rd 0 rfl) (by omega) (by omega) ha1.cap ha2.cap ha1.nil ha2.nil) ?_
  rintro _ w9 ⟨ro5, rc6, rfl, ho7, hb8⟩
  replace V := V.call hb8
  replace V := V.addR ho7.rd
  refine ⟨_, rfl, ?_⟩
  intro a A
  refine sda A λa A↦?_
  refine qa (hK4 _ _ (wsk fun K10 hK10 => wrl ?_))
  iterate 2 refine sdm A λa A↦?_
  refine qi A rfl rfl rfl (qf  rfl rfl (fun w => by kernel_rfl)) (qdg (x := x) (y := Nat.gcd x d) _ _ (V.rd 2 rfl) (V.rd 0 rfl) hx (uk hd0 hd) (qee hd0)) ?_
  rintro _ w18 ⟨ro11, rc12, uo13, uc14, rfl, ho15, hp16, hb17⟩
  replace V := V.call hb17
  replace V := V.addR ho15.rd
  replace V := V.addR hp16.rd
  refine ⟨_, rfl, ?_⟩
  intro a A
  refine sdm A λa A↦?_
  iterate 2 refine sdo A (jp (vs := [.slice ro11 ((words (x / (Nat.gcd x d))).length) rc12, .slice uo13 ((words (x % (Nat.gcd x d))).length) uc14]) rfl rfl) λa A↦?_
  iterate 2 refine sda A λa A↦?_
  refine qa (hK10 _ _ (wsk fun K19 hK19 => wrl ?_))
  iterate 2 refine sdm A λa A↦?_
  refine qi A rfl rfl rfl (qf  rfl rfl (fun w => by kernel_rfl)) (qdg (x := d) (y := Nat.gcd x d) _ _ (V.rd 3 rfl) (V.rd 2 rfl) hd (uk hd0 hd) (qee hd0)) ?_
  rintro _ w27 ⟨ro20, rc21, uo22, uc23, rfl, ho24, hp25, hb26⟩
  replace V := V.call hb26
  replace V := V.addR ho24.rd
  replace V := V.addR hp25.rd
  refine ⟨_, rfl, ?_⟩
  intro a A
  refine sdm A λa A↦?_
  iterate 2 refine sdo A (jp (vs := [.slice ro20 ((words (d / (Nat.gcd x d))).length) rc21, .slice uo22 ((words (d % (Nat.gcd x d))).length) uc23]) rfl rfl) λa A↦?_
  iterate 2 refine sda A λa A↦?_
  refine qa (hK19 _ _ (wsk fun K28 hK28 => wrl ?_))
  iterate 3 refine sdm A λa A↦?_
  refine sdo A (qt Tryz.underlying22 rfl) λa A↦?_
  rcases tf (decide (0 < (((words (x / (Nat.gcd x d))).length : Nat) : Int))) with hb29 | hb29
  ·
   have hb29' := of_decide_eq_true hb29
   refine sdo (v := .bool true) A (qb rfl rfl (fun w => (jd w).trans (by rw [hb29]))) λa A↦?_
   refine sdk (v := .bool true) A λa A↦?_
   iterate 2 refine sdm A λa A↦?_
   refine sdo (v := .agg #[.bool true, .slice ro11 ((words (x / (Nat.gcd x d))).length) rc12, .slice ro20 ((words (d / (Nat.gcd x d))).length) rc21]) A (zb rfl (fun w => by kernel_rfl)) λa A↦?_
   refine jq (us := [.bool true, .slice ro11 ((words (x / (Nat.gcd x d))).length) rc12, .slice ro20 ((words (d / (Nat.gcd x d))).length) rc21]) A V rfl rfl (qs rfl rfl rfl (by kernel_rfl) V 0 rfl rfl rfl) 0 rfl rfl rfl rfl ?_
   intro w30 V
   refine qa (hK28 _ _ (wp_ret (hret _ _ (en1 A rfl (jj V BiD_isS_24 rfl 0 rfl (cs := [.bool true, .slice ro11 ((words (x / (Nat.gcd x d))).length) rc12, .slice ro20 ((words (d / (Nat.gcd x d))).length) rc21]) rfl rfl) ?_))))
   rw [show decide (0 < x / Nat.gcd x d) = true from decide_eq_true (by have := xq (x / Nat.gcd x d); omega)]
   exact ⟨ro11, rc12, ro20, rc21, rfl, ⟨(V.rd 3 rfl), ho15.nocap, ho15.caps⟩, ⟨(V.rd 1 rfl), ho24.nocap, ho24.caps⟩, V.bel⟩
  ·
   have hb29' := of_decide_eq_false hb29
   refine sdo (v := .bool false) A (qb rfl rfl (fun w => (jd w).trans (by rw [hb29]))) λa A↦?_
   refine sdk (v := .bool false) A λa A↦?_
   iterate 2 refine sdm A λa A↦?_
   refine sdo (v := .agg #[.bool false, .slice ro11 ((words (x / (Nat.gcd x d))).length) rc12, .slice ro20 ((words (d / (Nat.gcd x d))).length) rc21]) A (zb rfl (fun w => by kernel_rfl)) λa A↦?_
   refine jq (us := [.bool false, .slice ro11 ((words (x / (Nat.gcd x d))).length) rc12, .slice ro20 ((words (d / (Nat.gcd x d))).length) rc21]) A V rfl rfl (qs rfl rfl rfl (by kernel_rfl) V 0 rfl rfl rfl) 0 rfl rfl rfl rfl ?_
   intro w31 V
   refine qa (hK28 _ _ (wp_ret (hret _ _ (en1 A rfl (jj V BiD_isS_24 rfl 0 rfl (cs := [.bool false, .slice ro11 ((words (x / (Nat.gcd x d))).length) rc12, .slice ro20 ((words (d / (Nat.gcd x d))).length) rc21]) rfl rfl) ?_))))
   rw [show decide (0 < x / Nat.gcd x d) = false from decide_eq_false (by have := xq (x / Nat.gcd x d); omega)]
   exact ⟨ro11, rc12, ro20, rc21, rfl, ⟨(V.rd 3 rfl), ho15.nocap, ho15.caps⟩, ⟨(V.rd 1 rfl), ho24.nocap, ho24.caps⟩, V.bel⟩
theorem ym {w : World} (b : Bool) {x d : Nat} {a1 a2 : Option Addr} {ac1 ac2 : Nat} (ha1 : Sc w a1 ac1 (words x)) (ha2 : Sc w a2 ac2 (words d)) (hx : (words x).length ≤ 9000) (hd : (words d).length ≤ 9000) (hd0 : d ≠ 0) {z : Int} (hz : z = sgn b x) : Calls Tryz.prog 59 #[.bool b, .slice a1 (words x).length ac1, .slice a2 (words d).length ac2] w (AnsF w (rb z) (words (rt z d)) (words (rq z d))) := by
 subst hz
 have h := rrat_any b ha1 ha2 hx hd hd0
 rw [rb_sgn b x d hd0]
 unfold rt rq
 rw [uh]
 exact h
theorem rsum_any {w : World} {b1 b2 : Bool} {x1 y1 x2 y2 : Nat} {a1 a2 : Option Addr} {ac1 ac2 : Nat} (ha1 : Sc w a1 ac1 (words x1)) (ha2 : Sc w a2 ac2 (words y1)) {u1 u2 : Option Addr} {uc1 uc2 : Nat} (hu1 : Sc w u1 uc1 (words x2)) (hu2 : Sc w u2 uc2 (words y2)) (hx1 : (words x1).length ≤ 4000) (hy1 : (words y1).length ≤ 4000) (hx2 : (words x2).length ≤ 4000) (hy2 : (words y2).length ≤ 4000) (h01 : y1 ≠ 0) (h02 : y2 ≠ 0) :
  Calls Tryz.prog 44 #[.agg #[.bool b1, .slice a1 (words x1).length ac1, .slice a2 (words y1).length ac2], .agg #[.bool b2, .slice u1 (words x2).length uc1, .slice u2 (words y2).length uc2]] w (AnsF w (rb (sgn b1 x1 * (y2 : Int) + sgn b2 x2 * (y1 : Int))) (words (rt (sgn b1 x1 * (y2 : Int) + sgn b2 x2 * (y1 : Int)) (y1 * y2))) (words (rq (sgn b1 x1 * (y2 : Int) + sgn b2 x2 * (y1 : Int)) (y1 * y2)))) := by
 have k1 := words_mul_length (x := x1) (y := y2) (k := 4000) (m := 4000) hx1 hy2
 have k2 := words_mul_length (x := x2) (y := y1) (k := 4000) (m := 4000) hx2 hy1
 have k3 := words_mul_length (x := y1) (y := y2) (k := 4000) (m := 4000) hy1 hy2
 have k4 := words_add_length (x := x1 * y2) (y := x2 * y1) (k := 8000) k1 k2
 have k5 := words_mono (Nat.sub_le (x1 * y2) (x2 * y1))
 have k6 := words_mono (Nat.sub_le (x2 * y1) (x1 * y2))
 have hd0 : y1 * y2 ≠ 0 := Nat.mul_ne_zero h01 h02
 generalize hZ : sgn b1 x1 * (y2 : Int) + sgn b2 x2 * (y1 : Int) = Z
 rw [qlg, qlg] at hZ
 cases b1 <;> cases b2
 ·
  have hzS : Z = sgn false (x1 * y2 + x2 * y1) := by rw [← hZ]; exact sum_same false _ _
  have V : St w w [] [(u2, words y2), (u1, words x2), (a2, words y1), (a1, words x1)] [] := ((((St.start w).addR ha1.rd).addR ha2.rd).addR hu1.rd).addR hu2.rd
  refine ze (l := [(0, .agg #[.bool false, .slice a1 ((words x1).length) ac1, .slice a2 ((words y1).length) ac2]), (1, .agg #[.bool false, .slice u1 ((words x2).length) uc1, .slice u2 ((words y2).length) uc2])]) Tryz.func44 rfl Tryz.ntmps44 rfl rfl ?_
  intro Q hret hnorm hP a A
  refine wsk fun K1 hK1 => wrl (zh A V rfl rfl rfl pg (qx rfl rfl) rfl ?_)
  intro g2 w3 V a A
  refine zh A V rfl rfl rfl pg (qx rfl rfl) rfl ?_
  intro g4 w5 V a A
  refine zh (vs := [.bool false, .slice none 0 0, .slice none 0 0]) (t := 24) A V rfl rfl rfl pg (qy (z := .agg #[.bool false, .slice none 0 0, .slice none 0 0]) (by kernel_rfl) rfl) rfl ?_
  intro g6 w7 V a A
  refine qa (hK1 _ _ (wsk fun K8 hK8 => ja (S := fun w1 => St w w1 [(g6, [.bool false, .slice none 0 0, .slice none 0 0]), (g4, [.bool false, .slice u1 ((words x2).length) uc1, .slice u2 ((words y2).length) uc2]), (g2, [.bool false, .slice a1 ((words x1).length) ac1, .slice a2 ((words y1).length) ac2])] [(u2, words y2), (u1, words x2), (a2, words y1), (a1, words x1)] []) (by kernel_rfl) ?_))
  replace V := V.drew
  refine qg (v := .pointer (some ⟨g2, 1, none⟩)) A 0 rfl rfl rfl rfl hP V (fun w1 V => qe BiD_fld_24_1 rfl rfl) λa A↦?_
  refine qg A 1 rfl rfl rfl rfl hP V (fun w1 V => qj V BiD_is1_22 rfl 2 rfl rfl) λa A↦?_
  refine qg (v := .pointer (some ⟨g4, 2, none⟩)) A 2 rfl rfl rfl rfl hP V (fun w1 V => qe BiD_fld_24_2 rfl rfl) λa A↦?_
  refine qg A 3 rfl rfl rfl rfl hP V (fun w1 V => qj V BiD_is1_22 rfl 1 rfl rfl) λa A↦?_
  refine qg (v := .pointer (some ⟨g4, 1, none⟩)) A 5 rfl rfl rfl rfl hP V (fun w1 V => qe BiD_fld_24_1 rfl rfl) λa A↦?_
  refine qg A 6 rfl rfl rfl rfl hP V (fun w1 V => qj V BiD_is1_22 rfl 1 rfl rfl) λa A↦?_
  refine qg (v := .pointer (some ⟨g2, 2, none⟩)) A 7 rfl rfl rfl rfl hP V (fun w1 V => qe BiD_fld_24_2 rfl rfl) λa A↦?_
  refine qg A 8 rfl rfl rfl rfl hP V (fun w1 V => qj V BiD_is1_22 rfl 2 rfl rfl) λa A↦?_
  refine qn (by kernel_rfl) (qw A 4 rfl rfl rfl rfl (qf  rfl rfl (fun w => by kernel_rfl)) (xf _ _ (V.rd 3 rfl) (V.rd 0 rfl) (by omega) (by omega)) ?_)
  rintro _ w13 ⟨ro9, rc10, rfl, ho11, hb12⟩
  replace V := V.call hb12
  replace V := V.addR ho11.rd
  refine ⟨_, rfl, (V.partD (.refl _) 1 rfl (.refl _)), ?_⟩
  intro a A
  refine qn (by kernel_rfl) (qw A 9 rfl rfl rfl rfl (qf  rfl rfl (fun w => by kernel_rfl)) (xf _ _ (V.rd 2 rfl) (V.rd 3 rfl) (by omega) (by omega)) ?_)
  rintro _ w18 ⟨ro14, rc15, rfl, ho16, hb17⟩
  replace V := V.call hb17
  replace V := V.addR ho16.rd
  refine ⟨_, rfl, (V.partD (.refl _) 2 rfl (.refl _)), ?_⟩
  intro a A
  refine qg A 10 rfl rfl rfl rfl hP (V.partD (.refl _) 2 rfl (.refl _)) (fun w1 V => zp rfl) λa A↦?_
  refine qg A 11 rfl rfl rfl rfl hP (V.partD (.refl _) 2 rfl (.refl _)) (fun w1 V => zp rfl) λa A↦?_
  refine zi (by kernel_rfl) ?_
  refine hK8 _ _ (wsk fun K19 hK19 => wrl (sdo (v := .pointer (some ⟨g2, 2, none⟩)) A (qe BiD_fld_24_2 rfl rfl) λa A↦?_))
  refine sdo A (qj V BiD_is1_22 rfl 2 rfl rfl) λa A↦?_
  refine sdo (v := .pointer (some ⟨g4, 2, none⟩)) A (qe BiD_fld_24_2 rfl rfl) λa A↦?_
  refine sdo A (qj V BiD_is1_22 rfl 1 rfl rfl) λa A↦?_
  refine qi A rfl rfl rfl (qf  rfl rfl (fun w => by kernel_rfl)) (xf _ _ (V.rd 4 rfl) (V.rd 2 rfl) (by omega) (by omega)) ?_
  rintro _ w24 ⟨ro20, rc21, rfl, ho22, hb23⟩
  replace V := V.call hb23
  replace V := V.addR ho22.rd
  refine ⟨_, rfl, ?_⟩
  intro a A
  refine sda A λa A↦?_
  refine qa (hK19 _ _ (wsk fun K25 hK25 => wsk fun K26 hK26 => wrl (sdo (v := .pointer (some ⟨g2, 0, none⟩)) A (qe BiD_fld_24_0 rfl rfl) λa A↦?_)))
  refine sdo A (qj V BiD_is1_4 rfl 2 rfl rfl) λa A↦?_
  refine sdo (v := .pointer (some ⟨g4, 0, none⟩)) A (qe BiD_fld_24_0 rfl rfl) λa A↦?_
  refine sdo A (qj V BiD_is1_4 rfl 1 rfl rfl) λa A↦?_
  refine sdo (v := .bool true) A (qb rfl rfl (xu Tryz.underlying4)) λa A↦?_
  refine qa (hK26 _ _ (wp_cond_true (A.ev rfl) ?_))
  refine wsk fun K27 hK27 => ja (S := fun w1 => St w w1 [(g4, [.bool false, .slice u1 ((words x2).length) uc1, .slice u2 ((words y2).length) uc2]), (g2, [.bool false, .slice a1 ((words x1).length) ac1, .slice a2 ((words y1).length) ac2])] [(ro20, words (y1 * y2)), (ro14, words (x2 * y1)), (ro9, words (x1 * y2)), (u2, words y2), (u1, words x2), (a2, words y1), (a1, words x1)] []) (by kernel_rfl) ?_
  replace V := V.drew
  refine qg (v := .pointer (some ⟨g2, 0, none⟩)) A 0 rfl rfl rfl rfl hP (V.partD (.cons _ (.cons_cons _ (.cons_cons _ .slnil))) 0 rfl (.refl _)) (fun w1 V => qe BiD_fld_24_0 rfl rfl) λa A↦?_
  refine qg A 1 rfl rfl rfl rfl hP (V.partD (.cons _ (.cons_cons _ (.cons_cons _ .slnil))) 0 rfl (.refl _)) (fun w1 V => qj V BiD_is1_4 rfl 1 rfl rfl) λa A↦?_
  refine qg A 2 rfl rfl rfl rfl hP (V.partD (.cons _ (.cons_cons _ (.cons_cons _ .slnil))) 0 rfl (.refl _)) (fun w1 V => za rfl) λa A↦?_
  refine qg A 3 rfl rfl rfl rfl hP (V.partD (.cons _ (.cons_cons _ (.cons_cons _ .slnil))) 0 rfl (.refl _)) (fun w1 V => za rfl) λa A↦?_
  refine qg A 5 rfl rfl rfl rfl hP (V.partD (.cons _ (.cons_cons _ (.cons_cons _ .slnil))) 0 rfl (.refl _)) (fun w1 V => za rfl) λa A↦?_
  refine qn (by kernel_rfl) (qw A 4 rfl rfl rfl rfl (qf  rfl rfl (fun w => by kernel_rfl)) (plus_any _ _ (V.rd 2 rfl) (V.rd 1 rfl) (by omega) (by omega)) ?_)
  rintro _ w32 ⟨ro28, rc29, rfl, ho30, hb31⟩
  replace V := V.call hb31
  replace V := V.addR ho30.rd
  refine ⟨_, rfl, (V.partD (.cons _ (.cons_cons _ (.cons_cons _ .slnil))) 1 rfl (.refl _)), ?_⟩
  intro a A
  refine qn (by kernel_rfl) (qw A 6 rfl rfl rfl rfl (qf  rfl rfl (fun w => by kernel_rfl)) (ym false ⟨(V.rd 0 rfl), ho30.nocap, ho30.caps⟩ ⟨(V.rd 1 rfl), ho22.nocap, ho22.caps⟩ (by omega) (by omega) hd0 (z := Z) hzS) ?_)
  rintro _ w37 ⟨f33_1, f33_c1, f33_2, f33_c2, rfl, hs34, hs35, hb36⟩
  replace V := V.call hb36
  replace V := V.addR hs34.rd
  replace V := V.addR hs35.rd
  refine ⟨_, rfl, (V.partD (.cons _ (.cons_cons _ (.cons_cons _ .slnil))) 3 rfl (.refl _)), ?_⟩
  intro a A
  refine qn (by kernel_rfl) (zm (us := [.bool (rb Z), .slice f33_1 ((words (rt Z (y1 * y2))).length) f33_c1, .slice f33_2 ((words (rq Z (y1 * y2))).length) f33_c2]) A V 7 rfl rfl rfl (qs rfl rfl rfl (by kernel_rfl) V 0 rfl rfl rfl) 0 rfl rfl rfl rfl ?_)
  intro w38 V
  refine ⟨(V.partD (.cons _ (.cons_cons _ (.cons_cons _ .slnil))) 3 rfl (.refl _)), ?_⟩
  refine zi (by kernel_rfl) ?_
  refine hK27 _ _ (wp_ret (hret _ _ (en1 A rfl (jj V BiD_isS_24 rfl 0 rfl (cs := [.bool (rb Z), .slice f33_1 ((words (rt Z (y1 * y2))).length) f33_c1, .slice f33_2 ((words (rq Z (y1 * y2))).length) f33_c2]) rfl rfl) ?_)))
  exact ⟨f33_1, f33_c1, f33_2, f33_c2, rfl, ⟨(V.rd 1 rfl), hs34.nil, hs34.cap⟩, ⟨(V.rd 0 rfl), hs35.nil, hs35.cap⟩, V.bel⟩
 ·
  have hzD1 : x2 * y1 ≤ x1 * y2 → Z = sgn false (x1 * y2 - x2 * y1) := fun h => by rw [← hZ]; exact qda false h
  have hzD2 : ¬ x2 * y1 ≤ x1 * y2 → Z = sgn true (x2 * y1 - x1 * y2) := fun h => by rw [← hZ, Int.add_comm]; exact qda true (by omega)
  have V : St w w [] [(u2, words y2), (u1, words x2), (a2, words y1), (a1, words x1)] [] := ((((St.start w).addR ha1.rd).addR ha2.rd).addR hu1.rd).addR hu2.rd
  refine ze (l := [(0, .agg #[.bool false, .slice a1 ((words x1).length) ac1, .slice a2 ((words y1).length) ac2]), (1, .agg #[.bool true, .slice u1 ((words x2).length) uc1, .slice u2 ((words y2).length) uc2])]) Tryz.func44 rfl Tryz.ntmps44 rfl rfl ?_
  intro Q hret hnorm hP a A
  refine wsk fun K1 hK1 => wrl (zh A V rfl rfl rfl pg (qx rfl rfl) rfl ?_)
  intro g2 w3 V a A
  refine zh A V rfl rfl rfl pg (qx rfl rfl) rfl ?_
  intro g4 w5 V a A
  refine zh (vs := [.bool false, .slice none 0 0, .slice none 0 0]) (t := 24) A V rfl rfl rfl pg (qy (z := .agg #[.bool false, .slice none 0 0, .slice none 0 0]) (by kernel_rfl) rfl) rfl ?_
  intro g6 w7 V a A
  refine qa (hK1 _ _ (wsk fun K8 hK8 => ja (S := fun w1 => St w w1 [(g6, [.bool false, .slice none 0 0, .slice none 0 0]), (g4, [.bool true, .slice u1 ((words x2).length) uc1, .slice u2 ((words y2).length) uc2]), (g2, [.bool false, .slice a1 ((words x1).length) ac1, .slice a2 ((words y1).length) ac2])] [(u2, words y2), (u1, words x2), (a2, words y1), (a1, words x1)] []) (by kernel_rfl) ?_))
  replace V := V.drew
  refine qg (v := .pointer (some ⟨g2, 1, none⟩)) A 0 rfl rfl rfl rfl hP V (fun w1 V => qe BiD_fld_24_1 rfl rfl) λa A↦?_
  refine qg A 1 rfl rfl rfl rfl hP V (fun w1 V => qj V BiD_is1_22 rfl 2 rfl rfl) λa A↦?_
  refine qg (v := .pointer (some ⟨g4, 2, none⟩)) A 2 rfl rfl rfl rfl hP V (fun w1 V => qe BiD_fld_24_2 rfl rfl) λa A↦?_
  refine qg A 3 rfl rfl rfl rfl hP V (fun w1 V => qj V BiD_is1_22 rfl 1 rfl rfl) λa A↦?_
  refine qg (v := .pointer (some ⟨g4, 1, none⟩)) A 5 rfl rfl rfl rfl hP V (fun w1 V => qe BiD_fld_24_1 rfl rfl) λa A↦?_
  refine qg A 6 rfl rfl rfl rfl hP V (fun w1 V => qj V BiD_is1_22 rfl 1 rfl rfl) λa A↦?_
  refine qg (v := .pointer (some ⟨g2, 2, none⟩)) A 7 rfl rfl rfl rfl hP V (fun w1 V => qe BiD_fld_24_2 rfl rfl) λa A↦?_
  refine qg A 8 rfl rfl rfl rfl hP V (fun w1 V => qj V BiD_is1_22 rfl 2 rfl rfl) λa A↦?_
  refine qn (by kernel_rfl) (qw A 4 rfl rfl rfl rfl (qf  rfl rfl (fun w => by kernel_rfl)) (xf _ _ (V.rd 3 rfl) (V.rd 0 rfl) (by omega) (by omega)) ?_)
  rintro _ w13 ⟨ro9, rc10, rfl, ho11, hb12⟩
  replace V := V.call hb12
  replace V := V.addR ho11.rd
  refine ⟨_, rfl, (V.partD (.refl _) 1 rfl (.refl _)), ?_⟩
  intro a A
  refine qn (by kernel_rfl) (qw A 9 rfl rfl rfl rfl (qf  rfl rfl (fun w => by kernel_rfl)) (xf _ _ (V.rd 2 rfl) (V.rd 3 rfl) (by omega) (by omega)) ?_)
  rintro _ w18 ⟨ro14, rc15, rfl, ho16, hb17⟩
  replace V := V.call hb17
  replace V := V.addR ho16.rd
  refine ⟨_, rfl, (V.partD (.refl _) 2 rfl (.refl _)), ?_⟩
  intro a A
  refine qg A 10 rfl rfl rfl rfl hP (V.partD (.refl _) 2 rfl (.refl _)) (fun w1 V => zp rfl) λa A↦?_
  refine qg A 11 rfl rfl rfl rfl hP (V.partD (.refl _) 2 rfl (.refl _)) (fun w1 V => zp rfl) λa A↦?_
  refine zi (by kernel_rfl) ?_
  refine hK8 _ _ (wsk fun K19 hK19 => wrl (sdo (v := .pointer (some ⟨g2, 2, none⟩)) A (qe BiD_fld_24_2 rfl rfl) λa A↦?_))
  refine sdo A (qj V BiD_is1_22 rfl 2 rfl rfl) λa A↦?_
  refine sdo (v := .pointer (some ⟨g4, 2, none⟩)) A (qe BiD_fld_24_2 rfl rfl) λa A↦?_
  refine sdo A (qj V BiD_is1_22 rfl 1 rfl rfl) λa A↦?_
  refine qi A rfl rfl rfl (qf  rfl rfl (fun w => by kernel_rfl)) (xf _ _ (V.rd 4 rfl) (V.rd 2 rfl) (by omega) (by omega)) ?_
  rintro _ w24 ⟨ro20, rc21, rfl, ho22, hb23⟩
  replace V := V.call hb23
  replace V := V.addR ho22.rd
  refine ⟨_, rfl, ?_⟩
  intro a A
  refine sda A λa A↦?_
  refine qa (hK19 _ _ (wsk fun K25 hK25 => wsk fun K26 hK26 => wrl (sdo (v := .pointer (some ⟨g2, 0, none⟩)) A (qe BiD_fld_24_0 rfl rfl) λa A↦?_)))
  refine sdo A (qj V BiD_is1_4 rfl 2 rfl rfl) λa A↦?_
  refine sdo (v := .pointer (some ⟨g4, 0, none⟩)) A (qe BiD_fld_24_0 rfl rfl) λa A↦?_
  refine sdo A (qj V BiD_is1_4 rfl 1 rfl rfl) λa A↦?_
  refine sdo (v := .bool false) A (qb rfl rfl (xu Tryz.underlying4)) λa A↦?_
  refine qa (hK26 _ _ (wp_cond_false (A.ev rfl) ?_))
  refine wp_skip (hK25 _ _ (wsk fun K27 hK27 => wsk fun K28 hK28 => wrl ?_))
  iterate 2 refine sdm A λa A↦?_
  rcases tf (decide (x2 * y1 ≤ x1 * y2)) with hb29 | hb29
  ·
   have hb29' := of_decide_eq_true hb29
   refine qi A rfl rfl rfl (qf  rfl rfl (fun w => by kernel_rfl)) (rorder_any _ _ (V.rd 2 rfl) (V.rd 1 rfl) (by omega) (by omega)) ?_
   rintro _ w31 ⟨rfl, hb30⟩
   replace V := V.call hb30
   refine ⟨_, rfl, ?_⟩
   intro a A
   refine sdo (v := .bool true) A (qb rfl rfl (fun w => (xi w).trans (by rw [show (decide (0 ≤ cmpN (x1 * y2) (x2 * y1))) = true from (by have h9 := of_decide_eq_true hb29; apply decide_eq_true; unfold cmpN; split <;> (try split) <;> omega)]))) λa A↦?_
   refine qa (hK28 _ _ (wp_cond_true (A.ev rfl) ?_))
   refine wsk fun K32 hK32 => ja (S := fun w1 => St w w1 [(g4, [.bool true, .slice u1 ((words x2).length) uc1, .slice u2 ((words y2).length) uc2]), (g2, [.bool false, .slice a1 ((words x1).length) ac1, .slice a2 ((words y1).length) ac2])] [(ro20, words (y1 * y2)), (ro14, words (x2 * y1)), (ro9, words (x1 * y2)), (u2, words y2), (u1, words x2), (a2, words y1), (a1, words x1)] []) (by kernel_rfl) ?_
   replace V := V.drew
   refine qg (v := .pointer (some ⟨g2, 0, none⟩)) A 0 rfl rfl rfl rfl hP (V.partD (.cons _ (.cons_cons _ (.cons_cons _ .slnil))) 0 rfl (.refl _)) (fun w1 V => qe BiD_fld_24_0 rfl rfl) λa A↦?_
   refine qg A 1 rfl rfl rfl rfl hP (V.partD (.cons _ (.cons_cons _ (.cons_cons _ .slnil))) 0 rfl (.refl _)) (fun w1 V => qj V BiD_is1_4 rfl 1 rfl rfl) λa A↦?_
   refine qg A 2 rfl rfl rfl rfl hP (V.partD (.cons _ (.cons_cons _ (.cons_cons _ .slnil))) 0 rfl (.refl _)) (fun w1 V => za rfl) λa A↦?_
   refine qg A 3 rfl rfl rfl rfl hP (V.partD (.cons _ (.cons_cons _ (.cons_cons _ .slnil))) 0 rfl (.refl _)) (fun w1 V => za rfl) λa A↦?_
   refine qg A 5 rfl rfl rfl rfl hP (V.partD (.cons _ (.cons_cons _ (.cons_cons _ .slnil))) 0 rfl (.refl _)) (fun w1 V => za rfl) λa A↦?_
   refine qn (by kernel_rfl) (qw A 4 rfl rfl rfl rfl (qf  rfl rfl (fun w => by kernel_rfl)) (rless_any _ _ (V.rd 2 rfl) (V.rd 1 rfl) (by omega) (by omega)) ?_)
   rintro _ w37 ⟨ro33, rc34, rfl, ho35, hb36⟩
   replace V := V.call hb36
   replace V := V.addR ho35.rd
   refine ⟨_, rfl, (V.partD (.cons _ (.cons_cons _ (.cons_cons _ .slnil))) 1 rfl (.refl _)), ?_⟩
   intro a A
   refine qn (by kernel_rfl) (qw A 6 rfl rfl rfl rfl (qf  rfl rfl (fun w => by kernel_rfl)) (ym false ⟨(V.rd 0 rfl), ho35.nocap, ho35.caps⟩ ⟨(V.rd 1 rfl), ho22.nocap, ho22.caps⟩ (by omega) (by omega) hd0 (z := Z) (hzD1 (of_decide_eq_true hb29))) ?_)
   rintro _ w42 ⟨f38_1, f38_c1, f38_2, f38_c2, rfl, hs39, hs40, hb41⟩
   replace V := V.call hb41
   replace V := V.addR hs39.rd
   replace V := V.addR hs40.rd
   refine ⟨_, rfl, (V.partD (.cons _ (.cons_cons _ (.cons_cons _ .slnil))) 3 rfl (.refl _)), ?_⟩
   intro a A
   refine qn (by kernel_rfl) (zm (us := [.bool (rb Z), .slice f38_1 ((words (rt Z (y1 * y2))).length) f38_c1, .slice f38_2 ((words (rq Z (y1 * y2))).length) f38_c2]) A V 7 rfl rfl rfl (qs rfl rfl rfl (by kernel_rfl) V 0 rfl rfl rfl) 0 rfl rfl rfl rfl ?_)
   intro w43 V
   refine ⟨(V.partD (.cons _ (.cons_cons _ (.cons_cons _ .slnil))) 3 rfl (.refl _)), ?_⟩
   refine zi (by kernel_rfl) ?_
   refine hK32 _ _ (wp_ret (hret _ _ (en1 A rfl (jj V BiD_isS_24 rfl 0 rfl (cs := [.bool (rb Z), .slice f38_1 ((words (rt Z (y1 * y2))).length) f38_c1, .slice f38_2 ((words (rq Z (y1 * y2))).length) f38_c2]) rfl rfl) ?_)))
   exact ⟨f38_1, f38_c1, f38_2, f38_c2, rfl, ⟨(V.rd 1 rfl), hs39.nil, hs39.cap⟩, ⟨(V.rd 0 rfl), hs40.nil, hs40.cap⟩, V.bel⟩
  ·
   have hb29' := of_decide_eq_false hb29
   refine qi A rfl rfl rfl (qf  rfl rfl (fun w => by kernel_rfl)) (rorder_any _ _ (V.rd 2 rfl) (V.rd 1 rfl) (by omega) (by omega)) ?_
   rintro _ w45 ⟨rfl, hb44⟩
   replace V := V.call hb44
   refine ⟨_, rfl, ?_⟩
   intro a A
   refine sdo (v := .bool false) A (qb rfl rfl (fun w => (xi w).trans (by rw [show (decide (0 ≤ cmpN (x1 * y2) (x2 * y1))) = false from (by have h9 := of_decide_eq_false hb29; apply decide_eq_false; unfold cmpN; split <;> (try split) <;> omega)]))) λa A↦?_
   refine qa (hK28 _ _ (wp_cond_false (A.ev rfl) ?_))
   refine wp_skip (hK27 _ _ (wsk fun K46 hK46 => ja (S := fun w1 => St w w1 [(g4, [.bool true, .slice u1 ((words x2).length) uc1, .slice u2 ((words y2).length) uc2]), (g2, [.bool false, .slice a1 ((words x1).length) ac1, .slice a2 ((words y1).length) ac2])] [(ro20, words (y1 * y2)), (ro14, words (x2 * y1)), (ro9, words (x1 * y2)), (u2, words y2), (u1, words x2), (a2, words y1), (a1, words x1)] []) (by kernel_rfl) ?_))
   replace V := V.drew
   refine qg (v := .pointer (some ⟨g4, 0, none⟩)) A 0 rfl rfl rfl rfl hP (V.partD (.cons _ (.cons_cons _ (.cons_cons _ .slnil))) 0 rfl (.refl _)) (fun w1 V => qe BiD_fld_24_0 rfl rfl) λa A↦?_
   refine qg A 1 rfl rfl rfl rfl hP (V.partD (.cons _ (.cons_cons _ (.cons_cons _ .slnil))) 0 rfl (.refl _)) (fun w1 V => qj V BiD_is1_4 rfl 0 rfl rfl) λa A↦?_
   refine qg A 2 rfl rfl rfl rfl hP (V.partD (.cons _ (.cons_cons _ (.cons_cons _ .slnil))) 0 rfl (.refl _)) (fun w1 V => za rfl) λa A↦?_
   refine qg A 3 rfl rfl rfl rfl hP (V.partD (.cons _ (.cons_cons _ (.cons_cons _ .slnil))) 0 rfl (.refl _)) (fun w1 V => za rfl) λa A↦?_
   refine qg A 5 rfl rfl rfl rfl hP (V.partD (.cons _ (.cons_cons _ (.cons_cons _ .slnil))) 0 rfl (.refl _)) (fun w1 V => za rfl) λa A↦?_
   refine qn (by kernel_rfl) (qw A 4 rfl rfl rfl rfl (qf  rfl rfl (fun w => by kernel_rfl)) (rless_any _ _ (V.rd 1 rfl) (V.rd 2 rfl) (by omega) (by omega)) ?_)
   rintro _ w51 ⟨ro47, rc48, rfl, ho49, hb50⟩
   replace V := V.call hb50
   replace V := V.addR ho49.rd
   refine ⟨_, rfl, (V.partD (.cons _ (.cons_cons _ (.cons_cons _ .slnil))) 1 rfl (.refl _)), ?_⟩
   intro a A
   refine qn (by kernel_rfl) (qw A 6 rfl rfl rfl rfl (qf  rfl rfl (fun w => by kernel_rfl)) (ym true ⟨(V.rd 0 rfl), ho49.nocap, ho49.caps⟩ ⟨(V.rd 1 rfl), ho22.nocap, ho22.caps⟩ (by omega) (by omega) hd0 (z := Z) (hzD2 (of_decide_eq_false hb29))) ?_)
   rintro _ w56 ⟨f52_1, f52_c1, f52_2, f52_c2, rfl, hs53, hs54, hb55⟩
   replace V := V.call hb55
   replace V := V.addR hs53.rd
   replace V := V.addR hs54.rd
   refine ⟨_, rfl, (V.partD (.cons _ (.cons_cons _ (.cons_cons _ .slnil))) 3 rfl (.refl _)), ?_⟩
   intro a A
   refine qn (by kernel_rfl) (zm (us := [.bool (rb Z), .slice f52_1 ((words (rt Z (y1 * y2))).length) f52_c1, .slice f52_2 ((words (rq Z (y1 * y2))).length) f52_c2]) A V 7 rfl rfl rfl (qs rfl rfl rfl (by kernel_rfl) V 0 rfl rfl rfl) 0 rfl rfl rfl rfl ?_)
   intro w57 V
   refine ⟨(V.partD (.cons _ (.cons_cons _ (.cons_cons _ .slnil))) 3 rfl (.refl _)), ?_⟩
   refine zi (by kernel_rfl) ?_
   refine hK46 _ _ (wp_ret (hret _ _ (en1 A rfl (jj V BiD_isS_24 rfl 0 rfl (cs := [.bool (rb Z), .slice f52_1 ((words (rt Z (y1 * y2))).length) f52_c1, .slice f52_2 ((words (rq Z (y1 * y2))).length) f52_c2]) rfl rfl) ?_)))
   exact ⟨f52_1, f52_c1, f52_2, f52_c2, rfl, ⟨(V.rd 1 rfl), hs53.nil, hs53.cap⟩, ⟨(V.rd 0 rfl), hs54.nil, hs54.cap⟩, V.bel⟩
 ·
  have hzD1 : x2 * y1 ≤ x1 * y2 → Z = sgn true (x1 * y2 - x2 * y1) := fun h => by rw [← hZ]; exact qda true h
  have hzD2 : ¬ x2 * y1 ≤ x1 * y2 → Z = sgn false (x2 * y1 - x1 * y2) := fun h => by rw [← hZ, Int.add_comm]; exact qda false (by omega)
  have V : St w w [] [(u2, words y2), (u1, words x2), (a2, words y1), (a1, words x1)] [] := ((((St.start w).addR ha1.rd).addR ha2.rd).addR hu1.rd).addR hu2.rd
  refine ze (l := [(0, .agg #[.bool true, .slice a1 ((words x1).length) ac1, .slice a2 ((words y1).length) ac2]), (1, .agg #[.bool false, .slice u1 ((words x2).length) uc1, .slice u2 ((words y2).length) uc2])]) Tryz.func44 rfl Tryz.ntmps44 rfl rfl ?_
  intro Q hret hnorm hP a A
  refine wsk fun K1 hK1 => wrl (zh A V rfl rfl rfl pg (qx rfl rfl) rfl ?_)
  intro g2 w3 V a A
  refine zh A V rfl rfl rfl pg (qx rfl rfl) rfl ?_
  intro g4 w5 V a A
  refine zh (vs := [.bool false, .slice none 0 0, .slice none 0 0]) (t := 24) A V rfl rfl rfl pg (qy (z := .agg #[.bool false, .slice none 0 0, .slice none 0 0]) (by kernel_rfl) rfl) rfl ?_
  intro g6 w7 V a A
  refine qa (hK1 _ _ (wsk fun K8 hK8 => ja (S := fun w1 => St w w1 [(g6, [.bool false, .slice none 0 0, .slice none 0 0]), (g4, [.bool false, .slice u1 ((words x2).length) uc1, .slice u2 ((words y2).length) uc2]), (g2, [.bool true, .slice a1 ((words x1).length) ac1, .slice a2 ((words y1).length) ac2])] [(u2, words y2), (u1, words x2), (a2, words y1), (a1, words x1)] []) (by kernel_rfl) ?_))
  replace V := V.drew
  refine qg (v := .pointer (some ⟨g2, 1, none⟩)) A 0 rfl rfl rfl rfl hP V (fun w1 V => qe BiD_fld_24_1 rfl rfl) λa A↦?_
  refine qg A 1 rfl rfl rfl rfl hP V (fun w1 V => qj V BiD_is1_22 rfl 2 rfl rfl) λa A↦?_
  refine qg (v := .pointer (some ⟨g4, 2, none⟩)) A 2 rfl rfl rfl rfl hP V (fun w1 V => qe BiD_fld_24_2 rfl rfl) λa A↦?_
  refine qg A 3 rfl rfl rfl rfl hP V (fun w1 V => qj V BiD_is1_22 rfl 1 rfl rfl) λa A↦?_
  refine qg (v := .pointer (some ⟨g4, 1, none⟩)) A 5 rfl rfl rfl rfl hP V (fun w1 V => qe BiD_fld_24_1 rfl rfl) λa A↦?_
  refine qg A 6 rfl rfl rfl rfl hP V (fun w1 V => qj V BiD_is1_22 rfl 1 rfl rfl) λa A↦?_
  refine qg (v := .pointer (some ⟨g2, 2, none⟩)) A 7 rfl rfl rfl rfl hP V (fun w1 V => qe BiD_fld_24_2 rfl rfl) λa A↦?_
  refine qg A 8 rfl rfl rfl rfl hP V (fun w1 V => qj V BiD_is1_22 rfl 2 rfl rfl) λa A↦?_
  refine qn (by kernel_rfl) (qw A 4 rfl rfl rfl rfl (qf  rfl rfl (fun w => by kernel_rfl)) (xf _ _ (V.rd 3 rfl) (V.rd 0 rfl) (by omega) (by omega)) ?_)
  rintro _ w13 ⟨ro9, rc10, rfl, ho11, hb12⟩
  replace V := V.call hb12
  replace V := V.addR ho11.rd
  refine ⟨_, rfl, (V.partD (.refl _) 1 rfl (.refl _)), ?_⟩
  intro a A
  refine qn (by kernel_rfl) (qw A 9 rfl rfl rfl rfl (qf  rfl rfl (fun w => by kernel_rfl)) (xf _ _ (V.rd 2 rfl) (V.rd 3 rfl) (by omega) (by omega)) ?_)
  rintro _ w18 ⟨ro14, rc15, rfl, ho16, hb17⟩
  replace V := V.call hb17
  replace V := V.addR ho16.rd
  refine ⟨_, rfl, (V.partD (.refl _) 2 rfl (.refl _)), ?_⟩
  intro a A
  refine qg A 10 rfl rfl rfl rfl hP (V.partD (.refl _) 2 rfl (.refl _)) (fun w1 V => zp rfl) λa A↦?_
  refine qg A 11 rfl rfl rfl rfl hP (V.partD (.refl _) 2 rfl (.refl _)) (fun w1 V => zp rfl) λa A↦?_
  refine zi (by kernel_rfl) ?_
  refine hK8 _ _ (wsk fun K19 hK19 => wrl (sdo (v := .pointer (some ⟨g2, 2, none⟩)) A (qe BiD_fld_24_2 rfl rfl) λa A↦?_))
  refine sdo A (qj V BiD_is1_22 rfl 2 rfl rfl) λa A↦?_
  refine sdo (v := .pointer (some ⟨g4, 2, none⟩)) A (qe BiD_fld_24_2 rfl rfl) λa A↦?_
  refine sdo A (qj V BiD_is1_22 rfl 1 rfl rfl) λa A↦?_
  refine qi A rfl rfl rfl (qf  rfl rfl (fun w => by kernel_rfl)) (xf _ _ (V.rd 4 rfl) (V.rd 2 rfl) (by omega) (by omega)) ?_
  rintro _ w24 ⟨ro20, rc21, rfl, ho22, hb23⟩
  replace V := V.call hb23
  replace V := V.addR ho22.rd
  refine ⟨_, rfl, ?_⟩
  intro a A
  refine sda A λa A↦?_
  refine qa (hK19 _ _ (wsk fun K25 hK25 => wsk fun K26 hK26 => wrl (sdo (v := .pointer (some ⟨g2, 0, none⟩)) A (qe BiD_fld_24_0 rfl rfl) λa A↦?_)))
  refine sdo A (qj V BiD_is1_4 rfl 2 rfl rfl) λa A↦?_
  refine sdo (v := .pointer (some ⟨g4, 0, none⟩)) A (qe BiD_fld_24_0 rfl rfl) λa A↦?_
  refine sdo A (qj V BiD_is1_4 rfl 1 rfl rfl) λa A↦?_
  refine sdo (v := .bool false) A (qb rfl rfl (xu Tryz.underlying4)) λa A↦?_
  refine qa (hK26 _ _ (wp_cond_false (A.ev rfl) ?_))
  refine wp_skip (hK25 _ _ (wsk fun K27 hK27 => wsk fun K28 hK28 => wrl ?_))
  iterate 2 refine sdm A λa A↦?_
  rcases tf (decide (x2 * y1 ≤ x1 * y2)) with hb29 | hb29
  ·
   have hb29' := of_decide_eq_true hb29
   refine qi A rfl rfl rfl (qf  rfl rfl (fun w => by kernel_rfl)) (rorder_any _ _ (V.rd 2 rfl) (V.rd 1 rfl) (by omega) (by omega)) ?_
   rintro _ w31 ⟨rfl, hb30⟩
   replace V := V.call hb30
   refine ⟨_, rfl, ?_⟩
   intro a A
   refine sdo (v := .bool true) A (qb rfl rfl (fun w => (xi w).trans (by rw [show (decide (0 ≤ cmpN (x1 * y2) (x2 * y1))) = true from (by have h9 := of_decide_eq_true hb29; apply decide_eq_true; unfold cmpN; split <;> (try split) <;> omega)]))) λa A↦?_
   refine qa (hK28 _ _ (wp_cond_true (A.ev rfl) ?_))
   refine wsk fun K32 hK32 => ja (S := fun w1 => St w w1 [(g4, [.bool false, .slice u1 ((words x2).length) uc1, .slice u2 ((words y2).length) uc2]), (g2, [.bool true, .slice a1 ((words x1).length) ac1, .slice a2 ((words y1).length) ac2])] [(ro20, words (y1 * y2)), (ro14, words (x2 * y1)), (ro9, words (x1 * y2)), (u2, words y2), (u1, words x2), (a2, words y1), (a1, words x1)] []) (by kernel_rfl) ?_
   replace V := V.drew
   refine qg (v := .pointer (some ⟨g2, 0, none⟩)) A 0 rfl rfl rfl rfl hP (V.partD (.cons _ (.cons_cons _ (.cons_cons _ .slnil))) 0 rfl (.refl _)) (fun w1 V => qe BiD_fld_24_0 rfl rfl) λa A↦?_
   refine qg A 1 rfl rfl rfl rfl hP (V.partD (.cons _ (.cons_cons _ (.cons_cons _ .slnil))) 0 rfl (.refl _)) (fun w1 V => qj V BiD_is1_4 rfl 1 rfl rfl) λa A↦?_
   refine qg A 2 rfl rfl rfl rfl hP (V.partD (.cons _ (.cons_cons _ (.cons_cons _ .slnil))) 0 rfl (.refl _)) (fun w1 V => za rfl) λa A↦?_
   refine qg A 3 rfl rfl rfl rfl hP (V.partD (.cons _ (.cons_cons _ (.cons_cons _ .slnil))) 0 rfl (.refl _)) (fun w1 V => za rfl) λa A↦?_
   refine qg A 5 rfl rfl rfl rfl hP (V.partD (.cons _ (.cons_cons _ (.cons_cons _ .slnil))) 0 rfl (.refl _)) (fun w1 V => za rfl) λa A↦?_
   refine qn (by kernel_rfl) (qw A 4 rfl rfl rfl rfl (qf  rfl rfl (fun w => by kernel_rfl)) (rless_any _ _ (V.rd 2 rfl) (V.rd 1 rfl) (by omega) (by omega)) ?_)
   rintro _ w37 ⟨ro33, rc34, rfl, ho35, hb36⟩
   replace V := V.call hb36
   replace V := V.addR ho35.rd
   refine ⟨_, rfl, (V.partD (.cons _ (.cons_cons _ (.cons_cons _ .slnil))) 1 rfl (.refl _)), ?_⟩
   intro a A
   refine qn (by kernel_rfl) (qw A 6 rfl rfl rfl rfl (qf  rfl rfl (fun w => by kernel_rfl)) (ym true ⟨(V.rd 0 rfl), ho35.nocap, ho35.caps⟩ ⟨(V.rd 1 rfl), ho22.nocap, ho22.caps⟩ (by omega) (by omega) hd0 (z := Z) (hzD1 (of_decide_eq_true hb29))) ?_)
   rintro _ w42 ⟨f38_1, f38_c1, f38_2, f38_c2, rfl, hs39, hs40, hb41⟩
   replace V := V.call hb41
   replace V := V.addR hs39.rd
   replace V := V.addR hs40.rd
   refine ⟨_, rfl, (V.partD (.cons _ (.cons_cons _ (.cons_cons _ .slnil))) 3 rfl (.refl _)), ?_⟩
   intro a A
   refine qn (by kernel_rfl) (zm (us := [.bool (rb Z), .slice f38_1 ((words (rt Z (y1 * y2))).length) f38_c1, .slice f38_2 ((words (rq Z (y1 * y2))).length) f38_c2]) A V 7 rfl rfl rfl (qs rfl rfl rfl (by kernel_rfl) V 0 rfl rfl rfl) 0 rfl rfl rfl rfl ?_)
   intro w43 V
   refine ⟨(V.partD (.cons _ (.cons_cons _ (.cons_cons _ .slnil))) 3 rfl (.refl _)), ?_⟩
   refine zi (by kernel_rfl) ?_
   refine hK32 _ _ (wp_ret (hret _ _ (en1 A rfl (jj V BiD_isS_24 rfl 0 rfl (cs := [.bool (rb Z), .slice f38_1 ((words (rt Z (y1 * y2))).length) f38_c1, .slice f38_2 ((words (rq Z (y1 * y2))).length) f38_c2]) rfl rfl) ?_)))
   exact ⟨f38_1, f38_c1, f38_2, f38_c2, rfl, ⟨(V.rd 1 rfl), hs39.nil, hs39.cap⟩, ⟨(V.rd 0 rfl), hs40.nil, hs40.cap⟩, V.bel⟩
  ·
   have hb29' := of_decide_eq_false hb29
   refine qi A rfl rfl rfl (qf  rfl rfl (fun w => by kernel_rfl)) (rorder_any _ _ (V.rd 2 rfl) (V.rd 1 rfl) (by omega) (by omega)) ?_
   rintro _ w45 ⟨rfl, hb44⟩
   replace V := V.call hb44
   refine ⟨_, rfl, ?_⟩
   intro a A
   refine sdo (v := .bool false) A (qb rfl rfl (fun w => (xi w).trans (by rw [show (decide (0 ≤ cmpN (x1 * y2) (x2 * y1))) = false from (by have h9 := of_decide_eq_false hb29; apply decide_eq_false; unfold cmpN; split <;> (try split) <;> omega)]))) λa A↦?_
   refine qa (hK28 _ _ (wp_cond_false (A.ev rfl) ?_))
   refine wp_skip (hK27 _ _ (wsk fun K46 hK46 => ja (S := fun w1 => St w w1 [(g4, [.bool false, .slice u1 ((words x2).length) uc1, .slice u2 ((words y2).length) uc2]), (g2, [.bool true, .slice a1 ((words x1).length) ac1, .slice a2 ((words y1).length) ac2])] [(ro20, words (y1 * y2)), (ro14, words (x2 * y1)), (ro9, words (x1 * y2)), (u2, words y2), (u1, words x2), (a2, words y1), (a1, words x1)] []) (by kernel_rfl) ?_))
   replace V := V.drew
   refine qg (v := .pointer (some ⟨g4, 0, none⟩)) A 0 rfl rfl rfl rfl hP (V.partD (.cons _ (.cons_cons _ (.cons_cons _ .slnil))) 0 rfl (.refl _)) (fun w1 V => qe BiD_fld_24_0 rfl rfl) λa A↦?_
   refine qg A 1 rfl rfl rfl rfl hP (V.partD (.cons _ (.cons_cons _ (.cons_cons _ .slnil))) 0 rfl (.refl _)) (fun w1 V => qj V BiD_is1_4 rfl 0 rfl rfl) λa A↦?_
   refine qg A 2 rfl rfl rfl rfl hP (V.partD (.cons _ (.cons_cons _ (.cons_cons _ .slnil))) 0 rfl (.refl _)) (fun w1 V => za rfl) λa A↦?_
   refine qg A 3 rfl rfl rfl rfl hP (V.partD (.cons _ (.cons_cons _ (.cons_cons _ .slnil))) 0 rfl (.refl _)) (fun w1 V => za rfl) λa A↦?_
   refine qg A 5 rfl rfl rfl rfl hP (V.partD (.cons _ (.cons_cons _ (.cons_cons _ .slnil))) 0 rfl (.refl _)) (fun w1 V => za rfl) λa A↦?_
   refine qn (by kernel_rfl) (qw A 4 rfl rfl rfl rfl (qf  rfl rfl (fun w => by kernel_rfl)) (rless_any _ _ (V.rd 1 rfl) (V.rd 2 rfl) (by omega) (by omega)) ?_)
   rintro _ w51 ⟨ro47, rc48, rfl, ho49, hb50⟩
   replace V := V.call hb50
   replace V := V.addR ho49.rd
   refine ⟨_, rfl, (V.partD (.cons _ (.cons_cons _ (.cons_cons _ .slnil))) 1 rfl (.refl _)), ?_⟩
   intro a A
   refine qn (by kernel_rfl) (qw A 6 rfl rfl rfl rfl (qf  rfl rfl (fun w => by kernel_rfl)) (ym false ⟨(V.rd 0 rfl), ho49.nocap, ho49.caps⟩ ⟨(V.rd 1 rfl), ho22.nocap, ho22.caps⟩ (by omega) (by omega) hd0 (z := Z) (hzD2 (of_decide_eq_false hb29))) ?_)
   rintro _ w56 ⟨f52_1, f52_c1, f52_2, f52_c2, rfl, hs53, hs54, hb55⟩
   replace V := V.call hb55
   replace V := V.addR hs53.rd
   replace V := V.addR hs54.rd
   refine ⟨_, rfl, (V.partD (.cons _ (.cons_cons _ (.cons_cons _ .slnil))) 3 rfl (.refl _)), ?_⟩
   intro a A
   refine qn (by kernel_rfl) (zm (us := [.bool (rb Z), .slice f52_1 ((words (rt Z (y1 * y2))).length) f52_c1, .slice f52_2 ((words (rq Z (y1 * y2))).length) f52_c2]) A V 7 rfl rfl rfl (qs rfl rfl rfl (by kernel_rfl) V 0 rfl rfl rfl) 0 rfl rfl rfl rfl ?_)
   intro w57 V
   refine ⟨(V.partD (.cons _ (.cons_cons _ (.cons_cons _ .slnil))) 3 rfl (.refl _)), ?_⟩
   refine zi (by kernel_rfl) ?_
   refine hK46 _ _ (wp_ret (hret _ _ (en1 A rfl (jj V BiD_isS_24 rfl 0 rfl (cs := [.bool (rb Z), .slice f52_1 ((words (rt Z (y1 * y2))).length) f52_c1, .slice f52_2 ((words (rq Z (y1 * y2))).length) f52_c2]) rfl rfl) ?_)))
   exact ⟨f52_1, f52_c1, f52_2, f52_c2, rfl, ⟨(V.rd 1 rfl), hs53.nil, hs53.cap⟩, ⟨(V.rd 0 rfl), hs54.nil, hs54.cap⟩, V.bel⟩
 ·
  have hzS : Z = sgn true (x1 * y2 + x2 * y1) := by rw [← hZ]; exact sum_same true _ _
  have V : St w w [] [(u2, words y2), (u1, words x2), (a2, words y1), (a1, words x1)] [] := ((((St.start w).addR ha1.rd).addR ha2.rd).addR hu1.rd).addR hu2.rd
  refine ze (l := [(0, .agg #[.bool true, .slice a1 ((words x1).length) ac1, .slice a2 ((words y1).length) ac2]), (1, .agg #[.bool true, .slice u1 ((words x2).length) uc1, .slice u2 ((words y2).length) uc2])]) Tryz.func44 rfl Tryz.ntmps44 rfl rfl ?_
  intro Q hret hnorm hP a A
  refine wsk fun K1 hK1 => wrl (zh A V rfl rfl rfl pg (qx rfl rfl) rfl ?_)
  intro g2 w3 V a A
  refine zh A V rfl rfl rfl pg (qx rfl rfl) rfl ?_
  intro g4 w5 V a A
  refine zh (vs := [.bool false, .slice none 0 0, .slice none 0 0]) (t := 24) A V rfl rfl rfl pg (qy (z := .agg #[.bool false, .slice none 0 0, .slice none 0 0]) (by kernel_rfl) rfl) rfl ?_
  intro g6 w7 V a A
  refine qa (hK1 _ _ (wsk fun K8 hK8 => ja (S := fun w1 => St w w1 [(g6, [.bool false, .slice none 0 0, .slice none 0 0]), (g4, [.bool true, .slice u1 ((words x2).length) uc1, .slice u2 ((words y2).length) uc2]), (g2, [.bool true, .slice a1 ((words x1).length) ac1, .slice a2 ((words y1).length) ac2])] [(u2, words y2), (u1, words x2), (a2, words y1), (a1, words x1)] []) (by kernel_rfl) ?_))
  replace V := V.drew
  refine qg (v := .pointer (some ⟨g2, 1, none⟩)) A 0 rfl rfl rfl rfl hP V (fun w1 V => qe BiD_fld_24_1 rfl rfl) λa A↦?_
  refine qg A 1 rfl rfl rfl rfl hP V (fun w1 V => qj V BiD_is1_22 rfl 2 rfl rfl) λa A↦?_
  refine qg (v := .pointer (some ⟨g4, 2, none⟩)) A 2 rfl rfl rfl rfl hP V (fun w1 V => qe BiD_fld_24_2 rfl rfl) λa A↦?_
  refine qg A 3 rfl rfl rfl rfl hP V (fun w1 V => qj V BiD_is1_22 rfl 1 rfl rfl) λa A↦?_
  refine qg (v := .pointer (some ⟨g4, 1, none⟩)) A 5 rfl rfl rfl rfl hP V (fun w1 V => qe BiD_fld_24_1 rfl rfl) λa A↦?_
  refine qg A 6 rfl rfl rfl rfl hP V (fun w1 V => qj V BiD_is1_22 rfl 1 rfl rfl) λa A↦?_
  refine qg (v := .pointer (some ⟨g2, 2, none⟩)) A 7 rfl rfl rfl rfl hP V (fun w1 V => qe BiD_fld_24_2 rfl rfl) λa A↦?_
  refine qg A 8 rfl rfl rfl rfl hP V (fun w1 V => qj V BiD_is1_22 rfl 2 rfl rfl) λa A↦?_
  refine qn (by kernel_rfl) (qw A 4 rfl rfl rfl rfl (qf  rfl rfl (fun w => by kernel_rfl)) (xf _ _ (V.rd 3 rfl) (V.rd 0 rfl) (by omega) (by omega)) ?_)
  rintro _ w13 ⟨ro9, rc10, rfl, ho11, hb12⟩
  replace V := V.call hb12
  replace V := V.addR ho11.rd
  refine ⟨_, rfl, (V.partD (.refl _) 1 rfl (.refl _)), ?_⟩
  intro a A
  refine qn (by kernel_rfl) (qw A 9 rfl rfl rfl rfl (qf  rfl rfl (fun w => by kernel_rfl)) (xf _ _ (V.rd 2 rfl) (V.rd 3 rfl) (by omega) (by omega)) ?_)
  rintro _ w18 ⟨ro14, rc15, rfl, ho16, hb17⟩
  replace V := V.call hb17
  replace V := V.addR ho16.rd
  refine ⟨_, rfl, (V.partD (.refl _) 2 rfl (.refl _)), ?_⟩
  intro a A
  refine qg A 10 rfl rfl rfl rfl hP (V.partD (.refl _) 2 rfl (.refl _)) (fun w1 V => zp rfl) λa A↦?_
  refine qg A 11 rfl rfl rfl rfl hP (V.partD (.refl _) 2 rfl (.refl _)) (fun w1 V => zp rfl) λa A↦?_
  refine zi (by kernel_rfl) ?_
  refine hK8 _ _ (wsk fun K19 hK19 => wrl (sdo (v := .pointer (some ⟨g2, 2, none⟩)) A (qe BiD_fld_24_2 rfl rfl) λa A↦?_))
  refine sdo A (qj V BiD_is1_22 rfl 2 rfl rfl) λa A↦?_
  refine sdo (v := .pointer (some ⟨g4, 2, none⟩)) A (qe BiD_fld_24_2 rfl rfl) λa A↦?_
  refine sdo A (qj V BiD_is1_22 rfl 1 rfl rfl) λa A↦?_
  refine qi A rfl rfl rfl (qf  rfl rfl (fun w => by kernel_rfl)) (xf _ _ (V.rd 4 rfl) (V.rd 2 rfl) (by omega) (by omega)) ?_
  rintro _ w24 ⟨ro20, rc21, rfl, ho22, hb23⟩
  replace V := V.call hb23
  replace V := V.addR ho22.rd
  refine ⟨_, rfl, ?_⟩
  intro a A
  refine sda A λa A↦?_
  refine qa (hK19 _ _ (wsk fun K25 hK25 => wsk fun K26 hK26 => wrl (sdo (v := .pointer (some ⟨g2, 0, none⟩)) A (qe BiD_fld_24_0 rfl rfl) λa A↦?_)))
  refine sdo A (qj V BiD_is1_4 rfl 2 rfl rfl) λa A↦?_
  refine sdo (v := .pointer (some ⟨g4, 0, none⟩)) A (qe BiD_fld_24_0 rfl rfl) λa A↦?_
  refine sdo A (qj V BiD_is1_4 rfl 1 rfl rfl) λa A↦?_
  refine sdo (v := .bool true) A (qb rfl rfl (xu Tryz.underlying4)) λa A↦?_
  refine qa (hK26 _ _ (wp_cond_true (A.ev rfl) ?_))
  refine wsk fun K27 hK27 => ja (S := fun w1 => St w w1 [(g4, [.bool true, .slice u1 ((words x2).length) uc1, .slice u2 ((words y2).length) uc2]), (g2, [.bool true, .slice a1 ((words x1).length) ac1, .slice a2 ((words y1).length) ac2])] [(ro20, words (y1 * y2)), (ro14, words (x2 * y1)), (ro9, words (x1 * y2)), (u2, words y2), (u1, words x2), (a2, words y1), (a1, words x1)] []) (by kernel_rfl) ?_
  replace V := V.drew
  refine qg (v := .pointer (some ⟨g2, 0, none⟩)) A 0 rfl rfl rfl rfl hP (V.partD (.cons _ (.cons_cons _ (.cons_cons _ .slnil))) 0 rfl (.refl _)) (fun w1 V => qe BiD_fld_24_0 rfl rfl) λa A↦?_
  refine qg A 1 rfl rfl rfl rfl hP (V.partD (.cons _ (.cons_cons _ (.cons_cons _ .slnil))) 0 rfl (.refl _)) (fun w1 V => qj V BiD_is1_4 rfl 1 rfl rfl) λa A↦?_
  refine qg A 2 rfl rfl rfl rfl hP (V.partD (.cons _ (.cons_cons _ (.cons_cons _ .slnil))) 0 rfl (.refl _)) (fun w1 V => za rfl) λa A↦?_
  refine qg A 3 rfl rfl rfl rfl hP (V.partD (.cons _ (.cons_cons _ (.cons_cons _ .slnil))) 0 rfl (.refl _)) (fun w1 V => za rfl) λa A↦?_
  refine qg A 5 rfl rfl rfl rfl hP (V.partD (.cons _ (.cons_cons _ (.cons_cons _ .slnil))) 0 rfl (.refl _)) (fun w1 V => za rfl) λa A↦?_
  refine qn (by kernel_rfl) (qw A 4 rfl rfl rfl rfl (qf  rfl rfl (fun w => by kernel_rfl)) (plus_any _ _ (V.rd 2 rfl) (V.rd 1 rfl) (by omega) (by omega)) ?_)
  rintro _ w32 ⟨ro28, rc29, rfl, ho30, hb31⟩
  replace V := V.call hb31
  replace V := V.addR ho30.rd
  refine ⟨_, rfl, (V.partD (.cons _ (.cons_cons _ (.cons_cons _ .slnil))) 1 rfl (.refl _)), ?_⟩
  intro a A
  refine qn (by kernel_rfl) (qw A 6 rfl rfl rfl rfl (qf  rfl rfl (fun w => by kernel_rfl)) (ym true ⟨(V.rd 0 rfl), ho30.nocap, ho30.caps⟩ ⟨(V.rd 1 rfl), ho22.nocap, ho22.caps⟩ (by omega) (by omega) hd0 (z := Z) hzS) ?_)
  rintro _ w37 ⟨f33_1, f33_c1, f33_2, f33_c2, rfl, hs34, hs35, hb36⟩
  replace V := V.call hb36
  replace V := V.addR hs34.rd
  replace V := V.addR hs35.rd
  refine ⟨_, rfl, (V.partD (.cons _ (.cons_cons _ (.cons_cons _ .slnil))) 3 rfl (.refl _)), ?_⟩
  intro a A
  refine qn (by kernel_rfl) (zm (us := [.bool (rb Z), .slice f33_1 ((words (rt Z (y1 * y2))).length) f33_c1, .slice f33_2 ((words (rq Z (y1 * y2))).length) f33_c2]) A V 7 rfl rfl rfl (qs rfl rfl rfl (by kernel_rfl) V 0 rfl rfl rfl) 0 rfl rfl rfl rfl ?_)
  intro w38 V
  refine ⟨(V.partD (.cons _ (.cons_cons _ (.cons_cons _ .slnil))) 3 rfl (.refl _)), ?_⟩
  refine zi (by kernel_rfl) ?_
  refine hK27 _ _ (wp_ret (hret _ _ (en1 A rfl (jj V BiD_isS_24 rfl 0 rfl (cs := [.bool (rb Z), .slice f33_1 ((words (rt Z (y1 * y2))).length) f33_c1, .slice f33_2 ((words (rq Z (y1 * y2))).length) f33_c2]) rfl rfl) ?_)))
  exact ⟨f33_1, f33_c1, f33_2, f33_c2, rfl, ⟨(V.rd 1 rfl), hs34.nil, hs34.cap⟩, ⟨(V.rd 0 rfl), hs35.nil, hs35.cap⟩, V.bel⟩




section
variable {P : Program} {l : List (Nat × Value)} {dst : Option Tmp} {ty t : TypeId} {pos : String} {after : Array Edge} {guard : Option (Nat × Bool)} {w : World} {x y : Operand}
end

section
variable {fop : Nat → Nat → Nat} {fb : Bool → Bool → Bool} {b1 b2 : Bool} {y1 y2 : Nat}
end
section
variable {P : Program} {t : TypeId} {a b : Operand} {x y : Nat}
end




theorem BiK_is1_22 : Is1 Tryz.prog 22 := ⟨⟨_, Tryz.underlying22, rfl⟩, by kernel_rfl⟩
theorem BiK_is1_4 : Is1 Tryz.prog 4 := ⟨⟨_, Tryz.underlying4, rfl⟩, by kernel_rfl⟩
theorem BiK_fld_24_0 : FieldAt Tryz.prog 24 0 0 := ⟨_, _, Tryz.underlying24, rfl, rfl, by kernel_rfl⟩
theorem BiK_fld_24_1 : FieldAt Tryz.prog 24 1 1 := ⟨_, _, Tryz.underlying24, rfl, rfl, by kernel_rfl⟩
theorem BiK_fld_24_2 : FieldAt Tryz.prog 24 2 2 := ⟨_, _, Tryz.underlying24, rfl, rfl, by kernel_rfl⟩
theorem yx {w : World} {b b' : Bool} {t q t' q' : List Nat} {a1 a2 : Option Addr} {ac1 ac2 : Nat} (ha1 : Sc w a1 ac1 t) (ha2 : Sc w a2 ac2 q) {u1 u2 : Option Addr} {uc1 uc2 : Nat} (hu1 : Sc w u1 uc1 t') (hu2 : Sc w u2 uc2 q') (l1 : t.length ≤ 9223372036854775807) (l2 : q.length ≤ 9223372036854775807) (l3 : t'.length ≤ 9223372036854775807) (l4 : q'.length ≤ 9223372036854775807) {r : Bool} (hr : xv b t q b' t' q' = r) :
  Calls Tryz.prog 43 #[.agg #[.bool b, .slice a1 t.length ac1, .slice a2 q.length ac2], .agg #[.bool b', .slice u1 t'.length uc1, .slice u2 q'.length uc2]] w fun e w' => e = .returned (.bool r) ∧ Below w.heap.size w w' := by
 have S : St w w [] [(u2, q'), (u1, t'), (a2, q), (a1, t)] [] := ((((St.start w).addR ha1.rd).addR ha2.rd).addR hu1.rd).addR hu2.rd
 refine ze (l := [(0, .agg #[.bool b, .slice a1 t.length ac1, .slice a2 q.length ac2]), (1, .agg #[.bool b', .slice u1 t'.length uc1, .slice u2 q'.length uc2])]) Tryz.func43 rfl Tryz.ntmps43 rfl rfl ?_
 intro Q hret hnorm hP a A
 refine wsk fun K1 hK1 => wrl (zh A S rfl rfl rfl pg (qx rfl rfl) rfl ?_)
 intro g2 w3 S a A
 refine zh A S rfl rfl rfl pg (qx rfl rfl) rfl ?_
 intro g4 w5 S a A
 refine sda A λa A↦?_
 refine qa (hK1 _ _ (wsk fun K6 hK6 => wrl (sdo (v := .pointer (some ⟨g2, 0, none⟩)) A (qe BiK_fld_24_0 rfl rfl) λa A↦?_)))
 refine sdo A (qj S BiK_is1_4 rfl 1 rfl rfl) λa A↦?_
 refine sdo (v := .pointer (some ⟨g4, 0, none⟩)) A (qe BiK_fld_24_0 rfl rfl) λa A↦?_
 refine sdo A (qj S BiK_is1_4 rfl 0 rfl rfl) λa A↦?_
 rcases tf ((b == b')) with hb7 | hb7
 ·
  have hb7' := eq_of_beq hb7
  refine sdo (v := .bool true) A (qb rfl rfl (fun w => ((xu Tryz.underlying4) w).trans (by rw [hb7]))) λa A↦?_
  refine sdm A λa A↦?_
  refine sdo (v := .pointer (some ⟨g2, 1, none⟩)) A (qe BiK_fld_24_1 rfl rfl) λa A↦?_
  refine sdo A (qj S BiK_is1_22 rfl 1 rfl rfl) λa A↦?_
  refine sdo (v := .pointer (some ⟨g4, 1, none⟩)) A (qe BiK_fld_24_1 rfl rfl) λa A↦?_
  refine sdo A (qj S BiK_is1_22 rfl 0 rfl rfl) λa A↦?_
  rcases tf (decide (t = t')) with hb8 | hb8
  ·
   have hb8' := of_decide_eq_true hb8
   refine qi A rfl rfl rfl (qf  rfl rfl (fun w => by kernel_rfl)) (xr _ _ (S.rd 3 rfl) (S.rd 1 rfl) l1 l3 hb8) ?_
   rintro _ w10 ⟨rfl, hb9⟩
   replace S := S.call hb9
   refine ⟨_, rfl, ?_⟩
   intro a A
   refine sdk (v := .bool true) A λa A↦?_
   refine sdm A λa A↦?_
   refine sdo (v := .pointer (some ⟨g2, 2, none⟩)) A (qe BiK_fld_24_2 rfl rfl) λa A↦?_
   refine sdo A (qj S BiK_is1_22 rfl 1 rfl rfl) λa A↦?_
   refine sdo (v := .pointer (some ⟨g4, 2, none⟩)) A (qe BiK_fld_24_2 rfl rfl) λa A↦?_
   refine sdo A (qj S BiK_is1_22 rfl 0 rfl rfl) λa A↦?_
   rcases tf (decide (q = q')) with hb11 | hb11
   ·
    have hb11' := of_decide_eq_true hb11
    refine qi A rfl rfl rfl (qf  rfl rfl (fun w => by kernel_rfl)) (xr _ _ (S.rd 2 rfl) (S.rd 0 rfl) l2 l4 hb11) ?_
    rintro _ w13 ⟨rfl, hb12⟩
    replace S := S.call hb12
    refine ⟨_, rfl, ?_⟩
    intro a A
    refine sdk (v := .bool true) A λa A↦?_
    refine sda A λa A↦?_
    refine qa (hK6 _ _ (wp_ret (hret _ _ (en1 A rfl (qh rfl) ?_))))
    subst hr
    exact ⟨by unfold xv; rw [hb7, hb8, hb11]; try rfl, S.bel⟩
   ·
    have hb11' := of_decide_eq_false hb11
    refine qi A rfl rfl rfl (qf  rfl rfl (fun w => by kernel_rfl)) (xr _ _ (S.rd 2 rfl) (S.rd 0 rfl) l2 l4 hb11) ?_
    rintro _ w15 ⟨rfl, hb14⟩
    replace S := S.call hb14
    refine ⟨_, rfl, ?_⟩
    intro a A
    refine sdk (v := .bool false) A λa A↦?_
    refine sda A λa A↦?_
    refine qa (hK6 _ _ (wp_ret (hret _ _ (en1 A rfl (qh rfl) ?_))))
    subst hr
    exact ⟨by unfold xv; rw [hb7, hb8, hb11]; try rfl, S.bel⟩
  ·
   have hb8' := of_decide_eq_false hb8
   refine qi A rfl rfl rfl (qf  rfl rfl (fun w => by kernel_rfl)) (xr _ _ (S.rd 3 rfl) (S.rd 1 rfl) l1 l3 hb8) ?_
   rintro _ w17 ⟨rfl, hb16⟩
   replace S := S.call hb16
   refine ⟨_, rfl, ?_⟩
   intro a A
   refine sdk (v := .bool false) A λa A↦?_
   refine sdm A λa A↦?_
   iterate 5 refine qk A rfl rfl rfl λa A↦?_
   refine sdk (v := .bool false) A λa A↦?_
   refine sda A λa A↦?_
   refine qa (hK6 _ _ (wp_ret (hret _ _ (en1 A rfl (qh rfl) ?_))))
   subst hr
   exact ⟨by unfold xv; rw [hb7, hb8]; try rfl, S.bel⟩
 ·
  have hb7' := ne_of_beq_false hb7
  refine sdo (v := .bool false) A (qb rfl rfl (fun w => ((xu Tryz.underlying4) w).trans (by rw [hb7]))) λa A↦?_
  refine sdm A λa A↦?_
  iterate 5 refine qk A rfl rfl rfl λa A↦?_
  refine sdk (v := .bool false) A λa A↦?_
  refine sdm A λa A↦?_
  iterate 5 refine qk A rfl rfl rfl λa A↦?_
  refine sdk (v := .bool false) A λa A↦?_
  refine sda A λa A↦?_
  refine qa (hK6 _ _ (wp_ret (hret _ _ (en1 A rfl (qh rfl) ?_))))
  subst hr
  exact ⟨by unfold xv; rw [hb7]; try rfl, S.bel⟩
/-- A rational number of at most so many words above and below. -/
def LenR (k : Nat) (r : Rat) : Prop := (words r.num.natAbs).length ≤ k ∧ (words r.den).length ≤ k
theorem LenR.mono {k m : Nat} {r : Rat} (h : LenR k r) (hk : k ≤ m) : LenR m r := ⟨Nat.le_trans h.1 hk, Nat.le_trans h.2 hk⟩
theorem lenR_mk {x : Int} {d k : Nat} (hd : d ≠ 0) (h1 : (words x.natAbs).length ≤ k) (h2 : (words d).length ≤ k) {u : Rat} (hu : mkRat x d = u) : LenR k u := by
  subst hu
  unfold LenR
  rw [← rt_mk x hd, ← rq_mk x hd]
  exact ⟨qag h1, qag h2⟩
theorem add_mk (u v : Rat) : mkRat (u.num * (v.den : Int) + v.num * (u.den : Int)) (u.den * v.den) = u + v := by
  rw [← Rat.mkRat_add_mkRat _ _ u.den_nz v.den_nz, Rat.mkRat_self, Rat.mkRat_self]
theorem lenR_add {u v : Rat} {k : Nat} (hu : LenR k u) (hv : LenR k v) : LenR (k + k + 1) (u + v) :=
  lenR_mk (Nat.mul_ne_zero u.den_nz v.den_nz) (qff (kv hu.1 (kw hv.2)) (kv hv.1 (kw hu.2))) (Nat.le_trans (words_mul_length hu.2 hv.2) (Nat.le_succ _)) (add_mk u v)
theorem lenR_neg {u : Rat} {k : Nat} (hu : LenR k u) : LenR k (-u) := by
  unfold LenR at *
  rw [Rat.neg_num, Rat.neg_den, Int.natAbs_neg]
  exact hu
/-- A fraction is answered. -/
def AnsFR (w : World) (r : Rat) : Ending → World → Prop := AnsF w (rb r.num) (words r.num.natAbs) (words r.den)
theorem qej {w : World} {u v : Rat} {a1 a2 : Option Addr} {ac1 ac2 : Nat} (ha1 : Sc w a1 ac1 (words u.num.natAbs)) (ha2 : Sc w a2 ac2 (words u.den)) {u1 u2 : Option Addr} {uc1 uc2 : Nat} (hu1 : Sc w u1 uc1 (words v.num.natAbs)) (hu2 : Sc w u2 uc2 (words v.den)) (l1 : LenR 4000 u) (l2 : LenR 4000 v) {r : Rat} (hr : u + v = r) :
    Calls Tryz.prog 44 #[.agg #[.bool (rb u.num), .slice a1 (words u.num.natAbs).length ac1, .slice a2 (words u.den).length ac2], .agg #[.bool (rb v.num), .slice u1 (words v.num.natAbs).length uc1, .slice u2 (words v.den).length uc2]] w (AnsFR w r) := by
  have h := rsum_any (b1 := rb u.num) (b2 := rb v.num) ha1 ha2 hu1 hu2 l1.1 l1.2 l2.1 l2.2 u.den_nz v.den_nz
  have hd := Nat.mul_ne_zero u.den_nz v.den_nz
  rw [ul, ul, rb_mk (u.num * (v.den : Int) + v.num * (u.den : Int)) hd, rt_mk (u.num * (v.den : Int) + v.num * (u.den : Int)) hd, rq_mk (u.num * (v.den : Int) + v.num * (u.den : Int)) hd, add_mk, hr] at h
  exact h
theorem qgb {w : World} {u : Rat} {a1 a2 : Option Addr} {ac1 ac2 : Nat} (ha1 : Sc w a1 ac1 (words u.num.natAbs)) (ha2 : Sc w a2 ac2 (words u.den)) {r : Rat} (hr : -u = r) :
    Calls Tryz.prog 45 #[.agg #[.bool (rb u.num), .slice a1 (words u.num.natAbs).length ac1, .slice a2 (words u.den).length ac2]] w (AnsFR w r) := by
  subst hr
  have e : (!rb u.num && decide (0 < (words u.num.natAbs).length)) = rb (-u).num := by
    rw [Rat.neg_num]
    unfold rb
    rcases Int.lt_trichotomy u.num 0 with h | h | h
    · rw [decide_eq_true h, decide_eq_false (show ¬ -u.num < 0 by omega)]; rfl
    · rw [h]; rw [show Int.natAbs 0 = 0 from rfl, words_zero]; rfl
    · have := (ud (x := u.num.natAbs)).2 (by omega)
      rw [decide_eq_false (show ¬ u.num < 0 by omega), decide_eq_true this, decide_eq_true (show -u.num < 0 by omega)]; rfl
  refine (rminus_any e).mono fun x w' ⟨hx, hb⟩ => ?_
  unfold AnsFR
  refine ⟨a1, ac1, a2, ac2, ?_, ?_, ?_, hb⟩
  · rw [hx, Rat.neg_num, Rat.neg_den, Int.natAbs_neg]
  · rw [Rat.neg_num, Int.natAbs_neg]; exact ha1.below hb
  · rw [Rat.neg_den]; exact ha2.below hb

theorem qaa {u : Rat} (h : xn u) : LenR 512 u := h
theorem RfC_is1_22 : Is1 Tryz.prog 22 := ⟨⟨_, Tryz.underlying22, rfl⟩, by kernel_rfl⟩
theorem RfC_is1_4 : Is1 Tryz.prog 4 := ⟨⟨_, Tryz.underlying4, rfl⟩, by kernel_rfl⟩
theorem RfC_fld_24_0 : FieldAt Tryz.prog 24 0 0 := ⟨_, _, Tryz.underlying24, rfl, rfl, by kernel_rfl⟩
theorem RfC_fld_24_1 : FieldAt Tryz.prog 24 1 1 := ⟨_, _, Tryz.underlying24, rfl, rfl, by kernel_rfl⟩
theorem RfC_isS_24 : IsS Tryz.prog 24 3 := ⟨⟨_, Tryz.underlying24⟩, by kernel_rfl⟩


theorem qka (u v : Rat) {d : Rat} (hd : u + -v = d) : vt u v = if (words d.num.natAbs).length = 0 then 0 else if rb d.num = true then -1 else 1 := by
 have e : (words d.num.natAbs).length = 0 ↔ d = 0 := by
  constructor
  ·
   intro h
   have e1 := words_eq_nil.1 (List.length_eq_zero_iff.1 h)
   exact Rat.num_eq_zero.1 (by omega)
  ·
   intro h
   rw [h, show (0 : Rat).num.natAbs = 0 from rfl, words_zero]
   rfl
 have k : rb d.num = true ↔ d < 0 := by
  have m := mk_lt (x := d.num) (y := 0) (d := d.den) (k := 1) d.den_nz (by decide)
  rw [Rat.mkRat_self, Rat.zero_mkRat] at m
  rw [m]
  unfold rb
  rw [decide_eq_true_eq]
  omega
 unfold vt
 by_cases h1 : u < v
 ·
  rw [if_pos h1, if_neg (fun c => by have := e.1 c; grind), if_pos (k.2 (by grind))]
 ·
  rw [if_neg h1]
  by_cases h2 : u = v
  ·
   rw [if_pos h2, if_pos (e.2 (by grind))]
  ·
   rw [if_neg h2, if_neg (fun c => h2 (by have := e.1 c; grind)), if_neg (fun c => h1 (by have := k.1 c; grind))]
theorem rorderR_any {w : World} {u v : Rat} {a1 a2 : Option Addr} {ac1 ac2 : Nat} (ha1 : Sc w a1 ac1 (words u.num.natAbs)) (ha2 : Sc w a2 ac2 (words u.den)) {u1 u2 : Option Addr} {uc1 uc2 : Nat} (hu1 : Sc w u1 uc1 (words v.num.natAbs)) (hu2 : Sc w u2 uc2 (words v.den)) (LR_u : LenR 512 u) (LR_v : LenR 512 v) {m d : Rat} (m1 : -v = m) (h0 : u + m = d) (h1 : u + -v = d) (LR_m : LenR 512 m) (ld : LenR 9000 d) : Calls Tryz.prog 27 #[.agg #[.bool (rb u.num), .slice a1 (words u.num.natAbs).length ac1, .slice a2 (words u.den).length ac2], .agg #[.bool (rb v.num), .slice u1 (words v.num.natAbs).length uc1, .slice u2 (words v.den).length uc2]] w fun e w' => e = .returned (.int .i64 (vt u v)) ∧ Below w.heap.size w w' := by
 have kd := ld.1
 have V : St w w [] [(u2, words v.den), (u1, words v.num.natAbs), (a2, words u.den), (a1, words u.num.natAbs)] [] := ((((St.start w).addR ha1.rd).addR ha2.rd).addR hu1.rd).addR hu2.rd
 refine ze (l := [(0, .agg #[.bool ((rb u.num)), .slice a1 ((words u.num.natAbs).length) ac1, .slice a2 ((words u.den).length) ac2]), (1, .agg #[.bool ((rb v.num)), .slice u1 ((words v.num.natAbs).length) uc1, .slice u2 ((words v.den).length) uc2])]) Tryz.func27 rfl Tryz.ntmps27 rfl rfl ?_
 intro Q hret hnorm hP a A
 refine wsk fun K1 hK1 => wrl (zh A V rfl rfl rfl pg (qx rfl rfl) rfl ?_)
 intro g2 w3 V a A
 refine zh A V rfl rfl rfl pg (qx rfl rfl) rfl ?_
 intro g4 w5 V a A
 refine sda A λa A↦?_
 refine qa (hK1 _ _ (wsk fun K6 hK6 => ?_))
 have hJ29 : ∀ a w1, (∃ (J20g : Nat) (J21 : Option Addr) (J22 : Nat) (J23 : Option Addr) (J24 : Nat), Sl a 16 [(0, .agg #[.bool ((rb u.num)), .slice a1 ((words u.num.natAbs).length) ac1, .slice a2 ((words u.den).length) ac2]), (1, .agg #[.bool ((rb v.num)), .slice u1 ((words v.num.natAbs).length) uc1, .slice u2 ((words v.den).length) uc2]), (4, .int .i64 0), (5, .pointer (some ⟨J20g, 0, none⟩))] ∧ St w w1 [(J20g, [.bool ((rb d.num)), .slice J21 ((words d.num.natAbs).length) J22, .slice J23 ((words d.den).length) J24]), (g4, [.bool ((rb v.num)), .slice u1 ((words v.num.natAbs).length) uc1, .slice u2 ((words v.den).length) uc2]), (g2, [.bool ((rb u.num)), .slice a1 ((words u.num.natAbs).length) ac1, .slice a2 ((words u.den).length) ac2])] [(J23, words d.den), (J21, words d.num.natAbs), (u2, words v.den), (u1, words v.num.natAbs), (a2, words u.den), (a1, words u.num.natAbs)] [] ∧ (J23 = none → J24 = 0) ∧ (words d.den : List Nat).length ≤ J24 ∧ (J21 = none → J22 = 0) ∧ (words d.num.natAbs : List Nat).length ≤ J22) → K6 a w1 := by
  clear A V
  rintro a w30 ⟨J20g, J21, J22, J23, J24, A, V, hn25, hc26, hn27, hc28⟩
  refine hK6 _ _ (wsk fun K31 hK31 => wsk fun K32 hK32 => wrl (sdo (v := .pointer (some ⟨J20g, 1, none⟩)) A (qe RfC_fld_24_1 rfl rfl) λa A↦?_))
  refine sdo A (qj V RfC_is1_22 rfl 0 rfl rfl) λa A↦?_
  refine sdo A (qt Tryz.underlying22 rfl) λa A↦?_
  rcases tf (((((words d.num.natAbs).length : Nat) : Int) == 0)) with hb33 | hb33
  ·
   have hb33' := eq_of_beq hb33
   refine sdo (v := .bool true) A (qb rfl rfl (fun w => (ql w).trans (by rw [hb33]))) λa A↦?_
   refine qa (hK32 _ _ (wp_cond_true (A.ev rfl) ?_))
   refine wsk fun K34 hK34 => wrl (sda A λa A↦?_)
   refine qa (hK34 _ _ (wp_ret (hret _ _ (en1 A rfl (qh rfl) ?_))))
   rw [qka u v h1]
   have f1 : (words d.num.natAbs).length = 0 := by omega
   exact ⟨by rw [if_pos f1], V.bel⟩
  ·
   have hb33' := ne_of_beq_false hb33
   refine sdo (v := .bool false) A (qb rfl rfl (fun w => (ql w).trans (by rw [hb33]))) λa A↦?_
   refine qa (hK32 _ _ (wp_cond_false (A.ev rfl) ?_))
   refine wp_skip (hK31 _ _ (wsk fun K35 hK35 => wsk fun K36 hK36 => wrl (sdo (v := .pointer (some ⟨J20g, 0, none⟩)) A (qe RfC_fld_24_0 rfl rfl) λa A↦?_)))
   refine sdo A (qj V RfC_is1_4 rfl 0 rfl rfl) λa A↦?_
   refine qa (hK36 _ _ ?_)
   refine wp_cond_split (t := (rb d.num)) (A.ev rfl) (fun hc37 => ?_) (fun hc37 => ?_)
   ·
    refine wsk fun K38 hK38 => wrl (sda A λa A↦?_)
    refine qa (hK38 _ _ (wp_ret (hret _ _ (en1 A rfl (qh rfl) ?_))))
    rw [qka u v h1]
    have f1 : ¬ (words d.num.natAbs).length = 0 := by omega
    exact ⟨by rw [if_neg f1, if_pos hc37], V.bel⟩
   ·
    refine wp_skip (hK35 _ _ (wsk fun K39 hK39 => wrl (sda A λa A↦?_)))
    refine qa (hK39 _ _ (wp_ret (hret _ _ (en1 A rfl (qh rfl) ?_))))
    rw [qka u v h1]
    have f1 : ¬ (words d.num.natAbs).length = 0 := by omega
    exact ⟨by rw [if_neg f1, if_neg (by rw [hc37]; decide)], V.bel⟩
 refine ja (S := fun w1 => St w w1 [(g4, [.bool ((rb v.num)), .slice u1 ((words v.num.natAbs).length) uc1, .slice u2 ((words v.den).length) uc2]), (g2, [.bool ((rb u.num)), .slice a1 ((words u.num.natAbs).length) ac1, .slice a2 ((words u.den).length) ac2])] [(u2, words v.den), (u1, words v.num.natAbs), (a2, words u.den), (a1, words u.num.natAbs)] []) (by kernel_rfl) ?_
 replace V := V.drew
 refine qg A 0 rfl rfl rfl rfl hP V (fun w1 V => zj V RfC_isS_24 rfl 1 rfl (cs := [.bool ((rb u.num)), .slice a1 ((words u.num.natAbs).length) ac1, .slice a2 ((words u.den).length) ac2]) rfl rfl) λa A↦?_
 refine qg A 1 rfl rfl rfl rfl hP V (fun w1 V => zj V RfC_isS_24 rfl 0 rfl (cs := [.bool ((rb v.num)), .slice u1 ((words v.num.natAbs).length) uc1, .slice u2 ((words v.den).length) uc2]) rfl rfl) λa A↦?_
 refine xg (rs := [2, 4]) (by kernel_rfl) (by simp) ⟨?_, ?_, trivial⟩
 ·
  refine qw A 2 rfl rfl rfl rfl (qf  rfl rfl (fun w => by kernel_rfl)) (qgb ⟨(V.rd 1 rfl), hu1.nil, hu1.cap⟩ ⟨(V.rd 0 rfl), hu2.nil, hu2.cap⟩ m1) ?_
  rintro _ w44 ⟨f40_1, f40_c1, f40_2, f40_c2, rfl, hs41, hs42, hb43⟩
  replace V := V.call hb43
  replace V := V.addR hs41.rd
  replace V := V.addR hs42.rd
  refine ⟨_, rfl, (V.partD (.refl _) 2 rfl (.refl _)), ?_⟩
  intro a A
  refine xg (rs := [3, 4]) (by kernel_rfl) (by simp) ⟨?_, ?_, trivial⟩
  ·
   refine qw A 3 rfl rfl rfl rfl (qf  rfl rfl (fun w => by kernel_rfl)) (qej ⟨(V.rd 5 rfl), ha1.nil, ha1.cap⟩ ⟨(V.rd 4 rfl), ha2.nil, ha2.cap⟩ ⟨(V.rd 1 rfl), hs41.nil, hs41.cap⟩ ⟨(V.rd 0 rfl), hs42.nil, hs42.cap⟩ (LR_u.mono (by decide)) (LR_m.mono (by decide)) h0) ?_
   rintro _ w49 ⟨f45_1, f45_c1, f45_2, f45_c2, rfl, hs46, hs47, hb48⟩
   replace V := V.call hb48
   replace V := V.addR hs46.rd
   replace V := V.addR hs47.rd
   refine ⟨_, rfl, (V.partD (.refl _) 4 rfl (.refl _)), ?_⟩
   intro a A
   refine qn (by kernel_rfl) (xh (vs := [.bool false, .slice none 0 0, .slice none 0 0]) (t := 24) A V 4 rfl rfl rfl rfl pg (qy (z := .agg #[.bool false, .slice none 0 0, .slice none 0 0]) (by kernel_rfl) rfl) rfl ?_)
   intro g50 w51 V
   refine ⟨(V.partD (.cons _ (.cons_cons _ (.cons_cons _ .slnil))) 4 rfl (.refl _)), ?_⟩
   intro a A
   refine qn (by kernel_rfl) (zm (us := [.bool ((rb d.num)), .slice f45_1 ((words d.num.natAbs).length) f45_c1, .slice f45_2 ((words d.den).length) f45_c2]) A V 5 rfl rfl rfl (qs rfl rfl rfl (by kernel_rfl) V 0 rfl rfl rfl) 0 rfl rfl rfl rfl ?_)
   intro w52 V
   refine ⟨(V.partD (.cons _ (.cons_cons _ (.cons_cons _ .slnil))) 4 rfl (.refl _)), ?_⟩
   refine zi (by kernel_rfl) ?_
   refine hJ29 _ _ ⟨g50, f45_1, f45_c1, f45_2, f45_c2, A.keep _ ⟨rfl, rfl, rfl, rfl, trivial⟩, (St.pickRL V ⟨⟨0, rfl⟩, ⟨⟨1, rfl⟩, ⟨⟨4, rfl⟩, ⟨⟨5, rfl⟩, ⟨⟨6, rfl⟩, ⟨⟨7, rfl⟩, trivial⟩⟩⟩⟩⟩⟩ [0, 1, 2] rfl (by decide)), hs47.nil, hs47.cap, hs46.nil, hs46.cap⟩
  ·
   refine xh (vs := [.bool false, .slice none 0 0, .slice none 0 0]) (t := 24) A V 4 rfl rfl rfl rfl pg (qy (z := .agg #[.bool false, .slice none 0 0, .slice none 0 0]) (by kernel_rfl) rfl) rfl ?_
   intro g53 w54 V
   refine ⟨(V.partD (.cons _ (.cons_cons _ (.cons_cons _ .slnil))) 2 rfl (.refl _)), ?_⟩
   intro a A
   refine qn (by kernel_rfl) (qw A 3 rfl rfl rfl rfl (qf  rfl rfl (fun w => by kernel_rfl)) (qej ⟨(V.rd 5 rfl), ha1.nil, ha1.cap⟩ ⟨(V.rd 4 rfl), ha2.nil, ha2.cap⟩ ⟨(V.rd 1 rfl), hs41.nil, hs41.cap⟩ ⟨(V.rd 0 rfl), hs42.nil, hs42.cap⟩ (LR_u.mono (by decide)) (LR_m.mono (by decide)) h0) ?_)
   rintro _ w59 ⟨f55_1, f55_c1, f55_2, f55_c2, rfl, hs56, hs57, hb58⟩
   replace V := V.call hb58
   replace V := V.addR hs56.rd
   replace V := V.addR hs57.rd
   refine ⟨_, rfl, (V.partD (.cons _ (.cons_cons _ (.cons_cons _ .slnil))) 4 rfl (.refl _)), ?_⟩
   intro a A
   refine qn (by kernel_rfl) (zm (us := [.bool ((rb d.num)), .slice f55_1 ((words d.num.natAbs).length) f55_c1, .slice f55_2 ((words d.den).length) f55_c2]) A V 5 rfl rfl rfl (qs rfl rfl rfl (by kernel_rfl) V 0 rfl rfl rfl) 0 rfl rfl rfl rfl ?_)
   intro w60 V
   refine ⟨(V.partD (.cons _ (.cons_cons _ (.cons_cons _ .slnil))) 4 rfl (.refl _)), ?_⟩
   refine zi (by kernel_rfl) ?_
   refine hJ29 _ _ ⟨g53, f55_1, f55_c1, f55_2, f55_c2, A.keep _ ⟨rfl, rfl, rfl, rfl, trivial⟩, (St.pickRL V ⟨⟨0, rfl⟩, ⟨⟨1, rfl⟩, ⟨⟨4, rfl⟩, ⟨⟨5, rfl⟩, ⟨⟨6, rfl⟩, ⟨⟨7, rfl⟩, trivial⟩⟩⟩⟩⟩⟩ [0, 1, 2] rfl (by decide)), hs57.nil, hs57.cap, hs56.nil, hs56.cap⟩
 ·
  refine xh (vs := [.bool false, .slice none 0 0, .slice none 0 0]) (t := 24) A V 4 rfl rfl rfl rfl pg (qy (z := .agg #[.bool false, .slice none 0 0, .slice none 0 0]) (by kernel_rfl) rfl) rfl ?_
  intro g61 w62 V
  refine ⟨(V.partD (.cons _ (.cons_cons _ (.cons_cons _ .slnil))) 0 rfl (.refl _)), ?_⟩
  intro a A
  refine qn (by kernel_rfl) (qw A 2 rfl rfl rfl rfl (qf  rfl rfl (fun w => by kernel_rfl)) (qgb ⟨(V.rd 1 rfl), hu1.nil, hu1.cap⟩ ⟨(V.rd 0 rfl), hu2.nil, hu2.cap⟩ m1) ?_)
  rintro _ w67 ⟨f63_1, f63_c1, f63_2, f63_c2, rfl, hs64, hs65, hb66⟩
  replace V := V.call hb66
  replace V := V.addR hs64.rd
  replace V := V.addR hs65.rd
  refine ⟨_, rfl, (V.partD (.cons _ (.cons_cons _ (.cons_cons _ .slnil))) 2 rfl (.refl _)), ?_⟩
  intro a A
  refine qn (by kernel_rfl) (qw A 3 rfl rfl rfl rfl (qf  rfl rfl (fun w => by kernel_rfl)) (qej ⟨(V.rd 5 rfl), ha1.nil, ha1.cap⟩ ⟨(V.rd 4 rfl), ha2.nil, ha2.cap⟩ ⟨(V.rd 1 rfl), hs64.nil, hs64.cap⟩ ⟨(V.rd 0 rfl), hs65.nil, hs65.cap⟩ (LR_u.mono (by decide)) (LR_m.mono (by decide)) h0) ?_)
  rintro _ w72 ⟨f68_1, f68_c1, f68_2, f68_c2, rfl, hs69, hs70, hb71⟩
  replace V := V.call hb71
  replace V := V.addR hs69.rd
  replace V := V.addR hs70.rd
  refine ⟨_, rfl, (V.partD (.cons _ (.cons_cons _ (.cons_cons _ .slnil))) 4 rfl (.refl _)), ?_⟩
  intro a A
  refine qn (by kernel_rfl) (zm (us := [.bool ((rb d.num)), .slice f68_1 ((words d.num.natAbs).length) f68_c1, .slice f68_2 ((words d.den).length) f68_c2]) A V 5 rfl rfl rfl (qs rfl rfl rfl (by kernel_rfl) V 0 rfl rfl rfl) 0 rfl rfl rfl rfl ?_)
  intro w73 V
  refine ⟨(V.partD (.cons _ (.cons_cons _ (.cons_cons _ .slnil))) 4 rfl (.refl _)), ?_⟩
  refine zi (by kernel_rfl) ?_
  refine hJ29 _ _ ⟨g61, f68_1, f68_c1, f68_2, f68_c2, A.keep _ ⟨rfl, rfl, rfl, rfl, trivial⟩, (St.pickRL V ⟨⟨0, rfl⟩, ⟨⟨1, rfl⟩, ⟨⟨4, rfl⟩, ⟨⟨5, rfl⟩, ⟨⟨6, rfl⟩, ⟨⟨7, rfl⟩, trivial⟩⟩⟩⟩⟩⟩ [0, 1, 2] rfl (by decide)), hs70.nil, hs70.cap, hs69.nil, hs69.cap⟩
open Go.ChangeShapes Go.WideShapes Go.ChangeAt Go.RowKit Go.Joins Go.Deep
section
variable {H : Type} {enc : TypeId × Value → H} {W : World}
theorem trod_bool {fuel : Nat} {v : Value} {x : DataW H × List MemPlace} (h : DataW.trod enc Tryz.prog W 0 (fun _ => true) true fuel 4 [v] = some x) : ∃ b, v = .bool b := by
  obtain ⟨b, h, _⟩ := DataW.trod_bool Tryz.underlying4 h
  exact ⟨b, by simpa using h⟩
end
end Go.Proofs.YtabjlejolmmeeaaGreatDoor
