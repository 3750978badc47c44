/- Walks of the document's bytes of a number. Walks of the document's bytes of a number that has none. Both ways to put a number. The bytes of a number, either way: what is laid reads as the number, and a number that was read is laid as what it was read from. Rows of structs that grow while words are read: no cell of such a row is a word. Rows of numbers. Walks of lists of numbers. Walks of the bytes of numbers. The walk of the law of Put. -/
import Derived.Test.YtbhdnpbbmpemnaaGreatDoorPbyteve12g
namespace Go.Proofs.YtbhdnpbbmpemnaaGreatDoor
open Go.RowKit
set_option linter.unusedVariables false
set_option linter.unusedSimpArgs false
set_option maxRecDepth 100000
theorem GvJ_is1_32 : Is1 Tryz.prog 32 := ⟨⟨_, Tryz.underlying32, rfl⟩, by kernel_rfl⟩
theorem GvJ_is1_4 : Is1 Tryz.prog 4 := ⟨⟨_, Tryz.underlying4, rfl⟩, by kernel_rfl⟩
theorem GvJ_is1_51 : Is1 Tryz.prog 51 := ⟨⟨_, Tryz.underlying51, rfl⟩, by kernel_rfl⟩
theorem GvJ_fld_34_0 : FieldAt Tryz.prog 34 0 0 := ⟨_, _, Tryz.underlying34, rfl, rfl, by kernel_rfl⟩
theorem GvJ_fld_34_1 : FieldAt Tryz.prog 34 1 1 := ⟨_, _, Tryz.underlying34, rfl, rfl, by kernel_rfl⟩
theorem GvJ_fld_36_0 : FieldAt Tryz.prog 36 0 0 := ⟨_, _, Tryz.underlying36, rfl, rfl, by kernel_rfl⟩
theorem GvJ_isS_34 : IsS Tryz.prog 34 3 := ⟨⟨_, Tryz.underlying34⟩, by kernel_rfl⟩
theorem GvJ_isS_36 : IsS Tryz.prog 36 6 := ⟨⟨_, Tryz.underlying36⟩, by kernel_rfl⟩
theorem qbb {w : World} {b1 b2 b3 : Bool} {x y : Nat} {xl yl : List Nat} {a1 a2 : Option Addr} {ac1 ac2 : Nat} (ha1 : Sc w a1 ac1 xl) (ha2 : Sc w a2 ac2 ([1])) {u1 u2 : Option Addr} {uc1 uc2 : Nat} (hu1 : Sc w u1 uc1 yl) (hu2 : Sc w u2 uc2 ([1])) (hx : xl = words x) (hy : yl = words y) (lx : (words x).length ≤ 512) (ly : (words y).length ≤ 512) (hb3 : (!b2 && decide (0 < yl.length)) = b3) {z : Int} (hz : sgn b1 x + sgn b3 y = z) : Calls Tryz.prog 37 #[.agg #[.bool b1, .slice a1 xl.length ac1, .slice a2 ([1]).length ac2], .agg #[.bool b2, .slice u1 yl.length uc1, .slice u2 ([1]).length uc2]] w fun e w' => e = .returned (.int .i64 (oI z)) ∧ Below w.heap.size w w' := by
 have f1 : (words z.natAbs).length = 0 ↔ z = 0 := by
  have h9 := jg (x := z.natAbs)
  omega
 have hS : St w w [] [(u2, [1]), (u1, yl), (a2, [1]), (a1, xl)] [] := ((((St.start w).addR ha1.rd).addR ha2.rd).addR hu1.rd).addR hu2.rd
 refine za (l := [(0, .agg #[.bool b1, .slice a1 xl.length ac1, .slice a2 1 ac2]), (1, .agg #[.bool b2, .slice u1 yl.length uc1, .slice u2 1 uc2])]) Tryz.func37 rfl Tryz.ntmps37 rfl rfl ?_
 intro Q hret hnorm hP a hA
 refine wsk fun K1 hK1 => wrl (ze hA hS rfl rfl rfl (fun g => .pointer (some ⟨g, 0, none⟩)) (zf rfl rfl) rfl ?_)
 intro g2 w3 hS a hA
 refine ze hA hS rfl rfl rfl (fun g => .pointer (some ⟨g, 0, none⟩)) (zf rfl rfl) rfl ?_
 intro g4 w5 hS a hA
 refine sdo hA (qb rfl) fun a hA => ?_
 refine qe (hK1 _ _ (wsk fun K6 hK6 => ?_))
 have hJ26 : ∀ a w1, (∃ (J17g : Nat) (J18 : Option Addr) (J19 : Nat) (J20 : Option Addr) (J21 : Nat), Sl a 16 [(0, .agg #[.bool b1, .slice a1 xl.length ac1, .slice a2 1 ac2]), (1, .agg #[.bool b2, .slice u1 yl.length uc1, .slice u2 1 uc2]), (4, .int .i64 0), (5, .pointer (some ⟨J17g, 0, none⟩))] ∧ St w w1 [(J17g, [.bool (rb z), .slice J18 ((words z.natAbs).length) J19, .slice J20 1 J21]), (g4, [.bool b2, .slice u1 yl.length uc1, .slice u2 1 uc2]), (g2, [.bool b1, .slice a1 xl.length ac1, .slice a2 1 ac2])] [(J20, [1]), (J18, words z.natAbs), (u2, [1]), (u1, yl), (a2, [1]), (a1, xl)] [] ∧ (J20 = none → J21 = 0) ∧ ([1] : List Nat).length ≤ J21 ∧ (J18 = none → J19 = 0) ∧ (words z.natAbs : List Nat).length ≤ J19) → K6 a w1 := by
  clear hA hS
  rintro a w27 ⟨J17g, J18, J19, J20, J21, hA, hS, hn22, hc23, hn24, hc25⟩
  refine hK6 _ _ (wsk fun K28 hK28 => wsk fun K29 hK29 => wrl (sdo (v := .pointer (some ⟨J17g, 1, none⟩)) hA (qh GvJ_fld_34_1 rfl rfl) fun a hA => ?_))
  refine sdo hA (qm hS GvJ_is1_32 rfl 0 rfl rfl) fun a hA => ?_
  refine sdo hA (zb Tryz.underlying32 rfl) fun a hA => ?_
  rcases tf (((((words z.natAbs).length : Nat) : Int) == 0)) with hb30 | hb30
  ·
   have hb30' := eq_of_beq hb30
   refine sdo (v := .bool true) hA (qg rfl rfl (fun w => (xt w).trans (by rw [hb30]))) fun a hA => ?_
   refine qe (hK29 _ _ (wp_cond_true (hA.ev rfl) ?_))
   refine wsk fun K31 hK31 => wrl (sdo hA (qb rfl) fun a hA => ?_)
   refine qe (hK31 _ _ (wp_ret (hret _ _ (en1 hA rfl (ql rfl) ?_))))
   exact ⟨by unfold oI; rw [if_pos (f1.1 (by omega))], hS.bel⟩
  ·
   have hb30' := ne_of_beq_false hb30
   refine sdo (v := .bool false) hA (qg rfl rfl (fun w => (xt w).trans (by rw [hb30]))) fun a hA => ?_
   refine qe (hK29 _ _ (wp_cond_false (hA.ev rfl) ?_))
   refine wp_skip (hK28 _ _ (wsk fun K32 hK32 => wsk fun K33 hK33 => wrl (sdo (v := .pointer (some ⟨J17g, 0, none⟩)) hA (qh GvJ_fld_34_0 rfl rfl) fun a hA => ?_)))
   refine sdo hA (qm hS GvJ_is1_4 rfl 0 rfl rfl) fun a hA => ?_
   refine qe (hK33 _ _ ?_)
   refine wp_cond_split (t := rb z) (hA.ev rfl) (fun hc34 => ?_) (fun hc34 => ?_)
   ·
    refine wsk fun K35 hK35 => wrl (sdo hA (qb rfl) fun a hA => ?_)
    refine qe (hK35 _ _ (wp_ret (hret _ _ (en1 hA rfl (ql rfl) ?_))))
    exact ⟨by unfold oI; rw [if_neg (fun k9 => by have := f1.2 k9; omega), if_pos (of_decide_eq_true hc34)], hS.bel⟩
   ·
    refine wp_skip (hK32 _ _ (wsk fun K36 hK36 => wrl (sdo hA (qb rfl) fun a hA => ?_)))
    refine qe (hK36 _ _ (wp_ret (hret _ _ (en1 hA rfl (ql rfl) ?_))))
    exact ⟨by unfold oI; rw [if_neg (fun k9 => by have := f1.2 k9; omega), if_neg (of_decide_eq_false hc34)], hS.bel⟩
 refine je (S := fun w1 => St w w1 [(g4, [.bool b2, .slice u1 yl.length uc1, .slice u2 1 uc2]), (g2, [.bool b1, .slice a1 xl.length ac1, .slice a2 1 ac2])] [(u2, [1]), (u1, yl), (a2, [1]), (a1, xl)] []) (by kernel_rfl) ?_
 replace hS := hS.drew
 refine qk hA 0 rfl rfl rfl rfl hP hS (fun w1 hS => qw hS GvJ_isS_34 rfl 1 rfl (cs := [.bool b1, .slice a1 xl.length ac1, .slice a2 1 ac2]) rfl rfl) fun a hA => ?_
 refine qk hA 1 rfl rfl rfl rfl hP hS (fun w1 hS => qw hS GvJ_isS_34 rfl 0 rfl (cs := [.bool b2, .slice u1 yl.length uc1, .slice u2 1 uc2]) rfl rfl) fun a hA => ?_
 refine xj (rs := [2, 4]) (by kernel_rfl) (by simp) ⟨?_, ?_, trivial⟩
 ·
  refine zm hA 2 rfl rfl rfl rfl (qf  rfl rfl (fun w => by kernel_rfl)) (kj hb3) ?_
  rintro _ w38 ⟨rfl, hb37⟩
  replace hS := hS.call hb37
  refine ⟨_, rfl, hS, ?_⟩
  intro a hA
  refine xj (rs := [3, 4]) (by kernel_rfl) (by simp) ⟨?_, ?_, trivial⟩
  ·
   refine zm hA 3 rfl rfl rfl rfl (qf  rfl rfl (fun w => by kernel_rfl)) (qwi (x := x) (y := y) hx hy ⟨(hS.rd 3 rfl), ha1.nil, ha1.cap⟩ ⟨(hS.rd 2 rfl), ha2.nil, ha2.cap⟩ ⟨(hS.rd 1 rfl), hu1.nil, hu1.cap⟩ ⟨(hS.rd 0 rfl), hu2.nil, hu2.cap⟩ lx ly hz) ?_
   rintro _ w43 ⟨f39_1, f39_c1, f39_2, f39_c2, rfl, hs40, hs41, hb42⟩
   replace hS := hS.call hb42
   replace hS := hS.addR hs40.rd
   replace hS := hS.addR hs41.rd
   refine ⟨_, rfl, (hS.partD (.refl _) 2 rfl (.refl _)), ?_⟩
   intro a hA
   refine qt (by kernel_rfl) (jr (vs := [.bool false, .slice none 0 0, .slice none 0 0]) (t := 34) hA hS 4 rfl rfl rfl rfl (fun g => .pointer (some ⟨g, 0, none⟩)) (qp (z := .agg #[.bool false, .slice none 0 0, .slice none 0 0]) (by kernel_rfl) rfl) rfl ?_)
   intro g44 w45 hS
   refine ⟨(hS.partD (.cons _ (.cons_cons _ (.cons_cons _ .slnil))) 2 rfl (.refl _)), ?_⟩
   intro a hA
   refine qt (by kernel_rfl) (zl (us := [.bool (rb z), .slice f39_1 ((words z.natAbs).length) f39_c1, .slice f39_2 1 f39_c2]) hA hS 5 rfl rfl rfl (qr rfl rfl rfl (by kernel_rfl) hS 0 rfl rfl rfl) 0 rfl rfl rfl rfl ?_)
   intro w46 hS
   refine ⟨(hS.partD (.cons _ (.cons_cons _ (.cons_cons _ .slnil))) 2 rfl (.refl _)), ?_⟩
   refine zn (by kernel_rfl) ?_
   refine hJ26 _ _ ⟨g44, f39_1, f39_c1, f39_2, f39_c2, hA.keep _ ⟨rfl, rfl, rfl, rfl, trivial⟩, (St.pickRL hS ⟨⟨0, rfl⟩, ⟨⟨1, rfl⟩, ⟨⟨2, rfl⟩, ⟨⟨3, rfl⟩, ⟨⟨4, rfl⟩, ⟨⟨5, rfl⟩, trivial⟩⟩⟩⟩⟩⟩ [0, 1, 2] rfl (by decide)), hs41.nil, hs41.cap, hs40.nil, hs40.cap⟩
  ·
   refine jr (vs := [.bool false, .slice none 0 0, .slice none 0 0]) (t := 34) hA hS 4 rfl rfl rfl rfl (fun g => .pointer (some ⟨g, 0, none⟩)) (qp (z := .agg #[.bool false, .slice none 0 0, .slice none 0 0]) (by kernel_rfl) rfl) rfl ?_
   intro g47 w48 hS
   refine ⟨(hS.partD (.cons _ (.cons_cons _ (.cons_cons _ .slnil))) 0 rfl (.refl _)), ?_⟩
   intro a hA
   refine qt (by kernel_rfl) (zm hA 3 rfl rfl rfl rfl (qf  rfl rfl (fun w => by kernel_rfl)) (qwi (x := x) (y := y) hx hy ⟨(hS.rd 3 rfl), ha1.nil, ha1.cap⟩ ⟨(hS.rd 2 rfl), ha2.nil, ha2.cap⟩ ⟨(hS.rd 1 rfl), hu1.nil, hu1.cap⟩ ⟨(hS.rd 0 rfl), hu2.nil, hu2.cap⟩ lx ly hz) ?_)
   rintro _ w53 ⟨f49_1, f49_c1, f49_2, f49_c2, rfl, hs50, hs51, hb52⟩
   replace hS := hS.call hb52
   replace hS := hS.addR hs50.rd
   replace hS := hS.addR hs51.rd
   refine ⟨_, rfl, (hS.partD (.cons _ (.cons_cons _ (.cons_cons _ .slnil))) 2 rfl (.refl _)), ?_⟩
   intro a hA
   refine qt (by kernel_rfl) (zl (us := [.bool (rb z), .slice f49_1 ((words z.natAbs).length) f49_c1, .slice f49_2 1 f49_c2]) hA hS 5 rfl rfl rfl (qr rfl rfl rfl (by kernel_rfl) hS 0 rfl rfl rfl) 0 rfl rfl rfl rfl ?_)
   intro w54 hS
   refine ⟨(hS.partD (.cons _ (.cons_cons _ (.cons_cons _ .slnil))) 2 rfl (.refl _)), ?_⟩
   refine zn (by kernel_rfl) ?_
   refine hJ26 _ _ ⟨g47, f49_1, f49_c1, f49_2, f49_c2, hA.keep _ ⟨rfl, rfl, rfl, rfl, trivial⟩, (St.pickRL hS ⟨⟨0, rfl⟩, ⟨⟨1, rfl⟩, ⟨⟨2, rfl⟩, ⟨⟨3, rfl⟩, ⟨⟨4, rfl⟩, ⟨⟨5, rfl⟩, trivial⟩⟩⟩⟩⟩⟩ [0, 1, 2] rfl (by decide)), hs51.nil, hs51.cap, hs50.nil, hs50.cap⟩
 ·
  refine jr (vs := [.bool false, .slice none 0 0, .slice none 0 0]) (t := 34) hA hS 4 rfl rfl rfl rfl (fun g => .pointer (some ⟨g, 0, none⟩)) (qp (z := .agg #[.bool false, .slice none 0 0, .slice none 0 0]) (by kernel_rfl) rfl) rfl ?_
  intro g55 w56 hS
  refine ⟨(hS.partD (.cons _ (.cons_cons _ (.cons_cons _ .slnil))) 0 rfl (.refl _)), ?_⟩
  intro a hA
  refine qt (by kernel_rfl) (zm hA 2 rfl rfl rfl rfl (qf  rfl rfl (fun w => by kernel_rfl)) (kj hb3) ?_)
  rintro _ w58 ⟨rfl, hb57⟩
  replace hS := hS.call hb57
  refine ⟨_, rfl, (hS.partD (.cons _ (.cons_cons _ (.cons_cons _ .slnil))) 0 rfl (.refl _)), ?_⟩
  intro a hA
  refine qt (by kernel_rfl) (zm hA 3 rfl rfl rfl rfl (qf  rfl rfl (fun w => by kernel_rfl)) (qwi (x := x) (y := y) hx hy ⟨(hS.rd 3 rfl), ha1.nil, ha1.cap⟩ ⟨(hS.rd 2 rfl), ha2.nil, ha2.cap⟩ ⟨(hS.rd 1 rfl), hu1.nil, hu1.cap⟩ ⟨(hS.rd 0 rfl), hu2.nil, hu2.cap⟩ lx ly hz) ?_)
  rintro _ w63 ⟨f59_1, f59_c1, f59_2, f59_c2, rfl, hs60, hs61, hb62⟩
  replace hS := hS.call hb62
  replace hS := hS.addR hs60.rd
  replace hS := hS.addR hs61.rd
  refine ⟨_, rfl, (hS.partD (.cons _ (.cons_cons _ (.cons_cons _ .slnil))) 2 rfl (.refl _)), ?_⟩
  intro a hA
  refine qt (by kernel_rfl) (zl (us := [.bool (rb z), .slice f59_1 ((words z.natAbs).length) f59_c1, .slice f59_2 1 f59_c2]) hA hS 5 rfl rfl rfl (qr rfl rfl rfl (by kernel_rfl) hS 0 rfl rfl rfl) 0 rfl rfl rfl rfl ?_)
  intro w64 hS
  refine ⟨(hS.partD (.cons _ (.cons_cons _ (.cons_cons _ .slnil))) 2 rfl (.refl _)), ?_⟩
  refine zn (by kernel_rfl) ?_
  refine hJ26 _ _ ⟨g55, f59_1, f59_c1, f59_2, f59_c2, hA.keep _ ⟨rfl, rfl, rfl, rfl, trivial⟩, (St.pickRL hS ⟨⟨0, rfl⟩, ⟨⟨1, rfl⟩, ⟨⟨2, rfl⟩, ⟨⟨3, rfl⟩, ⟨⟨4, rfl⟩, ⟨⟨5, rfl⟩, trivial⟩⟩⟩⟩⟩⟩ [0, 1, 2] rfl (by decide)), hs61.nil, hs61.cap, hs60.nil, hs60.cap⟩
set_option maxHeartbeats 1000000 in
theorem qdd {b : Bool} {w : World} {x n : Nat} {a1 a2 a3 a4 : Option Addr} {ac1 ac2 ac3 ac4 : Nat} (ha : Nm w (Q6.whole b x) a1 ac1 a2 ac2 a3 ac3 a4 ac4) (hx : (words x).length ≤ 512) (h1 : 1 ≤ n) (h64 : n ≤ 64) (bg : Bool) (hbx : b.toNat ≤ x) : Calls Tryz.prog 15 #[.int .i64 ((n : Nat) : Int), .bool bg, .bool false, xy (Q6.whole b x) a1 ac1 a2 ac2 a3 ac3 a4 ac4] w fun e w' => ((oI (sgn b x + sgn false 0) < 0 ∨ 0 ≤ oI (sgn b x + sgn true (2 ^ (8 * n)))) ∧ e = .returned (.tuple #[.slice none 0 0, .int .i64 4]) ∧ Below w.heap.size w w') ∨ ((¬ oI (sgn b x + sgn false 0) < 0 ∧ ¬ 0 ≤ oI (sgn b x + sgn true (2 ^ (8 * n)))) ∧ ∃ g, e = .returned (.tuple #[.slice (some ⟨g, 0, none⟩) n n, .int .i64 0]) ∧ G.Mg w w' [.row G.BY 1 (.slice (some ⟨g, 0, none⟩) n n) n (Lib.byteCells (G.zw bg (G.leB n x)))]) := by
 have hl8 : (words (2 ^ (8 * n))).length ≤ 512 := by rw [kw]; exact G.jx h64 (Nat.le_refl _)
 have hl7 : (words (2 ^ (8 * n - 1))).length ≤ 512 := Nat.le_trans (words_mono (Nat.pow_le_pow_right (by decide) (Nat.sub_le _ _))) hl8
 have hp7 : 2 ^ (8 * n) = 2 * 2 ^ (8 * n - 1) := by rw [← Nat.pow_succ']; congr 1; omega
 have hs : xk (Q6.whole b x) = true := xz hx hbx
 have hwh : xd (Q6.whole b x) = true := kd hx hbx
 have hFl : (words x).length ≤ 512 := hx
 have hS : St w w [] [(a4, [1]), (a3, []), (a2, [1]), (a1, words x)] [] := ((((St.start w).addR ha.s1.rd).addR ha.s2.rd).addR ha.s3.rd).addR ha.s4.rd
 refine za (l := [(0, .int .i64 (((n : Nat) : Int))), (1, .bool bg), (2, .bool false), (3, .agg #[.bool b, .slice a1 ((words x).length) ac1, .slice a2 1 ac2, .bool false, .slice a3 0 ac3, .slice a4 1 ac4])]) Tryz.func15 rfl Tryz.ntmps15 rfl rfl ?_
 intro Q hret hnorm hP a hA
 refine wsk fun K1 hK1 => wrl (ze hA hS rfl rfl rfl (fun g => .pointer (some ⟨g, 0, none⟩)) (zf rfl rfl) rfl ?_)
 intro g2 w3 hS a hA
 iterate 2 refine sdo hA (qb rfl) fun a hA => ?_
 refine qe (hK1 _ _ (wsk fun K4 hK4 => wsk fun K5 hK5 => wrl (sdo hA (qw hS GvJ_isS_36 rfl 0 rfl (cs := [.bool b, .slice a1 ((words x).length) ac1, .slice a2 1 ac2, .bool false, .slice a3 0 ac3, .slice a4 1 ac4]) rfl rfl) fun a hA => ?_)))
 refine qi hA rfl rfl rfl (qf  rfl rfl (fun w => by kernel_rfl)) (vp (show Nm _ _ a1 ac1 a2 ac2 a3 ac3 a4 ac4 from ⟨⟨(hS.rd 3 rfl), ha.s1.nil, ha.s1.cap⟩, ⟨(hS.rd 2 rfl), ha.s2.nil, ha.s2.cap⟩, ⟨(hS.rd 1 rfl), ha.s3.nil, ha.s3.cap⟩, ⟨(hS.rd 0 rfl), ha.s4.nil, ha.s4.cap⟩⟩) (jl hx) hs) ?_
 rintro _ w7 ⟨rfl, hb6⟩
 replace hS := hS.call hb6
 refine ⟨_, rfl, ?_⟩
 intro a hA
 refine sdo (v := .bool false) hA (zp rfl zu) fun a hA => ?_
 refine qe (hK5 _ _ (wp_cond_false (hA.ev rfl) ?_))
 refine wp_skip (hK4 _ _ (wsk fun K8 hK8 => wsk fun K9 hK9 => wrl (sdo hA (qw hS GvJ_isS_36 rfl 0 rfl (cs := [.bool b, .slice a1 ((words x).length) ac1, .slice a2 1 ac2, .bool false, .slice a3 0 ac3, .slice a4 1 ac4]) rfl rfl) fun a hA => ?_)))
 refine qi hA rfl rfl rfl (qf  rfl rfl (fun w => by kernel_rfl)) (yp (q := Q6.whole b x) (show Nm _ _ a1 ac1 a2 ac2 a3 ac3 a4 ac4 from ⟨⟨(hS.rd 3 rfl), ha.s1.nil, ha.s1.cap⟩, ⟨(hS.rd 2 rfl), ha.s2.nil, ha.s2.cap⟩, ⟨(hS.rd 1 rfl), ha.s3.nil, ha.s3.cap⟩, ⟨(hS.rd 0 rfl), ha.s4.nil, ha.s4.cap⟩⟩) (jl hx) hwh) ?_
 rintro _ w11 ⟨rfl, hb10⟩
 replace hS := hS.call hb10
 refine ⟨_, rfl, ?_⟩
 intro a hA
 refine sdo (v := .bool false) hA (zp rfl zu) fun a hA => ?_
 refine qe (hK9 _ _ (wp_cond_false (hA.ev rfl) ?_))
 refine wp_skip (hK8 _ _ (wsk fun K12 hK12 => wrl (jf (us := [1]) (t := 51) (m := 1) hA hS rfl rfl rfl (qx rfl (by kernel_rfl)) (by simp [Dig]) ?_)))
 intro g13 w14 hS a hA
 refine sdo hA (qa rfl) fun a hA => ?_
 refine sdo (v := .int .i64 (((8 * n : Nat) : Int))) hA (qg rfl rfl (ar_mul ((in_i64 (by omega) (by omega)).trans (by omega)))) fun a hA => ?_
 refine qi hA rfl rfl rfl (qf  rfl rfl (fun w => by kernel_rfl)) (qvd _ (hS.rd 0 rfl) (n := 8 * n) (by omega)) ?_
 rintro _ w19 ⟨ro15, rc16, rfl, ho17, hb18⟩
 replace hS := hS.call hb18
 replace hS := hS.addR ho17.rd
 refine ⟨_, rfl, ?_⟩
 intro a hA
 refine jf (us := [1]) (t := 51) (m := 1) hA hS rfl rfl rfl (qx rfl (by kernel_rfl)) (by simp [Dig]) ?_
 intro g20 w21 hS a hA
 refine sdo (v := .agg #[.bool false, .slice ro15 ((words (2 ^ (8 * n))).length) rc16, .slice (some ⟨g20, 0, none⟩) 1 1]) hA (zj rfl (fun w => by kernel_rfl)) fun a hA => ?_
 refine ze (vs := [.bool false, .slice none 0 0, .slice none 0 0]) (t := 34) hA hS rfl rfl rfl (fun g => .pointer (some ⟨g, 0, none⟩)) (qp (z := .agg #[.bool false, .slice none 0 0, .slice none 0 0]) (by kernel_rfl) rfl) rfl ?_
 intro g22 w23 hS a hA
 refine zq (us := [.bool false, .slice ro15 ((words (2 ^ (8 * n))).length) rc16, .slice (some ⟨g20, 0, none⟩) 1 1]) hA hS rfl rfl (qr rfl rfl rfl (by kernel_rfl) hS 0 rfl rfl rfl) 0 rfl rfl rfl rfl ?_
 intro w24 hS
 refine qe (hK12 _ _ (wsk fun K25 hK25 => wrl (jf (us := [1]) (t := 51) (m := 1) hA hS rfl rfl rfl (qx rfl (by kernel_rfl)) (by simp [Dig]) ?_)))
 intro g26 w27 hS a hA
 refine sdo hA (qa rfl) fun a hA => ?_
 refine sdo (v := .int .i64 (((8 * n : Nat) : Int))) hA (qg rfl rfl (ar_mul ((in_i64 (by omega) (by omega)).trans (by omega)))) fun a hA => ?_
 refine sdo (v := .int .i64 (((8 * n - 1 : Nat) : Int))) hA (qg rfl rfl (fun w => (jy (ji (by omega) (by omega)) w).trans (by rw [show (((8 * n : Nat) : Int) - 1 : Int) = ((8 * n - 1 : Nat) : Int) from by omega]))) fun a hA => ?_
 refine qi hA rfl rfl rfl (qf  rfl rfl (fun w => by kernel_rfl)) (qvd _ (hS.rd 0 rfl) (n := 8 * n - 1) (by omega)) ?_
 rintro _ w32 ⟨ro28, rc29, rfl, ho30, hb31⟩
 replace hS := hS.call hb31
 replace hS := hS.addR ho30.rd
 refine ⟨_, rfl, ?_⟩
 intro a hA
 refine jf (us := [1]) (t := 51) (m := 1) hA hS rfl rfl rfl (qx rfl (by kernel_rfl)) (by simp [Dig]) ?_
 intro g33 w34 hS a hA
 refine sdo (v := .agg #[.bool false, .slice ro28 ((words (2 ^ (8 * n - 1))).length) rc29, .slice (some ⟨g33, 0, none⟩) 1 1]) hA (zj rfl (fun w => by kernel_rfl)) fun a hA => ?_
 refine ze (vs := [.bool false, .slice none 0 0, .slice none 0 0]) (t := 34) hA hS rfl rfl rfl (fun g => .pointer (some ⟨g, 0, none⟩)) (qp (z := .agg #[.bool false, .slice none 0 0, .slice none 0 0]) (by kernel_rfl) rfl) rfl ?_
 intro g35 w36 hS a hA
 refine zq (us := [.bool false, .slice ro28 ((words (2 ^ (8 * n - 1))).length) rc29, .slice (some ⟨g33, 0, none⟩) 1 1]) hA hS rfl rfl (qr rfl rfl rfl (by kernel_rfl) hS 0 rfl rfl rfl) 0 rfl rfl rfl rfl ?_
 intro w37 hS
 refine qe (hK25 _ _ (wsk fun K38 hK38 => ?_))
 have hJ60 : ∀ a w1, (∃ (J50g : Nat) (J51g : Nat) (J52 : Option Addr) (J53 : Nat) (J54 : Option Addr) (J55 : Nat), Sl a 101 [(0, .int .i64 (((n : Nat) : Int))), (1, .bool bg), (2, .bool false), (3, .agg #[.bool b, .slice a1 ((words x).length) ac1, .slice a2 1 ac2, .bool false, .slice a3 0 ac3, .slice a4 1 ac4]), (7, .pointer (some ⟨g2, 0, none⟩)), (8, .slice none 0 0), (9, .int .i64 0), (10, .pointer (some ⟨g22, 0, none⟩)), (11, .pointer (some ⟨g35, 0, none⟩)), (12, .pointer (some ⟨J50g, 0, none⟩)), (13, .pointer (some ⟨J51g, 0, none⟩)), (21, .agg #[.bool b, .slice a1 ((words x).length) ac1, .slice a2 1 ac2, .bool false, .slice a3 0 ac3, .slice a4 1 ac4]), (22, .bool true), (23, .bool false), (24, .agg #[.bool b, .slice a1 ((words x).length) ac1, .slice a2 1 ac2, .bool false, .slice a3 0 ac3, .slice a4 1 ac4]), (25, .bool true), (26, .bool false), (27, .slice (some ⟨g13, 0, none⟩) 1 1), (28, .int .i64 (((n : Nat) : Int))), (29, .int .i64 (((8 * n : Nat) : Int))), (30, .slice ro15 ((words (2 ^ (8 * n))).length) rc16), (31, .slice (some ⟨g20, 0, none⟩) 1 1), (32, .agg #[.bool false, .slice ro15 ((words (2 ^ (8 * n))).length) rc16, .slice (some ⟨g20, 0, none⟩) 1 1]), (33, .slice (some ⟨g26, 0, none⟩) 1 1), (34, .int .i64 (((n : Nat) : Int))), (35, .int .i64 (((8 * n : Nat) : Int))), (36, .int .i64 (((8 * n - 1 : Nat) : Int))), (37, .slice ro28 ((words (2 ^ (8 * n - 1))).length) rc29), (38, .slice (some ⟨g33, 0, none⟩) 1 1), (39, .agg #[.bool false, .slice ro28 ((words (2 ^ (8 * n - 1))).length) rc29, .slice (some ⟨g33, 0, none⟩) 1 1])] ∧ St w w1 [(J51g, [.bool false, .slice ro15 ((words (2 ^ (8 * n))).length) rc16, .slice (some ⟨g20, 0, none⟩) 1 1]), (J50g, [.bool false, .slice J52 0 J53, .slice J54 1 J55]), (g35, [.bool false, .slice ro28 ((words (2 ^ (8 * n - 1))).length) rc29, .slice (some ⟨g33, 0, none⟩) 1 1]), (g22, [.bool false, .slice ro15 ((words (2 ^ (8 * n))).length) rc16, .slice (some ⟨g20, 0, none⟩) 1 1]), (g2, [.bool b, .slice a1 ((words x).length) ac1, .slice a2 1 ac2, .bool false, .slice a3 0 ac3, .slice a4 1 ac4])] [(J54, [1]), (J52, []), (some ⟨g33, 0, none⟩, [1]), (ro28, words (2 ^ (8 * n - 1))), (some ⟨g26, 0, none⟩, [1]), (some ⟨g20, 0, none⟩, [1]), (ro15, words (2 ^ (8 * n))), (some ⟨g13, 0, none⟩, [1]), (a4, [1]), (a3, []), (a2, [1]), (a1, words x)] [] ∧ (J54 = none → J55 = 0) ∧ ([1] : List Nat).length ≤ J55 ∧ (J52 = none → J53 = 0) ∧ ([] : List Nat).length ≤ J53) → K38 a w1 := by
  clear hA hS
  rintro a w61 ⟨J50g, J51g, J52, J53, J54, J55, hA, hS, hn56, hc57, hn58, hc59⟩
  refine hK38 _ _ (wsk fun K62 hK62 => wsk fun K63 hK63 => wrl (sdo hA (qa rfl) fun a hA => ?_))
  refine qe (hK63 _ _ (wp_cond_false (hA.ev rfl) ?_))
  refine wp_skip (hK62 _ _ (wsk fun K64 hK64 => wsk fun K65 hK65 => wrl (sdo (v := .pointer (some ⟨g2, 0, none⟩)) hA (qh GvJ_fld_36_0 rfl rfl) fun a hA => ?_)))
  refine sdo hA (qw hS GvJ_isS_34 rfl 4 rfl (cs := [.bool b, .slice a1 ((words x).length) ac1, .slice a2 1 ac2]) rfl rfl) fun a hA => ?_
  refine sdo hA (qw hS GvJ_isS_34 rfl 1 rfl (cs := [.bool false, .slice J52 0 J53, .slice J54 1 J55]) rfl rfl) fun a hA => ?_
  refine qi hA rfl rfl rfl (qf  rfl rfl (fun w => by kernel_rfl)) (qbb (b1 := b) (b2 := false) (b3 := false) (x := x) (y := 0) ⟨(hS.rd 11 rfl), ha.s1.nil, ha.s1.cap⟩ ⟨(hS.rd 10 rfl), ha.s2.nil, ha.s2.cap⟩ ⟨(hS.rd 1 rfl), hn58, hc59⟩ ⟨(hS.rd 0 rfl), hn56, hc57⟩ rfl words_zero.symm hx (by rw [words_zero]; decide) rfl rfl) ?_
  rintro _ w67 ⟨rfl, hb66⟩
  replace hS := hS.call hb66
  refine ⟨_, rfl, ?_⟩
  intro a hA
  rcases tf (decide (oI (sgn b x + sgn false 0) < 0)) with hb68 | hb68
  ·
   have hb68' := of_decide_eq_true hb68
   refine sdo (v := .bool true) hA (qg rfl rfl (fun w => (zi w).trans (by rw [hb68]))) fun a hA => ?_
   refine sdo hA (qa rfl) fun a hA => ?_
   iterate 5 refine zg hA rfl rfl rfl fun a hA => ?_
   refine sdo (v := .bool true) hA (qj rfl rfl rfl rfl) fun a hA => ?_
   refine qe (hK65 _ _ (wp_cond_true (hA.ev rfl) ?_))
   refine wsk fun K69 hK69 => wrl ?_
   iterate 2 refine sdo hA (qb rfl) fun a hA => ?_
   refine qe (hK69 _ _ (wp_ret (hret _ _ (en2 hA rfl (ql rfl) (ql rfl) ?_))))
   exact .inl ⟨.inl hb68', rfl, hS.bel⟩
  ·
   have hb68' := of_decide_eq_false hb68
   refine sdo (v := .bool false) hA (qg rfl rfl (fun w => (zi w).trans (by rw [hb68]))) fun a hA => ?_
   refine sdo hA (qa rfl) fun a hA => ?_
   refine sdo (v := .pointer (some ⟨g2, 0, none⟩)) hA (qh GvJ_fld_36_0 rfl rfl) fun a hA => ?_
   refine sdo hA (qw hS GvJ_isS_34 rfl 4 rfl (cs := [.bool b, .slice a1 ((words x).length) ac1, .slice a2 1 ac2]) rfl rfl) fun a hA => ?_
   refine sdo hA (qw hS GvJ_isS_34 rfl 0 rfl (cs := [.bool false, .slice ro15 ((words (2 ^ (8 * n))).length) rc16, .slice (some ⟨g20, 0, none⟩) 1 1]) rfl rfl) fun a hA => ?_
   refine qi hA rfl rfl rfl (qf  rfl rfl (fun w => by kernel_rfl)) (qbb (b1 := b) (b2 := false) (b3 := true) (x := x) (y := 2 ^ (8 * n)) ⟨(hS.rd 11 rfl), ha.s1.nil, ha.s1.cap⟩ ⟨(hS.rd 10 rfl), ha.s2.nil, ha.s2.cap⟩ ⟨(hS.rd 6 rfl), ho17.nocap, ho17.caps⟩ ⟨(hS.rd 5 rfl), (fun h => by cases h), (Nat.le_refl _)⟩ rfl rfl hx hl8 (by rw [decide_eq_true (jg.2 (Nat.pos_iff_ne_zero.1 (Nat.two_pow_pos _)))]; rfl) rfl) ?_
   rintro _ w71 ⟨rfl, hb70⟩
   replace hS := hS.call hb70
   refine ⟨_, rfl, ?_⟩
   intro a hA
   rcases tf (decide (0 ≤ oI (sgn b x + sgn true (2 ^ (8 * n))))) with hb72 | hb72
   ·
    have hb72' := of_decide_eq_true hb72
    refine sdo (v := .bool true) hA (qg rfl rfl (fun w => (ju w).trans (by rw [hb72]))) fun a hA => ?_
    refine sdo (v := .bool true) hA (qj rfl rfl rfl rfl) fun a hA => ?_
    refine qe (hK65 _ _ (wp_cond_true (hA.ev rfl) ?_))
    refine wsk fun K73 hK73 => wrl ?_
    iterate 2 refine sdo hA (qb rfl) fun a hA => ?_
    refine qe (hK73 _ _ (wp_ret (hret _ _ (en2 hA rfl (ql rfl) (ql rfl) ?_))))
    exact .inl ⟨.inr hb72', rfl, hS.bel⟩
   ·
    have hb72' := of_decide_eq_false hb72
    refine sdo (v := .bool false) hA (qg rfl rfl (fun w => (ju w).trans (by rw [hb72]))) fun a hA => ?_
    refine sdo (v := .bool false) hA (qj rfl rfl rfl rfl) fun a hA => ?_
    refine qe (hK65 _ _ (wp_cond_false (hA.ev rfl) ?_))
    refine wp_skip (hK64 _ _ (wsk fun K74 hK74 => wrl (sdo (v := .pointer (some ⟨g2, 0, none⟩)) hA (qh GvJ_fld_36_0 rfl rfl) fun a hA => ?_)))
    refine sdo hA (qw hS GvJ_isS_34 rfl 4 rfl (cs := [.bool b, .slice a1 ((words x).length) ac1, .slice a2 1 ac2]) rfl rfl) fun a hA => ?_
    refine ze (vs := [.bool false, .slice none 0 0, .slice none 0 0]) (t := 34) hA hS rfl rfl rfl (fun g => .pointer (some ⟨g, 0, none⟩)) (qp (z := .agg #[.bool false, .slice none 0 0, .slice none 0 0]) (by kernel_rfl) rfl) rfl ?_
    intro g75 w76 hS a hA
    refine zq (us := [.bool b, .slice a1 ((words x).length) ac1, .slice a2 1 ac2]) hA hS rfl rfl (qr rfl rfl rfl (by kernel_rfl) hS 0 rfl rfl rfl) 0 rfl rfl rfl rfl ?_
    intro w77 hS
    refine qe (hK74 _ _ (wsk fun K78 hK78 => wsk fun K79 hK79 => wrl (sdo (v := .pointer (some ⟨g75, 0, none⟩)) hA (qh GvJ_fld_34_0 rfl rfl) fun a hA => ?_)))
    refine sdo hA (qm hS GvJ_is1_4 rfl 0 rfl rfl) fun a hA => ?_
    refine qe (hK79 _ _ ?_)
    refine wp_cond_split (t := b) (hA.ev rfl) (fun hc80 => ?_) (fun hc80 => ?_)
    ·
     exact (hb68' (qji.2 (by rw [hc80]; have h9 := hbx; rw [hc80] at h9; have h8 : 1 ≤ x := h9; show -((x : Nat) : Int) + ((0 : Nat) : Int) < 0; omega))).elim
    ·
     refine wp_skip (hK78 _ _ (wsk fun K81 hK81 => wrl (sdo hA (qa rfl) fun a hA => ?_)))
     have hL0 : Sc w77 a1 ac1 (words x) := ⟨(hS.rd 11 rfl), ha.s1.nil, ha.s1.cap⟩
     have hW : Below w.heap.size w w77 := hS.bel
     have hF14 : Blk w77 g75 [.bool b, .slice a1 ((words x).length) ac1, .slice a2 1 ac2] := (hS.own (g75, [.bool b, .slice a1 ((words x).length) ac1, .slice a2 1 ac2]) (by simp)).2
     clear hS
     have hM : G.Mg w77 w77 [] := G.Mg.start w77
     refine G.qaj (z := .int .u8 0) (sz := 1) (by_ := 1) (m := n) (toG hA) hM Tryz.underlying22 (by kernel_rfl) rfl rfl rfl rfl rfl rfl (by omega) (by omega) (.inr (G.qy G.zd)) ?_
     intro gx w82 hM hC a hA
     replace hA := ofG hA
     rw [qei bg n x] at hM
     replace hL0 := G.jq hL0 hC
     have hS : St w77 w82 [] [] [] := St.bare hM.bel
     refine sdo hA (qb rfl) fun a hA => ?_
     refine qe (hK81 _ _ (wsk fun K83 hK83 => wrl (sdo (v := .pointer (some ⟨g75, 1, none⟩)) hA (qh GvJ_fld_34_1 rfl rfl) fun a hA => ?_)))
     refine sdo (v := .slice a1 ((words x).length) ac1) hA (ut hS hF14 GvJ_is1_32 rfl rfl) fun a hA => ?_
     refine sdo hA (qb rfl) fun a hA => ?_
     refine qe (hK83 _ _ (wsk fun K84 hK84 => wsk fun K85 hK85 => wrl (sdo hA (qb rfl) fun a hA => ?_)))
     refine qe (hK85 _ _ (wp_block (jb (fun m a w1 => ∃ (k : Nat) (V : Nat) (lo : Option Addr) (lc : Nat), m = 1 + (n - k) ∧ (k ≤ n ∧ V = x / 256 ^ k ∧ Sc w1 lo lc (words V) ∧ G.Mg w77 w1 [.row G.BY 1 (.slice (some ⟨gx, 0, none⟩) n n) n (Lib.byteCells (G.zw bg (G.lbI n x k)))]) ∧ Sl a 101 [(0, .int .i64 (((n : Nat) : Int))), (1, .bool bg), (8, .slice none 0 0), (9, .int .i64 0), (15, .slice (some ⟨gx, 0, none⟩) n n), (16, .slice lo ((words V).length) lc), (17, .int .i64 (((k : Nat) : Int)))] ∧ St w77 w1 [] [] []) _ ⟨0, x, a1, ac1, rfl, ⟨Nat.zero_le _, (by rw [Nat.pow_zero, Nat.div_one]), hL0, hM⟩, hA.keep _ ⟨rfl, rfl, rfl, rfl, rfl, rfl, rfl, trivial⟩, hS⟩ ?_)))
     clear hS hA
     rintro m a w86 ⟨k, V, lo, lc, rfl, hinv88, hA, hS⟩ K87 hK87
     obtain ⟨hk9, hV, hL, hM⟩ := hinv88
     have hVl : (words V).length ≤ 512 := Nat.le_trans (words_mono (by rw [hV]; exact Nat.div_le_self _ _)) hFl
     refine wsk fun K89 hK89 => wsk fun K90 hK90 => wrl ?_
     iterate 2 refine sdo hA (qa rfl) fun a hA => ?_
     rcases tf (decide (((k : Nat) : Int) < ((n : Nat) : Int))) with hb91 | hb91
     ·
      have hb91' := of_decide_eq_true hb91
      refine sdo (v := .bool true) hA (qg rfl rfl (fun w => (zi w).trans (by rw [hb91]))) fun a hA => ?_
      refine qe (hK90 _ _ (wp_cond_true (hA.ev rfl) ?_))
      refine wp_skip (hK89 _ _ (wsk fun K92 hK92 => wp_block (wsk fun K93 hK93 => wrl (sdo hA (qa rfl) fun a hA => ?_))))
      refine qjh (us := [256]) (t := 51) (m := 1) hA hS rfl rfl rfl (qx rfl (by kernel_rfl)) (by simp [Dig]) ?_
      intro g94 w95 hS hB96 a hA
      replace hM := hM.call hB96
      replace hL : Sc w95 lo lc (words V) := G.jq hL (fun _ _ r => r.below hB96)
      refine qi hA rfl rfl rfl (qf  rfl rfl (fun w => by kernel_rfl)) (qjj (x := V) _ _ (hL.rd.below (Below.refl _ _)) (hS.rd 0 rfl) hVl) ?_
      rintro _ w104 ⟨qo97, qc98, ro99, rc100, rfl, hq101, hr102, hb103⟩
      replace hS := hS.call hb103
      replace hS := hS.addR hq101.rd
      replace hS := hS.addR hr102.rd
      refine ⟨_, rfl, ?_⟩
      intro a hA
      replace hM := hM.call hb103
      refine sdo hA (qa rfl) fun a hA => ?_
      iterate 2 refine sdo hA (qz (vs := [.slice qo97 ((words (V / 256)).length) qc98, .slice ro99 ((words (V % 256)).length) rc100]) rfl rfl) fun a hA => ?_
      iterate 2 refine sdo hA (qb rfl) fun a hA => ?_
      refine qe (hK93 _ _ (wsk fun K105 hK105 => wrl (sdo hA (qb rfl) fun a hA => ?_)))
      refine qe (hK105 _ _ (wsk fun K106 hK106 => wsk fun K107 hK107 => wrl (sdo hA (qa rfl) fun a hA => ?_)))
      refine sdo hA (zb Tryz.underlying32 rfl) fun a hA => ?_
      rcases tf (decide (0 < (((words (V % 256)).length : Nat) : Int))) with hb108 | hb108
      ·
       have hb108' := of_decide_eq_true hb108
       refine sdo (v := .bool true) hA (qg rfl rfl (fun w => (ja w).trans (by rw [hb108]))) fun a hA => ?_
       refine qe (hK107 _ _ (wp_cond_true (hA.ev rfl) ?_))
       refine wrl (sdo hA (qa rfl) fun a hA => ?_)
       have hi112 : 0 < (words (V % 256)).length := by first | omega | (simp only [List.length_set]; omega)
       obtain ⟨b109, f110, hso111⟩ := Rd.addr (hS.rd 0 rfl) hi112
       refine sdo (v := .pointer (some ⟨b109, f110 + 0, none⟩)) hA (zk (k := 0) Tryz.underlying32 (by kernel_rfl) rfl rfl (by omega) hso111 hi112) fun a hA => ?_
       refine sdo (v := .int .u32 ((((words (V % 256)).getD 0 0 : Nat) : Int))) hA (xu (hS.rd 0 rfl) hso111 hi112 GvJ_is1_51 rfl) fun a hA => ?_
       refine sdo (v := .int .u8 (((V % 256 : Nat) : Int))) hA (zy rfl (ar_conv Tryz.underlying51 Tryz.underlying5 (zej V))) fun a hA => ?_
       refine sdo hA (qb rfl) fun a hA => ?_
       refine qe (hK106 _ _ (wsk fun K113 hK113 => wsk fun K114 hK114 => wrl (sdo hA (qa rfl) fun a hA => ?_)))
       refine qe (hK114 _ _ ?_)
       refine wp_cond_split (t := bg) (hA.ev rfl) (fun hc115 => ?_) (fun hc115 => ?_)
       ·
        refine wrl ?_
        iterate 2 refine sdo hA (qa rfl) fun a hA => ?_
        refine sdo (v := .int .i64 (((n - 1 : Nat) : Int))) hA (qg rfl rfl (fun w => (jy (ji (by omega) (by omega)) w).trans (by rw [show (((n : Nat) : Int) - 1 : Int) = ((n - 1 : Nat) : Int) from by omega]))) fun a hA => ?_
        refine sdo hA (qa rfl) fun a hA => ?_
        refine sdo (v := .int .i64 ((((n - 1) - k : Nat) : Int))) hA (qg rfl rfl (fun w => (jy (ji (by omega) (by omega)) w).trans (by rw [show (((n - 1 : Nat) : Int) - ((k : Nat) : Int) : Int) = (((n - 1) - k : Nat) : Int) from by omega]))) fun a hA => ?_
        refine sdo hA (qa rfl) fun a hA => ?_
        refine sdo (v := .pointer (some ⟨gx, ((n - 1) - k) * 1, none⟩)) hA (vi (k := (n - 1) - k) Tryz.underlying22 (by kernel_rfl) rfl rfl rfl (by omega)) fun a hA => ?_
        have hq9 : Sc w104 qo97 qc98 (words (V / 256)) := ⟨(hS.rd 1 rfl), hq101.nocap, hq101.caps⟩
        refine G.xg (c := .int .u8 (((V % 256 : Nat) : Int))) (q := ((n - 1) - k) * 1) (toG hA) hM rfl rfl (G.jo rfl rfl rfl (by kernel_rfl) hM 0 rfl (show ((n - 1) - k) * 1 + 1 ≤ n * 1 by omega) rfl) 0 rfl (G.jk (l := G.zw bg (G.lbI n x k)) (i := (n - 1) - k) (by rw [G.xh, G.xi]; omega)) rfl rfl ?_
        intro w116 hM hC9
        replace hq9 := G.jq hq9 hC9
        replace hM : G.Mg w77 w116 [.row G.BY 1 (.slice (some ⟨gx, 0, none⟩) n n) n (Lib.byteCells (G.zw bg (G.lbI n x (k + 1))))] := by
         have h9 := xx (bg := bg) (n := n) (F := x) (k := k) (V := V) (i := (n - 1) - k) (c := ((V % 256 : Nat) : Int)) (by omega) hV (by rw [hc115]; rfl) rfl
         rw [← h9]
         exact hM
        replace hS : St w77 w116 [] [] [] := St.bare hM.bel
        refine qe (hK113 _ _ (wrl (sdo hA (qa rfl) fun a hA => ?_)))
        refine sdo hA (qb rfl) fun a hA => ?_
        refine qe (hK92 _ _ (wrl (sdo hA (qa rfl) fun a hA => ?_)))
        refine sdo (v := .int .i64 (((k + 1 : Nat) : Int))) hA (qg rfl rfl (fun w => (jp (ji (by omega) (by omega)) w).trans (by rw [show (((k : Nat) : Int) + 1 : Int) = ((k + 1 : Nat) : Int) from by omega]))) fun a hA => ?_
        refine sdo hA (qb rfl) fun a hA => ?_
        refine qe ?_
        refine hK87 _ _ _ (by omega) ⟨k + 1, V / 256, qo97, qc98, rfl, ⟨by omega, (by rw [hV, Nat.div_div_eq_div_mul, ← Nat.pow_succ]), hq9, hM⟩, hA.keep _ ⟨rfl, rfl, rfl, rfl, rfl, rfl, rfl, trivial⟩, hS⟩
       ·
        refine wrl ?_
        iterate 3 refine sdo hA (qa rfl) fun a hA => ?_
        refine sdo (v := .pointer (some ⟨gx, (k) * 1, none⟩)) hA (vi (k := k) Tryz.underlying22 (by kernel_rfl) rfl rfl rfl (by omega)) fun a hA => ?_
        have hq9 : Sc w104 qo97 qc98 (words (V / 256)) := ⟨(hS.rd 1 rfl), hq101.nocap, hq101.caps⟩
        refine G.xg (c := .int .u8 (((V % 256 : Nat) : Int))) (q := (k) * 1) (toG hA) hM rfl rfl (G.jo rfl rfl rfl (by kernel_rfl) hM 0 rfl (show (k) * 1 + 1 ≤ n * 1 by omega) rfl) 0 rfl (G.jk (l := G.zw bg (G.lbI n x k)) (i := k) (by rw [G.xh, G.xi]; omega)) rfl rfl ?_
        intro w117 hM hC9
        replace hq9 := G.jq hq9 hC9
        replace hM : G.Mg w77 w117 [.row G.BY 1 (.slice (some ⟨gx, 0, none⟩) n n) n (Lib.byteCells (G.zw bg (G.lbI n x (k + 1))))] := by
         have h9 := xx (bg := bg) (n := n) (F := x) (k := k) (V := V) (i := k) (c := ((V % 256 : Nat) : Int)) (by omega) hV (by rw [hc115]; rfl) rfl
         rw [← h9]
         exact hM
        replace hS : St w77 w117 [] [] [] := St.bare hM.bel
        refine qe (hK113 _ _ (wrl (sdo hA (qa rfl) fun a hA => ?_)))
        refine sdo hA (qb rfl) fun a hA => ?_
        refine qe (hK92 _ _ (wrl (sdo hA (qa rfl) fun a hA => ?_)))
        refine sdo (v := .int .i64 (((k + 1 : Nat) : Int))) hA (qg rfl rfl (fun w => (jp (ji (by omega) (by omega)) w).trans (by rw [show (((k : Nat) : Int) + 1 : Int) = ((k + 1 : Nat) : Int) from by omega]))) fun a hA => ?_
        refine sdo hA (qb rfl) fun a hA => ?_
        refine qe ?_
        refine hK87 _ _ _ (by omega) ⟨k + 1, V / 256, qo97, qc98, rfl, ⟨by omega, (by rw [hV, Nat.div_div_eq_div_mul, ← Nat.pow_succ]), hq9, hM⟩, hA.keep _ ⟨rfl, rfl, rfl, rfl, rfl, rfl, rfl, trivial⟩, hS⟩
      ·
       have hb108' := of_decide_eq_false hb108
       refine sdo (v := .bool false) hA (qg rfl rfl (fun w => (ja w).trans (by rw [hb108]))) fun a hA => ?_
       refine qe (hK107 _ _ (wp_cond_false (hA.ev rfl) ?_))
       refine wp_skip (hK106 _ _ (wsk fun K118 hK118 => wsk fun K119 hK119 => wrl (sdo hA (qa rfl) fun a hA => ?_)))
       refine qe (hK119 _ _ ?_)
       refine wp_cond_split (t := bg) (hA.ev rfl) (fun hc120 => ?_) (fun hc120 => ?_)
       ·
        refine wrl ?_
        iterate 2 refine sdo hA (qa rfl) fun a hA => ?_
        refine sdo (v := .int .i64 (((n - 1 : Nat) : Int))) hA (qg rfl rfl (fun w => (jy (ji (by omega) (by omega)) w).trans (by rw [show (((n : Nat) : Int) - 1 : Int) = ((n - 1 : Nat) : Int) from by omega]))) fun a hA => ?_
        refine sdo hA (qa rfl) fun a hA => ?_
        refine sdo (v := .int .i64 ((((n - 1) - k : Nat) : Int))) hA (qg rfl rfl (fun w => (jy (ji (by omega) (by omega)) w).trans (by rw [show (((n - 1 : Nat) : Int) - ((k : Nat) : Int) : Int) = (((n - 1) - k : Nat) : Int) from by omega]))) fun a hA => ?_
        refine sdo hA (qa rfl) fun a hA => ?_
        refine sdo (v := .pointer (some ⟨gx, ((n - 1) - k) * 1, none⟩)) hA (vi (k := (n - 1) - k) Tryz.underlying22 (by kernel_rfl) rfl rfl rfl (by omega)) fun a hA => ?_
        have hz0 : V % 256 = 0 := by
         apply Classical.byContradiction
         intro k9
         have := jg.2 k9
         omega
        have hq9 : Sc w104 qo97 qc98 (words (V / 256)) := ⟨(hS.rd 1 rfl), hq101.nocap, hq101.caps⟩
        refine G.xg (c := .int .u8 0) (q := ((n - 1) - k) * 1) (toG hA) hM rfl rfl (G.jo rfl rfl rfl (by kernel_rfl) hM 0 rfl (show ((n - 1) - k) * 1 + 1 ≤ n * 1 by omega) rfl) 0 rfl (G.jk (l := G.zw bg (G.lbI n x k)) (i := (n - 1) - k) (by rw [G.xh, G.xi]; omega)) rfl rfl ?_
        intro w121 hM hC9
        replace hq9 := G.jq hq9 hC9
        replace hM : G.Mg w77 w121 [.row G.BY 1 (.slice (some ⟨gx, 0, none⟩) n n) n (Lib.byteCells (G.zw bg (G.lbI n x (k + 1))))] := by
         have h9 := xx (bg := bg) (n := n) (F := x) (k := k) (V := V) (i := (n - 1) - k) (c := 0) (by omega) hV (by rw [hc120]; rfl) (by rw [hz0]; rfl)
         rw [← h9]
         exact hM
        replace hS : St w77 w121 [] [] [] := St.bare hM.bel
        refine qe (hK118 _ _ (wrl (sdo hA (qa rfl) fun a hA => ?_)))
        refine sdo hA (qb rfl) fun a hA => ?_
        refine qe (hK92 _ _ (wrl (sdo hA (qa rfl) fun a hA => ?_)))
        refine sdo (v := .int .i64 (((k + 1 : Nat) : Int))) hA (qg rfl rfl (fun w => (jp (ji (by omega) (by omega)) w).trans (by rw [show (((k : Nat) : Int) + 1 : Int) = ((k + 1 : Nat) : Int) from by omega]))) fun a hA => ?_
        refine sdo hA (qb rfl) fun a hA => ?_
        refine qe ?_
        refine hK87 _ _ _ (by omega) ⟨k + 1, V / 256, qo97, qc98, rfl, ⟨by omega, (by rw [hV, Nat.div_div_eq_div_mul, ← Nat.pow_succ]), hq9, hM⟩, hA.keep _ ⟨rfl, rfl, rfl, rfl, rfl, rfl, rfl, trivial⟩, hS⟩
       ·
        refine wrl ?_
        iterate 3 refine sdo hA (qa rfl) fun a hA => ?_
        refine sdo (v := .pointer (some ⟨gx, (k) * 1, none⟩)) hA (vi (k := k) Tryz.underlying22 (by kernel_rfl) rfl rfl rfl (by omega)) fun a hA => ?_
        have hz0 : V % 256 = 0 := by
         apply Classical.byContradiction
         intro k9
         have := jg.2 k9
         omega
        have hq9 : Sc w104 qo97 qc98 (words (V / 256)) := ⟨(hS.rd 1 rfl), hq101.nocap, hq101.caps⟩
        refine G.xg (c := .int .u8 0) (q := (k) * 1) (toG hA) hM rfl rfl (G.jo rfl rfl rfl (by kernel_rfl) hM 0 rfl (show (k) * 1 + 1 ≤ n * 1 by omega) rfl) 0 rfl (G.jk (l := G.zw bg (G.lbI n x k)) (i := k) (by rw [G.xh, G.xi]; omega)) rfl rfl ?_
        intro w122 hM hC9
        replace hq9 := G.jq hq9 hC9
        replace hM : G.Mg w77 w122 [.row G.BY 1 (.slice (some ⟨gx, 0, none⟩) n n) n (Lib.byteCells (G.zw bg (G.lbI n x (k + 1))))] := by
         have h9 := xx (bg := bg) (n := n) (F := x) (k := k) (V := V) (i := k) (c := 0) (by omega) hV (by rw [hc120]; rfl) (by rw [hz0]; rfl)
         rw [← h9]
         exact hM
        replace hS : St w77 w122 [] [] [] := St.bare hM.bel
        refine qe (hK118 _ _ (wrl (sdo hA (qa rfl) fun a hA => ?_)))
        refine sdo hA (qb rfl) fun a hA => ?_
        refine qe (hK92 _ _ (wrl (sdo hA (qa rfl) fun a hA => ?_)))
        refine sdo (v := .int .i64 (((k + 1 : Nat) : Int))) hA (qg rfl rfl (fun w => (jp (ji (by omega) (by omega)) w).trans (by rw [show (((k : Nat) : Int) + 1 : Int) = ((k + 1 : Nat) : Int) from by omega]))) fun a hA => ?_
        refine sdo hA (qb rfl) fun a hA => ?_
        refine qe ?_
        refine hK87 _ _ _ (by omega) ⟨k + 1, V / 256, qo97, qc98, rfl, ⟨by omega, (by rw [hV, Nat.div_div_eq_div_mul, ← Nat.pow_succ]), hq9, hM⟩, hA.keep _ ⟨rfl, rfl, rfl, rfl, rfl, rfl, rfl, trivial⟩, hS⟩
     ·
      have hb91' := of_decide_eq_false hb91
      refine sdo (v := .bool false) hA (qg rfl rfl (fun w => (zi w).trans (by rw [hb91]))) fun a hA => ?_
      refine qe (hK90 _ _ (wp_cond_false (hA.ev rfl) ?_))
      refine wp_exit (hK84 _ _ (wsk fun K123 hK123 => wrl (sdo hA (qa rfl) fun a hA => ?_)))
      iterate 2 refine sdo hA (qb rfl) fun a hA => ?_
      refine qe (hK123 _ _ (wp_ret (hret _ _ (en2 hA rfl (ql rfl) (ql rfl) ?_))))
      rw [show k = n from by omega, qej] at hM
      exact .inr ⟨⟨hb68', hb72'⟩, gx, rfl, G.Mg.low hW hM (G.qn (by simp) (G.qy G.zd))⟩
 refine je (S := fun w1 => St w w1 [(g35, [.bool false, .slice ro28 ((words (2 ^ (8 * n - 1))).length) rc29, .slice (some ⟨g33, 0, none⟩) 1 1]), (g22, [.bool false, .slice ro15 ((words (2 ^ (8 * n))).length) rc16, .slice (some ⟨g20, 0, none⟩) 1 1]), (g2, [.bool b, .slice a1 ((words x).length) ac1, .slice a2 1 ac2, .bool false, .slice a3 0 ac3, .slice a4 1 ac4])] [(some ⟨g33, 0, none⟩, [1]), (ro28, words (2 ^ (8 * n - 1))), (some ⟨g26, 0, none⟩, [1]), (some ⟨g20, 0, none⟩, [1]), (ro15, words (2 ^ (8 * n))), (some ⟨g13, 0, none⟩, [1]), (a4, [1]), (a3, []), (a2, [1]), (a1, words x)] []) (by kernel_rfl) ?_
 replace hS := hS.drew
 refine qk hA 1 rfl rfl rfl rfl hP hS (fun w1 hS => qw hS GvJ_isS_34 rfl 1 rfl (cs := [.bool false, .slice ro15 ((words (2 ^ (8 * n))).length) rc16, .slice (some ⟨g20, 0, none⟩) 1 1]) rfl rfl) fun a hA => ?_
 refine xj (rs := [0, 2, 3]) (by kernel_rfl) (by simp) ⟨?_, ?_, ?_, trivial⟩
 ·
  refine zm hA 0 rfl rfl rfl rfl (qf  rfl rfl (fun w => by kernel_rfl)) (jw _) ?_
  rintro _ w128 ⟨f124_1, f124_c1, f124_2, f124_c2, rfl, hs125, hs126, hb127⟩
  replace hS := hS.call hb127
  replace hS := hS.addR hs125.rd
  replace hS := hS.addR hs126.rd
  refine ⟨_, rfl, (hS.partD (.refl _) 2 rfl (.refl _)), ?_⟩
  intro a hA
  refine xj (rs := [2, 3]) (by kernel_rfl) (by simp) ⟨?_, ?_, trivial⟩
  ·
   refine jr (vs := [.bool false, .slice none 0 0, .slice none 0 0]) (t := 34) hA hS 2 rfl rfl rfl rfl (fun g => .pointer (some ⟨g, 0, none⟩)) (qp (z := .agg #[.bool false, .slice none 0 0, .slice none 0 0]) (by kernel_rfl) rfl) rfl ?_
   intro g129 w130 hS
   refine ⟨(hS.partD (.cons _ (.cons_cons _ (.cons_cons _ (.cons_cons _ .slnil)))) 2 rfl (.refl _)), ?_⟩
   intro a hA
   refine qt (by kernel_rfl) (jr (vs := [.bool false, .slice none 0 0, .slice none 0 0]) (t := 34) hA hS 3 rfl rfl rfl rfl (fun g => .pointer (some ⟨g, 0, none⟩)) (qp (z := .agg #[.bool false, .slice none 0 0, .slice none 0 0]) (by kernel_rfl) rfl) rfl ?_)
   intro g131 w132 hS
   refine ⟨(hS.partD (.cons _ (.cons _ (.cons_cons _ (.cons_cons _ (.cons_cons _ .slnil))))) 2 rfl (.refl _)), ?_⟩
   intro a hA
   refine qt (by kernel_rfl) (zl (us := [.bool false, .slice f124_1 0 f124_c1, .slice f124_2 1 f124_c2]) hA hS 4 rfl rfl rfl (qr rfl rfl rfl (by kernel_rfl) hS 1 rfl rfl rfl) 1 rfl rfl rfl rfl ?_)
   intro w133 hS
   refine ⟨(hS.partD (.cons _ (.cons _ (.cons_cons _ (.cons_cons _ (.cons_cons _ .slnil))))) 2 rfl (.refl _)), ?_⟩
   refine qt (by kernel_rfl) (zl (us := [.bool false, .slice ro15 ((words (2 ^ (8 * n))).length) rc16, .slice (some ⟨g20, 0, none⟩) 1 1]) hA hS 5 rfl rfl rfl (qr rfl rfl rfl (by kernel_rfl) hS 0 rfl rfl rfl) 0 rfl rfl rfl rfl ?_)
   intro w134 hS
   refine ⟨(hS.partD (.cons _ (.cons _ (.cons_cons _ (.cons_cons _ (.cons_cons _ .slnil))))) 2 rfl (.refl _)), ?_⟩
   refine zn (by kernel_rfl) ?_
   refine hJ60 _ _ ⟨g129, g131, f124_1, f124_c1, f124_2, f124_c2, hA.keep _ ⟨rfl, rfl, rfl, rfl, rfl, rfl, rfl, rfl, rfl, rfl, rfl, rfl, rfl, rfl, rfl, rfl, rfl, rfl, rfl, rfl, rfl, rfl, rfl, rfl, rfl, rfl, rfl, rfl, rfl, rfl, trivial⟩, (St.pickRL hS ⟨⟨0, rfl⟩, ⟨⟨1, rfl⟩, ⟨⟨2, rfl⟩, ⟨⟨3, rfl⟩, ⟨⟨4, rfl⟩, ⟨⟨5, rfl⟩, ⟨⟨6, rfl⟩, ⟨⟨7, rfl⟩, ⟨⟨8, rfl⟩, ⟨⟨9, rfl⟩, ⟨⟨10, rfl⟩, ⟨⟨11, rfl⟩, trivial⟩⟩⟩⟩⟩⟩⟩⟩⟩⟩⟩⟩ [0, 1, 2, 3, 4] rfl (by decide)), hs126.nil, hs126.cap, hs125.nil, hs125.cap⟩
  ·
   refine jr (vs := [.bool false, .slice none 0 0, .slice none 0 0]) (t := 34) hA hS 3 rfl rfl rfl rfl (fun g => .pointer (some ⟨g, 0, none⟩)) (qp (z := .agg #[.bool false, .slice none 0 0, .slice none 0 0]) (by kernel_rfl) rfl) rfl ?_
   intro g135 w136 hS
   refine ⟨(hS.partD (.cons _ (.cons_cons _ (.cons_cons _ (.cons_cons _ .slnil)))) 2 rfl (.refl _)), ?_⟩
   intro a hA
   refine qt (by kernel_rfl) (jr (vs := [.bool false, .slice none 0 0, .slice none 0 0]) (t := 34) hA hS 2 rfl rfl rfl rfl (fun g => .pointer (some ⟨g, 0, none⟩)) (qp (z := .agg #[.bool false, .slice none 0 0, .slice none 0 0]) (by kernel_rfl) rfl) rfl ?_)
   intro g137 w138 hS
   refine ⟨(hS.partD (.cons _ (.cons _ (.cons_cons _ (.cons_cons _ (.cons_cons _ .slnil))))) 2 rfl (.refl _)), ?_⟩
   intro a hA
   refine qt (by kernel_rfl) (zl (us := [.bool false, .slice f124_1 0 f124_c1, .slice f124_2 1 f124_c2]) hA hS 4 rfl rfl rfl (qr rfl rfl rfl (by kernel_rfl) hS 0 rfl rfl rfl) 0 rfl rfl rfl rfl ?_)
   intro w139 hS
   refine ⟨(hS.partD (.cons _ (.cons _ (.cons_cons _ (.cons_cons _ (.cons_cons _ .slnil))))) 2 rfl (.refl _)), ?_⟩
   refine qt (by kernel_rfl) (zl (us := [.bool false, .slice ro15 ((words (2 ^ (8 * n))).length) rc16, .slice (some ⟨g20, 0, none⟩) 1 1]) hA hS 5 rfl rfl rfl (qr rfl rfl rfl (by kernel_rfl) hS 1 rfl rfl rfl) 1 rfl rfl rfl rfl ?_)
   intro w140 hS
   refine ⟨(hS.partD (.cons _ (.cons _ (.cons_cons _ (.cons_cons _ (.cons_cons _ .slnil))))) 2 rfl (.refl _)), ?_⟩
   refine zn (by kernel_rfl) ?_
   refine hJ60 _ _ ⟨g137, g135, f124_1, f124_c1, f124_2, f124_c2, hA.keep _ ⟨rfl, rfl, rfl, rfl, rfl, rfl, rfl, rfl, rfl, rfl, rfl, rfl, rfl, rfl, rfl, rfl, rfl, rfl, rfl, rfl, rfl, rfl, rfl, rfl, rfl, rfl, rfl, rfl, rfl, rfl, trivial⟩, (St.pickRL hS ⟨⟨0, rfl⟩, ⟨⟨1, rfl⟩, ⟨⟨2, rfl⟩, ⟨⟨3, rfl⟩, ⟨⟨4, rfl⟩, ⟨⟨5, rfl⟩, ⟨⟨6, rfl⟩, ⟨⟨7, rfl⟩, ⟨⟨8, rfl⟩, ⟨⟨9, rfl⟩, ⟨⟨10, rfl⟩, ⟨⟨11, rfl⟩, trivial⟩⟩⟩⟩⟩⟩⟩⟩⟩⟩⟩⟩ [1, 0, 2, 3, 4] rfl (by decide)), hs126.nil, hs126.cap, hs125.nil, hs125.cap⟩
 ·
  refine jr (vs := [.bool false, .slice none 0 0, .slice none 0 0]) (t := 34) hA hS 2 rfl rfl rfl rfl (fun g => .pointer (some ⟨g, 0, none⟩)) (qp (z := .agg #[.bool false, .slice none 0 0, .slice none 0 0]) (by kernel_rfl) rfl) rfl ?_
  intro g141 w142 hS
  refine ⟨(hS.partD (.cons _ (.cons_cons _ (.cons_cons _ (.cons_cons _ .slnil)))) 0 rfl (.refl _)), ?_⟩
  intro a hA
  refine xj (rs := [0, 3]) (by kernel_rfl) (by simp) ⟨?_, ?_, trivial⟩
  ·
   refine zm hA 0 rfl rfl rfl rfl (qf  rfl rfl (fun w => by kernel_rfl)) (jw _) ?_
   rintro _ w147 ⟨f143_1, f143_c1, f143_2, f143_c2, rfl, hs144, hs145, hb146⟩
   replace hS := hS.call hb146
   replace hS := hS.addR hs144.rd
   replace hS := hS.addR hs145.rd
   refine ⟨_, rfl, (hS.partD (.cons _ (.cons_cons _ (.cons_cons _ (.cons_cons _ .slnil)))) 2 rfl (.refl _)), ?_⟩
   intro a hA
   refine qt (by kernel_rfl) (jr (vs := [.bool false, .slice none 0 0, .slice none 0 0]) (t := 34) hA hS 3 rfl rfl rfl rfl (fun g => .pointer (some ⟨g, 0, none⟩)) (qp (z := .agg #[.bool false, .slice none 0 0, .slice none 0 0]) (by kernel_rfl) rfl) rfl ?_)
   intro g148 w149 hS
   refine ⟨(hS.partD (.cons _ (.cons _ (.cons_cons _ (.cons_cons _ (.cons_cons _ .slnil))))) 2 rfl (.refl _)), ?_⟩
   intro a hA
   refine qt (by kernel_rfl) (zl (us := [.bool false, .slice f143_1 0 f143_c1, .slice f143_2 1 f143_c2]) hA hS 4 rfl rfl rfl (qr rfl rfl rfl (by kernel_rfl) hS 1 rfl rfl rfl) 1 rfl rfl rfl rfl ?_)
   intro w150 hS
   refine ⟨(hS.partD (.cons _ (.cons _ (.cons_cons _ (.cons_cons _ (.cons_cons _ .slnil))))) 2 rfl (.refl _)), ?_⟩
   refine qt (by kernel_rfl) (zl (us := [.bool false, .slice ro15 ((words (2 ^ (8 * n))).length) rc16, .slice (some ⟨g20, 0, none⟩) 1 1]) hA hS 5 rfl rfl rfl (qr rfl rfl rfl (by kernel_rfl) hS 0 rfl rfl rfl) 0 rfl rfl rfl rfl ?_)
   intro w151 hS
   refine ⟨(hS.partD (.cons _ (.cons _ (.cons_cons _ (.cons_cons _ (.cons_cons _ .slnil))))) 2 rfl (.refl _)), ?_⟩
   refine zn (by kernel_rfl) ?_
   refine hJ60 _ _ ⟨g141, g148, f143_1, f143_c1, f143_2, f143_c2, hA.keep _ ⟨rfl, rfl, rfl, rfl, rfl, rfl, rfl, rfl, rfl, rfl, rfl, rfl, rfl, rfl, rfl, rfl, rfl, rfl, rfl, rfl, rfl, rfl, rfl, rfl, rfl, rfl, rfl, rfl, rfl, rfl, trivial⟩, (St.pickRL hS ⟨⟨0, rfl⟩, ⟨⟨1, rfl⟩, ⟨⟨2, rfl⟩, ⟨⟨3, rfl⟩, ⟨⟨4, rfl⟩, ⟨⟨5, rfl⟩, ⟨⟨6, rfl⟩, ⟨⟨7, rfl⟩, ⟨⟨8, rfl⟩, ⟨⟨9, rfl⟩, ⟨⟨10, rfl⟩, ⟨⟨11, rfl⟩, trivial⟩⟩⟩⟩⟩⟩⟩⟩⟩⟩⟩⟩ [0, 1, 2, 3, 4] rfl (by decide)), hs145.nil, hs145.cap, hs144.nil, hs144.cap⟩
  ·
   refine jr (vs := [.bool false, .slice none 0 0, .slice none 0 0]) (t := 34) hA hS 3 rfl rfl rfl rfl (fun g => .pointer (some ⟨g, 0, none⟩)) (qp (z := .agg #[.bool false, .slice none 0 0, .slice none 0 0]) (by kernel_rfl) rfl) rfl ?_
   intro g152 w153 hS
   refine ⟨(hS.partD (.cons _ (.cons _ (.cons_cons _ (.cons_cons _ (.cons_cons _ .slnil))))) 0 rfl (.refl _)), ?_⟩
   intro a hA
   refine qt (by kernel_rfl) (zm hA 0 rfl rfl rfl rfl (qf  rfl rfl (fun w => by kernel_rfl)) (jw _) ?_)
   rintro _ w158 ⟨f154_1, f154_c1, f154_2, f154_c2, rfl, hs155, hs156, hb157⟩
   replace hS := hS.call hb157
   replace hS := hS.addR hs155.rd
   replace hS := hS.addR hs156.rd
   refine ⟨_, rfl, (hS.partD (.cons _ (.cons _ (.cons_cons _ (.cons_cons _ (.cons_cons _ .slnil))))) 2 rfl (.refl _)), ?_⟩
   intro a hA
   refine qt (by kernel_rfl) (zl (us := [.bool false, .slice f154_1 0 f154_c1, .slice f154_2 1 f154_c2]) hA hS 4 rfl rfl rfl (qr rfl rfl rfl (by kernel_rfl) hS 1 rfl rfl rfl) 1 rfl rfl rfl rfl ?_)
   intro w159 hS
   refine ⟨(hS.partD (.cons _ (.cons _ (.cons_cons _ (.cons_cons _ (.cons_cons _ .slnil))))) 2 rfl (.refl _)), ?_⟩
   refine qt (by kernel_rfl) (zl (us := [.bool false, .slice ro15 ((words (2 ^ (8 * n))).length) rc16, .slice (some ⟨g20, 0, none⟩) 1 1]) hA hS 5 rfl rfl rfl (qr rfl rfl rfl (by kernel_rfl) hS 0 rfl rfl rfl) 0 rfl rfl rfl rfl ?_)
   intro w160 hS
   refine ⟨(hS.partD (.cons _ (.cons _ (.cons_cons _ (.cons_cons _ (.cons_cons _ .slnil))))) 2 rfl (.refl _)), ?_⟩
   refine zn (by kernel_rfl) ?_
   refine hJ60 _ _ ⟨g141, g152, f154_1, f154_c1, f154_2, f154_c2, hA.keep _ ⟨rfl, rfl, rfl, rfl, rfl, rfl, rfl, rfl, rfl, rfl, rfl, rfl, rfl, rfl, rfl, rfl, rfl, rfl, rfl, rfl, rfl, rfl, rfl, rfl, rfl, rfl, rfl, rfl, rfl, rfl, trivial⟩, (St.pickRL hS ⟨⟨0, rfl⟩, ⟨⟨1, rfl⟩, ⟨⟨2, rfl⟩, ⟨⟨3, rfl⟩, ⟨⟨4, rfl⟩, ⟨⟨5, rfl⟩, ⟨⟨6, rfl⟩, ⟨⟨7, rfl⟩, ⟨⟨8, rfl⟩, ⟨⟨9, rfl⟩, ⟨⟨10, rfl⟩, ⟨⟨11, rfl⟩, trivial⟩⟩⟩⟩⟩⟩⟩⟩⟩⟩⟩⟩ [0, 1, 2, 3, 4] rfl (by decide)), hs156.nil, hs156.cap, hs155.nil, hs155.cap⟩
 ·
  refine jr (vs := [.bool false, .slice none 0 0, .slice none 0 0]) (t := 34) hA hS 3 rfl rfl rfl rfl (fun g => .pointer (some ⟨g, 0, none⟩)) (qp (z := .agg #[.bool false, .slice none 0 0, .slice none 0 0]) (by kernel_rfl) rfl) rfl ?_
  intro g161 w162 hS
  refine ⟨(hS.partD (.cons _ (.cons_cons _ (.cons_cons _ (.cons_cons _ .slnil)))) 0 rfl (.refl _)), ?_⟩
  intro a hA
  refine xj (rs := [0, 2]) (by kernel_rfl) (by simp) ⟨?_, ?_, trivial⟩
  ·
   refine zm hA 0 rfl rfl rfl rfl (qf  rfl rfl (fun w => by kernel_rfl)) (jw _) ?_
   rintro _ w167 ⟨f163_1, f163_c1, f163_2, f163_c2, rfl, hs164, hs165, hb166⟩
   replace hS := hS.call hb166
   replace hS := hS.addR hs164.rd
   replace hS := hS.addR hs165.rd
   refine ⟨_, rfl, (hS.partD (.cons _ (.cons_cons _ (.cons_cons _ (.cons_cons _ .slnil)))) 2 rfl (.refl _)), ?_⟩
   intro a hA
   refine qt (by kernel_rfl) (jr (vs := [.bool false, .slice none 0 0, .slice none 0 0]) (t := 34) hA hS 2 rfl rfl rfl rfl (fun g => .pointer (some ⟨g, 0, none⟩)) (qp (z := .agg #[.bool false, .slice none 0 0, .slice none 0 0]) (by kernel_rfl) rfl) rfl ?_)
   intro g168 w169 hS
   refine ⟨(hS.partD (.cons _ (.cons _ (.cons_cons _ (.cons_cons _ (.cons_cons _ .slnil))))) 2 rfl (.refl _)), ?_⟩
   intro a hA
   refine qt (by kernel_rfl) (zl (us := [.bool false, .slice f163_1 0 f163_c1, .slice f163_2 1 f163_c2]) hA hS 4 rfl rfl rfl (qr rfl rfl rfl (by kernel_rfl) hS 0 rfl rfl rfl) 0 rfl rfl rfl rfl ?_)
   intro w170 hS
   refine ⟨(hS.partD (.cons _ (.cons _ (.cons_cons _ (.cons_cons _ (.cons_cons _ .slnil))))) 2 rfl (.refl _)), ?_⟩
   refine qt (by kernel_rfl) (zl (us := [.bool false, .slice ro15 ((words (2 ^ (8 * n))).length) rc16, .slice (some ⟨g20, 0, none⟩) 1 1]) hA hS 5 rfl rfl rfl (qr rfl rfl rfl (by kernel_rfl) hS 1 rfl rfl rfl) 1 rfl rfl rfl rfl ?_)
   intro w171 hS
   refine ⟨(hS.partD (.cons _ (.cons _ (.cons_cons _ (.cons_cons _ (.cons_cons _ .slnil))))) 2 rfl (.refl _)), ?_⟩
   refine zn (by kernel_rfl) ?_
   refine hJ60 _ _ ⟨g168, g161, f163_1, f163_c1, f163_2, f163_c2, hA.keep _ ⟨rfl, rfl, rfl, rfl, rfl, rfl, rfl, rfl, rfl, rfl, rfl, rfl, rfl, rfl, rfl, rfl, rfl, rfl, rfl, rfl, rfl, rfl, rfl, rfl, rfl, rfl, rfl, rfl, rfl, rfl, trivial⟩, (St.pickRL hS ⟨⟨0, rfl⟩, ⟨⟨1, rfl⟩, ⟨⟨2, rfl⟩, ⟨⟨3, rfl⟩, ⟨⟨4, rfl⟩, ⟨⟨5, rfl⟩, ⟨⟨6, rfl⟩, ⟨⟨7, rfl⟩, ⟨⟨8, rfl⟩, ⟨⟨9, rfl⟩, ⟨⟨10, rfl⟩, ⟨⟨11, rfl⟩, trivial⟩⟩⟩⟩⟩⟩⟩⟩⟩⟩⟩⟩ [1, 0, 2, 3, 4] rfl (by decide)), hs165.nil, hs165.cap, hs164.nil, hs164.cap⟩
  ·
   refine jr (vs := [.bool false, .slice none 0 0, .slice none 0 0]) (t := 34) hA hS 2 rfl rfl rfl rfl (fun g => .pointer (some ⟨g, 0, none⟩)) (qp (z := .agg #[.bool false, .slice none 0 0, .slice none 0 0]) (by kernel_rfl) rfl) rfl ?_
   intro g172 w173 hS
   refine ⟨(hS.partD (.cons _ (.cons _ (.cons_cons _ (.cons_cons _ (.cons_cons _ .slnil))))) 0 rfl (.refl _)), ?_⟩
   intro a hA
   refine qt (by kernel_rfl) (zm hA 0 rfl rfl rfl rfl (qf  rfl rfl (fun w => by kernel_rfl)) (jw _) ?_)
   rintro _ w178 ⟨f174_1, f174_c1, f174_2, f174_c2, rfl, hs175, hs176, hb177⟩
   replace hS := hS.call hb177
   replace hS := hS.addR hs175.rd
   replace hS := hS.addR hs176.rd
   refine ⟨_, rfl, (hS.partD (.cons _ (.cons _ (.cons_cons _ (.cons_cons _ (.cons_cons _ .slnil))))) 2 rfl (.refl _)), ?_⟩
   intro a hA
   refine qt (by kernel_rfl) (zl (us := [.bool false, .slice f174_1 0 f174_c1, .slice f174_2 1 f174_c2]) hA hS 4 rfl rfl rfl (qr rfl rfl rfl (by kernel_rfl) hS 0 rfl rfl rfl) 0 rfl rfl rfl rfl ?_)
   intro w179 hS
   refine ⟨(hS.partD (.cons _ (.cons _ (.cons_cons _ (.cons_cons _ (.cons_cons _ .slnil))))) 2 rfl (.refl _)), ?_⟩
   refine qt (by kernel_rfl) (zl (us := [.bool false, .slice ro15 ((words (2 ^ (8 * n))).length) rc16, .slice (some ⟨g20, 0, none⟩) 1 1]) hA hS 5 rfl rfl rfl (qr rfl rfl rfl (by kernel_rfl) hS 1 rfl rfl rfl) 1 rfl rfl rfl rfl ?_)
   intro w180 hS
   refine ⟨(hS.partD (.cons _ (.cons _ (.cons_cons _ (.cons_cons _ (.cons_cons _ .slnil))))) 2 rfl (.refl _)), ?_⟩
   refine zn (by kernel_rfl) ?_
   refine hJ60 _ _ ⟨g172, g161, f174_1, f174_c1, f174_2, f174_c2, hA.keep _ ⟨rfl, rfl, rfl, rfl, rfl, rfl, rfl, rfl, rfl, rfl, rfl, rfl, rfl, rfl, rfl, rfl, rfl, rfl, rfl, rfl, rfl, rfl, rfl, rfl, rfl, rfl, rfl, rfl, rfl, rfl, trivial⟩, (St.pickRL hS ⟨⟨0, rfl⟩, ⟨⟨1, rfl⟩, ⟨⟨2, rfl⟩, ⟨⟨3, rfl⟩, ⟨⟨4, rfl⟩, ⟨⟨5, rfl⟩, ⟨⟨6, rfl⟩, ⟨⟨7, rfl⟩, ⟨⟨8, rfl⟩, ⟨⟨9, rfl⟩, ⟨⟨10, rfl⟩, ⟨⟨11, rfl⟩, trivial⟩⟩⟩⟩⟩⟩⟩⟩⟩⟩⟩⟩ [1, 0, 2, 3, 4] rfl (by decide)), hs176.nil, hs176.cap, hs175.nil, hs175.cap⟩
theorem yi {b : Bool} {w : World} {x n : Nat} {a1 a2 a3 a4 : Option Addr} {ac1 ac2 ac3 ac4 : Nat} (ha : Nm w (Q6.whole b x) a1 ac1 a2 ac2 a3 ac3 a4 ac4) (hx : (words x).length ≤ 512) (h1 : 1 ≤ n) (h64 : n ≤ 64) (bg : Bool) (hbx : b.toNat ≤ x) (hlg : oI (sgn b x + sgn false 0) < 0 ∨ 0 ≤ oI (sgn b x + sgn true (2 ^ (8 * n)))) : Calls Tryz.prog 15 #[.int .i64 ((n : Nat) : Int), .bool bg, .bool false, xy (Q6.whole b x) a1 ac1 a2 ac2 a3 ac3 a4 ac4] w fun e w' => e = .returned (.tuple #[.slice none 0 0, .int .i64 4]) ∧ Below w.heap.size w w' := by
 refine Calls.mono (qdd ha hx h1 h64 bg hbx) ?_
 rintro e w' (h | ⟨h, _⟩)
 ·
  exact h.2
 ·
  exact (hlg.elim h.1 h.2).elim
theorem qgc {b : Bool} {w : World} {x n : Nat} {a1 a2 a3 a4 : Option Addr} {ac1 ac2 ac3 ac4 : Nat} (ha : Nm w (Q6.whole b x) a1 ac1 a2 ac2 a3 ac3 a4 ac4) (hx : (words x).length ≤ 512) (h1 : 1 ≤ n) (h64 : n ≤ 64) (bg : Bool) (hbx : b.toNat ≤ x) (h9 : ¬ oI (sgn b x + sgn false 0) < 0 ∧ ¬ 0 ≤ oI (sgn b x + sgn true (2 ^ (8 * n)))) : Calls Tryz.prog 15 #[.int .i64 ((n : Nat) : Int), .bool bg, .bool false, xy (Q6.whole b x) a1 ac1 a2 ac2 a3 ac3 a4 ac4] w fun e w' => ∃ g, e = .returned (.tuple #[.slice (some ⟨g, 0, none⟩) n n, .int .i64 0]) ∧ G.Mg w w' [.row G.BY 1 (.slice (some ⟨g, 0, none⟩) n n) n (Lib.byteCells (G.zw bg (G.leB n x)))] := by
 refine Calls.mono (qdd ha hx h1 h64 bg hbx) ?_
 rintro e w' (⟨h, _⟩ | h)
 ·
  exact (h.elim h9.1 h9.2).elim
 ·
  exact h.2
set_option maxHeartbeats 1000000 in
theorem uj {w : World} {x n : Nat} {a1 a2 a3 a4 : Option Addr} {ac1 ac2 ac3 ac4 : Nat} (ha : Nm w (Q6.whole false x) a1 ac1 a2 ac2 a3 ac3 a4 ac4) (hx : (words x).length ≤ 512) (h1 : 1 ≤ n) (h64 : n ≤ 64) (bg : Bool) (hbx : false.toNat ≤ x) : Calls Tryz.prog 15 #[.int .i64 ((n : Nat) : Int), .bool bg, .bool true, xy (Q6.whole false x) a1 ac1 a2 ac2 a3 ac3 a4 ac4] w fun e w' => ((oI (sgn false x + sgn false (2 ^ (8 * n - 1))) < 0 ∨ 0 ≤ oI (sgn false x + sgn true (2 ^ (8 * n - 1)))) ∧ e = .returned (.tuple #[.slice none 0 0, .int .i64 4]) ∧ Below w.heap.size w w') ∨ ((¬ oI (sgn false x + sgn false (2 ^ (8 * n - 1))) < 0 ∧ ¬ 0 ≤ oI (sgn false x + sgn true (2 ^ (8 * n - 1)))) ∧ ∃ g, e = .returned (.tuple #[.slice (some ⟨g, 0, none⟩) n n, .int .i64 0]) ∧ G.Mg w w' [.row G.BY 1 (.slice (some ⟨g, 0, none⟩) n n) n (Lib.byteCells (G.zw bg (G.leB n x)))]) := by
 have hl8 : (words (2 ^ (8 * n))).length ≤ 512 := by rw [kw]; exact G.jx h64 (Nat.le_refl _)
 have hl7 : (words (2 ^ (8 * n - 1))).length ≤ 512 := Nat.le_trans (words_mono (Nat.pow_le_pow_right (by decide) (Nat.sub_le _ _))) hl8
 have hp7 : 2 ^ (8 * n) = 2 * 2 ^ (8 * n - 1) := by rw [← Nat.pow_succ']; congr 1; omega
 have hs : xk (Q6.whole false x) = true := xz hx hbx
 have hwh : xd (Q6.whole false x) = true := kd hx hbx
 have hbx1 : false.toNat = 0 := rfl
 have hFl : (words x).length ≤ 512 := hx
 have hS : St w w [] [(a4, [1]), (a3, []), (a2, [1]), (a1, words x)] [] := ((((St.start w).addR ha.s1.rd).addR ha.s2.rd).addR ha.s3.rd).addR ha.s4.rd
 refine za (l := [(0, .int .i64 (((n : Nat) : Int))), (1, .bool bg), (2, .bool true), (3, .agg #[.bool false, .slice a1 ((words x).length) ac1, .slice a2 1 ac2, .bool false, .slice a3 0 ac3, .slice a4 1 ac4])]) Tryz.func15 rfl Tryz.ntmps15 rfl rfl ?_
 intro Q hret hnorm hP a hA
 refine wsk fun K1 hK1 => wrl (ze hA hS rfl rfl rfl (fun g => .pointer (some ⟨g, 0, none⟩)) (zf rfl rfl) rfl ?_)
 intro g2 w3 hS a hA
 iterate 2 refine sdo hA (qb rfl) fun a hA => ?_
 refine qe (hK1 _ _ (wsk fun K4 hK4 => wsk fun K5 hK5 => wrl (sdo hA (qw hS GvJ_isS_36 rfl 0 rfl (cs := [.bool false, .slice a1 ((words x).length) ac1, .slice a2 1 ac2, .bool false, .slice a3 0 ac3, .slice a4 1 ac4]) rfl rfl) fun a hA => ?_)))
 refine qi hA rfl rfl rfl (qf  rfl rfl (fun w => by kernel_rfl)) (vp (show Nm _ _ a1 ac1 a2 ac2 a3 ac3 a4 ac4 from ⟨⟨(hS.rd 3 rfl), ha.s1.nil, ha.s1.cap⟩, ⟨(hS.rd 2 rfl), ha.s2.nil, ha.s2.cap⟩, ⟨(hS.rd 1 rfl), ha.s3.nil, ha.s3.cap⟩, ⟨(hS.rd 0 rfl), ha.s4.nil, ha.s4.cap⟩⟩) (jl hx) hs) ?_
 rintro _ w7 ⟨rfl, hb6⟩
 replace hS := hS.call hb6
 refine ⟨_, rfl, ?_⟩
 intro a hA
 refine sdo (v := .bool false) hA (zp rfl zu) fun a hA => ?_
 refine qe (hK5 _ _ (wp_cond_false (hA.ev rfl) ?_))
 refine wp_skip (hK4 _ _ (wsk fun K8 hK8 => wsk fun K9 hK9 => wrl (sdo hA (qw hS GvJ_isS_36 rfl 0 rfl (cs := [.bool false, .slice a1 ((words x).length) ac1, .slice a2 1 ac2, .bool false, .slice a3 0 ac3, .slice a4 1 ac4]) rfl rfl) fun a hA => ?_)))
 refine qi hA rfl rfl rfl (qf  rfl rfl (fun w => by kernel_rfl)) (yp (q := Q6.whole false x) (show Nm _ _ a1 ac1 a2 ac2 a3 ac3 a4 ac4 from ⟨⟨(hS.rd 3 rfl), ha.s1.nil, ha.s1.cap⟩, ⟨(hS.rd 2 rfl), ha.s2.nil, ha.s2.cap⟩, ⟨(hS.rd 1 rfl), ha.s3.nil, ha.s3.cap⟩, ⟨(hS.rd 0 rfl), ha.s4.nil, ha.s4.cap⟩⟩) (jl hx) hwh) ?_
 rintro _ w11 ⟨rfl, hb10⟩
 replace hS := hS.call hb10
 refine ⟨_, rfl, ?_⟩
 intro a hA
 refine sdo (v := .bool false) hA (zp rfl zu) fun a hA => ?_
 refine qe (hK9 _ _ (wp_cond_false (hA.ev rfl) ?_))
 refine wp_skip (hK8 _ _ (wsk fun K12 hK12 => wrl (jf (us := [1]) (t := 51) (m := 1) hA hS rfl rfl rfl (qx rfl (by kernel_rfl)) (by simp [Dig]) ?_)))
 intro g13 w14 hS a hA
 refine sdo hA (qa rfl) fun a hA => ?_
 refine sdo (v := .int .i64 (((8 * n : Nat) : Int))) hA (qg rfl rfl (ar_mul ((in_i64 (by omega) (by omega)).trans (by omega)))) fun a hA => ?_
 refine qi hA rfl rfl rfl (qf  rfl rfl (fun w => by kernel_rfl)) (qvd _ (hS.rd 0 rfl) (n := 8 * n) (by omega)) ?_
 rintro _ w19 ⟨ro15, rc16, rfl, ho17, hb18⟩
 replace hS := hS.call hb18
 replace hS := hS.addR ho17.rd
 refine ⟨_, rfl, ?_⟩
 intro a hA
 refine jf (us := [1]) (t := 51) (m := 1) hA hS rfl rfl rfl (qx rfl (by kernel_rfl)) (by simp [Dig]) ?_
 intro g20 w21 hS a hA
 refine sdo (v := .agg #[.bool false, .slice ro15 ((words (2 ^ (8 * n))).length) rc16, .slice (some ⟨g20, 0, none⟩) 1 1]) hA (zj rfl (fun w => by kernel_rfl)) fun a hA => ?_
 refine ze (vs := [.bool false, .slice none 0 0, .slice none 0 0]) (t := 34) hA hS rfl rfl rfl (fun g => .pointer (some ⟨g, 0, none⟩)) (qp (z := .agg #[.bool false, .slice none 0 0, .slice none 0 0]) (by kernel_rfl) rfl) rfl ?_
 intro g22 w23 hS a hA
 refine zq (us := [.bool false, .slice ro15 ((words (2 ^ (8 * n))).length) rc16, .slice (some ⟨g20, 0, none⟩) 1 1]) hA hS rfl rfl (qr rfl rfl rfl (by kernel_rfl) hS 0 rfl rfl rfl) 0 rfl rfl rfl rfl ?_
 intro w24 hS
 refine qe (hK12 _ _ (wsk fun K25 hK25 => wrl (jf (us := [1]) (t := 51) (m := 1) hA hS rfl rfl rfl (qx rfl (by kernel_rfl)) (by simp [Dig]) ?_)))
 intro g26 w27 hS a hA
 refine sdo hA (qa rfl) fun a hA => ?_
 refine sdo (v := .int .i64 (((8 * n : Nat) : Int))) hA (qg rfl rfl (ar_mul ((in_i64 (by omega) (by omega)).trans (by omega)))) fun a hA => ?_
 refine sdo (v := .int .i64 (((8 * n - 1 : Nat) : Int))) hA (qg rfl rfl (fun w => (jy (ji (by omega) (by omega)) w).trans (by rw [show (((8 * n : Nat) : Int) - 1 : Int) = ((8 * n - 1 : Nat) : Int) from by omega]))) fun a hA => ?_
 refine qi hA rfl rfl rfl (qf  rfl rfl (fun w => by kernel_rfl)) (qvd _ (hS.rd 0 rfl) (n := 8 * n - 1) (by omega)) ?_
 rintro _ w32 ⟨ro28, rc29, rfl, ho30, hb31⟩
 replace hS := hS.call hb31
 replace hS := hS.addR ho30.rd
 refine ⟨_, rfl, ?_⟩
 intro a hA
 refine jf (us := [1]) (t := 51) (m := 1) hA hS rfl rfl rfl (qx rfl (by kernel_rfl)) (by simp [Dig]) ?_
 intro g33 w34 hS a hA
 refine sdo (v := .agg #[.bool false, .slice ro28 ((words (2 ^ (8 * n - 1))).length) rc29, .slice (some ⟨g33, 0, none⟩) 1 1]) hA (zj rfl (fun w => by kernel_rfl)) fun a hA => ?_
 refine ze (vs := [.bool false, .slice none 0 0, .slice none 0 0]) (t := 34) hA hS rfl rfl rfl (fun g => .pointer (some ⟨g, 0, none⟩)) (qp (z := .agg #[.bool false, .slice none 0 0, .slice none 0 0]) (by kernel_rfl) rfl) rfl ?_
 intro g35 w36 hS a hA
 refine zq (us := [.bool false, .slice ro28 ((words (2 ^ (8 * n - 1))).length) rc29, .slice (some ⟨g33, 0, none⟩) 1 1]) hA hS rfl rfl (qr rfl rfl rfl (by kernel_rfl) hS 0 rfl rfl rfl) 0 rfl rfl rfl rfl ?_
 intro w37 hS
 refine qe (hK25 _ _ (wsk fun K38 hK38 => ?_))
 have hJ60 : ∀ a w1, (∃ (J50g : Nat) (J51g : Nat) (J52 : Option Addr) (J53 : Nat) (J54 : Option Addr) (J55 : Nat), Sl a 101 [(0, .int .i64 (((n : Nat) : Int))), (1, .bool bg), (2, .bool true), (3, .agg #[.bool false, .slice a1 ((words x).length) ac1, .slice a2 1 ac2, .bool false, .slice a3 0 ac3, .slice a4 1 ac4]), (7, .pointer (some ⟨g2, 0, none⟩)), (8, .slice none 0 0), (9, .int .i64 0), (10, .pointer (some ⟨g22, 0, none⟩)), (11, .pointer (some ⟨g35, 0, none⟩)), (12, .pointer (some ⟨J50g, 0, none⟩)), (13, .pointer (some ⟨J51g, 0, none⟩)), (21, .agg #[.bool false, .slice a1 ((words x).length) ac1, .slice a2 1 ac2, .bool false, .slice a3 0 ac3, .slice a4 1 ac4]), (22, .bool true), (23, .bool false), (24, .agg #[.bool false, .slice a1 ((words x).length) ac1, .slice a2 1 ac2, .bool false, .slice a3 0 ac3, .slice a4 1 ac4]), (25, .bool true), (26, .bool false), (27, .slice (some ⟨g13, 0, none⟩) 1 1), (28, .int .i64 (((n : Nat) : Int))), (29, .int .i64 (((8 * n : Nat) : Int))), (30, .slice ro15 ((words (2 ^ (8 * n))).length) rc16), (31, .slice (some ⟨g20, 0, none⟩) 1 1), (32, .agg #[.bool false, .slice ro15 ((words (2 ^ (8 * n))).length) rc16, .slice (some ⟨g20, 0, none⟩) 1 1]), (33, .slice (some ⟨g26, 0, none⟩) 1 1), (34, .int .i64 (((n : Nat) : Int))), (35, .int .i64 (((8 * n : Nat) : Int))), (36, .int .i64 (((8 * n - 1 : Nat) : Int))), (37, .slice ro28 ((words (2 ^ (8 * n - 1))).length) rc29), (38, .slice (some ⟨g33, 0, none⟩) 1 1), (39, .agg #[.bool false, .slice ro28 ((words (2 ^ (8 * n - 1))).length) rc29, .slice (some ⟨g33, 0, none⟩) 1 1])] ∧ St w w1 [(J51g, [.bool false, .slice ro15 ((words (2 ^ (8 * n))).length) rc16, .slice (some ⟨g20, 0, none⟩) 1 1]), (J50g, [.bool false, .slice J52 0 J53, .slice J54 1 J55]), (g35, [.bool false, .slice ro28 ((words (2 ^ (8 * n - 1))).length) rc29, .slice (some ⟨g33, 0, none⟩) 1 1]), (g22, [.bool false, .slice ro15 ((words (2 ^ (8 * n))).length) rc16, .slice (some ⟨g20, 0, none⟩) 1 1]), (g2, [.bool false, .slice a1 ((words x).length) ac1, .slice a2 1 ac2, .bool false, .slice a3 0 ac3, .slice a4 1 ac4])] [(J54, [1]), (J52, []), (some ⟨g33, 0, none⟩, [1]), (ro28, words (2 ^ (8 * n - 1))), (some ⟨g26, 0, none⟩, [1]), (some ⟨g20, 0, none⟩, [1]), (ro15, words (2 ^ (8 * n))), (some ⟨g13, 0, none⟩, [1]), (a4, [1]), (a3, []), (a2, [1]), (a1, words x)] [] ∧ (J54 = none → J55 = 0) ∧ ([1] : List Nat).length ≤ J55 ∧ (J52 = none → J53 = 0) ∧ ([] : List Nat).length ≤ J53) → K38 a w1 := by
  clear hA hS
  rintro a w61 ⟨J50g, J51g, J52, J53, J54, J55, hA, hS, hn56, hc57, hn58, hc59⟩
  refine hK38 _ _ (wsk fun K62 hK62 => wsk fun K63 hK63 => wrl (sdo hA (qa rfl) fun a hA => ?_))
  refine qe (hK63 _ _ (wp_cond_true (hA.ev rfl) ?_))
  refine je (S := fun w1 => St w w1 [(g35, [.bool false, .slice ro28 ((words (2 ^ (8 * n - 1))).length) rc29, .slice (some ⟨g33, 0, none⟩) 1 1]), (g22, [.bool false, .slice ro15 ((words (2 ^ (8 * n))).length) rc16, .slice (some ⟨g20, 0, none⟩) 1 1]), (g2, [.bool false, .slice a1 ((words x).length) ac1, .slice a2 1 ac2, .bool false, .slice a3 0 ac3, .slice a4 1 ac4])] [(J54, [1]), (J52, []), (some ⟨g33, 0, none⟩, [1]), (ro28, words (2 ^ (8 * n - 1))), (some ⟨g26, 0, none⟩, [1]), (some ⟨g20, 0, none⟩, [1]), (ro15, words (2 ^ (8 * n))), (some ⟨g13, 0, none⟩, [1]), (a4, [1]), (a3, []), (a2, [1]), (a1, words x)] []) (by kernel_rfl) ?_
  replace hS := hS.drew
  refine qk hA 0 rfl rfl rfl rfl hP (hS.partD (.cons _ (.cons _ (.cons_cons _ (.cons_cons _ (.cons_cons _ .slnil))))) 0 rfl (.refl _)) (fun w1 hS => qw hS GvJ_isS_34 rfl 0 rfl (cs := [.bool false, .slice ro28 ((words (2 ^ (8 * n - 1))).length) rc29, .slice (some ⟨g33, 0, none⟩) 1 1]) rfl rfl) fun a hA => ?_
  refine qk hA 2 rfl rfl rfl rfl hP (hS.partD (.cons _ (.cons _ (.cons_cons _ (.cons_cons _ (.cons_cons _ .slnil))))) 0 rfl (.refl _)) (fun w1 hS => qw hS GvJ_isS_34 rfl 0 rfl (cs := [.bool false, .slice ro28 ((words (2 ^ (8 * n - 1))).length) rc29, .slice (some ⟨g33, 0, none⟩) 1 1]) rfl rfl) fun a hA => ?_
  refine qt (by kernel_rfl) (zm hA 1 rfl rfl rfl rfl (qf  rfl rfl (fun w => by kernel_rfl)) (kj (r := true) (by rw [decide_eq_true (jg.2 (Nat.pos_iff_ne_zero.1 (Nat.two_pow_pos _)))]; rfl)) ?_)
  rintro _ w65 ⟨rfl, hb64⟩
  replace hS := hS.call hb64
  refine ⟨_, rfl, (hS.partD (.cons _ (.cons _ (.cons_cons _ (.cons_cons _ (.cons_cons _ .slnil))))) 0 rfl (.refl _)), ?_⟩
  intro a hA
  refine qt (by kernel_rfl) (zl (us := [.bool true, .slice ro28 ((words (2 ^ (8 * n - 1))).length) rc29, .slice (some ⟨g33, 0, none⟩) 1 1]) hA hS 3 rfl rfl rfl (qr rfl rfl rfl (by kernel_rfl) hS 1 rfl rfl rfl) 1 rfl rfl rfl rfl ?_)
  intro w66 hS
  refine ⟨(hS.partD (.cons _ (.cons _ (.cons_cons _ (.cons_cons _ (.cons_cons _ .slnil))))) 0 rfl (.refl _)), ?_⟩
  refine qt (by kernel_rfl) (zl (us := [.bool false, .slice ro28 ((words (2 ^ (8 * n - 1))).length) rc29, .slice (some ⟨g33, 0, none⟩) 1 1]) hA hS 4 rfl rfl rfl (qr rfl rfl rfl (by kernel_rfl) hS 0 rfl rfl rfl) 0 rfl rfl rfl rfl ?_)
  intro w67 hS
  refine ⟨(hS.partD (.cons _ (.cons _ (.cons_cons _ (.cons_cons _ (.cons_cons _ .slnil))))) 0 rfl (.refl _)), ?_⟩
  refine zn (by kernel_rfl) ?_
  refine hK62 _ _ (wsk fun K68 hK68 => wsk fun K69 hK69 => wrl (sdo (v := .pointer (some ⟨g2, 0, none⟩)) hA (qh GvJ_fld_36_0 rfl rfl) fun a hA => ?_))
  refine sdo hA (qw hS GvJ_isS_34 rfl 4 rfl (cs := [.bool false, .slice a1 ((words x).length) ac1, .slice a2 1 ac2]) rfl rfl) fun a hA => ?_
  refine sdo hA (qw hS GvJ_isS_34 rfl 1 rfl (cs := [.bool true, .slice ro28 ((words (2 ^ (8 * n - 1))).length) rc29, .slice (some ⟨g33, 0, none⟩) 1 1]) rfl rfl) fun a hA => ?_
  refine qi hA rfl rfl rfl (qf  rfl rfl (fun w => by kernel_rfl)) (qbb (b1 := false) (b2 := true) (b3 := false) (x := x) (y := 2 ^ (8 * n - 1)) ⟨(hS.rd 11 rfl), ha.s1.nil, ha.s1.cap⟩ ⟨(hS.rd 10 rfl), ha.s2.nil, ha.s2.cap⟩ ⟨(hS.rd 3 rfl), ho30.nocap, ho30.caps⟩ ⟨(hS.rd 2 rfl), (fun h => by cases h), (Nat.le_refl _)⟩ rfl rfl hx hl7 rfl rfl) ?_
  rintro _ w71 ⟨rfl, hb70⟩
  replace hS := hS.call hb70
  refine ⟨_, rfl, ?_⟩
  intro a hA
  rcases tf (decide (oI (sgn false x + sgn false (2 ^ (8 * n - 1))) < 0)) with hb72 | hb72
  ·
   have hb72' := of_decide_eq_true hb72
   refine sdo (v := .bool true) hA (qg rfl rfl (fun w => (zi w).trans (by rw [hb72]))) fun a hA => ?_
   refine sdo hA (qa rfl) fun a hA => ?_
   iterate 5 refine zg hA rfl rfl rfl fun a hA => ?_
   refine sdo (v := .bool true) hA (qj rfl rfl rfl rfl) fun a hA => ?_
   refine qe (hK69 _ _ (wp_cond_true (hA.ev rfl) ?_))
   refine wsk fun K73 hK73 => wrl ?_
   iterate 2 refine sdo hA (qb rfl) fun a hA => ?_
   refine qe (hK73 _ _ (wp_ret (hret _ _ (en2 hA rfl (ql rfl) (ql rfl) ?_))))
   exact .inl ⟨.inl hb72', rfl, hS.bel⟩
  ·
   have hb72' := of_decide_eq_false hb72
   refine sdo (v := .bool false) hA (qg rfl rfl (fun w => (zi w).trans (by rw [hb72]))) fun a hA => ?_
   refine sdo hA (qa rfl) fun a hA => ?_
   refine sdo (v := .pointer (some ⟨g2, 0, none⟩)) hA (qh GvJ_fld_36_0 rfl rfl) fun a hA => ?_
   refine sdo hA (qw hS GvJ_isS_34 rfl 4 rfl (cs := [.bool false, .slice a1 ((words x).length) ac1, .slice a2 1 ac2]) rfl rfl) fun a hA => ?_
   refine sdo hA (qw hS GvJ_isS_34 rfl 0 rfl (cs := [.bool false, .slice ro28 ((words (2 ^ (8 * n - 1))).length) rc29, .slice (some ⟨g33, 0, none⟩) 1 1]) rfl rfl) fun a hA => ?_
   refine qi hA rfl rfl rfl (qf  rfl rfl (fun w => by kernel_rfl)) (qbb (b1 := false) (b2 := false) (b3 := true) (x := x) (y := 2 ^ (8 * n - 1)) ⟨(hS.rd 11 rfl), ha.s1.nil, ha.s1.cap⟩ ⟨(hS.rd 10 rfl), ha.s2.nil, ha.s2.cap⟩ ⟨(hS.rd 3 rfl), ho30.nocap, ho30.caps⟩ ⟨(hS.rd 2 rfl), (fun h => by cases h), (Nat.le_refl _)⟩ rfl rfl hx hl7 (by rw [decide_eq_true (jg.2 (Nat.pos_iff_ne_zero.1 (Nat.two_pow_pos _)))]; rfl) rfl) ?_
   rintro _ w75 ⟨rfl, hb74⟩
   replace hS := hS.call hb74
   refine ⟨_, rfl, ?_⟩
   intro a hA
   rcases tf (decide (0 ≤ oI (sgn false x + sgn true (2 ^ (8 * n - 1))))) with hb76 | hb76
   ·
    have hb76' := of_decide_eq_true hb76
    refine sdo (v := .bool true) hA (qg rfl rfl (fun w => (ju w).trans (by rw [hb76]))) fun a hA => ?_
    refine sdo (v := .bool true) hA (qj rfl rfl rfl rfl) fun a hA => ?_
    refine qe (hK69 _ _ (wp_cond_true (hA.ev rfl) ?_))
    refine wsk fun K77 hK77 => wrl ?_
    iterate 2 refine sdo hA (qb rfl) fun a hA => ?_
    refine qe (hK77 _ _ (wp_ret (hret _ _ (en2 hA rfl (ql rfl) (ql rfl) ?_))))
    exact .inl ⟨.inr hb76', rfl, hS.bel⟩
   ·
    have hb76' := of_decide_eq_false hb76
    refine sdo (v := .bool false) hA (qg rfl rfl (fun w => (ju w).trans (by rw [hb76]))) fun a hA => ?_
    refine sdo (v := .bool false) hA (qj rfl rfl rfl rfl) fun a hA => ?_
    refine qe (hK69 _ _ (wp_cond_false (hA.ev rfl) ?_))
    refine wp_skip (hK68 _ _ (wsk fun K78 hK78 => wrl (sdo (v := .pointer (some ⟨g2, 0, none⟩)) hA (qh GvJ_fld_36_0 rfl rfl) fun a hA => ?_)))
    refine sdo hA (qw hS GvJ_isS_34 rfl 4 rfl (cs := [.bool false, .slice a1 ((words x).length) ac1, .slice a2 1 ac2]) rfl rfl) fun a hA => ?_
    refine ze (vs := [.bool false, .slice none 0 0, .slice none 0 0]) (t := 34) hA hS rfl rfl rfl (fun g => .pointer (some ⟨g, 0, none⟩)) (qp (z := .agg #[.bool false, .slice none 0 0, .slice none 0 0]) (by kernel_rfl) rfl) rfl ?_
    intro g79 w80 hS a hA
    refine zq (us := [.bool false, .slice a1 ((words x).length) ac1, .slice a2 1 ac2]) hA hS rfl rfl (qr rfl rfl rfl (by kernel_rfl) hS 0 rfl rfl rfl) 0 rfl rfl rfl rfl ?_
    intro w81 hS
    refine qe (hK78 _ _ (wsk fun K82 hK82 => wsk fun K83 hK83 => wrl (sdo (v := .pointer (some ⟨g79, 0, none⟩)) hA (qh GvJ_fld_34_0 rfl rfl) fun a hA => ?_)))
    refine sdo hA (qm hS GvJ_is1_4 rfl 0 rfl rfl) fun a hA => ?_
    refine qe (hK83 _ _ (wp_cond_false (hA.ev rfl) ?_))
    refine wp_skip (hK82 _ _ (wsk fun K84 hK84 => wrl (sdo hA (qa rfl) fun a hA => ?_)))
    have hL0 : Sc w81 a1 ac1 (words x) := ⟨(hS.rd 11 rfl), ha.s1.nil, ha.s1.cap⟩
    have hW : Below w.heap.size w w81 := hS.bel
    have hF14 : Blk w81 g79 [.bool false, .slice a1 ((words x).length) ac1, .slice a2 1 ac2] := (hS.own (g79, [.bool false, .slice a1 ((words x).length) ac1, .slice a2 1 ac2]) (by simp)).2
    clear hS
    have hM : G.Mg w81 w81 [] := G.Mg.start w81
    refine G.qaj (z := .int .u8 0) (sz := 1) (by_ := 1) (m := n) (toG hA) hM Tryz.underlying22 (by kernel_rfl) rfl rfl rfl rfl rfl rfl (by omega) (by omega) (.inr (G.qy G.zd)) ?_
    intro gx w85 hM hC a hA
    replace hA := ofG hA
    rw [qei bg n x] at hM
    replace hL0 := G.jq hL0 hC
    have hS : St w81 w85 [] [] [] := St.bare hM.bel
    refine sdo hA (qb rfl) fun a hA => ?_
    refine qe (hK84 _ _ (wsk fun K86 hK86 => wrl (sdo (v := .pointer (some ⟨g79, 1, none⟩)) hA (qh GvJ_fld_34_1 rfl rfl) fun a hA => ?_)))
    refine sdo (v := .slice a1 ((words x).length) ac1) hA (ut hS hF14 GvJ_is1_32 rfl rfl) fun a hA => ?_
    refine sdo hA (qb rfl) fun a hA => ?_
    refine qe (hK86 _ _ (wsk fun K87 hK87 => wsk fun K88 hK88 => wrl (sdo hA (qb rfl) fun a hA => ?_)))
    refine qe (hK88 _ _ (wp_block (jb (fun m a w1 => ∃ (k : Nat) (V : Nat) (lo : Option Addr) (lc : Nat), m = 1 + (n - k) ∧ (k ≤ n ∧ V = x / 256 ^ k ∧ Sc w1 lo lc (words V) ∧ G.Mg w81 w1 [.row G.BY 1 (.slice (some ⟨gx, 0, none⟩) n n) n (Lib.byteCells (G.zw bg (G.lbI n x k)))]) ∧ Sl a 101 [(0, .int .i64 (((n : Nat) : Int))), (1, .bool bg), (8, .slice none 0 0), (9, .int .i64 0), (15, .slice (some ⟨gx, 0, none⟩) n n), (16, .slice lo ((words V).length) lc), (17, .int .i64 (((k : Nat) : Int)))] ∧ St w81 w1 [] [] []) _ ⟨0, x, a1, ac1, rfl, ⟨Nat.zero_le _, (by rw [Nat.pow_zero, Nat.div_one]), hL0, hM⟩, hA.keep _ ⟨rfl, rfl, rfl, rfl, rfl, rfl, rfl, trivial⟩, hS⟩ ?_)))
    clear hS hA
    rintro m a w89 ⟨k, V, lo, lc, rfl, hinv91, hA, hS⟩ K90 hK90
    obtain ⟨hk9, hV, hL, hM⟩ := hinv91
    have hVl : (words V).length ≤ 512 := Nat.le_trans (words_mono (by rw [hV]; exact Nat.div_le_self _ _)) hFl
    refine wsk fun K92 hK92 => wsk fun K93 hK93 => wrl ?_
    iterate 2 refine sdo hA (qa rfl) fun a hA => ?_
    rcases tf (decide (((k : Nat) : Int) < ((n : Nat) : Int))) with hb94 | hb94
    ·
     have hb94' := of_decide_eq_true hb94
     refine sdo (v := .bool true) hA (qg rfl rfl (fun w => (zi w).trans (by rw [hb94]))) fun a hA => ?_
     refine qe (hK93 _ _ (wp_cond_true (hA.ev rfl) ?_))
     refine wp_skip (hK92 _ _ (wsk fun K95 hK95 => wp_block (wsk fun K96 hK96 => wrl (sdo hA (qa rfl) fun a hA => ?_))))
     refine qjh (us := [256]) (t := 51) (m := 1) hA hS rfl rfl rfl (qx rfl (by kernel_rfl)) (by simp [Dig]) ?_
     intro g97 w98 hS hB99 a hA
     replace hM := hM.call hB99
     replace hL : Sc w98 lo lc (words V) := G.jq hL (fun _ _ r => r.below hB99)
     refine qi hA rfl rfl rfl (qf  rfl rfl (fun w => by kernel_rfl)) (qjj (x := V) _ _ (hL.rd.below (Below.refl _ _)) (hS.rd 0 rfl) hVl) ?_
     rintro _ w107 ⟨qo100, qc101, ro102, rc103, rfl, hq104, hr105, hb106⟩
     replace hS := hS.call hb106
     replace hS := hS.addR hq104.rd
     replace hS := hS.addR hr105.rd
     refine ⟨_, rfl, ?_⟩
     intro a hA
     replace hM := hM.call hb106
     refine sdo hA (qa rfl) fun a hA => ?_
     iterate 2 refine sdo hA (qz (vs := [.slice qo100 ((words (V / 256)).length) qc101, .slice ro102 ((words (V % 256)).length) rc103]) rfl rfl) fun a hA => ?_
     iterate 2 refine sdo hA (qb rfl) fun a hA => ?_
     refine qe (hK96 _ _ (wsk fun K108 hK108 => wrl (sdo hA (qb rfl) fun a hA => ?_)))
     refine qe (hK108 _ _ (wsk fun K109 hK109 => wsk fun K110 hK110 => wrl (sdo hA (qa rfl) fun a hA => ?_)))
     refine sdo hA (zb Tryz.underlying32 rfl) fun a hA => ?_
     rcases tf (decide (0 < (((words (V % 256)).length : Nat) : Int))) with hb111 | hb111
     ·
      have hb111' := of_decide_eq_true hb111
      refine sdo (v := .bool true) hA (qg rfl rfl (fun w => (ja w).trans (by rw [hb111]))) fun a hA => ?_
      refine qe (hK110 _ _ (wp_cond_true (hA.ev rfl) ?_))
      refine wrl (sdo hA (qa rfl) fun a hA => ?_)
      have hi115 : 0 < (words (V % 256)).length := by first | omega | (simp only [List.length_set]; omega)
      obtain ⟨b112, f113, hso114⟩ := Rd.addr (hS.rd 0 rfl) hi115
      refine sdo (v := .pointer (some ⟨b112, f113 + 0, none⟩)) hA (zk (k := 0) Tryz.underlying32 (by kernel_rfl) rfl rfl (by omega) hso114 hi115) fun a hA => ?_
      refine sdo (v := .int .u32 ((((words (V % 256)).getD 0 0 : Nat) : Int))) hA (xu (hS.rd 0 rfl) hso114 hi115 GvJ_is1_51 rfl) fun a hA => ?_
      refine sdo (v := .int .u8 (((V % 256 : Nat) : Int))) hA (zy rfl (ar_conv Tryz.underlying51 Tryz.underlying5 (zej V))) fun a hA => ?_
      refine sdo hA (qb rfl) fun a hA => ?_
      refine qe (hK109 _ _ (wsk fun K116 hK116 => wsk fun K117 hK117 => wrl (sdo hA (qa rfl) fun a hA => ?_)))
      refine qe (hK117 _ _ ?_)
      refine wp_cond_split (t := bg) (hA.ev rfl) (fun hc118 => ?_) (fun hc118 => ?_)
      ·
       refine wrl ?_
       iterate 2 refine sdo hA (qa rfl) fun a hA => ?_
       refine sdo (v := .int .i64 (((n - 1 : Nat) : Int))) hA (qg rfl rfl (fun w => (jy (ji (by omega) (by omega)) w).trans (by rw [show (((n : Nat) : Int) - 1 : Int) = ((n - 1 : Nat) : Int) from by omega]))) fun a hA => ?_
       refine sdo hA (qa rfl) fun a hA => ?_
       refine sdo (v := .int .i64 ((((n - 1) - k : Nat) : Int))) hA (qg rfl rfl (fun w => (jy (ji (by omega) (by omega)) w).trans (by rw [show (((n - 1 : Nat) : Int) - ((k : Nat) : Int) : Int) = (((n - 1) - k : Nat) : Int) from by omega]))) fun a hA => ?_
       refine sdo hA (qa rfl) fun a hA => ?_
       refine sdo (v := .pointer (some ⟨gx, ((n - 1) - k) * 1, none⟩)) hA (vi (k := (n - 1) - k) Tryz.underlying22 (by kernel_rfl) rfl rfl rfl (by omega)) fun a hA => ?_
       have hq9 : Sc w107 qo100 qc101 (words (V / 256)) := ⟨(hS.rd 1 rfl), hq104.nocap, hq104.caps⟩
       refine G.xg (c := .int .u8 (((V % 256 : Nat) : Int))) (q := ((n - 1) - k) * 1) (toG hA) hM rfl rfl (G.jo rfl rfl rfl (by kernel_rfl) hM 0 rfl (show ((n - 1) - k) * 1 + 1 ≤ n * 1 by omega) rfl) 0 rfl (G.jk (l := G.zw bg (G.lbI n x k)) (i := (n - 1) - k) (by rw [G.xh, G.xi]; omega)) rfl rfl ?_
       intro w119 hM hC9
       replace hq9 := G.jq hq9 hC9
       replace hM : G.Mg w81 w119 [.row G.BY 1 (.slice (some ⟨gx, 0, none⟩) n n) n (Lib.byteCells (G.zw bg (G.lbI n x (k + 1))))] := by
        have h9 := xx (bg := bg) (n := n) (F := x) (k := k) (V := V) (i := (n - 1) - k) (c := ((V % 256 : Nat) : Int)) (by omega) hV (by rw [hc118]; rfl) rfl
        rw [← h9]
        exact hM
       replace hS : St w81 w119 [] [] [] := St.bare hM.bel
       refine qe (hK116 _ _ (wrl (sdo hA (qa rfl) fun a hA => ?_)))
       refine sdo hA (qb rfl) fun a hA => ?_
       refine qe (hK95 _ _ (wrl (sdo hA (qa rfl) fun a hA => ?_)))
       refine sdo (v := .int .i64 (((k + 1 : Nat) : Int))) hA (qg rfl rfl (fun w => (jp (ji (by omega) (by omega)) w).trans (by rw [show (((k : Nat) : Int) + 1 : Int) = ((k + 1 : Nat) : Int) from by omega]))) fun a hA => ?_
       refine sdo hA (qb rfl) fun a hA => ?_
       refine qe ?_
       refine hK90 _ _ _ (by omega) ⟨k + 1, V / 256, qo100, qc101, rfl, ⟨by omega, (by rw [hV, Nat.div_div_eq_div_mul, ← Nat.pow_succ]), hq9, hM⟩, hA.keep _ ⟨rfl, rfl, rfl, rfl, rfl, rfl, rfl, trivial⟩, hS⟩
      ·
       refine wrl ?_
       iterate 3 refine sdo hA (qa rfl) fun a hA => ?_
       refine sdo (v := .pointer (some ⟨gx, (k) * 1, none⟩)) hA (vi (k := k) Tryz.underlying22 (by kernel_rfl) rfl rfl rfl (by omega)) fun a hA => ?_
       have hq9 : Sc w107 qo100 qc101 (words (V / 256)) := ⟨(hS.rd 1 rfl), hq104.nocap, hq104.caps⟩
       refine G.xg (c := .int .u8 (((V % 256 : Nat) : Int))) (q := (k) * 1) (toG hA) hM rfl rfl (G.jo rfl rfl rfl (by kernel_rfl) hM 0 rfl (show (k) * 1 + 1 ≤ n * 1 by omega) rfl) 0 rfl (G.jk (l := G.zw bg (G.lbI n x k)) (i := k) (by rw [G.xh, G.xi]; omega)) rfl rfl ?_
       intro w120 hM hC9
       replace hq9 := G.jq hq9 hC9
       replace hM : G.Mg w81 w120 [.row G.BY 1 (.slice (some ⟨gx, 0, none⟩) n n) n (Lib.byteCells (G.zw bg (G.lbI n x (k + 1))))] := by
        have h9 := xx (bg := bg) (n := n) (F := x) (k := k) (V := V) (i := k) (c := ((V % 256 : Nat) : Int)) (by omega) hV (by rw [hc118]; rfl) rfl
        rw [← h9]
        exact hM
       replace hS : St w81 w120 [] [] [] := St.bare hM.bel
       refine qe (hK116 _ _ (wrl (sdo hA (qa rfl) fun a hA => ?_)))
       refine sdo hA (qb rfl) fun a hA => ?_
       refine qe (hK95 _ _ (wrl (sdo hA (qa rfl) fun a hA => ?_)))
       refine sdo (v := .int .i64 (((k + 1 : Nat) : Int))) hA (qg rfl rfl (fun w => (jp (ji (by omega) (by omega)) w).trans (by rw [show (((k : Nat) : Int) + 1 : Int) = ((k + 1 : Nat) : Int) from by omega]))) fun a hA => ?_
       refine sdo hA (qb rfl) fun a hA => ?_
       refine qe ?_
       refine hK90 _ _ _ (by omega) ⟨k + 1, V / 256, qo100, qc101, rfl, ⟨by omega, (by rw [hV, Nat.div_div_eq_div_mul, ← Nat.pow_succ]), hq9, hM⟩, hA.keep _ ⟨rfl, rfl, rfl, rfl, rfl, rfl, rfl, trivial⟩, hS⟩
     ·
      have hb111' := of_decide_eq_false hb111
      refine sdo (v := .bool false) hA (qg rfl rfl (fun w => (ja w).trans (by rw [hb111]))) fun a hA => ?_
      refine qe (hK110 _ _ (wp_cond_false (hA.ev rfl) ?_))
      refine wp_skip (hK109 _ _ (wsk fun K121 hK121 => wsk fun K122 hK122 => wrl (sdo hA (qa rfl) fun a hA => ?_)))
      refine qe (hK122 _ _ ?_)
      refine wp_cond_split (t := bg) (hA.ev rfl) (fun hc123 => ?_) (fun hc123 => ?_)
      ·
       refine wrl ?_
       iterate 2 refine sdo hA (qa rfl) fun a hA => ?_
       refine sdo (v := .int .i64 (((n - 1 : Nat) : Int))) hA (qg rfl rfl (fun w => (jy (ji (by omega) (by omega)) w).trans (by rw [show (((n : Nat) : Int) - 1 : Int) = ((n - 1 : Nat) : Int) from by omega]))) fun a hA => ?_
       refine sdo hA (qa rfl) fun a hA => ?_
       refine sdo (v := .int .i64 ((((n - 1) - k : Nat) : Int))) hA (qg rfl rfl (fun w => (jy (ji (by omega) (by omega)) w).trans (by rw [show (((n - 1 : Nat) : Int) - ((k : Nat) : Int) : Int) = (((n - 1) - k : Nat) : Int) from by omega]))) fun a hA => ?_
       refine sdo hA (qa rfl) fun a hA => ?_
       refine sdo (v := .pointer (some ⟨gx, ((n - 1) - k) * 1, none⟩)) hA (vi (k := (n - 1) - k) Tryz.underlying22 (by kernel_rfl) rfl rfl rfl (by omega)) fun a hA => ?_
       have hz0 : V % 256 = 0 := by
        apply Classical.byContradiction
        intro k9
        have := jg.2 k9
        omega
       have hq9 : Sc w107 qo100 qc101 (words (V / 256)) := ⟨(hS.rd 1 rfl), hq104.nocap, hq104.caps⟩
       refine G.xg (c := .int .u8 0) (q := ((n - 1) - k) * 1) (toG hA) hM rfl rfl (G.jo rfl rfl rfl (by kernel_rfl) hM 0 rfl (show ((n - 1) - k) * 1 + 1 ≤ n * 1 by omega) rfl) 0 rfl (G.jk (l := G.zw bg (G.lbI n x k)) (i := (n - 1) - k) (by rw [G.xh, G.xi]; omega)) rfl rfl ?_
       intro w124 hM hC9
       replace hq9 := G.jq hq9 hC9
       replace hM : G.Mg w81 w124 [.row G.BY 1 (.slice (some ⟨gx, 0, none⟩) n n) n (Lib.byteCells (G.zw bg (G.lbI n x (k + 1))))] := by
        have h9 := xx (bg := bg) (n := n) (F := x) (k := k) (V := V) (i := (n - 1) - k) (c := 0) (by omega) hV (by rw [hc123]; rfl) (by rw [hz0]; rfl)
        rw [← h9]
        exact hM
       replace hS : St w81 w124 [] [] [] := St.bare hM.bel
       refine qe (hK121 _ _ (wrl (sdo hA (qa rfl) fun a hA => ?_)))
       refine sdo hA (qb rfl) fun a hA => ?_
       refine qe (hK95 _ _ (wrl (sdo hA (qa rfl) fun a hA => ?_)))
       refine sdo (v := .int .i64 (((k + 1 : Nat) : Int))) hA (qg rfl rfl (fun w => (jp (ji (by omega) (by omega)) w).trans (by rw [show (((k : Nat) : Int) + 1 : Int) = ((k + 1 : Nat) : Int) from by omega]))) fun a hA => ?_
       refine sdo hA (qb rfl) fun a hA => ?_
       refine qe ?_
       refine hK90 _ _ _ (by omega) ⟨k + 1, V / 256, qo100, qc101, rfl, ⟨by omega, (by rw [hV, Nat.div_div_eq_div_mul, ← Nat.pow_succ]), hq9, hM⟩, hA.keep _ ⟨rfl, rfl, rfl, rfl, rfl, rfl, rfl, trivial⟩, hS⟩
      ·
       refine wrl ?_
       iterate 3 refine sdo hA (qa rfl) fun a hA => ?_
       refine sdo (v := .pointer (some ⟨gx, (k) * 1, none⟩)) hA (vi (k := k) Tryz.underlying22 (by kernel_rfl) rfl rfl rfl (by omega)) fun a hA => ?_
       have hz0 : V % 256 = 0 := by
        apply Classical.byContradiction
        intro k9
        have := jg.2 k9
        omega
       have hq9 : Sc w107 qo100 qc101 (words (V / 256)) := ⟨(hS.rd 1 rfl), hq104.nocap, hq104.caps⟩
       refine G.xg (c := .int .u8 0) (q := (k) * 1) (toG hA) hM rfl rfl (G.jo rfl rfl rfl (by kernel_rfl) hM 0 rfl (show (k) * 1 + 1 ≤ n * 1 by omega) rfl) 0 rfl (G.jk (l := G.zw bg (G.lbI n x k)) (i := k) (by rw [G.xh, G.xi]; omega)) rfl rfl ?_
       intro w125 hM hC9
       replace hq9 := G.jq hq9 hC9
       replace hM : G.Mg w81 w125 [.row G.BY 1 (.slice (some ⟨gx, 0, none⟩) n n) n (Lib.byteCells (G.zw bg (G.lbI n x (k + 1))))] := by
        have h9 := xx (bg := bg) (n := n) (F := x) (k := k) (V := V) (i := k) (c := 0) (by omega) hV (by rw [hc123]; rfl) (by rw [hz0]; rfl)
        rw [← h9]
        exact hM
       replace hS : St w81 w125 [] [] [] := St.bare hM.bel
       refine qe (hK121 _ _ (wrl (sdo hA (qa rfl) fun a hA => ?_)))
       refine sdo hA (qb rfl) fun a hA => ?_
       refine qe (hK95 _ _ (wrl (sdo hA (qa rfl) fun a hA => ?_)))
       refine sdo (v := .int .i64 (((k + 1 : Nat) : Int))) hA (qg rfl rfl (fun w => (jp (ji (by omega) (by omega)) w).trans (by rw [show (((k : Nat) : Int) + 1 : Int) = ((k + 1 : Nat) : Int) from by omega]))) fun a hA => ?_
       refine sdo hA (qb rfl) fun a hA => ?_
       refine qe ?_
       refine hK90 _ _ _ (by omega) ⟨k + 1, V / 256, qo100, qc101, rfl, ⟨by omega, (by rw [hV, Nat.div_div_eq_div_mul, ← Nat.pow_succ]), hq9, hM⟩, hA.keep _ ⟨rfl, rfl, rfl, rfl, rfl, rfl, rfl, trivial⟩, hS⟩
    ·
     have hb94' := of_decide_eq_false hb94
     refine sdo (v := .bool false) hA (qg rfl rfl (fun w => (zi w).trans (by rw [hb94]))) fun a hA => ?_
     refine qe (hK93 _ _ (wp_cond_false (hA.ev rfl) ?_))
     refine wp_exit (hK87 _ _ (wsk fun K126 hK126 => wrl (sdo hA (qa rfl) fun a hA => ?_)))
     iterate 2 refine sdo hA (qb rfl) fun a hA => ?_
     refine qe (hK126 _ _ (wp_ret (hret _ _ (en2 hA rfl (ql rfl) (ql rfl) ?_))))
     rw [show k = n from by omega, qej] at hM
     exact .inr ⟨⟨hb72', hb76'⟩, gx, rfl, G.Mg.low hW hM (G.qn (by simp) (G.qy G.zd))⟩
 refine je (S := fun w1 => St w w1 [(g35, [.bool false, .slice ro28 ((words (2 ^ (8 * n - 1))).length) rc29, .slice (some ⟨g33, 0, none⟩) 1 1]), (g22, [.bool false, .slice ro15 ((words (2 ^ (8 * n))).length) rc16, .slice (some ⟨g20, 0, none⟩) 1 1]), (g2, [.bool false, .slice a1 ((words x).length) ac1, .slice a2 1 ac2, .bool false, .slice a3 0 ac3, .slice a4 1 ac4])] [(some ⟨g33, 0, none⟩, [1]), (ro28, words (2 ^ (8 * n - 1))), (some ⟨g26, 0, none⟩, [1]), (some ⟨g20, 0, none⟩, [1]), (ro15, words (2 ^ (8 * n))), (some ⟨g13, 0, none⟩, [1]), (a4, [1]), (a3, []), (a2, [1]), (a1, words x)] []) (by kernel_rfl) ?_
 replace hS := hS.drew
 refine qk hA 1 rfl rfl rfl rfl hP hS (fun w1 hS => qw hS GvJ_isS_34 rfl 1 rfl (cs := [.bool false, .slice ro15 ((words (2 ^ (8 * n))).length) rc16, .slice (some ⟨g20, 0, none⟩) 1 1]) rfl rfl) fun a hA => ?_
 refine xj (rs := [0, 2, 3]) (by kernel_rfl) (by simp) ⟨?_, ?_, ?_, trivial⟩
 ·
  refine zm hA 0 rfl rfl rfl rfl (qf  rfl rfl (fun w => by kernel_rfl)) (jw _) ?_
  rintro _ w131 ⟨f127_1, f127_c1, f127_2, f127_c2, rfl, hs128, hs129, hb130⟩
  replace hS := hS.call hb130
  replace hS := hS.addR hs128.rd
  replace hS := hS.addR hs129.rd
  refine ⟨_, rfl, (hS.partD (.refl _) 2 rfl (.refl _)), ?_⟩
  intro a hA
  refine xj (rs := [2, 3]) (by kernel_rfl) (by simp) ⟨?_, ?_, trivial⟩
  ·
   refine jr (vs := [.bool false, .slice none 0 0, .slice none 0 0]) (t := 34) hA hS 2 rfl rfl rfl rfl (fun g => .pointer (some ⟨g, 0, none⟩)) (qp (z := .agg #[.bool false, .slice none 0 0, .slice none 0 0]) (by kernel_rfl) rfl) rfl ?_
   intro g132 w133 hS
   refine ⟨(hS.partD (.cons _ (.cons_cons _ (.cons_cons _ (.cons_cons _ .slnil)))) 2 rfl (.refl _)), ?_⟩
   intro a hA
   refine qt (by kernel_rfl) (jr (vs := [.bool false, .slice none 0 0, .slice none 0 0]) (t := 34) hA hS 3 rfl rfl rfl rfl (fun g => .pointer (some ⟨g, 0, none⟩)) (qp (z := .agg #[.bool false, .slice none 0 0, .slice none 0 0]) (by kernel_rfl) rfl) rfl ?_)
   intro g134 w135 hS
   refine ⟨(hS.partD (.cons _ (.cons _ (.cons_cons _ (.cons_cons _ (.cons_cons _ .slnil))))) 2 rfl (.refl _)), ?_⟩
   intro a hA
   refine qt (by kernel_rfl) (zl (us := [.bool false, .slice f127_1 0 f127_c1, .slice f127_2 1 f127_c2]) hA hS 4 rfl rfl rfl (qr rfl rfl rfl (by kernel_rfl) hS 1 rfl rfl rfl) 1 rfl rfl rfl rfl ?_)
   intro w136 hS
   refine ⟨(hS.partD (.cons _ (.cons _ (.cons_cons _ (.cons_cons _ (.cons_cons _ .slnil))))) 2 rfl (.refl _)), ?_⟩
   refine qt (by kernel_rfl) (zl (us := [.bool false, .slice ro15 ((words (2 ^ (8 * n))).length) rc16, .slice (some ⟨g20, 0, none⟩) 1 1]) hA hS 5 rfl rfl rfl (qr rfl rfl rfl (by kernel_rfl) hS 0 rfl rfl rfl) 0 rfl rfl rfl rfl ?_)
   intro w137 hS
   refine ⟨(hS.partD (.cons _ (.cons _ (.cons_cons _ (.cons_cons _ (.cons_cons _ .slnil))))) 2 rfl (.refl _)), ?_⟩
   refine zn (by kernel_rfl) ?_
   refine hJ60 _ _ ⟨g132, g134, f127_1, f127_c1, f127_2, f127_c2, hA.keep _ ⟨rfl, rfl, rfl, rfl, rfl, rfl, rfl, rfl, rfl, rfl, rfl, rfl, rfl, rfl, rfl, rfl, rfl, rfl, rfl, rfl, rfl, rfl, rfl, rfl, rfl, rfl, rfl, rfl, rfl, rfl, trivial⟩, (St.pickRL hS ⟨⟨0, rfl⟩, ⟨⟨1, rfl⟩, ⟨⟨2, rfl⟩, ⟨⟨3, rfl⟩, ⟨⟨4, rfl⟩, ⟨⟨5, rfl⟩, ⟨⟨6, rfl⟩, ⟨⟨7, rfl⟩, ⟨⟨8, rfl⟩, ⟨⟨9, rfl⟩, ⟨⟨10, rfl⟩, ⟨⟨11, rfl⟩, trivial⟩⟩⟩⟩⟩⟩⟩⟩⟩⟩⟩⟩ [0, 1, 2, 3, 4] rfl (by decide)), hs129.nil, hs129.cap, hs128.nil, hs128.cap⟩
  ·
   refine jr (vs := [.bool false, .slice none 0 0, .slice none 0 0]) (t := 34) hA hS 3 rfl rfl rfl rfl (fun g => .pointer (some ⟨g, 0, none⟩)) (qp (z := .agg #[.bool false, .slice none 0 0, .slice none 0 0]) (by kernel_rfl) rfl) rfl ?_
   intro g138 w139 hS
   refine ⟨(hS.partD (.cons _ (.cons_cons _ (.cons_cons _ (.cons_cons _ .slnil)))) 2 rfl (.refl _)), ?_⟩
   intro a hA
   refine qt (by kernel_rfl) (jr (vs := [.bool false, .slice none 0 0, .slice none 0 0]) (t := 34) hA hS 2 rfl rfl rfl rfl (fun g => .pointer (some ⟨g, 0, none⟩)) (qp (z := .agg #[.bool false, .slice none 0 0, .slice none 0 0]) (by kernel_rfl) rfl) rfl ?_)
   intro g140 w141 hS
   refine ⟨(hS.partD (.cons _ (.cons _ (.cons_cons _ (.cons_cons _ (.cons_cons _ .slnil))))) 2 rfl (.refl _)), ?_⟩
   intro a hA
   refine qt (by kernel_rfl) (zl (us := [.bool false, .slice f127_1 0 f127_c1, .slice f127_2 1 f127_c2]) hA hS 4 rfl rfl rfl (qr rfl rfl rfl (by kernel_rfl) hS 0 rfl rfl rfl) 0 rfl rfl rfl rfl ?_)
   intro w142 hS
   refine ⟨(hS.partD (.cons _ (.cons _ (.cons_cons _ (.cons_cons _ (.cons_cons _ .slnil))))) 2 rfl (.refl _)), ?_⟩
   refine qt (by kernel_rfl) (zl (us := [.bool false, .slice ro15 ((words (2 ^ (8 * n))).length) rc16, .slice (some ⟨g20, 0, none⟩) 1 1]) hA hS 5 rfl rfl rfl (qr rfl rfl rfl (by kernel_rfl) hS 1 rfl rfl rfl) 1 rfl rfl rfl rfl ?_)
   intro w143 hS
   refine ⟨(hS.partD (.cons _ (.cons _ (.cons_cons _ (.cons_cons _ (.cons_cons _ .slnil))))) 2 rfl (.refl _)), ?_⟩
   refine zn (by kernel_rfl) ?_
   refine hJ60 _ _ ⟨g140, g138, f127_1, f127_c1, f127_2, f127_c2, hA.keep _ ⟨rfl, rfl, rfl, rfl, rfl, rfl, rfl, rfl, rfl, rfl, rfl, rfl, rfl, rfl, rfl, rfl, rfl, rfl, rfl, rfl, rfl, rfl, rfl, rfl, rfl, rfl, rfl, rfl, rfl, rfl, trivial⟩, (St.pickRL hS ⟨⟨0, rfl⟩, ⟨⟨1, rfl⟩, ⟨⟨2, rfl⟩, ⟨⟨3, rfl⟩, ⟨⟨4, rfl⟩, ⟨⟨5, rfl⟩, ⟨⟨6, rfl⟩, ⟨⟨7, rfl⟩, ⟨⟨8, rfl⟩, ⟨⟨9, rfl⟩, ⟨⟨10, rfl⟩, ⟨⟨11, rfl⟩, trivial⟩⟩⟩⟩⟩⟩⟩⟩⟩⟩⟩⟩ [1, 0, 2, 3, 4] rfl (by decide)), hs129.nil, hs129.cap, hs128.nil, hs128.cap⟩
 ·
  refine jr (vs := [.bool false, .slice none 0 0, .slice none 0 0]) (t := 34) hA hS 2 rfl rfl rfl rfl (fun g => .pointer (some ⟨g, 0, none⟩)) (qp (z := .agg #[.bool false, .slice none 0 0, .slice none 0 0]) (by kernel_rfl) rfl) rfl ?_
  intro g144 w145 hS
  refine ⟨(hS.partD (.cons _ (.cons_cons _ (.cons_cons _ (.cons_cons _ .slnil)))) 0 rfl (.refl _)), ?_⟩
  intro a hA
  refine xj (rs := [0, 3]) (by kernel_rfl) (by simp) ⟨?_, ?_, trivial⟩
  ·
   refine zm hA 0 rfl rfl rfl rfl (qf  rfl rfl (fun w => by kernel_rfl)) (jw _) ?_
   rintro _ w150 ⟨f146_1, f146_c1, f146_2, f146_c2, rfl, hs147, hs148, hb149⟩
   replace hS := hS.call hb149
   replace hS := hS.addR hs147.rd
   replace hS := hS.addR hs148.rd
   refine ⟨_, rfl, (hS.partD (.cons _ (.cons_cons _ (.cons_cons _ (.cons_cons _ .slnil)))) 2 rfl (.refl _)), ?_⟩
   intro a hA
   refine qt (by kernel_rfl) (jr (vs := [.bool false, .slice none 0 0, .slice none 0 0]) (t := 34) hA hS 3 rfl rfl rfl rfl (fun g => .pointer (some ⟨g, 0, none⟩)) (qp (z := .agg #[.bool false, .slice none 0 0, .slice none 0 0]) (by kernel_rfl) rfl) rfl ?_)
   intro g151 w152 hS
   refine ⟨(hS.partD (.cons _ (.cons _ (.cons_cons _ (.cons_cons _ (.cons_cons _ .slnil))))) 2 rfl (.refl _)), ?_⟩
   intro a hA
   refine qt (by kernel_rfl) (zl (us := [.bool false, .slice f146_1 0 f146_c1, .slice f146_2 1 f146_c2]) hA hS 4 rfl rfl rfl (qr rfl rfl rfl (by kernel_rfl) hS 1 rfl rfl rfl) 1 rfl rfl rfl rfl ?_)
   intro w153 hS
   refine ⟨(hS.partD (.cons _ (.cons _ (.cons_cons _ (.cons_cons _ (.cons_cons _ .slnil))))) 2 rfl (.refl _)), ?_⟩
   refine qt (by kernel_rfl) (zl (us := [.bool false, .slice ro15 ((words (2 ^ (8 * n))).length) rc16, .slice (some ⟨g20, 0, none⟩) 1 1]) hA hS 5 rfl rfl rfl (qr rfl rfl rfl (by kernel_rfl) hS 0 rfl rfl rfl) 0 rfl rfl rfl rfl ?_)
   intro w154 hS
   refine ⟨(hS.partD (.cons _ (.cons _ (.cons_cons _ (.cons_cons _ (.cons_cons _ .slnil))))) 2 rfl (.refl _)), ?_⟩
   refine zn (by kernel_rfl) ?_
   refine hJ60 _ _ ⟨g144, g151, f146_1, f146_c1, f146_2, f146_c2, hA.keep _ ⟨rfl, rfl, rfl, rfl, rfl, rfl, rfl, rfl, rfl, rfl, rfl, rfl, rfl, rfl, rfl, rfl, rfl, rfl, rfl, rfl, rfl, rfl, rfl, rfl, rfl, rfl, rfl, rfl, rfl, rfl, trivial⟩, (St.pickRL hS ⟨⟨0, rfl⟩, ⟨⟨1, rfl⟩, ⟨⟨2, rfl⟩, ⟨⟨3, rfl⟩, ⟨⟨4, rfl⟩, ⟨⟨5, rfl⟩, ⟨⟨6, rfl⟩, ⟨⟨7, rfl⟩, ⟨⟨8, rfl⟩, ⟨⟨9, rfl⟩, ⟨⟨10, rfl⟩, ⟨⟨11, rfl⟩, trivial⟩⟩⟩⟩⟩⟩⟩⟩⟩⟩⟩⟩ [0, 1, 2, 3, 4] rfl (by decide)), hs148.nil, hs148.cap, hs147.nil, hs147.cap⟩
  ·
   refine jr (vs := [.bool false, .slice none 0 0, .slice none 0 0]) (t := 34) hA hS 3 rfl rfl rfl rfl (fun g => .pointer (some ⟨g, 0, none⟩)) (qp (z := .agg #[.bool false, .slice none 0 0, .slice none 0 0]) (by kernel_rfl) rfl) rfl ?_
   intro g155 w156 hS
   refine ⟨(hS.partD (.cons _ (.cons _ (.cons_cons _ (.cons_cons _ (.cons_cons _ .slnil))))) 0 rfl (.refl _)), ?_⟩
   intro a hA
   refine qt (by kernel_rfl) (zm hA 0 rfl rfl rfl rfl (qf  rfl rfl (fun w => by kernel_rfl)) (jw _) ?_)
   rintro _ w161 ⟨f157_1, f157_c1, f157_2, f157_c2, rfl, hs158, hs159, hb160⟩
   replace hS := hS.call hb160
   replace hS := hS.addR hs158.rd
   replace hS := hS.addR hs159.rd
   refine ⟨_, rfl, (hS.partD (.cons _ (.cons _ (.cons_cons _ (.cons_cons _ (.cons_cons _ .slnil))))) 2 rfl (.refl _)), ?_⟩
   intro a hA
   refine qt (by kernel_rfl) (zl (us := [.bool false, .slice f157_1 0 f157_c1, .slice f157_2 1 f157_c2]) hA hS 4 rfl rfl rfl (qr rfl rfl rfl (by kernel_rfl) hS 1 rfl rfl rfl) 1 rfl rfl rfl rfl ?_)
   intro w162 hS
   refine ⟨(hS.partD (.cons _ (.cons _ (.cons_cons _ (.cons_cons _ (.cons_cons _ .slnil))))) 2 rfl (.refl _)), ?_⟩
   refine qt (by kernel_rfl) (zl (us := [.bool false, .slice ro15 ((words (2 ^ (8 * n))).length) rc16, .slice (some ⟨g20, 0, none⟩) 1 1]) hA hS 5 rfl rfl rfl (qr rfl rfl rfl (by kernel_rfl) hS 0 rfl rfl rfl) 0 rfl rfl rfl rfl ?_)
   intro w163 hS
   refine ⟨(hS.partD (.cons _ (.cons _ (.cons_cons _ (.cons_cons _ (.cons_cons _ .slnil))))) 2 rfl (.refl _)), ?_⟩
   refine zn (by kernel_rfl) ?_
   refine hJ60 _ _ ⟨g144, g155, f157_1, f157_c1, f157_2, f157_c2, hA.keep _ ⟨rfl, rfl, rfl, rfl, rfl, rfl, rfl, rfl, rfl, rfl, rfl, rfl, rfl, rfl, rfl, rfl, rfl, rfl, rfl, rfl, rfl, rfl, rfl, rfl, rfl, rfl, rfl, rfl, rfl, rfl, trivial⟩, (St.pickRL hS ⟨⟨0, rfl⟩, ⟨⟨1, rfl⟩, ⟨⟨2, rfl⟩, ⟨⟨3, rfl⟩, ⟨⟨4, rfl⟩, ⟨⟨5, rfl⟩, ⟨⟨6, rfl⟩, ⟨⟨7, rfl⟩, ⟨⟨8, rfl⟩, ⟨⟨9, rfl⟩, ⟨⟨10, rfl⟩, ⟨⟨11, rfl⟩, trivial⟩⟩⟩⟩⟩⟩⟩⟩⟩⟩⟩⟩ [0, 1, 2, 3, 4] rfl (by decide)), hs159.nil, hs159.cap, hs158.nil, hs158.cap⟩
 ·
  refine jr (vs := [.bool false, .slice none 0 0, .slice none 0 0]) (t := 34) hA hS 3 rfl rfl rfl rfl (fun g => .pointer (some ⟨g, 0, none⟩)) (qp (z := .agg #[.bool false, .slice none 0 0, .slice none 0 0]) (by kernel_rfl) rfl) rfl ?_
  intro g164 w165 hS
  refine ⟨(hS.partD (.cons _ (.cons_cons _ (.cons_cons _ (.cons_cons _ .slnil)))) 0 rfl (.refl _)), ?_⟩
  intro a hA
  refine xj (rs := [0, 2]) (by kernel_rfl) (by simp) ⟨?_, ?_, trivial⟩
  ·
   refine zm hA 0 rfl rfl rfl rfl (qf  rfl rfl (fun w => by kernel_rfl)) (jw _) ?_
   rintro _ w170 ⟨f166_1, f166_c1, f166_2, f166_c2, rfl, hs167, hs168, hb169⟩
   replace hS := hS.call hb169
   replace hS := hS.addR hs167.rd
   replace hS := hS.addR hs168.rd
   refine ⟨_, rfl, (hS.partD (.cons _ (.cons_cons _ (.cons_cons _ (.cons_cons _ .slnil)))) 2 rfl (.refl _)), ?_⟩
   intro a hA
   refine qt (by kernel_rfl) (jr (vs := [.bool false, .slice none 0 0, .slice none 0 0]) (t := 34) hA hS 2 rfl rfl rfl rfl (fun g => .pointer (some ⟨g, 0, none⟩)) (qp (z := .agg #[.bool false, .slice none 0 0, .slice none 0 0]) (by kernel_rfl) rfl) rfl ?_)
   intro g171 w172 hS
   refine ⟨(hS.partD (.cons _ (.cons _ (.cons_cons _ (.cons_cons _ (.cons_cons _ .slnil))))) 2 rfl (.refl _)), ?_⟩
   intro a hA
   refine qt (by kernel_rfl) (zl (us := [.bool false, .slice f166_1 0 f166_c1, .slice f166_2 1 f166_c2]) hA hS 4 rfl rfl rfl (qr rfl rfl rfl (by kernel_rfl) hS 0 rfl rfl rfl) 0 rfl rfl rfl rfl ?_)
   intro w173 hS
   refine ⟨(hS.partD (.cons _ (.cons _ (.cons_cons _ (.cons_cons _ (.cons_cons _ .slnil))))) 2 rfl (.refl _)), ?_⟩
   refine qt (by kernel_rfl) (zl (us := [.bool false, .slice ro15 ((words (2 ^ (8 * n))).length) rc16, .slice (some ⟨g20, 0, none⟩) 1 1]) hA hS 5 rfl rfl rfl (qr rfl rfl rfl (by kernel_rfl) hS 1 rfl rfl rfl) 1 rfl rfl rfl rfl ?_)
   intro w174 hS
   refine ⟨(hS.partD (.cons _ (.cons _ (.cons_cons _ (.cons_cons _ (.cons_cons _ .slnil))))) 2 rfl (.refl _)), ?_⟩
   refine zn (by kernel_rfl) ?_
   refine hJ60 _ _ ⟨g171, g164, f166_1, f166_c1, f166_2, f166_c2, hA.keep _ ⟨rfl, rfl, rfl, rfl, rfl, rfl, rfl, rfl, rfl, rfl, rfl, rfl, rfl, rfl, rfl, rfl, rfl, rfl, rfl, rfl, rfl, rfl, rfl, rfl, rfl, rfl, rfl, rfl, rfl, rfl, trivial⟩, (St.pickRL hS ⟨⟨0, rfl⟩, ⟨⟨1, rfl⟩, ⟨⟨2, rfl⟩, ⟨⟨3, rfl⟩, ⟨⟨4, rfl⟩, ⟨⟨5, rfl⟩, ⟨⟨6, rfl⟩, ⟨⟨7, rfl⟩, ⟨⟨8, rfl⟩, ⟨⟨9, rfl⟩, ⟨⟨10, rfl⟩, ⟨⟨11, rfl⟩, trivial⟩⟩⟩⟩⟩⟩⟩⟩⟩⟩⟩⟩ [1, 0, 2, 3, 4] rfl (by decide)), hs168.nil, hs168.cap, hs167.nil, hs167.cap⟩
  ·
   refine jr (vs := [.bool false, .slice none 0 0, .slice none 0 0]) (t := 34) hA hS 2 rfl rfl rfl rfl (fun g => .pointer (some ⟨g, 0, none⟩)) (qp (z := .agg #[.bool false, .slice none 0 0, .slice none 0 0]) (by kernel_rfl) rfl) rfl ?_
   intro g175 w176 hS
   refine ⟨(hS.partD (.cons _ (.cons _ (.cons_cons _ (.cons_cons _ (.cons_cons _ .slnil))))) 0 rfl (.refl _)), ?_⟩
   intro a hA
   refine qt (by kernel_rfl) (zm hA 0 rfl rfl rfl rfl (qf  rfl rfl (fun w => by kernel_rfl)) (jw _) ?_)
   rintro _ w181 ⟨f177_1, f177_c1, f177_2, f177_c2, rfl, hs178, hs179, hb180⟩
   replace hS := hS.call hb180
   replace hS := hS.addR hs178.rd
   replace hS := hS.addR hs179.rd
   refine ⟨_, rfl, (hS.partD (.cons _ (.cons _ (.cons_cons _ (.cons_cons _ (.cons_cons _ .slnil))))) 2 rfl (.refl _)), ?_⟩
   intro a hA
   refine qt (by kernel_rfl) (zl (us := [.bool false, .slice f177_1 0 f177_c1, .slice f177_2 1 f177_c2]) hA hS 4 rfl rfl rfl (qr rfl rfl rfl (by kernel_rfl) hS 0 rfl rfl rfl) 0 rfl rfl rfl rfl ?_)
   intro w182 hS
   refine ⟨(hS.partD (.cons _ (.cons _ (.cons_cons _ (.cons_cons _ (.cons_cons _ .slnil))))) 2 rfl (.refl _)), ?_⟩
   refine qt (by kernel_rfl) (zl (us := [.bool false, .slice ro15 ((words (2 ^ (8 * n))).length) rc16, .slice (some ⟨g20, 0, none⟩) 1 1]) hA hS 5 rfl rfl rfl (qr rfl rfl rfl (by kernel_rfl) hS 1 rfl rfl rfl) 1 rfl rfl rfl rfl ?_)
   intro w183 hS
   refine ⟨(hS.partD (.cons _ (.cons _ (.cons_cons _ (.cons_cons _ (.cons_cons _ .slnil))))) 2 rfl (.refl _)), ?_⟩
   refine zn (by kernel_rfl) ?_
   refine hJ60 _ _ ⟨g175, g164, f177_1, f177_c1, f177_2, f177_c2, hA.keep _ ⟨rfl, rfl, rfl, rfl, rfl, rfl, rfl, rfl, rfl, rfl, rfl, rfl, rfl, rfl, rfl, rfl, rfl, rfl, rfl, rfl, rfl, rfl, rfl, rfl, rfl, rfl, rfl, rfl, rfl, rfl, trivial⟩, (St.pickRL hS ⟨⟨0, rfl⟩, ⟨⟨1, rfl⟩, ⟨⟨2, rfl⟩, ⟨⟨3, rfl⟩, ⟨⟨4, rfl⟩, ⟨⟨5, rfl⟩, ⟨⟨6, rfl⟩, ⟨⟨7, rfl⟩, ⟨⟨8, rfl⟩, ⟨⟨9, rfl⟩, ⟨⟨10, rfl⟩, ⟨⟨11, rfl⟩, trivial⟩⟩⟩⟩⟩⟩⟩⟩⟩⟩⟩⟩ [1, 0, 2, 3, 4] rfl (by decide)), hs179.nil, hs179.cap, hs178.nil, hs178.cap⟩
theorem ul {w : World} {x n : Nat} {a1 a2 a3 a4 : Option Addr} {ac1 ac2 ac3 ac4 : Nat} (ha : Nm w (Q6.whole false x) a1 ac1 a2 ac2 a3 ac3 a4 ac4) (hx : (words x).length ≤ 512) (h1 : 1 ≤ n) (h64 : n ≤ 64) (bg : Bool) (hbx : false.toNat ≤ x) (hlg : oI (sgn false x + sgn false (2 ^ (8 * n - 1))) < 0 ∨ 0 ≤ oI (sgn false x + sgn true (2 ^ (8 * n - 1)))) : Calls Tryz.prog 15 #[.int .i64 ((n : Nat) : Int), .bool bg, .bool true, xy (Q6.whole false x) a1 ac1 a2 ac2 a3 ac3 a4 ac4] w fun e w' => e = .returned (.tuple #[.slice none 0 0, .int .i64 4]) ∧ Below w.heap.size w w' := by
 refine Calls.mono (uj ha hx h1 h64 bg hbx) ?_
 rintro e w' (h | ⟨h, _⟩)
 ·
  exact h.2
 ·
  exact (hlg.elim h.1 h.2).elim
theorem qcb {w : World} {x n : Nat} {a1 a2 a3 a4 : Option Addr} {ac1 ac2 ac3 ac4 : Nat} (ha : Nm w (Q6.whole false x) a1 ac1 a2 ac2 a3 ac3 a4 ac4) (hx : (words x).length ≤ 512) (h1 : 1 ≤ n) (h64 : n ≤ 64) (bg : Bool) (hbx : false.toNat ≤ x) (h9 : ¬ oI (sgn false x + sgn false (2 ^ (8 * n - 1))) < 0 ∧ ¬ 0 ≤ oI (sgn false x + sgn true (2 ^ (8 * n - 1)))) : Calls Tryz.prog 15 #[.int .i64 ((n : Nat) : Int), .bool bg, .bool true, xy (Q6.whole false x) a1 ac1 a2 ac2 a3 ac3 a4 ac4] w fun e w' => ∃ g, e = .returned (.tuple #[.slice (some ⟨g, 0, none⟩) n n, .int .i64 0]) ∧ G.Mg w w' [.row G.BY 1 (.slice (some ⟨g, 0, none⟩) n n) n (Lib.byteCells (G.zw bg (G.leB n x)))] := by
 refine Calls.mono (uj ha hx h1 h64 bg hbx) ?_
 rintro e w' (⟨h, _⟩ | h)
 ·
  exact (h.elim h9.1 h9.2).elim
 ·
  exact h.2
set_option maxHeartbeats 1000000 in
theorem qab {w : World} {x n : Nat} {a1 a2 a3 a4 : Option Addr} {ac1 ac2 ac3 ac4 : Nat} (ha : Nm w (Q6.whole true x) a1 ac1 a2 ac2 a3 ac3 a4 ac4) (hx : (words x).length ≤ 512) (h1 : 1 ≤ n) (h64 : n ≤ 64) (bg : Bool) (hbx : true.toNat ≤ x) : Calls Tryz.prog 15 #[.int .i64 ((n : Nat) : Int), .bool bg, .bool true, xy (Q6.whole true x) a1 ac1 a2 ac2 a3 ac3 a4 ac4] w fun e w' => ((oI (sgn true x + sgn false (2 ^ (8 * n - 1))) < 0 ∨ 0 ≤ oI (sgn true x + sgn true (2 ^ (8 * n - 1)))) ∧ e = .returned (.tuple #[.slice none 0 0, .int .i64 4]) ∧ Below w.heap.size w w') ∨ ((¬ oI (sgn true x + sgn false (2 ^ (8 * n - 1))) < 0 ∧ ¬ 0 ≤ oI (sgn true x + sgn true (2 ^ (8 * n - 1)))) ∧ ∃ g, e = .returned (.tuple #[.slice (some ⟨g, 0, none⟩) n n, .int .i64 0]) ∧ G.Mg w w' [.row G.BY 1 (.slice (some ⟨g, 0, none⟩) n n) n (Lib.byteCells (G.zw bg (G.leB n (2 ^ (8 * n) - x))))]) := by
 have hl8 : (words (2 ^ (8 * n))).length ≤ 512 := by rw [kw]; exact G.jx h64 (Nat.le_refl _)
 have hl7 : (words (2 ^ (8 * n - 1))).length ≤ 512 := Nat.le_trans (words_mono (Nat.pow_le_pow_right (by decide) (Nat.sub_le _ _))) hl8
 have hp7 : 2 ^ (8 * n) = 2 * 2 ^ (8 * n - 1) := by rw [← Nat.pow_succ']; congr 1; omega
 have hs : xk (Q6.whole true x) = true := xz hx hbx
 have hwh : xd (Q6.whole true x) = true := kd hx hbx
 have hbx1 : true.toNat = 1 := rfl
 have hFl : (words (2 ^ (8 * n) - x)).length ≤ 512 := Nat.le_trans (words_mono (Nat.sub_le _ _)) hl8
 have hS : St w w [] [(a4, [1]), (a3, []), (a2, [1]), (a1, words x)] [] := ((((St.start w).addR ha.s1.rd).addR ha.s2.rd).addR ha.s3.rd).addR ha.s4.rd
 refine za (l := [(0, .int .i64 (((n : Nat) : Int))), (1, .bool bg), (2, .bool true), (3, .agg #[.bool true, .slice a1 ((words x).length) ac1, .slice a2 1 ac2, .bool false, .slice a3 0 ac3, .slice a4 1 ac4])]) Tryz.func15 rfl Tryz.ntmps15 rfl rfl ?_
 intro Q hret hnorm hP a hA
 refine wsk fun K1 hK1 => wrl (ze hA hS rfl rfl rfl (fun g => .pointer (some ⟨g, 0, none⟩)) (zf rfl rfl) rfl ?_)
 intro g2 w3 hS a hA
 iterate 2 refine sdo hA (qb rfl) fun a hA => ?_
 refine qe (hK1 _ _ (wsk fun K4 hK4 => wsk fun K5 hK5 => wrl (sdo hA (qw hS GvJ_isS_36 rfl 0 rfl (cs := [.bool true, .slice a1 ((words x).length) ac1, .slice a2 1 ac2, .bool false, .slice a3 0 ac3, .slice a4 1 ac4]) rfl rfl) fun a hA => ?_)))
 refine qi hA rfl rfl rfl (qf  rfl rfl (fun w => by kernel_rfl)) (vp (show Nm _ _ a1 ac1 a2 ac2 a3 ac3 a4 ac4 from ⟨⟨(hS.rd 3 rfl), ha.s1.nil, ha.s1.cap⟩, ⟨(hS.rd 2 rfl), ha.s2.nil, ha.s2.cap⟩, ⟨(hS.rd 1 rfl), ha.s3.nil, ha.s3.cap⟩, ⟨(hS.rd 0 rfl), ha.s4.nil, ha.s4.cap⟩⟩) (jl hx) hs) ?_
 rintro _ w7 ⟨rfl, hb6⟩
 replace hS := hS.call hb6
 refine ⟨_, rfl, ?_⟩
 intro a hA
 refine sdo (v := .bool false) hA (zp rfl zu) fun a hA => ?_
 refine qe (hK5 _ _ (wp_cond_false (hA.ev rfl) ?_))
 refine wp_skip (hK4 _ _ (wsk fun K8 hK8 => wsk fun K9 hK9 => wrl (sdo hA (qw hS GvJ_isS_36 rfl 0 rfl (cs := [.bool true, .slice a1 ((words x).length) ac1, .slice a2 1 ac2, .bool false, .slice a3 0 ac3, .slice a4 1 ac4]) rfl rfl) fun a hA => ?_)))
 refine qi hA rfl rfl rfl (qf  rfl rfl (fun w => by kernel_rfl)) (yp (q := Q6.whole true x) (show Nm _ _ a1 ac1 a2 ac2 a3 ac3 a4 ac4 from ⟨⟨(hS.rd 3 rfl), ha.s1.nil, ha.s1.cap⟩, ⟨(hS.rd 2 rfl), ha.s2.nil, ha.s2.cap⟩, ⟨(hS.rd 1 rfl), ha.s3.nil, ha.s3.cap⟩, ⟨(hS.rd 0 rfl), ha.s4.nil, ha.s4.cap⟩⟩) (jl hx) hwh) ?_
 rintro _ w11 ⟨rfl, hb10⟩
 replace hS := hS.call hb10
 refine ⟨_, rfl, ?_⟩
 intro a hA
 refine sdo (v := .bool false) hA (zp rfl zu) fun a hA => ?_
 refine qe (hK9 _ _ (wp_cond_false (hA.ev rfl) ?_))
 refine wp_skip (hK8 _ _ (wsk fun K12 hK12 => wrl (jf (us := [1]) (t := 51) (m := 1) hA hS rfl rfl rfl (qx rfl (by kernel_rfl)) (by simp [Dig]) ?_)))
 intro g13 w14 hS a hA
 refine sdo hA (qa rfl) fun a hA => ?_
 refine sdo (v := .int .i64 (((8 * n : Nat) : Int))) hA (qg rfl rfl (ar_mul ((in_i64 (by omega) (by omega)).trans (by omega)))) fun a hA => ?_
 refine qi hA rfl rfl rfl (qf  rfl rfl (fun w => by kernel_rfl)) (qvd _ (hS.rd 0 rfl) (n := 8 * n) (by omega)) ?_
 rintro _ w19 ⟨ro15, rc16, rfl, ho17, hb18⟩
 replace hS := hS.call hb18
 replace hS := hS.addR ho17.rd
 refine ⟨_, rfl, ?_⟩
 intro a hA
 refine jf (us := [1]) (t := 51) (m := 1) hA hS rfl rfl rfl (qx rfl (by kernel_rfl)) (by simp [Dig]) ?_
 intro g20 w21 hS a hA
 refine sdo (v := .agg #[.bool false, .slice ro15 ((words (2 ^ (8 * n))).length) rc16, .slice (some ⟨g20, 0, none⟩) 1 1]) hA (zj rfl (fun w => by kernel_rfl)) fun a hA => ?_
 refine ze (vs := [.bool false, .slice none 0 0, .slice none 0 0]) (t := 34) hA hS rfl rfl rfl (fun g => .pointer (some ⟨g, 0, none⟩)) (qp (z := .agg #[.bool false, .slice none 0 0, .slice none 0 0]) (by kernel_rfl) rfl) rfl ?_
 intro g22 w23 hS a hA
 refine zq (us := [.bool false, .slice ro15 ((words (2 ^ (8 * n))).length) rc16, .slice (some ⟨g20, 0, none⟩) 1 1]) hA hS rfl rfl (qr rfl rfl rfl (by kernel_rfl) hS 0 rfl rfl rfl) 0 rfl rfl rfl rfl ?_
 intro w24 hS
 refine qe (hK12 _ _ (wsk fun K25 hK25 => wrl (jf (us := [1]) (t := 51) (m := 1) hA hS rfl rfl rfl (qx rfl (by kernel_rfl)) (by simp [Dig]) ?_)))
 intro g26 w27 hS a hA
 refine sdo hA (qa rfl) fun a hA => ?_
 refine sdo (v := .int .i64 (((8 * n : Nat) : Int))) hA (qg rfl rfl (ar_mul ((in_i64 (by omega) (by omega)).trans (by omega)))) fun a hA => ?_
 refine sdo (v := .int .i64 (((8 * n - 1 : Nat) : Int))) hA (qg rfl rfl (fun w => (jy (ji (by omega) (by omega)) w).trans (by rw [show (((8 * n : Nat) : Int) - 1 : Int) = ((8 * n - 1 : Nat) : Int) from by omega]))) fun a hA => ?_
 refine qi hA rfl rfl rfl (qf  rfl rfl (fun w => by kernel_rfl)) (qvd _ (hS.rd 0 rfl) (n := 8 * n - 1) (by omega)) ?_
 rintro _ w32 ⟨ro28, rc29, rfl, ho30, hb31⟩
 replace hS := hS.call hb31
 replace hS := hS.addR ho30.rd
 refine ⟨_, rfl, ?_⟩
 intro a hA
 refine jf (us := [1]) (t := 51) (m := 1) hA hS rfl rfl rfl (qx rfl (by kernel_rfl)) (by simp [Dig]) ?_
 intro g33 w34 hS a hA
 refine sdo (v := .agg #[.bool false, .slice ro28 ((words (2 ^ (8 * n - 1))).length) rc29, .slice (some ⟨g33, 0, none⟩) 1 1]) hA (zj rfl (fun w => by kernel_rfl)) fun a hA => ?_
 refine ze (vs := [.bool false, .slice none 0 0, .slice none 0 0]) (t := 34) hA hS rfl rfl rfl (fun g => .pointer (some ⟨g, 0, none⟩)) (qp (z := .agg #[.bool false, .slice none 0 0, .slice none 0 0]) (by kernel_rfl) rfl) rfl ?_
 intro g35 w36 hS a hA
 refine zq (us := [.bool false, .slice ro28 ((words (2 ^ (8 * n - 1))).length) rc29, .slice (some ⟨g33, 0, none⟩) 1 1]) hA hS rfl rfl (qr rfl rfl rfl (by kernel_rfl) hS 0 rfl rfl rfl) 0 rfl rfl rfl rfl ?_
 intro w37 hS
 refine qe (hK25 _ _ (wsk fun K38 hK38 => ?_))
 have hJ60 : ∀ a w1, (∃ (J50g : Nat) (J51g : Nat) (J52 : Option Addr) (J53 : Nat) (J54 : Option Addr) (J55 : Nat), Sl a 101 [(0, .int .i64 (((n : Nat) : Int))), (1, .bool bg), (2, .bool true), (3, .agg #[.bool true, .slice a1 ((words x).length) ac1, .slice a2 1 ac2, .bool false, .slice a3 0 ac3, .slice a4 1 ac4]), (7, .pointer (some ⟨g2, 0, none⟩)), (8, .slice none 0 0), (9, .int .i64 0), (10, .pointer (some ⟨g22, 0, none⟩)), (11, .pointer (some ⟨g35, 0, none⟩)), (12, .pointer (some ⟨J50g, 0, none⟩)), (13, .pointer (some ⟨J51g, 0, none⟩)), (21, .agg #[.bool true, .slice a1 ((words x).length) ac1, .slice a2 1 ac2, .bool false, .slice a3 0 ac3, .slice a4 1 ac4]), (22, .bool true), (23, .bool false), (24, .agg #[.bool true, .slice a1 ((words x).length) ac1, .slice a2 1 ac2, .bool false, .slice a3 0 ac3, .slice a4 1 ac4]), (25, .bool true), (26, .bool false), (27, .slice (some ⟨g13, 0, none⟩) 1 1), (28, .int .i64 (((n : Nat) : Int))), (29, .int .i64 (((8 * n : Nat) : Int))), (30, .slice ro15 ((words (2 ^ (8 * n))).length) rc16), (31, .slice (some ⟨g20, 0, none⟩) 1 1), (32, .agg #[.bool false, .slice ro15 ((words (2 ^ (8 * n))).length) rc16, .slice (some ⟨g20, 0, none⟩) 1 1]), (33, .slice (some ⟨g26, 0, none⟩) 1 1), (34, .int .i64 (((n : Nat) : Int))), (35, .int .i64 (((8 * n : Nat) : Int))), (36, .int .i64 (((8 * n - 1 : Nat) : Int))), (37, .slice ro28 ((words (2 ^ (8 * n - 1))).length) rc29), (38, .slice (some ⟨g33, 0, none⟩) 1 1), (39, .agg #[.bool false, .slice ro28 ((words (2 ^ (8 * n - 1))).length) rc29, .slice (some ⟨g33, 0, none⟩) 1 1])] ∧ St w w1 [(J51g, [.bool false, .slice ro15 ((words (2 ^ (8 * n))).length) rc16, .slice (some ⟨g20, 0, none⟩) 1 1]), (J50g, [.bool false, .slice J52 0 J53, .slice J54 1 J55]), (g35, [.bool false, .slice ro28 ((words (2 ^ (8 * n - 1))).length) rc29, .slice (some ⟨g33, 0, none⟩) 1 1]), (g22, [.bool false, .slice ro15 ((words (2 ^ (8 * n))).length) rc16, .slice (some ⟨g20, 0, none⟩) 1 1]), (g2, [.bool true, .slice a1 ((words x).length) ac1, .slice a2 1 ac2, .bool false, .slice a3 0 ac3, .slice a4 1 ac4])] [(J54, [1]), (J52, []), (some ⟨g33, 0, none⟩, [1]), (ro28, words (2 ^ (8 * n - 1))), (some ⟨g26, 0, none⟩, [1]), (some ⟨g20, 0, none⟩, [1]), (ro15, words (2 ^ (8 * n))), (some ⟨g13, 0, none⟩, [1]), (a4, [1]), (a3, []), (a2, [1]), (a1, words x)] [] ∧ (J54 = none → J55 = 0) ∧ ([1] : List Nat).length ≤ J55 ∧ (J52 = none → J53 = 0) ∧ ([] : List Nat).length ≤ J53) → K38 a w1 := by
  clear hA hS
  rintro a w61 ⟨J50g, J51g, J52, J53, J54, J55, hA, hS, hn56, hc57, hn58, hc59⟩
  refine hK38 _ _ (wsk fun K62 hK62 => wsk fun K63 hK63 => wrl (sdo hA (qa rfl) fun a hA => ?_))
  refine qe (hK63 _ _ (wp_cond_true (hA.ev rfl) ?_))
  refine je (S := fun w1 => St w w1 [(g35, [.bool false, .slice ro28 ((words (2 ^ (8 * n - 1))).length) rc29, .slice (some ⟨g33, 0, none⟩) 1 1]), (g22, [.bool false, .slice ro15 ((words (2 ^ (8 * n))).length) rc16, .slice (some ⟨g20, 0, none⟩) 1 1]), (g2, [.bool true, .slice a1 ((words x).length) ac1, .slice a2 1 ac2, .bool false, .slice a3 0 ac3, .slice a4 1 ac4])] [(J54, [1]), (J52, []), (some ⟨g33, 0, none⟩, [1]), (ro28, words (2 ^ (8 * n - 1))), (some ⟨g26, 0, none⟩, [1]), (some ⟨g20, 0, none⟩, [1]), (ro15, words (2 ^ (8 * n))), (some ⟨g13, 0, none⟩, [1]), (a4, [1]), (a3, []), (a2, [1]), (a1, words x)] []) (by kernel_rfl) ?_
  replace hS := hS.drew
  refine qk hA 0 rfl rfl rfl rfl hP (hS.partD (.cons _ (.cons _ (.cons_cons _ (.cons_cons _ (.cons_cons _ .slnil))))) 0 rfl (.refl _)) (fun w1 hS => qw hS GvJ_isS_34 rfl 0 rfl (cs := [.bool false, .slice ro28 ((words (2 ^ (8 * n - 1))).length) rc29, .slice (some ⟨g33, 0, none⟩) 1 1]) rfl rfl) fun a hA => ?_
  refine qk hA 2 rfl rfl rfl rfl hP (hS.partD (.cons _ (.cons _ (.cons_cons _ (.cons_cons _ (.cons_cons _ .slnil))))) 0 rfl (.refl _)) (fun w1 hS => qw hS GvJ_isS_34 rfl 0 rfl (cs := [.bool false, .slice ro28 ((words (2 ^ (8 * n - 1))).length) rc29, .slice (some ⟨g33, 0, none⟩) 1 1]) rfl rfl) fun a hA => ?_
  refine qt (by kernel_rfl) (zm hA 1 rfl rfl rfl rfl (qf  rfl rfl (fun w => by kernel_rfl)) (kj (r := true) (by rw [decide_eq_true (jg.2 (Nat.pos_iff_ne_zero.1 (Nat.two_pow_pos _)))]; rfl)) ?_)
  rintro _ w65 ⟨rfl, hb64⟩
  replace hS := hS.call hb64
  refine ⟨_, rfl, (hS.partD (.cons _ (.cons _ (.cons_cons _ (.cons_cons _ (.cons_cons _ .slnil))))) 0 rfl (.refl _)), ?_⟩
  intro a hA
  refine qt (by kernel_rfl) (zl (us := [.bool true, .slice ro28 ((words (2 ^ (8 * n - 1))).length) rc29, .slice (some ⟨g33, 0, none⟩) 1 1]) hA hS 3 rfl rfl rfl (qr rfl rfl rfl (by kernel_rfl) hS 1 rfl rfl rfl) 1 rfl rfl rfl rfl ?_)
  intro w66 hS
  refine ⟨(hS.partD (.cons _ (.cons _ (.cons_cons _ (.cons_cons _ (.cons_cons _ .slnil))))) 0 rfl (.refl _)), ?_⟩
  refine qt (by kernel_rfl) (zl (us := [.bool false, .slice ro28 ((words (2 ^ (8 * n - 1))).length) rc29, .slice (some ⟨g33, 0, none⟩) 1 1]) hA hS 4 rfl rfl rfl (qr rfl rfl rfl (by kernel_rfl) hS 0 rfl rfl rfl) 0 rfl rfl rfl rfl ?_)
  intro w67 hS
  refine ⟨(hS.partD (.cons _ (.cons _ (.cons_cons _ (.cons_cons _ (.cons_cons _ .slnil))))) 0 rfl (.refl _)), ?_⟩
  refine zn (by kernel_rfl) ?_
  refine hK62 _ _ (wsk fun K68 hK68 => wsk fun K69 hK69 => wrl (sdo (v := .pointer (some ⟨g2, 0, none⟩)) hA (qh GvJ_fld_36_0 rfl rfl) fun a hA => ?_))
  refine sdo hA (qw hS GvJ_isS_34 rfl 4 rfl (cs := [.bool true, .slice a1 ((words x).length) ac1, .slice a2 1 ac2]) rfl rfl) fun a hA => ?_
  refine sdo hA (qw hS GvJ_isS_34 rfl 1 rfl (cs := [.bool true, .slice ro28 ((words (2 ^ (8 * n - 1))).length) rc29, .slice (some ⟨g33, 0, none⟩) 1 1]) rfl rfl) fun a hA => ?_
  refine qi hA rfl rfl rfl (qf  rfl rfl (fun w => by kernel_rfl)) (qbb (b1 := true) (b2 := true) (b3 := false) (x := x) (y := 2 ^ (8 * n - 1)) ⟨(hS.rd 11 rfl), ha.s1.nil, ha.s1.cap⟩ ⟨(hS.rd 10 rfl), ha.s2.nil, ha.s2.cap⟩ ⟨(hS.rd 3 rfl), ho30.nocap, ho30.caps⟩ ⟨(hS.rd 2 rfl), (fun h => by cases h), (Nat.le_refl _)⟩ rfl rfl hx hl7 rfl rfl) ?_
  rintro _ w71 ⟨rfl, hb70⟩
  replace hS := hS.call hb70
  refine ⟨_, rfl, ?_⟩
  intro a hA
  rcases tf (decide (oI (sgn true x + sgn false (2 ^ (8 * n - 1))) < 0)) with hb72 | hb72
  ·
   have hb72' := of_decide_eq_true hb72
   refine sdo (v := .bool true) hA (qg rfl rfl (fun w => (zi w).trans (by rw [hb72]))) fun a hA => ?_
   refine sdo hA (qa rfl) fun a hA => ?_
   iterate 5 refine zg hA rfl rfl rfl fun a hA => ?_
   refine sdo (v := .bool true) hA (qj rfl rfl rfl rfl) fun a hA => ?_
   refine qe (hK69 _ _ (wp_cond_true (hA.ev rfl) ?_))
   refine wsk fun K73 hK73 => wrl ?_
   iterate 2 refine sdo hA (qb rfl) fun a hA => ?_
   refine qe (hK73 _ _ (wp_ret (hret _ _ (en2 hA rfl (ql rfl) (ql rfl) ?_))))
   exact .inl ⟨.inl hb72', rfl, hS.bel⟩
  ·
   have hb72' := of_decide_eq_false hb72
   refine sdo (v := .bool false) hA (qg rfl rfl (fun w => (zi w).trans (by rw [hb72]))) fun a hA => ?_
   refine sdo hA (qa rfl) fun a hA => ?_
   refine sdo (v := .pointer (some ⟨g2, 0, none⟩)) hA (qh GvJ_fld_36_0 rfl rfl) fun a hA => ?_
   refine sdo hA (qw hS GvJ_isS_34 rfl 4 rfl (cs := [.bool true, .slice a1 ((words x).length) ac1, .slice a2 1 ac2]) rfl rfl) fun a hA => ?_
   refine sdo hA (qw hS GvJ_isS_34 rfl 0 rfl (cs := [.bool false, .slice ro28 ((words (2 ^ (8 * n - 1))).length) rc29, .slice (some ⟨g33, 0, none⟩) 1 1]) rfl rfl) fun a hA => ?_
   refine qi hA rfl rfl rfl (qf  rfl rfl (fun w => by kernel_rfl)) (qbb (b1 := true) (b2 := false) (b3 := true) (x := x) (y := 2 ^ (8 * n - 1)) ⟨(hS.rd 11 rfl), ha.s1.nil, ha.s1.cap⟩ ⟨(hS.rd 10 rfl), ha.s2.nil, ha.s2.cap⟩ ⟨(hS.rd 3 rfl), ho30.nocap, ho30.caps⟩ ⟨(hS.rd 2 rfl), (fun h => by cases h), (Nat.le_refl _)⟩ rfl rfl hx hl7 (by rw [decide_eq_true (jg.2 (Nat.pos_iff_ne_zero.1 (Nat.two_pow_pos _)))]; rfl) rfl) ?_
   rintro _ w75 ⟨rfl, hb74⟩
   replace hS := hS.call hb74
   refine ⟨_, rfl, ?_⟩
   intro a hA
   rcases tf (decide (0 ≤ oI (sgn true x + sgn true (2 ^ (8 * n - 1))))) with hb76 | hb76
   ·
    have hb76' := of_decide_eq_true hb76
    refine sdo (v := .bool true) hA (qg rfl rfl (fun w => (ju w).trans (by rw [hb76]))) fun a hA => ?_
    refine sdo (v := .bool true) hA (qj rfl rfl rfl rfl) fun a hA => ?_
    refine qe (hK69 _ _ (wp_cond_true (hA.ev rfl) ?_))
    refine wsk fun K77 hK77 => wrl ?_
    iterate 2 refine sdo hA (qb rfl) fun a hA => ?_
    refine qe (hK77 _ _ (wp_ret (hret _ _ (en2 hA rfl (ql rfl) (ql rfl) ?_))))
    exact .inl ⟨.inr hb76', rfl, hS.bel⟩
   ·
    have hb76' := of_decide_eq_false hb76
    refine sdo (v := .bool false) hA (qg rfl rfl (fun w => (ju w).trans (by rw [hb76]))) fun a hA => ?_
    refine sdo (v := .bool false) hA (qj rfl rfl rfl rfl) fun a hA => ?_
    refine qe (hK69 _ _ (wp_cond_false (hA.ev rfl) ?_))
    refine wp_skip (hK68 _ _ (wsk fun K78 hK78 => wrl (sdo (v := .pointer (some ⟨g2, 0, none⟩)) hA (qh GvJ_fld_36_0 rfl rfl) fun a hA => ?_)))
    refine sdo hA (qw hS GvJ_isS_34 rfl 4 rfl (cs := [.bool true, .slice a1 ((words x).length) ac1, .slice a2 1 ac2]) rfl rfl) fun a hA => ?_
    refine ze (vs := [.bool false, .slice none 0 0, .slice none 0 0]) (t := 34) hA hS rfl rfl rfl (fun g => .pointer (some ⟨g, 0, none⟩)) (qp (z := .agg #[.bool false, .slice none 0 0, .slice none 0 0]) (by kernel_rfl) rfl) rfl ?_
    intro g79 w80 hS a hA
    refine zq (us := [.bool true, .slice a1 ((words x).length) ac1, .slice a2 1 ac2]) hA hS rfl rfl (qr rfl rfl rfl (by kernel_rfl) hS 0 rfl rfl rfl) 0 rfl rfl rfl rfl ?_
    intro w81 hS
    refine qe (hK78 _ _ (wsk fun K82 hK82 => wsk fun K83 hK83 => wrl (sdo (v := .pointer (some ⟨g79, 0, none⟩)) hA (qh GvJ_fld_34_0 rfl rfl) fun a hA => ?_)))
    refine sdo hA (qm hS GvJ_is1_4 rfl 0 rfl rfl) fun a hA => ?_
    refine qe (hK83 _ _ (wp_cond_true (hA.ev rfl) ?_))
    refine wrl (sdo hA (qw hS GvJ_isS_34 rfl 0 rfl (cs := [.bool true, .slice a1 ((words x).length) ac1, .slice a2 1 ac2]) rfl rfl) fun a hA => ?_)
    refine sdo hA (qw hS GvJ_isS_34 rfl 4 rfl (cs := [.bool false, .slice ro15 ((words (2 ^ (8 * n))).length) rc16, .slice (some ⟨g20, 0, none⟩) 1 1]) rfl rfl) fun a hA => ?_
    refine qi hA rfl rfl rfl (qf  rfl rfl (fun w => by kernel_rfl)) (zob (x := x) (y := 2 ^ (8 * n)) ⟨(hS.rd 11 rfl), ha.s1.nil, ha.s1.cap⟩ ⟨(hS.rd 10 rfl), ha.s2.nil, ha.s2.cap⟩ ⟨(hS.rd 6 rfl), ho17.nocap, ho17.caps⟩ ⟨(hS.rd 5 rfl), (fun h => by cases h), (Nat.le_refl _)⟩ hx hl8 (by have k8 : ¬ (-((x : Nat) : Int) + ((2 ^ (8 * n - 1) : Nat) : Int) < 0) := fun k7 => hb72' (qji.2 k7); omega)) ?_
    rintro _ w88 ⟨f84_1, f84_c1, f84_2, f84_c2, rfl, hs85, hs86, hb87⟩
    replace hS := hS.call hb87
    replace hS := hS.addR hs85.rd
    replace hS := hS.addR hs86.rd
    refine ⟨_, rfl, ?_⟩
    intro a hA
    refine zq (us := [.bool false, .slice f84_1 ((words (2 ^ (8 * n) - x)).length) f84_c1, .slice f84_2 1 f84_c2]) hA hS rfl rfl (qr rfl rfl rfl (by kernel_rfl) hS 0 rfl rfl rfl) 0 rfl rfl rfl rfl ?_
    intro w89 hS
    refine qe (hK82 _ _ (wsk fun K90 hK90 => wrl (sdo hA (qa rfl) fun a hA => ?_)))
    have hL0 : Sc w89 f84_1 f84_c1 (words (2 ^ (8 * n) - x)) := ⟨(hS.rd 1 rfl), hs85.nil, hs85.cap⟩
    have hW : Below w.heap.size w w89 := hS.bel
    have hF14 : Blk w89 g79 [.bool false, .slice f84_1 ((words (2 ^ (8 * n) - x)).length) f84_c1, .slice f84_2 1 f84_c2] := (hS.own (g79, [.bool false, .slice f84_1 ((words (2 ^ (8 * n) - x)).length) f84_c1, .slice f84_2 1 f84_c2]) (by simp)).2
    clear hS
    have hM : G.Mg w89 w89 [] := G.Mg.start w89
    refine G.qaj (z := .int .u8 0) (sz := 1) (by_ := 1) (m := n) (toG hA) hM Tryz.underlying22 (by kernel_rfl) rfl rfl rfl rfl rfl rfl (by omega) (by omega) (.inr (G.qy G.zd)) ?_
    intro gx w91 hM hC a hA
    replace hA := ofG hA
    rw [qei bg n (2 ^ (8 * n) - x)] at hM
    replace hL0 := G.jq hL0 hC
    have hS : St w89 w91 [] [] [] := St.bare hM.bel
    refine sdo hA (qb rfl) fun a hA => ?_
    refine qe (hK90 _ _ (wsk fun K92 hK92 => wrl (sdo (v := .pointer (some ⟨g79, 1, none⟩)) hA (qh GvJ_fld_34_1 rfl rfl) fun a hA => ?_)))
    refine sdo (v := .slice f84_1 ((words (2 ^ (8 * n) - x)).length) f84_c1) hA (ut hS hF14 GvJ_is1_32 rfl rfl) fun a hA => ?_
    refine sdo hA (qb rfl) fun a hA => ?_
    refine qe (hK92 _ _ (wsk fun K93 hK93 => wsk fun K94 hK94 => wrl (sdo hA (qb rfl) fun a hA => ?_)))
    refine qe (hK94 _ _ (wp_block (jb (fun m a w1 => ∃ (k : Nat) (V : Nat) (lo : Option Addr) (lc : Nat), m = 1 + (n - k) ∧ (k ≤ n ∧ V = (2 ^ (8 * n) - x) / 256 ^ k ∧ Sc w1 lo lc (words V) ∧ G.Mg w89 w1 [.row G.BY 1 (.slice (some ⟨gx, 0, none⟩) n n) n (Lib.byteCells (G.zw bg (G.lbI n (2 ^ (8 * n) - x) k)))]) ∧ Sl a 101 [(0, .int .i64 (((n : Nat) : Int))), (1, .bool bg), (8, .slice none 0 0), (9, .int .i64 0), (15, .slice (some ⟨gx, 0, none⟩) n n), (16, .slice lo ((words V).length) lc), (17, .int .i64 (((k : Nat) : Int)))] ∧ St w89 w1 [] [] []) _ ⟨0, (2 ^ (8 * n) - x), f84_1, f84_c1, rfl, ⟨Nat.zero_le _, (by rw [Nat.pow_zero, Nat.div_one]), hL0, hM⟩, hA.keep _ ⟨rfl, rfl, rfl, rfl, rfl, rfl, rfl, trivial⟩, hS⟩ ?_)))
    clear hS hA
    rintro m a w95 ⟨k, V, lo, lc, rfl, hinv97, hA, hS⟩ K96 hK96
    obtain ⟨hk9, hV, hL, hM⟩ := hinv97
    have hVl : (words V).length ≤ 512 := Nat.le_trans (words_mono (by rw [hV]; exact Nat.div_le_self _ _)) hFl
    refine wsk fun K98 hK98 => wsk fun K99 hK99 => wrl ?_
    iterate 2 refine sdo hA (qa rfl) fun a hA => ?_
    rcases tf (decide (((k : Nat) : Int) < ((n : Nat) : Int))) with hb100 | hb100
    ·
     have hb100' := of_decide_eq_true hb100
     refine sdo (v := .bool true) hA (qg rfl rfl (fun w => (zi w).trans (by rw [hb100]))) fun a hA => ?_
     refine qe (hK99 _ _ (wp_cond_true (hA.ev rfl) ?_))
     refine wp_skip (hK98 _ _ (wsk fun K101 hK101 => wp_block (wsk fun K102 hK102 => wrl (sdo hA (qa rfl) fun a hA => ?_))))
     refine qjh (us := [256]) (t := 51) (m := 1) hA hS rfl rfl rfl (qx rfl (by kernel_rfl)) (by simp [Dig]) ?_
     intro g103 w104 hS hB105 a hA
     replace hM := hM.call hB105
     replace hL : Sc w104 lo lc (words V) := G.jq hL (fun _ _ r => r.below hB105)
     refine qi hA rfl rfl rfl (qf  rfl rfl (fun w => by kernel_rfl)) (qjj (x := V) _ _ (hL.rd.below (Below.refl _ _)) (hS.rd 0 rfl) hVl) ?_
     rintro _ w113 ⟨qo106, qc107, ro108, rc109, rfl, hq110, hr111, hb112⟩
     replace hS := hS.call hb112
     replace hS := hS.addR hq110.rd
     replace hS := hS.addR hr111.rd
     refine ⟨_, rfl, ?_⟩
     intro a hA
     replace hM := hM.call hb112
     refine sdo hA (qa rfl) fun a hA => ?_
     iterate 2 refine sdo hA (qz (vs := [.slice qo106 ((words (V / 256)).length) qc107, .slice ro108 ((words (V % 256)).length) rc109]) rfl rfl) fun a hA => ?_
     iterate 2 refine sdo hA (qb rfl) fun a hA => ?_
     refine qe (hK102 _ _ (wsk fun K114 hK114 => wrl (sdo hA (qb rfl) fun a hA => ?_)))
     refine qe (hK114 _ _ (wsk fun K115 hK115 => wsk fun K116 hK116 => wrl (sdo hA (qa rfl) fun a hA => ?_)))
     refine sdo hA (zb Tryz.underlying32 rfl) fun a hA => ?_
     rcases tf (decide (0 < (((words (V % 256)).length : Nat) : Int))) with hb117 | hb117
     ·
      have hb117' := of_decide_eq_true hb117
      refine sdo (v := .bool true) hA (qg rfl rfl (fun w => (ja w).trans (by rw [hb117]))) fun a hA => ?_
      refine qe (hK116 _ _ (wp_cond_true (hA.ev rfl) ?_))
      refine wrl (sdo hA (qa rfl) fun a hA => ?_)
      have hi121 : 0 < (words (V % 256)).length := by first | omega | (simp only [List.length_set]; omega)
      obtain ⟨b118, f119, hso120⟩ := Rd.addr (hS.rd 0 rfl) hi121
      refine sdo (v := .pointer (some ⟨b118, f119 + 0, none⟩)) hA (zk (k := 0) Tryz.underlying32 (by kernel_rfl) rfl rfl (by omega) hso120 hi121) fun a hA => ?_
      refine sdo (v := .int .u32 ((((words (V % 256)).getD 0 0 : Nat) : Int))) hA (xu (hS.rd 0 rfl) hso120 hi121 GvJ_is1_51 rfl) fun a hA => ?_
      refine sdo (v := .int .u8 (((V % 256 : Nat) : Int))) hA (zy rfl (ar_conv Tryz.underlying51 Tryz.underlying5 (zej V))) fun a hA => ?_
      refine sdo hA (qb rfl) fun a hA => ?_
      refine qe (hK115 _ _ (wsk fun K122 hK122 => wsk fun K123 hK123 => wrl (sdo hA (qa rfl) fun a hA => ?_)))
      refine qe (hK123 _ _ ?_)
      refine wp_cond_split (t := bg) (hA.ev rfl) (fun hc124 => ?_) (fun hc124 => ?_)
      ·
       refine wrl ?_
       iterate 2 refine sdo hA (qa rfl) fun a hA => ?_
       refine sdo (v := .int .i64 (((n - 1 : Nat) : Int))) hA (qg rfl rfl (fun w => (jy (ji (by omega) (by omega)) w).trans (by rw [show (((n : Nat) : Int) - 1 : Int) = ((n - 1 : Nat) : Int) from by omega]))) fun a hA => ?_
       refine sdo hA (qa rfl) fun a hA => ?_
       refine sdo (v := .int .i64 ((((n - 1) - k : Nat) : Int))) hA (qg rfl rfl (fun w => (jy (ji (by omega) (by omega)) w).trans (by rw [show (((n - 1 : Nat) : Int) - ((k : Nat) : Int) : Int) = (((n - 1) - k : Nat) : Int) from by omega]))) fun a hA => ?_
       refine sdo hA (qa rfl) fun a hA => ?_
       refine sdo (v := .pointer (some ⟨gx, ((n - 1) - k) * 1, none⟩)) hA (vi (k := (n - 1) - k) Tryz.underlying22 (by kernel_rfl) rfl rfl rfl (by omega)) fun a hA => ?_
       have hq9 : Sc w113 qo106 qc107 (words (V / 256)) := ⟨(hS.rd 1 rfl), hq110.nocap, hq110.caps⟩
       refine G.xg (c := .int .u8 (((V % 256 : Nat) : Int))) (q := ((n - 1) - k) * 1) (toG hA) hM rfl rfl (G.jo rfl rfl rfl (by kernel_rfl) hM 0 rfl (show ((n - 1) - k) * 1 + 1 ≤ n * 1 by omega) rfl) 0 rfl (G.jk (l := G.zw bg (G.lbI n (2 ^ (8 * n) - x) k)) (i := (n - 1) - k) (by rw [G.xh, G.xi]; omega)) rfl rfl ?_
       intro w125 hM hC9
       replace hq9 := G.jq hq9 hC9
       replace hM : G.Mg w89 w125 [.row G.BY 1 (.slice (some ⟨gx, 0, none⟩) n n) n (Lib.byteCells (G.zw bg (G.lbI n (2 ^ (8 * n) - x) (k + 1))))] := by
        have h9 := xx (bg := bg) (n := n) (F := (2 ^ (8 * n) - x)) (k := k) (V := V) (i := (n - 1) - k) (c := ((V % 256 : Nat) : Int)) (by omega) hV (by rw [hc124]; rfl) rfl
        rw [← h9]
        exact hM
       replace hS : St w89 w125 [] [] [] := St.bare hM.bel
       refine qe (hK122 _ _ (wrl (sdo hA (qa rfl) fun a hA => ?_)))
       refine sdo hA (qb rfl) fun a hA => ?_
       refine qe (hK101 _ _ (wrl (sdo hA (qa rfl) fun a hA => ?_)))
       refine sdo (v := .int .i64 (((k + 1 : Nat) : Int))) hA (qg rfl rfl (fun w => (jp (ji (by omega) (by omega)) w).trans (by rw [show (((k : Nat) : Int) + 1 : Int) = ((k + 1 : Nat) : Int) from by omega]))) fun a hA => ?_
       refine sdo hA (qb rfl) fun a hA => ?_
       refine qe ?_
       refine hK96 _ _ _ (by omega) ⟨k + 1, V / 256, qo106, qc107, rfl, ⟨by omega, (by rw [hV, Nat.div_div_eq_div_mul, ← Nat.pow_succ]), hq9, hM⟩, hA.keep _ ⟨rfl, rfl, rfl, rfl, rfl, rfl, rfl, trivial⟩, hS⟩
      ·
       refine wrl ?_
       iterate 3 refine sdo hA (qa rfl) fun a hA => ?_
       refine sdo (v := .pointer (some ⟨gx, (k) * 1, none⟩)) hA (vi (k := k) Tryz.underlying22 (by kernel_rfl) rfl rfl rfl (by omega)) fun a hA => ?_
       have hq9 : Sc w113 qo106 qc107 (words (V / 256)) := ⟨(hS.rd 1 rfl), hq110.nocap, hq110.caps⟩
       refine G.xg (c := .int .u8 (((V % 256 : Nat) : Int))) (q := (k) * 1) (toG hA) hM rfl rfl (G.jo rfl rfl rfl (by kernel_rfl) hM 0 rfl (show (k) * 1 + 1 ≤ n * 1 by omega) rfl) 0 rfl (G.jk (l := G.zw bg (G.lbI n (2 ^ (8 * n) - x) k)) (i := k) (by rw [G.xh, G.xi]; omega)) rfl rfl ?_
       intro w126 hM hC9
       replace hq9 := G.jq hq9 hC9
       replace hM : G.Mg w89 w126 [.row G.BY 1 (.slice (some ⟨gx, 0, none⟩) n n) n (Lib.byteCells (G.zw bg (G.lbI n (2 ^ (8 * n) - x) (k + 1))))] := by
        have h9 := xx (bg := bg) (n := n) (F := (2 ^ (8 * n) - x)) (k := k) (V := V) (i := k) (c := ((V % 256 : Nat) : Int)) (by omega) hV (by rw [hc124]; rfl) rfl
        rw [← h9]
        exact hM
       replace hS : St w89 w126 [] [] [] := St.bare hM.bel
       refine qe (hK122 _ _ (wrl (sdo hA (qa rfl) fun a hA => ?_)))
       refine sdo hA (qb rfl) fun a hA => ?_
       refine qe (hK101 _ _ (wrl (sdo hA (qa rfl) fun a hA => ?_)))
       refine sdo (v := .int .i64 (((k + 1 : Nat) : Int))) hA (qg rfl rfl (fun w => (jp (ji (by omega) (by omega)) w).trans (by rw [show (((k : Nat) : Int) + 1 : Int) = ((k + 1 : Nat) : Int) from by omega]))) fun a hA => ?_
       refine sdo hA (qb rfl) fun a hA => ?_
       refine qe ?_
       refine hK96 _ _ _ (by omega) ⟨k + 1, V / 256, qo106, qc107, rfl, ⟨by omega, (by rw [hV, Nat.div_div_eq_div_mul, ← Nat.pow_succ]), hq9, hM⟩, hA.keep _ ⟨rfl, rfl, rfl, rfl, rfl, rfl, rfl, trivial⟩, hS⟩
     ·
      have hb117' := of_decide_eq_false hb117
      refine sdo (v := .bool false) hA (qg rfl rfl (fun w => (ja w).trans (by rw [hb117]))) fun a hA => ?_
      refine qe (hK116 _ _ (wp_cond_false (hA.ev rfl) ?_))
      refine wp_skip (hK115 _ _ (wsk fun K127 hK127 => wsk fun K128 hK128 => wrl (sdo hA (qa rfl) fun a hA => ?_)))
      refine qe (hK128 _ _ ?_)
      refine wp_cond_split (t := bg) (hA.ev rfl) (fun hc129 => ?_) (fun hc129 => ?_)
      ·
       refine wrl ?_
       iterate 2 refine sdo hA (qa rfl) fun a hA => ?_
       refine sdo (v := .int .i64 (((n - 1 : Nat) : Int))) hA (qg rfl rfl (fun w => (jy (ji (by omega) (by omega)) w).trans (by rw [show (((n : Nat) : Int) - 1 : Int) = ((n - 1 : Nat) : Int) from by omega]))) fun a hA => ?_
       refine sdo hA (qa rfl) fun a hA => ?_
       refine sdo (v := .int .i64 ((((n - 1) - k : Nat) : Int))) hA (qg rfl rfl (fun w => (jy (ji (by omega) (by omega)) w).trans (by rw [show (((n - 1 : Nat) : Int) - ((k : Nat) : Int) : Int) = (((n - 1) - k : Nat) : Int) from by omega]))) fun a hA => ?_
       refine sdo hA (qa rfl) fun a hA => ?_
       refine sdo (v := .pointer (some ⟨gx, ((n - 1) - k) * 1, none⟩)) hA (vi (k := (n - 1) - k) Tryz.underlying22 (by kernel_rfl) rfl rfl rfl (by omega)) fun a hA => ?_
       have hz0 : V % 256 = 0 := by
        apply Classical.byContradiction
        intro k9
        have := jg.2 k9
        omega
       have hq9 : Sc w113 qo106 qc107 (words (V / 256)) := ⟨(hS.rd 1 rfl), hq110.nocap, hq110.caps⟩
       refine G.xg (c := .int .u8 0) (q := ((n - 1) - k) * 1) (toG hA) hM rfl rfl (G.jo rfl rfl rfl (by kernel_rfl) hM 0 rfl (show ((n - 1) - k) * 1 + 1 ≤ n * 1 by omega) rfl) 0 rfl (G.jk (l := G.zw bg (G.lbI n (2 ^ (8 * n) - x) k)) (i := (n - 1) - k) (by rw [G.xh, G.xi]; omega)) rfl rfl ?_
       intro w130 hM hC9
       replace hq9 := G.jq hq9 hC9
       replace hM : G.Mg w89 w130 [.row G.BY 1 (.slice (some ⟨gx, 0, none⟩) n n) n (Lib.byteCells (G.zw bg (G.lbI n (2 ^ (8 * n) - x) (k + 1))))] := by
        have h9 := xx (bg := bg) (n := n) (F := (2 ^ (8 * n) - x)) (k := k) (V := V) (i := (n - 1) - k) (c := 0) (by omega) hV (by rw [hc129]; rfl) (by rw [hz0]; rfl)
        rw [← h9]
        exact hM
       replace hS : St w89 w130 [] [] [] := St.bare hM.bel
       refine qe (hK127 _ _ (wrl (sdo hA (qa rfl) fun a hA => ?_)))
       refine sdo hA (qb rfl) fun a hA => ?_
       refine qe (hK101 _ _ (wrl (sdo hA (qa rfl) fun a hA => ?_)))
       refine sdo (v := .int .i64 (((k + 1 : Nat) : Int))) hA (qg rfl rfl (fun w => (jp (ji (by omega) (by omega)) w).trans (by rw [show (((k : Nat) : Int) + 1 : Int) = ((k + 1 : Nat) : Int) from by omega]))) fun a hA => ?_
       refine sdo hA (qb rfl) fun a hA => ?_
       refine qe ?_
       refine hK96 _ _ _ (by omega) ⟨k + 1, V / 256, qo106, qc107, rfl, ⟨by omega, (by rw [hV, Nat.div_div_eq_div_mul, ← Nat.pow_succ]), hq9, hM⟩, hA.keep _ ⟨rfl, rfl, rfl, rfl, rfl, rfl, rfl, trivial⟩, hS⟩
      ·
       refine wrl ?_
       iterate 3 refine sdo hA (qa rfl) fun a hA => ?_
       refine sdo (v := .pointer (some ⟨gx, (k) * 1, none⟩)) hA (vi (k := k) Tryz.underlying22 (by kernel_rfl) rfl rfl rfl (by omega)) fun a hA => ?_
       have hz0 : V % 256 = 0 := by
        apply Classical.byContradiction
        intro k9
        have := jg.2 k9
        omega
       have hq9 : Sc w113 qo106 qc107 (words (V / 256)) := ⟨(hS.rd 1 rfl), hq110.nocap, hq110.caps⟩
       refine G.xg (c := .int .u8 0) (q := (k) * 1) (toG hA) hM rfl rfl (G.jo rfl rfl rfl (by kernel_rfl) hM 0 rfl (show (k) * 1 + 1 ≤ n * 1 by omega) rfl) 0 rfl (G.jk (l := G.zw bg (G.lbI n (2 ^ (8 * n) - x) k)) (i := k) (by rw [G.xh, G.xi]; omega)) rfl rfl ?_
       intro w131 hM hC9
       replace hq9 := G.jq hq9 hC9
       replace hM : G.Mg w89 w131 [.row G.BY 1 (.slice (some ⟨gx, 0, none⟩) n n) n (Lib.byteCells (G.zw bg (G.lbI n (2 ^ (8 * n) - x) (k + 1))))] := by
        have h9 := xx (bg := bg) (n := n) (F := (2 ^ (8 * n) - x)) (k := k) (V := V) (i := k) (c := 0) (by omega) hV (by rw [hc129]; rfl) (by rw [hz0]; rfl)
        rw [← h9]
        exact hM
       replace hS : St w89 w131 [] [] [] := St.bare hM.bel
       refine qe (hK127 _ _ (wrl (sdo hA (qa rfl) fun a hA => ?_)))
       refine sdo hA (qb rfl) fun a hA => ?_
       refine qe (hK101 _ _ (wrl (sdo hA (qa rfl) fun a hA => ?_)))
       refine sdo (v := .int .i64 (((k + 1 : Nat) : Int))) hA (qg rfl rfl (fun w => (jp (ji (by omega) (by omega)) w).trans (by rw [show (((k : Nat) : Int) + 1 : Int) = ((k + 1 : Nat) : Int) from by omega]))) fun a hA => ?_
       refine sdo hA (qb rfl) fun a hA => ?_
       refine qe ?_
       refine hK96 _ _ _ (by omega) ⟨k + 1, V / 256, qo106, qc107, rfl, ⟨by omega, (by rw [hV, Nat.div_div_eq_div_mul, ← Nat.pow_succ]), hq9, hM⟩, hA.keep _ ⟨rfl, rfl, rfl, rfl, rfl, rfl, rfl, trivial⟩, hS⟩
    ·
     have hb100' := of_decide_eq_false hb100
     refine sdo (v := .bool false) hA (qg rfl rfl (fun w => (zi w).trans (by rw [hb100]))) fun a hA => ?_
     refine qe (hK99 _ _ (wp_cond_false (hA.ev rfl) ?_))
     refine wp_exit (hK93 _ _ (wsk fun K132 hK132 => wrl (sdo hA (qa rfl) fun a hA => ?_)))
     iterate 2 refine sdo hA (qb rfl) fun a hA => ?_
     refine qe (hK132 _ _ (wp_ret (hret _ _ (en2 hA rfl (ql rfl) (ql rfl) ?_))))
     rw [show k = n from by omega, qej] at hM
     exact .inr ⟨⟨hb72', hb76'⟩, gx, rfl, G.Mg.low hW hM (G.qn (by simp) (G.qy G.zd))⟩
 refine je (S := fun w1 => St w w1 [(g35, [.bool false, .slice ro28 ((words (2 ^ (8 * n - 1))).length) rc29, .slice (some ⟨g33, 0, none⟩) 1 1]), (g22, [.bool false, .slice ro15 ((words (2 ^ (8 * n))).length) rc16, .slice (some ⟨g20, 0, none⟩) 1 1]), (g2, [.bool true, .slice a1 ((words x).length) ac1, .slice a2 1 ac2, .bool false, .slice a3 0 ac3, .slice a4 1 ac4])] [(some ⟨g33, 0, none⟩, [1]), (ro28, words (2 ^ (8 * n - 1))), (some ⟨g26, 0, none⟩, [1]), (some ⟨g20, 0, none⟩, [1]), (ro15, words (2 ^ (8 * n))), (some ⟨g13, 0, none⟩, [1]), (a4, [1]), (a3, []), (a2, [1]), (a1, words x)] []) (by kernel_rfl) ?_
 replace hS := hS.drew
 refine qk hA 1 rfl rfl rfl rfl hP hS (fun w1 hS => qw hS GvJ_isS_34 rfl 1 rfl (cs := [.bool false, .slice ro15 ((words (2 ^ (8 * n))).length) rc16, .slice (some ⟨g20, 0, none⟩) 1 1]) rfl rfl) fun a hA => ?_
 refine xj (rs := [0, 2, 3]) (by kernel_rfl) (by simp) ⟨?_, ?_, ?_, trivial⟩
 ·
  refine zm hA 0 rfl rfl rfl rfl (qf  rfl rfl (fun w => by kernel_rfl)) (jw _) ?_
  rintro _ w137 ⟨f133_1, f133_c1, f133_2, f133_c2, rfl, hs134, hs135, hb136⟩
  replace hS := hS.call hb136
  replace hS := hS.addR hs134.rd
  replace hS := hS.addR hs135.rd
  refine ⟨_, rfl, (hS.partD (.refl _) 2 rfl (.refl _)), ?_⟩
  intro a hA
  refine xj (rs := [2, 3]) (by kernel_rfl) (by simp) ⟨?_, ?_, trivial⟩
  ·
   refine jr (vs := [.bool false, .slice none 0 0, .slice none 0 0]) (t := 34) hA hS 2 rfl rfl rfl rfl (fun g => .pointer (some ⟨g, 0, none⟩)) (qp (z := .agg #[.bool false, .slice none 0 0, .slice none 0 0]) (by kernel_rfl) rfl) rfl ?_
   intro g138 w139 hS
   refine ⟨(hS.partD (.cons _ (.cons_cons _ (.cons_cons _ (.cons_cons _ .slnil)))) 2 rfl (.refl _)), ?_⟩
   intro a hA
   refine qt (by kernel_rfl) (jr (vs := [.bool false, .slice none 0 0, .slice none 0 0]) (t := 34) hA hS 3 rfl rfl rfl rfl (fun g => .pointer (some ⟨g, 0, none⟩)) (qp (z := .agg #[.bool false, .slice none 0 0, .slice none 0 0]) (by kernel_rfl) rfl) rfl ?_)
   intro g140 w141 hS
   refine ⟨(hS.partD (.cons _ (.cons _ (.cons_cons _ (.cons_cons _ (.cons_cons _ .slnil))))) 2 rfl (.refl _)), ?_⟩
   intro a hA
   refine qt (by kernel_rfl) (zl (us := [.bool false, .slice f133_1 0 f133_c1, .slice f133_2 1 f133_c2]) hA hS 4 rfl rfl rfl (qr rfl rfl rfl (by kernel_rfl) hS 1 rfl rfl rfl) 1 rfl rfl rfl rfl ?_)
   intro w142 hS
   refine ⟨(hS.partD (.cons _ (.cons _ (.cons_cons _ (.cons_cons _ (.cons_cons _ .slnil))))) 2 rfl (.refl _)), ?_⟩
   refine qt (by kernel_rfl) (zl (us := [.bool false, .slice ro15 ((words (2 ^ (8 * n))).length) rc16, .slice (some ⟨g20, 0, none⟩) 1 1]) hA hS 5 rfl rfl rfl (qr rfl rfl rfl (by kernel_rfl) hS 0 rfl rfl rfl) 0 rfl rfl rfl rfl ?_)
   intro w143 hS
   refine ⟨(hS.partD (.cons _ (.cons _ (.cons_cons _ (.cons_cons _ (.cons_cons _ .slnil))))) 2 rfl (.refl _)), ?_⟩
   refine zn (by kernel_rfl) ?_
   refine hJ60 _ _ ⟨g138, g140, f133_1, f133_c1, f133_2, f133_c2, hA.keep _ ⟨rfl, rfl, rfl, rfl, rfl, rfl, rfl, rfl, rfl, rfl, rfl, rfl, rfl, rfl, rfl, rfl, rfl, rfl, rfl, rfl, rfl, rfl, rfl, rfl, rfl, rfl, rfl, rfl, rfl, rfl, trivial⟩, (St.pickRL hS ⟨⟨0, rfl⟩, ⟨⟨1, rfl⟩, ⟨⟨2, rfl⟩, ⟨⟨3, rfl⟩, ⟨⟨4, rfl⟩, ⟨⟨5, rfl⟩, ⟨⟨6, rfl⟩, ⟨⟨7, rfl⟩, ⟨⟨8, rfl⟩, ⟨⟨9, rfl⟩, ⟨⟨10, rfl⟩, ⟨⟨11, rfl⟩, trivial⟩⟩⟩⟩⟩⟩⟩⟩⟩⟩⟩⟩ [0, 1, 2, 3, 4] rfl (by decide)), hs135.nil, hs135.cap, hs134.nil, hs134.cap⟩
  ·
   refine jr (vs := [.bool false, .slice none 0 0, .slice none 0 0]) (t := 34) hA hS 3 rfl rfl rfl rfl (fun g => .pointer (some ⟨g, 0, none⟩)) (qp (z := .agg #[.bool false, .slice none 0 0, .slice none 0 0]) (by kernel_rfl) rfl) rfl ?_
   intro g144 w145 hS
   refine ⟨(hS.partD (.cons _ (.cons_cons _ (.cons_cons _ (.cons_cons _ .slnil)))) 2 rfl (.refl _)), ?_⟩
   intro a hA
   refine qt (by kernel_rfl) (jr (vs := [.bool false, .slice none 0 0, .slice none 0 0]) (t := 34) hA hS 2 rfl rfl rfl rfl (fun g => .pointer (some ⟨g, 0, none⟩)) (qp (z := .agg #[.bool false, .slice none 0 0, .slice none 0 0]) (by kernel_rfl) rfl) rfl ?_)
   intro g146 w147 hS
   refine ⟨(hS.partD (.cons _ (.cons _ (.cons_cons _ (.cons_cons _ (.cons_cons _ .slnil))))) 2 rfl (.refl _)), ?_⟩
   intro a hA
   refine qt (by kernel_rfl) (zl (us := [.bool false, .slice f133_1 0 f133_c1, .slice f133_2 1 f133_c2]) hA hS 4 rfl rfl rfl (qr rfl rfl rfl (by kernel_rfl) hS 0 rfl rfl rfl) 0 rfl rfl rfl rfl ?_)
   intro w148 hS
   refine ⟨(hS.partD (.cons _ (.cons _ (.cons_cons _ (.cons_cons _ (.cons_cons _ .slnil))))) 2 rfl (.refl _)), ?_⟩
   refine qt (by kernel_rfl) (zl (us := [.bool false, .slice ro15 ((words (2 ^ (8 * n))).length) rc16, .slice (some ⟨g20, 0, none⟩) 1 1]) hA hS 5 rfl rfl rfl (qr rfl rfl rfl (by kernel_rfl) hS 1 rfl rfl rfl) 1 rfl rfl rfl rfl ?_)
   intro w149 hS
   refine ⟨(hS.partD (.cons _ (.cons _ (.cons_cons _ (.cons_cons _ (.cons_cons _ .slnil))))) 2 rfl (.refl _)), ?_⟩
   refine zn (by kernel_rfl) ?_
   refine hJ60 _ _ ⟨g146, g144, f133_1, f133_c1, f133_2, f133_c2, hA.keep _ ⟨rfl, rfl, rfl, rfl, rfl, rfl, rfl, rfl, rfl, rfl, rfl, rfl, rfl, rfl, rfl, rfl, rfl, rfl, rfl, rfl, rfl, rfl, rfl, rfl, rfl, rfl, rfl, rfl, rfl, rfl, trivial⟩, (St.pickRL hS ⟨⟨0, rfl⟩, ⟨⟨1, rfl⟩, ⟨⟨2, rfl⟩, ⟨⟨3, rfl⟩, ⟨⟨4, rfl⟩, ⟨⟨5, rfl⟩, ⟨⟨6, rfl⟩, ⟨⟨7, rfl⟩, ⟨⟨8, rfl⟩, ⟨⟨9, rfl⟩, ⟨⟨10, rfl⟩, ⟨⟨11, rfl⟩, trivial⟩⟩⟩⟩⟩⟩⟩⟩⟩⟩⟩⟩ [1, 0, 2, 3, 4] rfl (by decide)), hs135.nil, hs135.cap, hs134.nil, hs134.cap⟩
 ·
  refine jr (vs := [.bool false, .slice none 0 0, .slice none 0 0]) (t := 34) hA hS 2 rfl rfl rfl rfl (fun g => .pointer (some ⟨g, 0, none⟩)) (qp (z := .agg #[.bool false, .slice none 0 0, .slice none 0 0]) (by kernel_rfl) rfl) rfl ?_
  intro g150 w151 hS
  refine ⟨(hS.partD (.cons _ (.cons_cons _ (.cons_cons _ (.cons_cons _ .slnil)))) 0 rfl (.refl _)), ?_⟩
  intro a hA
  refine xj (rs := [0, 3]) (by kernel_rfl) (by simp) ⟨?_, ?_, trivial⟩
  ·
   refine zm hA 0 rfl rfl rfl rfl (qf  rfl rfl (fun w => by kernel_rfl)) (jw _) ?_
   rintro _ w156 ⟨f152_1, f152_c1, f152_2, f152_c2, rfl, hs153, hs154, hb155⟩
   replace hS := hS.call hb155
   replace hS := hS.addR hs153.rd
   replace hS := hS.addR hs154.rd
   refine ⟨_, rfl, (hS.partD (.cons _ (.cons_cons _ (.cons_cons _ (.cons_cons _ .slnil)))) 2 rfl (.refl _)), ?_⟩
   intro a hA
   refine qt (by kernel_rfl) (jr (vs := [.bool false, .slice none 0 0, .slice none 0 0]) (t := 34) hA hS 3 rfl rfl rfl rfl (fun g => .pointer (some ⟨g, 0, none⟩)) (qp (z := .agg #[.bool false, .slice none 0 0, .slice none 0 0]) (by kernel_rfl) rfl) rfl ?_)
   intro g157 w158 hS
   refine ⟨(hS.partD (.cons _ (.cons _ (.cons_cons _ (.cons_cons _ (.cons_cons _ .slnil))))) 2 rfl (.refl _)), ?_⟩
   intro a hA
   refine qt (by kernel_rfl) (zl (us := [.bool false, .slice f152_1 0 f152_c1, .slice f152_2 1 f152_c2]) hA hS 4 rfl rfl rfl (qr rfl rfl rfl (by kernel_rfl) hS 1 rfl rfl rfl) 1 rfl rfl rfl rfl ?_)
   intro w159 hS
   refine ⟨(hS.partD (.cons _ (.cons _ (.cons_cons _ (.cons_cons _ (.cons_cons _ .slnil))))) 2 rfl (.refl _)), ?_⟩
   refine qt (by kernel_rfl) (zl (us := [.bool false, .slice ro15 ((words (2 ^ (8 * n))).length) rc16, .slice (some ⟨g20, 0, none⟩) 1 1]) hA hS 5 rfl rfl rfl (qr rfl rfl rfl (by kernel_rfl) hS 0 rfl rfl rfl) 0 rfl rfl rfl rfl ?_)
   intro w160 hS
   refine ⟨(hS.partD (.cons _ (.cons _ (.cons_cons _ (.cons_cons _ (.cons_cons _ .slnil))))) 2 rfl (.refl _)), ?_⟩
   refine zn (by kernel_rfl) ?_
   refine hJ60 _ _ ⟨g150, g157, f152_1, f152_c1, f152_2, f152_c2, hA.keep _ ⟨rfl, rfl, rfl, rfl, rfl, rfl, rfl, rfl, rfl, rfl, rfl, rfl, rfl, rfl, rfl, rfl, rfl, rfl, rfl, rfl, rfl, rfl, rfl, rfl, rfl, rfl, rfl, rfl, rfl, rfl, trivial⟩, (St.pickRL hS ⟨⟨0, rfl⟩, ⟨⟨1, rfl⟩, ⟨⟨2, rfl⟩, ⟨⟨3, rfl⟩, ⟨⟨4, rfl⟩, ⟨⟨5, rfl⟩, ⟨⟨6, rfl⟩, ⟨⟨7, rfl⟩, ⟨⟨8, rfl⟩, ⟨⟨9, rfl⟩, ⟨⟨10, rfl⟩, ⟨⟨11, rfl⟩, trivial⟩⟩⟩⟩⟩⟩⟩⟩⟩⟩⟩⟩ [0, 1, 2, 3, 4] rfl (by decide)), hs154.nil, hs154.cap, hs153.nil, hs153.cap⟩
  ·
   refine jr (vs := [.bool false, .slice none 0 0, .slice none 0 0]) (t := 34) hA hS 3 rfl rfl rfl rfl (fun g => .pointer (some ⟨g, 0, none⟩)) (qp (z := .agg #[.bool false, .slice none 0 0, .slice none 0 0]) (by kernel_rfl) rfl) rfl ?_
   intro g161 w162 hS
   refine ⟨(hS.partD (.cons _ (.cons _ (.cons_cons _ (.cons_cons _ (.cons_cons _ .slnil))))) 0 rfl (.refl _)), ?_⟩
   intro a hA
   refine qt (by kernel_rfl) (zm hA 0 rfl rfl rfl rfl (qf  rfl rfl (fun w => by kernel_rfl)) (jw _) ?_)
   rintro _ w167 ⟨f163_1, f163_c1, f163_2, f163_c2, rfl, hs164, hs165, hb166⟩
   replace hS := hS.call hb166
   replace hS := hS.addR hs164.rd
   replace hS := hS.addR hs165.rd
   refine ⟨_, rfl, (hS.partD (.cons _ (.cons _ (.cons_cons _ (.cons_cons _ (.cons_cons _ .slnil))))) 2 rfl (.refl _)), ?_⟩
   intro a hA
   refine qt (by kernel_rfl) (zl (us := [.bool false, .slice f163_1 0 f163_c1, .slice f163_2 1 f163_c2]) hA hS 4 rfl rfl rfl (qr rfl rfl rfl (by kernel_rfl) hS 1 rfl rfl rfl) 1 rfl rfl rfl rfl ?_)
   intro w168 hS
   refine ⟨(hS.partD (.cons _ (.cons _ (.cons_cons _ (.cons_cons _ (.cons_cons _ .slnil))))) 2 rfl (.refl _)), ?_⟩
   refine qt (by kernel_rfl) (zl (us := [.bool false, .slice ro15 ((words (2 ^ (8 * n))).length) rc16, .slice (some ⟨g20, 0, none⟩) 1 1]) hA hS 5 rfl rfl rfl (qr rfl rfl rfl (by kernel_rfl) hS 0 rfl rfl rfl) 0 rfl rfl rfl rfl ?_)
   intro w169 hS
   refine ⟨(hS.partD (.cons _ (.cons _ (.cons_cons _ (.cons_cons _ (.cons_cons _ .slnil))))) 2 rfl (.refl _)), ?_⟩
   refine zn (by kernel_rfl) ?_
   refine hJ60 _ _ ⟨g150, g161, f163_1, f163_c1, f163_2, f163_c2, hA.keep _ ⟨rfl, rfl, rfl, rfl, rfl, rfl, rfl, rfl, rfl, rfl, rfl, rfl, rfl, rfl, rfl, rfl, rfl, rfl, rfl, rfl, rfl, rfl, rfl, rfl, rfl, rfl, rfl, rfl, rfl, rfl, trivial⟩, (St.pickRL hS ⟨⟨0, rfl⟩, ⟨⟨1, rfl⟩, ⟨⟨2, rfl⟩, ⟨⟨3, rfl⟩, ⟨⟨4, rfl⟩, ⟨⟨5, rfl⟩, ⟨⟨6, rfl⟩, ⟨⟨7, rfl⟩, ⟨⟨8, rfl⟩, ⟨⟨9, rfl⟩, ⟨⟨10, rfl⟩, ⟨⟨11, rfl⟩, trivial⟩⟩⟩⟩⟩⟩⟩⟩⟩⟩⟩⟩ [0, 1, 2, 3, 4] rfl (by decide)), hs165.nil, hs165.cap, hs164.nil, hs164.cap⟩
 ·
  refine jr (vs := [.bool false, .slice none 0 0, .slice none 0 0]) (t := 34) hA hS 3 rfl rfl rfl rfl (fun g => .pointer (some ⟨g, 0, none⟩)) (qp (z := .agg #[.bool false, .slice none 0 0, .slice none 0 0]) (by kernel_rfl) rfl) rfl ?_
  intro g170 w171 hS
  refine ⟨(hS.partD (.cons _ (.cons_cons _ (.cons_cons _ (.cons_cons _ .slnil)))) 0 rfl (.refl _)), ?_⟩
  intro a hA
  refine xj (rs := [0, 2]) (by kernel_rfl) (by simp) ⟨?_, ?_, trivial⟩
  ·
   refine zm hA 0 rfl rfl rfl rfl (qf  rfl rfl (fun w => by kernel_rfl)) (jw _) ?_
   rintro _ w176 ⟨f172_1, f172_c1, f172_2, f172_c2, rfl, hs173, hs174, hb175⟩
   replace hS := hS.call hb175
   replace hS := hS.addR hs173.rd
   replace hS := hS.addR hs174.rd
   refine ⟨_, rfl, (hS.partD (.cons _ (.cons_cons _ (.cons_cons _ (.cons_cons _ .slnil)))) 2 rfl (.refl _)), ?_⟩
   intro a hA
   refine qt (by kernel_rfl) (jr (vs := [.bool false, .slice none 0 0, .slice none 0 0]) (t := 34) hA hS 2 rfl rfl rfl rfl (fun g => .pointer (some ⟨g, 0, none⟩)) (qp (z := .agg #[.bool false, .slice none 0 0, .slice none 0 0]) (by kernel_rfl) rfl) rfl ?_)
   intro g177 w178 hS
   refine ⟨(hS.partD (.cons _ (.cons _ (.cons_cons _ (.cons_cons _ (.cons_cons _ .slnil))))) 2 rfl (.refl _)), ?_⟩
   intro a hA
   refine qt (by kernel_rfl) (zl (us := [.bool false, .slice f172_1 0 f172_c1, .slice f172_2 1 f172_c2]) hA hS 4 rfl rfl rfl (qr rfl rfl rfl (by kernel_rfl) hS 0 rfl rfl rfl) 0 rfl rfl rfl rfl ?_)
   intro w179 hS
   refine ⟨(hS.partD (.cons _ (.cons _ (.cons_cons _ (.cons_cons _ (.cons_cons _ .slnil))))) 2 rfl (.refl _)), ?_⟩
   refine qt (by kernel_rfl) (zl (us := [.bool false, .slice ro15 ((words (2 ^ (8 * n))).length) rc16, .slice (some ⟨g20, 0, none⟩) 1 1]) hA hS 5 rfl rfl rfl (qr rfl rfl rfl (by kernel_rfl) hS 1 rfl rfl rfl) 1 rfl rfl rfl rfl ?_)
   intro w180 hS
   refine ⟨(hS.partD (.cons _ (.cons _ (.cons_cons _ (.cons_cons _ (.cons_cons _ .slnil))))) 2 rfl (.refl _)), ?_⟩
   refine zn (by kernel_rfl) ?_
   refine hJ60 _ _ ⟨g177, g170, f172_1, f172_c1, f172_2, f172_c2, hA.keep _ ⟨rfl, rfl, rfl, rfl, rfl, rfl, rfl, rfl, rfl, rfl, rfl, rfl, rfl, rfl, rfl, rfl, rfl, rfl, rfl, rfl, rfl, rfl, rfl, rfl, rfl, rfl, rfl, rfl, rfl, rfl, trivial⟩, (St.pickRL hS ⟨⟨0, rfl⟩, ⟨⟨1, rfl⟩, ⟨⟨2, rfl⟩, ⟨⟨3, rfl⟩, ⟨⟨4, rfl⟩, ⟨⟨5, rfl⟩, ⟨⟨6, rfl⟩, ⟨⟨7, rfl⟩, ⟨⟨8, rfl⟩, ⟨⟨9, rfl⟩, ⟨⟨10, rfl⟩, ⟨⟨11, rfl⟩, trivial⟩⟩⟩⟩⟩⟩⟩⟩⟩⟩⟩⟩ [1, 0, 2, 3, 4] rfl (by decide)), hs174.nil, hs174.cap, hs173.nil, hs173.cap⟩
  ·
   refine jr (vs := [.bool false, .slice none 0 0, .slice none 0 0]) (t := 34) hA hS 2 rfl rfl rfl rfl (fun g => .pointer (some ⟨g, 0, none⟩)) (qp (z := .agg #[.bool false, .slice none 0 0, .slice none 0 0]) (by kernel_rfl) rfl) rfl ?_
   intro g181 w182 hS
   refine ⟨(hS.partD (.cons _ (.cons _ (.cons_cons _ (.cons_cons _ (.cons_cons _ .slnil))))) 0 rfl (.refl _)), ?_⟩
   intro a hA
   refine qt (by kernel_rfl) (zm hA 0 rfl rfl rfl rfl (qf  rfl rfl (fun w => by kernel_rfl)) (jw _) ?_)
   rintro _ w187 ⟨f183_1, f183_c1, f183_2, f183_c2, rfl, hs184, hs185, hb186⟩
   replace hS := hS.call hb186
   replace hS := hS.addR hs184.rd
   replace hS := hS.addR hs185.rd
   refine ⟨_, rfl, (hS.partD (.cons _ (.cons _ (.cons_cons _ (.cons_cons _ (.cons_cons _ .slnil))))) 2 rfl (.refl _)), ?_⟩
   intro a hA
   refine qt (by kernel_rfl) (zl (us := [.bool false, .slice f183_1 0 f183_c1, .slice f183_2 1 f183_c2]) hA hS 4 rfl rfl rfl (qr rfl rfl rfl (by kernel_rfl) hS 0 rfl rfl rfl) 0 rfl rfl rfl rfl ?_)
   intro w188 hS
   refine ⟨(hS.partD (.cons _ (.cons _ (.cons_cons _ (.cons_cons _ (.cons_cons _ .slnil))))) 2 rfl (.refl _)), ?_⟩
   refine qt (by kernel_rfl) (zl (us := [.bool false, .slice ro15 ((words (2 ^ (8 * n))).length) rc16, .slice (some ⟨g20, 0, none⟩) 1 1]) hA hS 5 rfl rfl rfl (qr rfl rfl rfl (by kernel_rfl) hS 1 rfl rfl rfl) 1 rfl rfl rfl rfl ?_)
   intro w189 hS
   refine ⟨(hS.partD (.cons _ (.cons _ (.cons_cons _ (.cons_cons _ (.cons_cons _ .slnil))))) 2 rfl (.refl _)), ?_⟩
   refine zn (by kernel_rfl) ?_
   refine hJ60 _ _ ⟨g181, g170, f183_1, f183_c1, f183_2, f183_c2, hA.keep _ ⟨rfl, rfl, rfl, rfl, rfl, rfl, rfl, rfl, rfl, rfl, rfl, rfl, rfl, rfl, rfl, rfl, rfl, rfl, rfl, rfl, rfl, rfl, rfl, rfl, rfl, rfl, rfl, rfl, rfl, rfl, trivial⟩, (St.pickRL hS ⟨⟨0, rfl⟩, ⟨⟨1, rfl⟩, ⟨⟨2, rfl⟩, ⟨⟨3, rfl⟩, ⟨⟨4, rfl⟩, ⟨⟨5, rfl⟩, ⟨⟨6, rfl⟩, ⟨⟨7, rfl⟩, ⟨⟨8, rfl⟩, ⟨⟨9, rfl⟩, ⟨⟨10, rfl⟩, ⟨⟨11, rfl⟩, trivial⟩⟩⟩⟩⟩⟩⟩⟩⟩⟩⟩⟩ [1, 0, 2, 3, 4] rfl (by decide)), hs185.nil, hs185.cap, hs184.nil, hs184.cap⟩
theorem qac {w : World} {x n : Nat} {a1 a2 a3 a4 : Option Addr} {ac1 ac2 ac3 ac4 : Nat} (ha : Nm w (Q6.whole true x) a1 ac1 a2 ac2 a3 ac3 a4 ac4) (hx : (words x).length ≤ 512) (h1 : 1 ≤ n) (h64 : n ≤ 64) (bg : Bool) (hbx : true.toNat ≤ x) (hlg : oI (sgn true x + sgn false (2 ^ (8 * n - 1))) < 0 ∨ 0 ≤ oI (sgn true x + sgn true (2 ^ (8 * n - 1)))) : Calls Tryz.prog 15 #[.int .i64 ((n : Nat) : Int), .bool bg, .bool true, xy (Q6.whole true x) a1 ac1 a2 ac2 a3 ac3 a4 ac4] w fun e w' => e = .returned (.tuple #[.slice none 0 0, .int .i64 4]) ∧ Below w.heap.size w w' := by
 refine Calls.mono (qab ha hx h1 h64 bg hbx) ?_
 rintro e w' (h | ⟨h, _⟩)
 ·
  exact h.2
 ·
  exact (hlg.elim h.1 h.2).elim
theorem qde {w : World} {x n : Nat} {a1 a2 a3 a4 : Option Addr} {ac1 ac2 ac3 ac4 : Nat} (ha : Nm w (Q6.whole true x) a1 ac1 a2 ac2 a3 ac3 a4 ac4) (hx : (words x).length ≤ 512) (h1 : 1 ≤ n) (h64 : n ≤ 64) (bg : Bool) (hbx : true.toNat ≤ x) (h9 : ¬ oI (sgn true x + sgn false (2 ^ (8 * n - 1))) < 0 ∧ ¬ 0 ≤ oI (sgn true x + sgn true (2 ^ (8 * n - 1)))) : Calls Tryz.prog 15 #[.int .i64 ((n : Nat) : Int), .bool bg, .bool true, xy (Q6.whole true x) a1 ac1 a2 ac2 a3 ac3 a4 ac4] w fun e w' => ∃ g, e = .returned (.tuple #[.slice (some ⟨g, 0, none⟩) n n, .int .i64 0]) ∧ G.Mg w w' [.row G.BY 1 (.slice (some ⟨g, 0, none⟩) n n) n (Lib.byteCells (G.zw bg (G.leB n (2 ^ (8 * n) - x))))] := by
 refine Calls.mono (qab ha hx h1 h64 bg hbx) ?_
 rintro e w' (⟨h, _⟩ | h)
 ·
  exact (h.elim h9.1 h9.2).elim
 ·
  exact h.2
end Go.Proofs.YtbhdnpbbmpemnaaGreatDoor
namespace Go.Proofs.YtbhdnpbbmpemnaaGreatDoor
open Go.RowKit
set_option linter.unusedVariables false
set_option linter.unusedSimpArgs false
set_option maxRecDepth 100000
theorem GvL_isS_36 : IsS Tryz.prog 36 6 := ⟨⟨_, Tryz.underlying36⟩, by kernel_rfl⟩
theorem qzj {w : World} {q : Q6} {n : Nat} {a1 a2 a3 a4 : Option Addr} {ac1 ac2 ac3 ac4 : Nat} (ha : Nm w q a1 ac1 a2 ac2 a3 ac3 a4 ac4) (hl : LenQ q) (bg sg : Bool) (hs : xk q = false) : Calls Tryz.prog 15 #[.int .i64 ((n : Nat) : Int), .bool bg, .bool sg, xy q a1 ac1 a2 ac2 a3 ac3 a4 ac4] w fun e w' => e = .returned (.tuple #[.slice none 0 0, .int .i64 2]) ∧ Below w.heap.size w w' := by
 have hS : St w w [] [(a4, q.q2), (a3, q.t2), (a2, q.q1), (a1, q.t1)] [] := ((((St.start w).addR ha.s1.rd).addR ha.s2.rd).addR ha.s3.rd).addR ha.s4.rd
 refine za (l := [(0, .int .i64 (((n : Nat) : Int))), (1, .bool bg), (2, .bool sg), (3, .agg #[.bool q.b1, .slice a1 q.t1.length ac1, .slice a2 q.q1.length ac2, .bool q.b2, .slice a3 q.t2.length ac3, .slice a4 q.q2.length ac4])]) Tryz.func15 rfl Tryz.ntmps15 rfl rfl ?_
 intro Q hret hnorm hP a hA
 refine wsk fun K1 hK1 => wrl (ze hA hS rfl rfl rfl (fun g => .pointer (some ⟨g, 0, none⟩)) (zf rfl rfl) rfl ?_)
 intro g2 w3 hS a hA
 iterate 2 refine sdo hA (qb rfl) fun a hA => ?_
 refine qe (hK1 _ _ (wsk fun K4 hK4 => wsk fun K5 hK5 => wrl (sdo hA (qw hS GvL_isS_36 rfl 0 rfl (cs := [.bool q.b1, .slice a1 q.t1.length ac1, .slice a2 q.q1.length ac2, .bool q.b2, .slice a3 q.t2.length ac3, .slice a4 q.q2.length ac4]) rfl rfl) fun a hA => ?_)))
 refine qi hA rfl rfl rfl (qf  rfl rfl (fun w => by kernel_rfl)) (vp (show Nm _ _ a1 ac1 a2 ac2 a3 ac3 a4 ac4 from ⟨⟨(hS.rd 3 rfl), ha.s1.nil, ha.s1.cap⟩, ⟨(hS.rd 2 rfl), ha.s2.nil, ha.s2.cap⟩, ⟨(hS.rd 1 rfl), ha.s3.nil, ha.s3.cap⟩, ⟨(hS.rd 0 rfl), ha.s4.nil, ha.s4.cap⟩⟩) hl hs) ?_
 rintro _ w7 ⟨rfl, hb6⟩
 replace hS := hS.call hb6
 refine ⟨_, rfl, ?_⟩
 intro a hA
 refine sdo (v := .bool true) hA (zp rfl zu) fun a hA => ?_
 refine qe (hK5 _ _ (wp_cond_true (hA.ev rfl) ?_))
 refine wsk fun K8 hK8 => wrl ?_
 iterate 2 refine sdo hA (qb rfl) fun a hA => ?_
 refine qe (hK8 _ _ (wp_ret (hret _ _ (en2 hA rfl (ql rfl) (ql rfl) ?_))))
 exact ⟨rfl, hS.bel⟩
theorem zaa {w : World} {q : Q6} {n : Nat} {a1 a2 a3 a4 : Option Addr} {ac1 ac2 ac3 ac4 : Nat} (ha : Nm w q a1 ac1 a2 ac2 a3 ac3 a4 ac4) (hl : LenQ q) (bg sg : Bool) (hs : xk q = true) (hwh : xd q = false) : Calls Tryz.prog 15 #[.int .i64 ((n : Nat) : Int), .bool bg, .bool sg, xy q a1 ac1 a2 ac2 a3 ac3 a4 ac4] w fun e w' => e = .returned (.tuple #[.slice none 0 0, .int .i64 10]) ∧ Below w.heap.size w w' := by
 have hS : St w w [] [(a4, q.q2), (a3, q.t2), (a2, q.q1), (a1, q.t1)] [] := ((((St.start w).addR ha.s1.rd).addR ha.s2.rd).addR ha.s3.rd).addR ha.s4.rd
 refine za (l := [(0, .int .i64 (((n : Nat) : Int))), (1, .bool bg), (2, .bool sg), (3, .agg #[.bool q.b1, .slice a1 q.t1.length ac1, .slice a2 q.q1.length ac2, .bool q.b2, .slice a3 q.t2.length ac3, .slice a4 q.q2.length ac4])]) Tryz.func15 rfl Tryz.ntmps15 rfl rfl ?_
 intro Q hret hnorm hP a hA
 refine wsk fun K1 hK1 => wrl (ze hA hS rfl rfl rfl (fun g => .pointer (some ⟨g, 0, none⟩)) (zf rfl rfl) rfl ?_)
 intro g2 w3 hS a hA
 iterate 2 refine sdo hA (qb rfl) fun a hA => ?_
 refine qe (hK1 _ _ (wsk fun K4 hK4 => wsk fun K5 hK5 => wrl (sdo hA (qw hS GvL_isS_36 rfl 0 rfl (cs := [.bool q.b1, .slice a1 q.t1.length ac1, .slice a2 q.q1.length ac2, .bool q.b2, .slice a3 q.t2.length ac3, .slice a4 q.q2.length ac4]) rfl rfl) fun a hA => ?_)))
 refine qi hA rfl rfl rfl (qf  rfl rfl (fun w => by kernel_rfl)) (vp (show Nm _ _ a1 ac1 a2 ac2 a3 ac3 a4 ac4 from ⟨⟨(hS.rd 3 rfl), ha.s1.nil, ha.s1.cap⟩, ⟨(hS.rd 2 rfl), ha.s2.nil, ha.s2.cap⟩, ⟨(hS.rd 1 rfl), ha.s3.nil, ha.s3.cap⟩, ⟨(hS.rd 0 rfl), ha.s4.nil, ha.s4.cap⟩⟩) hl hs) ?_
 rintro _ w7 ⟨rfl, hb6⟩
 replace hS := hS.call hb6
 refine ⟨_, rfl, ?_⟩
 intro a hA
 refine sdo (v := .bool false) hA (zp rfl zu) fun a hA => ?_
 refine qe (hK5 _ _ (wp_cond_false (hA.ev rfl) ?_))
 refine wp_skip (hK4 _ _ (wsk fun K8 hK8 => wsk fun K9 hK9 => wrl (sdo hA (qw hS GvL_isS_36 rfl 0 rfl (cs := [.bool q.b1, .slice a1 q.t1.length ac1, .slice a2 q.q1.length ac2, .bool q.b2, .slice a3 q.t2.length ac3, .slice a4 q.q2.length ac4]) rfl rfl) fun a hA => ?_)))
 refine qi hA rfl rfl rfl (qf  rfl rfl (fun w => by kernel_rfl)) (yp (show Nm _ _ a1 ac1 a2 ac2 a3 ac3 a4 ac4 from ⟨⟨(hS.rd 3 rfl), ha.s1.nil, ha.s1.cap⟩, ⟨(hS.rd 2 rfl), ha.s2.nil, ha.s2.cap⟩, ⟨(hS.rd 1 rfl), ha.s3.nil, ha.s3.cap⟩, ⟨(hS.rd 0 rfl), ha.s4.nil, ha.s4.cap⟩⟩) hl hwh) ?_
 rintro _ w11 ⟨rfl, hb10⟩
 replace hS := hS.call hb10
 refine ⟨_, rfl, ?_⟩
 intro a hA
 refine sdo (v := .bool true) hA (zp rfl zu) fun a hA => ?_
 refine qe (hK9 _ _ (wp_cond_true (hA.ev rfl) ?_))
 refine wsk fun K12 hK12 => wrl ?_
 iterate 2 refine sdo hA (qb rfl) fun a hA => ?_
 refine qe (hK12 _ _ (wp_ret (hret _ _ (en2 hA rfl (ql rfl) (ql rfl) ?_))))
 exact ⟨rfl, hS.bel⟩
end Go.Proofs.YtbhdnpbbmpemnaaGreatDoor
namespace Go.Proofs.YtbhdnpbbmpemnaaGreatDoor
open Go.RowKit
set_option linter.unusedVariables false
set_option linter.unusedSimpArgs false
set_option maxRecDepth 100000


end Go.Proofs.YtbhdnpbbmpemnaaGreatDoor
namespace Go.Proofs.YtbhdnpbbmpemnaaGreatDoor
open Go.RowKit
set_option linter.unusedVariables false
set_option linter.unusedSimpArgs false

theorem qwj : ∀ {p r : List UInt8}, p.length = r.length → G.leN p = G.leN r → p = r
  | [], [], _, _ => rfl
  | [], _ :: _, h, _ => by simp at h
  | _ :: _, [], h, _ => by simp at h
  | a :: p, b :: r, h, e => by
    unfold G.leN at e
    have ha := UInt8.toNat_lt a
    have hb := UInt8.toNat_lt b
    have e1 : a.toNat = b.toNat := by omega
    have e2 : G.leN p = G.leN r := by omega
    rw [UInt8.toNat_inj.1 e1, qwj (by simpa using h) e2]
theorem zkd {bg : Bool} {p r : List UInt8} (h : G.zw bg p = G.zw bg r) : p = r := by
  have := congrArg (G.zw bg) h
  rwa [G.qhf, G.qhf] at this
theorem km {b c : Bool} {x y : Nat} (h : Q6.whole b x = Q6.whole c y) : b = c ∧ x = y := by
  have h1 : b = c := congrArg Q6.b1 h
  have h2 : words x = words y := congrArg Q6.t1 h
  exact ⟨h1, words_inj h2⟩
/-- Which whole number bytes are: its sign and size, and what holds of them. -/
theorem kn (bg sg : Bool) {p : List UInt8} {n : Nat} (hp : p.length = n) (h1 : 1 ≤ n) : (G.jt bg sg p = Q6.whole false (G.leN (G.zw bg p)) ∧ G.leN (G.zw bg p) < 2 ^ (8 * n) ∧ (sg = true → G.leN (G.zw bg p) < 2 ^ (8 * n - 1))) ∨ (sg = true ∧ G.jt bg sg p = Q6.whole true (2 ^ (8 * n) - G.leN (G.zw bg p)) ∧ G.leN (G.zw bg p) < 2 ^ (8 * n) ∧ 2 ^ (8 * n - 1) ≤ G.leN (G.zw bg p)) := by
  have hl : (G.zw bg p).length = n := by rw [G.xh]; exact hp
  have hlt := G.yq (G.zw bg p)
  rw [hl, ← kw] at hlt
  have htop := qhd hl h1
  have hb := bl_le.2 hlt
  unfold G.jt
  rw [hp]
  by_cases h : sg = true ∧ 128 ≤ ((G.zw bg p).getD (n - 1) 0).toNat
  · right
    rw [if_pos h]
    have hbl := htop.2 h.2
    have hne : G.leN (G.zw bg p) ≠ 0 := fun k => by rw [k, bl_zero] at hbl; omega
    have hge := bl_ge hne
    rw [hbl] at hge
    exact ⟨h.1, by rw [kw], hlt, hge⟩
  · left
    rw [if_neg h]
    refine ⟨rfl, hlt, fun hs => ?_⟩
    have hbl : bl (G.leN (G.zw bg p)) ≠ 8 * n := fun k => h ⟨hs, htop.1 k⟩
    exact bl_le.1 (by omega)
theorem zfb {bg sg : Bool} {p r : List UInt8} {n : Nat} (hp : p.length = n) (hr : r.length = n) (h1 : 1 ≤ n) (h : G.jt bg sg p = G.jt bg sg r) : p = r := by
  refine zkd (bg := bg) (qwj (by rw [G.xh, G.xh, hp, hr]) ?_)
  rcases kn bg sg hp h1 with ⟨e, _, _⟩ | ⟨_, e, k1, k2⟩ <;> rcases kn bg sg hr h1 with ⟨f, _, _⟩ | ⟨_, f, k3, k4⟩ <;> rw [e, f] at h <;> have h9 := km h
  · exact h9.2
  · cases h9.1
  · cases h9.1
  · omega
/-- The error of a number that has no bytes. -/
def qsf (q : Q6) : Int := if xm q = 0 then 4 else xm q
theorem zke (q : Q6) : qsf q ≠ 0 := by
  unfold qsf
  split
  · decide
  · assumption
theorem qoh {q : Q6} (h : xm q = 0) : (4 : Int) = qsf q := by unfold qsf; rw [if_pos h]
/-- Both ways answer the same: bytes that read as the number, or an error, and then no bytes read as it. -/
theorem qsg {n : Nat} (h1 : 1 ≤ n) (h64 : n ≤ 64) (bg sg : Bool) {q : Q6} {w : World} {o1 o2 o3 o4 : Option Addr} {c1 c2 c3 c4 : Nat} (ha : Nm w q o1 c1 o2 c2 o3 c3 o4 c4) (hq : LenQ q) :
    (∃ ec : Int, ec = qsf q ∧ ec ≠ 0 ∧ (∀ p : List UInt8, p.length = n → G.jt bg sg p ≠ q) ∧ ∀ W, Nm W q o1 c1 o2 c2 o3 c3 o4 c4 → Calls Tryz.prog 14 #[.agg #[.int .i64 ((n : Nat) : Int), .bool bg, .bool sg], xy q o1 c1 o2 c2 o3 c3 o4 c4] W (fun e w' => e = .returned (.tuple #[.slice none 0 0, .int .i64 ec]) ∧ Below W.heap.size W w') ∧ Calls Tryz.prog 15 #[.int .i64 ((n : Nat) : Int), .bool bg, .bool sg, xy q o1 c1 o2 c2 o3 c3 o4 c4] W (fun e w' => e = .returned (.tuple #[.slice none 0 0, .int .i64 ec]) ∧ Below W.heap.size W w')) ∨ (∃ pl : List UInt8, pl.length = n ∧ G.jt bg sg pl = q ∧ xk q = true ∧ ∀ W, Nm W q o1 c1 o2 c2 o3 c3 o4 c4 → Calls Tryz.prog 14 #[.agg #[.int .i64 ((n : Nat) : Int), .bool bg, .bool sg], xy q o1 c1 o2 c2 o3 c3 o4 c4] W (fun e w' => ∃ g, e = .returned (.tuple #[.slice (some ⟨g, 0, none⟩) n n, .int .i64 0]) ∧ G.Mg W w' [.row G.BY 1 (.slice (some ⟨g, 0, none⟩) n n) n (Lib.byteCells pl)]) ∧ Calls Tryz.prog 15 #[.int .i64 ((n : Nat) : Int), .bool bg, .bool sg, xy q o1 c1 o2 c2 o3 c3 o4 c4] W (fun e w' => ∃ g, e = .returned (.tuple #[.slice (some ⟨g, 0, none⟩) n n, .int .i64 0]) ∧ G.Mg W w' [.row G.BY 1 (.slice (some ⟨g, 0, none⟩) n n) n (Lib.byteCells pl)])) := by
  have h8 : 8 * n = n * 8 := Nat.mul_comm _ _
  have hlen : ∀ F, (G.zw bg (G.leB n F)).length = n := fun F => by rw [G.xh, G.yb]
  have hp8 : 2 ^ (8 * n) = 2 * 2 ^ (8 * n - 1) := by rw [← Nat.pow_succ']; congr 1; omega
  rcases qqj q with ⟨hw, h2⟩ | ⟨hw, hw2⟩
  · obtain ⟨b, x, rfl, hx, hb⟩ := zjb ha h2
    have hs := xz hx hb
    cases sg with
    | false =>
      cases b with
      | false =>
        by_cases hr : x < 2 ^ (8 * n)
        · exact .inr ⟨_, hlen x, zfa bg (by rw [← h8]; exact hr), hs, fun W hW => ⟨G.qje hW hx hb h1 h64 bg false (zkc (by rw [← h8]; exact hr)) rfl (bl_le.2 (show x < 2 ^ (n * 8) by rw [← h8]; exact hr)) (fun k => by cases k), qgc hW hx h1 h64 bg hb ⟨fun k9 => by have k8 : ((x : Nat) : Int) + ((0 : Nat) : Int) < 0 := qji.1 k9; omega, fun k9 => by have k8 : (0 : Int) ≤ ((x : Nat) : Int) + -((2 ^ (8 * n) : Nat) : Int) := qsd.1 k9; omega⟩⟩⟩
        · refine .inl ⟨4, qoh hw, by decide, fun p hp e => ?_, fun W hW => ⟨G.uf hW hx hb h1 h64 bg false (.inl (Nat.lt_of_not_le (fun k => hr (by rw [h8]; exact bl_le.1 k)))), yi hW hx h1 h64 bg hb (.inr (qsd.2 (show (0 : Int) ≤ ((x : Nat) : Int) + -((2 ^ (8 * n) : Nat) : Int) by omega)))⟩⟩
          rcases kn bg false hp h1 with ⟨f, k, _⟩ | ⟨k, _⟩
          · have := (km (f.symm.trans e)).2; omega
          · cases k
      | true =>
        have hb1 : 1 ≤ x := hb
        refine .inl ⟨4, qoh hw, by decide, fun p hp e => ?_, fun W hW => ⟨G.uf hW hx hb h1 h64 bg false (.inr ⟨rfl, rfl⟩), yi hW hx h1 h64 bg hb (.inl (qji.2 (show -((x : Nat) : Int) + ((0 : Nat) : Int) < 0 by omega)))⟩⟩
        rcases kn bg false hp h1 with ⟨f, k, _⟩ | ⟨k, _⟩
        · have := (km (f.symm.trans e)).1; cases this
        · cases k
    | true =>
      have hp7 : 0 < 2 ^ (8 * n - 1) := Nat.two_pow_pos _
      cases b with
      | false =>
        by_cases hr : x < 2 ^ (8 * n - 1)
        · have hroom : bl (x - false.toNat) ≤ n * 8 - 1 := bl_le.2 (show x < 2 ^ (n * 8 - 1) by rw [← h8]; exact hr)
          have hF : fld false (x - false.toNat) 0 (n * 8) = x := by rcases qeh h1 hb hroom with h | h; exact h.2.1; cases h.1
          exact .inr ⟨_, hlen x, by have h9 := qjg bg h1 hb hroom; rw [hF] at h9; exact h9, hs, fun W hW => ⟨G.qje hW hx hb h1 h64 bg true hF rfl hroom (fun k => rfl), qcb hW hx h1 h64 bg hb ⟨fun k9 => by have k8 : ((x : Nat) : Int) + ((2 ^ (8 * n - 1) : Nat) : Int) < 0 := qji.1 k9; omega, fun k9 => by have k8 : (0 : Int) ≤ ((x : Nat) : Int) + -((2 ^ (8 * n - 1) : Nat) : Int) := qsd.1 k9; omega⟩⟩⟩
        · refine .inl ⟨4, qoh hw, by decide, fun p hp e => ?_, fun W hW => ⟨G.uf hW hx hb h1 h64 bg true (.inl (Nat.lt_of_not_le (fun k => hr (by rw [h8]; exact bl_le.1 k)))), ul hW hx h1 h64 bg hb (.inr (qsd.2 (show (0 : Int) ≤ ((x : Nat) : Int) + -((2 ^ (8 * n - 1) : Nat) : Int) by omega)))⟩⟩
          rcases kn bg true hp h1 with ⟨f, _, k⟩ | ⟨_, f, _⟩
          · have h9 := (km (f.symm.trans e)).2; have := k rfl; omega
          · have := (km (f.symm.trans e)).1; cases this
      | true =>
        have hb1 : 1 ≤ x := hb
        by_cases hr : x ≤ 2 ^ (8 * n - 1)
        · have hroom : bl (x - true.toNat) ≤ n * 8 - 1 := bl_le.2 (show x - 1 < 2 ^ (n * 8 - 1) by rw [← h8]; omega)
          have hF : fld true (x - true.toNat) 0 (n * 8) = 2 ^ (8 * n) - x := by rcases qeh h1 hb hroom with h | h; cases h.1; rw [kw]; exact h.2.1
          exact .inr ⟨_, hlen _, by have h9 := qjg bg h1 hb hroom; rw [hF] at h9; exact h9, hs, fun W hW => ⟨G.qje hW hx hb h1 h64 bg true hF rfl hroom (fun k => rfl), qde hW hx h1 h64 bg hb ⟨fun k9 => by have k8 : -((x : Nat) : Int) + ((2 ^ (8 * n - 1) : Nat) : Int) < 0 := qji.1 k9; omega, fun k9 => by have k8 : (0 : Int) ≤ -((x : Nat) : Int) + -((2 ^ (8 * n - 1) : Nat) : Int) := qsd.1 k9; omega⟩⟩⟩
        · refine .inl ⟨4, qoh hw, by decide, fun p hp e => ?_, fun W hW => ⟨G.uf hW hx hb h1 h64 bg true (.inl (Nat.lt_of_not_le (fun k => hr (by have k3 : x - 1 < 2 ^ (n * 8 - 1) := bl_le.1 k; rw [h8]; omega)))), qac hW hx h1 h64 bg hb (.inl (qji.2 (show -((x : Nat) : Int) + ((2 ^ (8 * n - 1) : Nat) : Int) < 0 by omega)))⟩⟩
          rcases kn bg true hp h1 with ⟨f, _, _⟩ | ⟨_, f, k1, k2⟩
          · have := (km (f.symm.trans e)).1; cases this
          · have h9 := (km (f.symm.trans e)).2; omega
  · refine .inl ⟨xm q, by unfold qsf; rw [if_neg (bne_iff_ne.1 hw)], bne_iff_ne.1 hw, fun p hp e => ?_, fun W hW => ⟨G.zeg hW hq hw, ?_⟩⟩
    · have hx : (words (G.leN (G.zw bg p))).length ≤ 512 := G.jx h64 (by have h9 := G.yq (G.zw bg p); rw [G.xh, hp] at h9; exact Nat.le_of_lt h9)
      rw [← e] at hw2
      rcases kn bg sg hp h1 with ⟨f, _, _⟩ | ⟨_, f, k1, k2⟩
      · rw [f, kd hx (Nat.zero_le _)] at hw2; cases hw2
      · rw [f, kd (Nat.le_trans (words_mono (Nat.sub_le _ _)) (by rw [kw]; exact G.jx h64 (Nat.le_refl _))) (show 1 ≤ _ by omega)] at hw2; cases hw2
    · unfold xm at hw ⊢
      by_cases s : xk q = true
      · rw [if_pos s] at hw ⊢
        by_cases s2 : xd q = true
        · rw [if_pos s2] at hw; cases hw
        · rw [if_neg s2]; exact zaa hW hq bg sg s (Bool.eq_false_iff.2 s2)
      · rw [if_neg s]; exact qzj hW hq bg sg (Bool.eq_false_iff.2 s)
open Classical in
/-- The bytes of a number, or its error. -/
noncomputable def xv (n : Nat) (bg sg : Bool) (q : Q6) : List UInt8 × Int := if h : ∃ pl : List UInt8, pl.length = n ∧ G.jt bg sg pl = q then (h.choose, 0) else ([], qsf q)
noncomputable def qgd (n : Nat) (bg sg : Bool) (q : Q6) : Bool := decide ((xv n bg sg q).2 = 0)
theorem qoi {n : Nat} {bg sg : Bool} {q : Q6} {pl : List UInt8} (h1 : 1 ≤ n) (hp : pl.length = n) (hq : G.jt bg sg pl = q) : xv n bg sg q = (pl, 0) := by
  have h : ∃ pl : List UInt8, pl.length = n ∧ G.jt bg sg pl = q := ⟨pl, hp, hq⟩
  unfold xv
  rw [dif_pos h, zfb h.choose_spec.1 hp h1 (h.choose_spec.2.trans hq.symm)]
theorem qsh {n : Nat} {bg sg : Bool} {q : Q6} (h : ∀ p : List UInt8, p.length = n → G.jt bg sg p ≠ q) : xv n bg sg q = ([], qsf q) := by
  unfold xv
  rw [dif_neg (fun ⟨p, h1, h2⟩ => h p h1 h2)]
theorem qsi {n : Nat} (h1 : 1 ≤ n) (h64 : n ≤ 64) {bg sg : Bool} {q : Q6} {w : World} {o1 o2 o3 o4 : Option Addr} {c1 c2 c3 c4 : Nat} (ha : Nm w q o1 c1 o2 c2 o3 c3 o4 c4) (hq : LenQ q) (h : qgd n bg sg q = true) : (xv n bg sg q).1.length = n ∧ Calls Tryz.prog 14 #[.agg #[.int .i64 ((n : Nat) : Int), .bool bg, .bool sg], xy q o1 c1 o2 c2 o3 c3 o4 c4] w (fun e w' => ∃ g, e = .returned (.tuple #[.slice (some ⟨g, 0, none⟩) n n, .int .i64 0]) ∧ G.Mg w w' [.row G.BY 1 (.slice (some ⟨g, 0, none⟩) n n) n (Lib.byteCells (xv n bg sg q).1)]) ∧ Calls Tryz.prog 15 #[.int .i64 ((n : Nat) : Int), .bool bg, .bool sg, xy q o1 c1 o2 c2 o3 c3 o4 c4] w (fun e w' => ∃ g, e = .returned (.tuple #[.slice (some ⟨g, 0, none⟩) n n, .int .i64 0]) ∧ G.Mg w w' [.row G.BY 1 (.slice (some ⟨g, 0, none⟩) n n) n (Lib.byteCells (xv n bg sg q).1)]) := by
  have h0 : (xv n bg sg q).2 = 0 := of_decide_eq_true h
  rcases qsg h1 h64 bg sg ha hq with ⟨ec, he, hne, hno, hc⟩ | ⟨pl, hp, hn, hs, hc⟩
  · rw [qsh hno] at h0
    exact (zke q h0).elim
  · rw [qoi h1 hp hn]
    exact ⟨hp, hc w ha⟩
theorem qxa {n : Nat} (h1 : 1 ≤ n) (h64 : n ≤ 64) {bg sg : Bool} {q : Q6} {w : World} {o1 o2 o3 o4 : Option Addr} {c1 c2 c3 c4 : Nat} (ha : Nm w q o1 c1 o2 c2 o3 c3 o4 c4) (hq : LenQ q) (h : qgd n bg sg q = false) : (xv n bg sg q).2 ≠ 0 ∧ Calls Tryz.prog 14 #[.agg #[.int .i64 ((n : Nat) : Int), .bool bg, .bool sg], xy q o1 c1 o2 c2 o3 c3 o4 c4] w (fun e w' => e = .returned (.tuple #[.slice none 0 0, .int .i64 (xv n bg sg q).2]) ∧ Below w.heap.size w w') ∧ Calls Tryz.prog 15 #[.int .i64 ((n : Nat) : Int), .bool bg, .bool sg, xy q o1 c1 o2 c2 o3 c3 o4 c4] w (fun e w' => e = .returned (.tuple #[.slice none 0 0, .int .i64 (xv n bg sg q).2]) ∧ Below w.heap.size w w') := by
  have h0 : (xv n bg sg q).2 ≠ 0 := of_decide_eq_false h
  rcases qsg h1 h64 bg sg ha hq with ⟨ec, he, hne, hno, hc⟩ | ⟨pl, hp, hn, hs, hc⟩
  · rw [qsh hno, ← he]
    exact ⟨hne, hc w ha⟩
  · rw [qoi h1 hp hn] at h0
    exact (h0 rfl).elim
end Go.Proofs.YtbhdnpbbmpemnaaGreatDoor
namespace Go.Proofs.YtbhdnpbbmpemnaaGreatDoor.G
open Go.RowKit
set_option linter.unusedVariables false
set_option linter.unusedSimpArgs false

/-- No cell of the block is a word. -/
def Clean (w : World) (g : Nat) : Prop := ∀ cur e fz, w.heap[g]? = some (.cells cur e fz) → ∀ c ∈ cur.toList, kr c = true
theorem Clean.below {w w' : World} {g : Nat} (h : Clean w g) (hlt : g < w.heap.size) (hb : Below w.heap.size w w') : Clean w' g := fun cur e fz hg => h cur e fz ((hb.block g hlt).symm.trans hg)
theorem yj {g : Nat} {t : TypeId} : ∀ (cs : List Value) (w : World) (o : Nat) (cur : Array Value), w.heap[g]? = some (.cells cur t (0, 0)) → (∀ c ∈ cur.toList, kr c = true) → (∀ c ∈ cs, kr c = true) → o + cs.length ≤ cur.size → Carry w (w.setCells g o cs) ∧ ∃ cur', (w.setCells g o cs).heap[g]? = some (.cells cur' t (0, 0)) ∧ ∀ c ∈ cur'.toList, kr c = true
  | [], w, o, cur, hg, h1, h2, hl => ⟨fun _ _ r => r, cur, hg, h1⟩
  | c :: cs, w, o, cur, hg, h1, h2, hl => by
    simp only [List.length_cons] at hl
    have hlt : o < cur.size := by omega
    have hp := heap_setCell_same w g o cur t c hg
    have h1' : ∀ u ∈ (cur.setIfInBounds o c).toList, kr u = true := by
      intro u hu
      rw [Array.toList_setIfInBounds] at hu
      rcases List.mem_or_eq_of_mem_set hu with k | k
      · exact h1 u k
      · rw [k]; exact h2 c (by simp)
    obtain ⟨hC, cur', hc1, hc2⟩ := yj cs (w.setCell ⟨g, o, none⟩ c) (o + 1) _ hp h1' (fun u hu => h2 u (by simp [hu])) (by rw [Array.size_setIfInBounds]; omega)
    refine ⟨Carry.trans ?_ hC, cur', hc1, hc2⟩
    intro so ls r
    exact Rd.setNo r (u := cur[o]) (by rw [cell_of_row w g o cur t (0, 0) hg]; exact Array.getElem?_eq_getElem hlt) (qni (h1 _ (by simp))) c
theorem qge {z : Array Value} (hz : ∀ c ∈ z.toList, kr c = true) (n : Nat) : ∀ c ∈ (Builtin.zeroCells z n).toList, kr c = true := by
  intro c hc
  unfold Builtin.zeroCells at hc
  rw [Array.toList_map, Array.toList_range] at hc
  obtain ⟨i, hi, rfl⟩ := List.mem_map.1 hc
  have hi := List.mem_range.1 hi
  have hpos : 0 < z.size := by
    apply Nat.pos_of_ne_zero
    intro k
    rw [k] at hi
    simp at hi
  have hlt : i % z.size < z.size := Nat.mod_lt _ hpos
  rw [getElem!_pos z (i % z.size) hlt]
  exact hz _ (by simp)
section
variable {P : Program} {w0 w : World} {L : List Ck} {l : List (Nat × Value)} {ops : List Oper} {Q : Exit → Act → World → Prop} {a : Act} {n : Nat} {o : Oper} {rest : List Oper} {d : Nat}
theorem zab {t ty e : TypeId} {sz by_ : Nat} {zv : Value} {x y : Operand} {dst : Option Tmp} {pos : String} {after : Array Edge} {guard : Option (Nat × Bool)} (ht : P.underlying t = some (.slice e)) (hinfo : (P.info? e).map (fun i => (i.zero, i.size, i.bytes)) = some (some zv, sz, by_)) (hzs : zv.cells.size = sz) (hsz : 0 < sz) (hzc : ∀ c ∈ zv.cells.toList, kr c = true) (hM : Mg w0 w L) (k : Nat) {g q cap : Nat} {xs : List Value} (hk : L[k]? = some (.row e sz (.slice (some ⟨g, 0, none⟩) q cap) q xs)) (hcl : Clean w g) (hx : ev l x = some (.slice (some ⟨g, 0, none⟩) q cap)) (j : Nat) {b m c2 : Nat} {news : List Value} (hj : L[j]? = some (.row e sz (.slice (some ⟨b, 0, none⟩) m c2) m news)) (hy : ev l y = some (.slice (some ⟨b, 0, none⟩) m c2)) (h1 : news.all Value.oneCell' = true) (hn : ∀ c ∈ news, kr c = true) (hm : 0 < m) (hlen : q + m ≤ 1000000000) (hbytes : (q + m) * by_ ≤ 140737488355328) :
    ∃ g' cap' w', Does P l ⟨dst, .call ⟨.builtin .append, #[x, y], #[t, t]⟩, ty, pos, after, guard⟩ w (.slice (some ⟨g', 0, none⟩) (q + m) cap') w' ∧ Mg w0 w' (L.set k (.row e sz (.slice (some ⟨g', 0, none⟩) (q + m) cap') (q + m) (xs ++ news))) ∧ Carry w w' ∧ Clean w' g' := by
  obtain ⟨i, hi, hzz⟩ := Option.map_eq_some_iff.1 hinfo
  simp only [Prod.mk.injEq] at hzz
  obtain ⟨hz, hs, hb⟩ := hzz
  have hrow : w.ownsRow w0.heap.size e sz (.slice (some ⟨g, 0, none⟩) q cap) q xs := hM.has k hk
  have hnew := hM.has j hj
  have hnl : news.length = m * sz := hnew.1
  have hnews : ∀ p u, news[p]? = some u → w.cell? ((⟨b, 0, none⟩ : Addr).add p) = some u := fun p u hp => by
    have hlt : p < news.length := (List.getElem?_eq_some_iff.1 hp).1
    rw [xw, Nat.zero_add, World.ownsRow.cellAt hnew p (by omega)]
    exact hp
  have ho1 : ∀ u ∈ news, u.oneCell' = true := fun u hu => List.all_eq_true.1 h1 u hu
  obtain ⟨g', cap', w', hr, hown, hgr, hat, hlt⟩ := run_append_lies (P := P) w t ty w0.heap.size e i zv sz by_ ht hi hz hs hb hzs hsz (.slice (some ⟨g, 0, none⟩) q cap) q xs hrow ⟨b, 0, none⟩ m c2 news hnl hnews ho1 hm (by unfold maxLen; omega) hbytes hM.bel.size w.heap.size rfl
  refine ⟨g', cap', w', fun ρ h => ?_, hM.turn k hk (by simp) hgr hown (fun d hd ha => ?_), ?_⟩
  · simp [execOp, resolve, invoke, builtin, h x _ hx, h y _ hy, hr]
  · have hl := Ck.lt (hM.all d hd)
    have key : ∀ z, d.at_ = some z → (Value.slice (some ⟨g, 0, none⟩) q cap).ownBlock ≠ some z → g' ≠ z := fun z hz hne e => by
      subst e
      rcases hat with h | h
      · exact hne h
      · have := (hl g' hz).2; omega
    cases d with
    | obj g2 o2 => exact fun e => key g2 rfl ha (by simpa [Value.ownBlock] using e)
    | row e2 sz2 v2 n2 xs2 =>
      right
      intro e
      have e2 : v2.ownBlock = some g' := e.symm
      rcases ha with ha | ha
      · exact key g' e2 (by rw [ha]; simp) rfl
      · exact key g' e2 (fun h => ha (h.trans e2.symm)) rfl
    | bld b2 bs2 => exact ⟨ha.1, fun e => key b2 rfl ha.2 (by simpa [Value.ownBlock] using e)⟩
  · rcases hrow.2 with ⟨h, _⟩ | ⟨g1, cap1, cur, hv, hbb, hg, hqc, hcm, hcs, htk⟩
    · cases h
    · cases hv
      have hclean := hcl cur e (0, 0) hg
      have hxl : xs.length = q * sz := hrow.1
      have hle : q * sz ≤ cap * sz := Nat.mul_le_mul_right _ hqc
      by_cases hroom : q + m ≤ cap
      · have hle2 : (q + m) * sz ≤ cap * sz := Nat.mul_le_mul_right _ hroom
        rw [Nat.add_mul] at hle2
        have hr2 := run_append_room_cells (P := P) w t ty e i ht hi g 0 q cap ⟨b, 0, none⟩ m c2 news (by rw [hs]; exact hnl) hnews ho1 hroom (fun p hp => by rw [cell_of_row w g _ cur e (0, 0) hg, hs, Array.getElem?_eq_getElem (by omega)]; rfl) (fun p hp => frozen_of_row w g _ cur e hg)
        rw [hr2] at hr
        injection hr with hv2 hw2
        subst hw2
        have hg2 : g' = g := by injection hv2 with hv3; injection hv3 with hv4; injection hv4 with hv5; exact hv5.symm
        subst hg2
        obtain ⟨hC, cur', hc1, hc2⟩ := yj news w (0 + q * i.size) cur hg hclean hn (by rw [hs]; omega)
        refine ⟨hC, fun cur2 e2 fz2 h2 => ?_⟩
        rw [hc1] at h2
        injection h2 with h3
        injection h3 with h4
        rw [← h4]
        exact hc2
      · have hxs : ∀ c ∈ xs, kr c = true := fun c hc => hclean c (by rw [← htk] at hc; exact List.mem_of_mem_take hc)
        have hr2 := run_append_grow (P := P) w t ty e i zv ht hi hz ⟨g, 0, none⟩ q cap xs (by rw [hs]; exact hxl) (fun p u hp => by
          have hlt : p < xs.length := (List.getElem?_eq_some_iff.1 hp).1
          rw [xw, Nat.zero_add, World.ownsRow.cellAt hrow p (by omega)]
          exact hp) ⟨b, 0, none⟩ m c2 news (by rw [hs]; exact hnl) hnews (by omega) (by omega) (growslice_fits (by omega) (by rw [hb]; exact hbytes))
        rw [hr2] at hr
        injection hr with hv2 hw2
        subst hw2
        have hg2 : g' = w.heap.size := by injection hv2 with hv3; injection hv3 with hv4; injection hv4 with hv5; exact hv5.symm
        subst hg2
        refine ⟨fun _ _ r => r.below (((Below.refl _ w).drew).alloc (Nat.le_refl _) _), fun cur2 e2 fz2 h2 => ?_⟩
        have h3 := heap_alloc_new w.drew (.cells (xs.toArray ++ news.toArray ++ Builtin.zeroCells zv.cells (grownCap w (q + m) cap e - (q + m))) e)
        have h4 := h3.symm.trans h2
        injection h4 with h5
        injection h5 with h6
        rw [← h6]
        intro c hc
        rw [Array.toList_append, Array.toList_append, List.mem_append, List.mem_append] at hc
        rcases hc with (hc | hc) | hc
        · exact hxs c hc
        · exact hn c hc
        · exact qge hzc _ c hc
theorem zfc (hA : Sl a n l) (hM : Mg w0 w L) (hg : zt l ops o = true) (hdst : o.dst = some d) (hd : Nat.blt d n = true) {vs : List Value} {m sz : Nat} {e : TypeId} (he : Does P l o w (.slice (some ⟨w.heap.size, 0, none⟩) m m) (w.alloc (.cells vs.toArray e))) (hm : vs.length = m * sz) (hle : m ≤ 1000) (hne : e ≠ BY) (hcl : ∀ c ∈ vs, kr c = true)
    (hk : ∀ g w', Mg w0 w' (.row e sz (.slice (some ⟨g, 0, none⟩) m m) m vs :: L) → Below w.heap.size w w' → Clean w' g → ∀ a', Sl a' n ((d, .slice (some ⟨g, 0, none⟩) m m) :: l) → wpList P ops.toArray Q rest a' w') : wpList P ops.toArray Q (o :: rest) a w := by
  have hb : Below w.heap.size w (w.alloc (.cells vs.toArray e)) := (Below.refl _ w).alloc (Nat.le_refl _) _
  refine vf hA hg hdst hd he (hk _ _ (hM.add hb ?_ (fun k e9 => ?_) (.inr (.inl ⟨_, _, _, _, _, rfl, .inl hne⟩))) hb (fun cur2 e2 fz2 h2 => ?_))
  · have := World.ownsRow_lit (base := w0.heap.size) (e := e) (size := sz) w vs.toArray m hM.bel.size (by unfold maxLen; omega) (by simp [hm])
    simpa [Ck.holds] using this
  · simp [Ck.at_, Value.ownBlock] at e9
    omega
  · have h4 := (heap_alloc_new w (.cells vs.toArray e)).symm.trans h2
    injection h4 with h5
    injection h5 with h6
    rw [← h6]
    exact hcl
theorem zna (hA : Sl a n l) (hg : zt l ops o = true) (hdst : o.dst = some d) (hd : Nat.blt d n = true) {k q m sz : Nat} {e : TypeId} {xs news : List Value} (he : ∃ g' cap' w', Does P l o w (.slice (some ⟨g', 0, none⟩) (q + m) cap') w' ∧ Mg w0 w' (L.set k (.row e sz (.slice (some ⟨g', 0, none⟩) (q + m) cap') (q + m) (xs ++ news))) ∧ Carry w w' ∧ Clean w' g')
    (hk : ∀ g' cap' w', Mg w0 w' (L.set k (.row e sz (.slice (some ⟨g', 0, none⟩) (q + m) cap') (q + m) (xs ++ news))) → Carry w w' → Clean w' g' → ∀ a', Sl a' n ((d, .slice (some ⟨g', 0, none⟩) (q + m) cap') :: l) → wpList P ops.toArray Q rest a' w') : wpList P ops.toArray Q (o :: rest) a w := by
  obtain ⟨g', cap', w', h1, h2, h3, h4⟩ := he
  exact vf hA hg hdst hd h1 (hk g' cap' w' h2 h3 h4)
theorem qbe {g g2 : Nat} (hne : g ≠ g2) : ∀ (cs : List Value) (w : World) (o : Nat), (w.setCells g2 o cs).heap[g]? = w.heap[g]?
  | [], w, o => rfl
  | c :: cs, w, o => (qbe hne cs (w.setCell ⟨g2, o, none⟩ c) (o + 1)).trans (Below.heap_setCell w ⟨g2, o, none⟩ c g hne)
/-- A block of the call's own is made: what is read as words qcc so, and so does a row without words. -/
theorem znb (hA : Sl a n l) (hM : Mg w0 w L) (hg : zt l ops o = true) (hdst : o.dst = some d) (hd : Nat.blt d n = true) {vs : List Value} {t : TypeId} (val : Nat → Value) (he : Does P l o w (val w.heap.size) (w.alloc (.cells vs.toArray t))) (ht : t ≠ BY)
    (hk : ∀ g w', Mg w0 w' (.obj g (.cells vs.toArray t) :: L) → Below w.heap.size w w' → ∀ a', Sl a' n ((d, val g) :: l) → wpList P ops.toArray Q rest a' w') : wpList P ops.toArray Q (o :: rest) a w :=
  vf hA hg hdst hd he (hk _ _ (hM.addObj _ (ym ht)) ((Below.refl _ w).alloc (Nat.le_refl _) _))
/-- A store into a block of the call's own: likewise. -/
theorem zfd (hA : Sl a n l) (hM : Mg w0 w L) (hg : zt l ops o = true) (hdst : o.dst = none) {g q : Nat} {cs vs us : List Value} {e : TypeId} (he : Sets P l o w (w.setCells g q cs)) (k : Nat) (hk0 : L[k]? = some (.obj g (.cells vs.toArray e))) (hus : over vs q cs = us) {L' : List Ck} (hL : L.set k (.obj g (.cells us.toArray e)) = L') (hl : Nat.ble (q + cs.length) vs.length = true) (h1 : vs.all kr = true) (h2 : cs.all kr = true)
    (hk : ∀ w', Mg w0 w' L' → Carry w w' → (∀ g2, g2 ≠ g → Clean w g2 → Clean w' g2) → wpList P ops.toArray Q rest a w') : wpList P ops.toArray Q (o :: rest) a w :=
  yk hA hg hdst he (hk _ (by subst hus hL; exact Mg.puts cs w L vs q hM k hk0) (qbj cs w L vs q hM k hk0 (Nat.le_of_ble_eq_true hl) h1 h2) (fun g2 hne hc cur e2 fz h => hc cur e2 fz ((qbe hne cs w q).symm.trans h)))
theorem zfe {k j g g2 : Nat} {o : Obj} {e : TypeId} {sz m cap : Nat} {xs : List Value} (hM : Mg w0 w L) (hk : L[k]? = some (.obj g2 o)) (hj : L[j]? = some (.row e sz (.slice (some ⟨g, 0, none⟩) m cap) m xs)) : g ≠ g2 := by
  intro h
  subst h
  have hkj : k ≠ j := fun h => by subst h; rw [hk] at hj; cases hj
  obtain ⟨hk1, hk2⟩ := List.getElem?_eq_some_iff.1 hk
  obtain ⟨hj1, hj2⟩ := List.getElem?_eq_some_iff.1 hj
  have hd := List.pairwise_iff_getElem.1 hM.dis
  rcases Nat.lt_or_gt_of_ne hkj with h | h
  · have h9 := hd k j hk1 hj1 h
    rw [hk2, hj2] at h9
    exact h9 rfl
  · have h9 := hd j k hj1 hk1 h
    rw [hk2, hj2] at h9
    exact h9 rfl
variable {S : World → Prop} {md : Region.Mode} {fuel : Nat} {listed : Array Bool}
theorem zff (hA : Sl a n l) (hM : Mg w0 w L) (i : Nat) (hi : ops[i]? = some o) (hg : zt l ops o = true) (hdst : o.dst = none) {g q : Nat} {cs : List Value} {e : TypeId} {sz m cap : Nat} {xs : List Value} (he : Sets P l o w (w.setCells g q cs)) (k : Nat) (hk0 : L[k]? = some (.row e sz (.slice (some ⟨g, 0, none⟩) m cap) m xs)) (hcl : Clean w g) (hl : q + cs.length ≤ m * sz) (h2 : ∀ c ∈ cs, kr c = true) {L' : List Ck} (hL : L.set k (.row e sz (.slice (some ⟨g, 0, none⟩) m cap) m (over xs q cs)) = L')
    (hk : ∀ w', Mg w0 w' L' → Carry w w' → Clean w' g → S w' ∧ wpAnyH P md ops.toArray Q S fuel (listed.setIfInBounds i true) a w') : wpOp P ops.toArray Q i (fun a' w' => S w' ∧ wpAnyH P md ops.toArray Q S fuel (listed.setIfInBounds i true) a' w') a w := by
  have hrow : w.ownsRow w0.heap.size e sz (.slice (some ⟨g, 0, none⟩) m cap) m xs := hM.has k hk0
  rcases hrow.2 with ⟨h, _⟩ | ⟨g1, cap1, cur, hv, hbb, hg1, hqc, hcm, hcs, htk⟩
  · cases h
  · cases hv
    have hle : m * sz ≤ cap * sz := Nat.mul_le_mul_right _ hqc
    obtain ⟨hC, cur', hc1, hc2⟩ := yj cs w q cur hg1 (hcl cur e (0, 0) hg1) h2 (by omega)
    have h := hk _ (by subst hL; exact Mg.rowPuts cs w L xs q hM k hk0) hC (fun cur2 e2 fz2 h2 => by
      rw [hc1] at h2
      injection h2 with h3
      injection h3 with h4
      rw [← h4]
      exact hc2)
    exact qhi hA i hi hg hdst he h.1 h.2
theorem zkf (hA : Sl a n l) (hM : Mg w0 w L) {t e ty : TypeId} {z : Value} {sz by_ : Nat} {dst : Option Tmp} {pos : String} {after : Array Edge} {guard : Option (Nat × Bool)} (ht : P.underlying t = some (.slice e)) (hinfo : (P.info? e).map (fun i => (i.zero, i.size, i.bytes)) = some (some z, sz, by_)) {x y : Operand} {m : Nat} (hx : ev l x = some (.int .i64 ((m : Nat) : Int))) (hy : ev l y = some (.int .i64 ((m : Nat) : Int))) (ho : o = ⟨dst, .makeSlice t x y, ty, pos, after, guard⟩) (hg : zt l ops o = true) (hdst : o.dst = some d) (hd : Nat.blt d n = true) (hb : by_ * m ≤ 281474976710656) (h63 : m ≤ 9223372036854775807) (hnb : e ≠ BY ∨ yt L) (hzc : ∀ c ∈ (madeCells z.cells (m * sz)).toList, kr c = true)
    (hk : ∀ g w', Mg w0 w' (.row e sz (.slice (some ⟨g, 0, none⟩) m m) m (madeCells z.cells (m * sz)).toList :: L) → Below w.heap.size w w' → Clean w' g → ∀ a', Sl a' n ((d, .slice (some ⟨g, 0, none⟩) m m) :: l) → wpList P ops.toArray Q rest a' w') : wpList P ops.toArray Q (o :: rest) a w := by
  subst ho
  obtain ⟨i, hi, hzz⟩ := Option.map_eq_some_iff.1 hinfo
  simp only [Prod.mk.injEq] at hzz
  obtain ⟨hz, hs, hbb⟩ := hzz
  obtain ⟨w', hr, hown, hgr⟩ := run_make_full (P := P) (w := w) w0.heap.size t e i z sz ht hi hz hs .i64 .i64 m (by rw [hbb]; exact hb) (by unfold maxLen; omega) hM.bel.size
  have hbel : Below w.heap.size w w' := ⟨hgr.os, hgr.tape, hgr.output, hgr.size, fun k hk => hgr.block k hk (by simp)⟩
  have hcl : Clean w' w.heap.size := by
    rcases hown.2 with ⟨h, _⟩ | ⟨g1, cap1, cur, hv, hbb, hg1, hqc, hcm, hcs, htk⟩
    · cases h
    · cases hv
      intro cur2 e2 fz2 h2
      rw [hg1] at h2
      injection h2 with h3
      injection h3 with h4
      rw [← h4]
      intro c hc
      refine hzc c ?_
      rw [← htk, List.take_of_length_le (by rw [Array.length_toList]; omega)]
      exact hc
  refine vf hA hg hdst hd (v := .slice (some ⟨w.heap.size, 0, none⟩) m m) (w' := w') (fun ρ h => ?_) (hk w.heap.size w' (hM.add hbel hown (fun k e => by simp [Ck.at_, Value.ownBlock] at e; omega) (.inr (.inl ⟨_, _, _, _, _, rfl, hnb⟩))) hbel hcl)
  simp only [execOp, h x _ hx, h y _ hy, Sem.run_bind, hr, Result.andThen_ok, Sem.run_pure]
end
theorem qfa : ∀ (cs A B : List Value), cs.length ≤ B.length → over (A ++ B) A.length cs = A ++ cs ++ B.drop cs.length
  | [], A, B, h => by simp [over]
  | c :: cs, A, [], h => by simp at h
  | c :: cs, A, b :: B, h => by
    show over ((A ++ b :: B).set A.length c) (A.length + 1) cs = _
    rw [show (A ++ b :: B).set A.length c = (A ++ [c]) ++ B from by simp [List.set_append_right]]
    have := qfa cs (A ++ [c]) B (by simpa using h)
    rw [List.length_append] at this
    simpa using this
section
variable {P : Program} {w0 w : World} {L : List Ck} {l : List (Nat × Value)} {dst : Option Tmp} {ty : TypeId} {pos : String} {after : Array Edge} {guard : Option (Nat × Bool)} {v : Value}
theorem qga {t e : TypeId} {sz : Nat} (hu : P.underlying t = some (.slice e)) (he : (P.info? e).map (·.size) = some sz) {x i : Operand} {so : Option Addr} {g off n c k : Nat} {z : Int} (hx : ev l x = some (.slice so n c)) (hi : ev l i = some (.int .i64 z)) (hz : z = (k : Nat)) (hso : so = some ⟨g, off, none⟩) (hk : k < n) :
    Does P l ⟨dst, .indexAddr t x i, ty, pos, after, guard⟩ w (.pointer (some ⟨g, off + k * sz, none⟩)) w := by
  subst hz hso
  exact ve (l := l) (dst := dst) (ty := ty) (pos := pos) (after := after) (guard := guard) (w := w) hx hi (qbg hu he hk)
theorem qxb (hM : Mg w0 w L) {b o n : Nat} (hlt : b < w0.heap.size) {cs : List Value} (hc : ∀ j v, cs[j]? = some v → w0.cell? ⟨b, o + j, none⟩ = some v) {t : TypeId} (ht : IsS P t n) {x : Operand} (hx : ev l x = some (.pointer (some ⟨b, o, none⟩))) (hl : cs.length = n) : Does P l ⟨dst, .load t x, ty, pos, after, guard⟩ w (.agg cs.toArray) w :=
  xp hx (vv ht cs hl (fun j v hj => (hM.bel.cell hlt).trans (hc j v hj)))
end
end Go.Proofs.YtbhdnpbbmpemnaaGreatDoor.G
namespace Go.Proofs.YtbhdnpbbmpemnaaGreatDoor
open Go.RowKit
set_option linter.unusedVariables false
set_option linter.unusedSimpArgs false

/-- A number as it lies in a row: its parts, and the slices that bear them. -/
structure Yn where
  q : Q6
  o1 : Option Addr
  c1 : Nat
  o2 : Option Addr
  c2 : Nat
  o3 : Option Addr
  c3 : Nat
  o4 : Option Addr
  c4 : Nat
def Yn.cells (y : Yn) : List Value := [.bool y.q.b1, .slice y.o1 y.q.t1.length y.c1, .slice y.o2 y.q.q1.length y.c2, .bool y.q.b2, .slice y.o3 y.q.t2.length y.c3, .slice y.o4 y.q.q2.length y.c4]
def Yn.nm (w : World) (y : Yn) : Prop := Nm w y.q y.o1 y.c1 y.o2 y.c2 y.o3 y.c3 y.o4 y.c4
def yC (ys : List Yn) : List Value := (ys.map Yn.cells).flatten
def NL (w : World) (ys : List Yn) : Prop := ∀ y ∈ ys, y.nm w
theorem NL.carry {w w' : World} {ys : List Yn} (h : NL w ys) (hc : G.Carry w w') : NL w' ys := fun y hy => G.jv (h y hy) hc
theorem NL.below {w w' : World} {ys : List Yn} (h : NL w ys) (hb : Below w.heap.size w w') : NL w' ys := fun y hy => G.xa (h y hy) hb
theorem NL.snoc {w : World} {ys : List Yn} {y : Yn} (h : NL w ys) (hy : y.nm w) : NL w (ys ++ [y]) := fun z hz => by
  rcases List.mem_append.1 hz with k | k
  · exact h z k
  · rw [List.mem_singleton.1 k]; exact hy
theorem qxc (ys : List Yn) (y : Yn) : yC (ys ++ [y]) = yC ys ++ y.cells := by simp [yC]
theorem zfg (ys : List Yn) : (yC ys).length = ys.length * 6 := by
  induction ys with
  | nil => rfl
  | cons y ys ih => simp [yC, Yn.cells] at ih ⊢; omega
theorem qka (y : Yn) : ∀ c ∈ y.cells, G.kr c = true := by
  intro c hc
  simp [Yn.cells] at hc
  rcases hc with rfl | rfl | rfl | rfl | rfl | rfl <;> rfl
/-- The bytes' parts, each n long. -/
def chk (l : List UInt8) (n i : Nat) : List UInt8 := (l.drop (i * n)).take n
def kh (bg sg : Bool) (l : List UInt8) (n k : Nat) : List Q6 := (List.range k).map fun i => G.jt bg sg (chk l n i)
theorem qkb (bg sg : Bool) (l : List UInt8) (n k : Nat) : kh bg sg l n (k + 1) = kh bg sg l n k ++ [G.jt bg sg (chk l n k)] := by
  unfold kh
  rw [List.range_succ, List.map_append]
  rfl
/-- Numbers that are nothing yet. -/
def zN : List Value := [.bool false, .slice none 0 0, .slice none 0 0, .bool false, .slice none 0 0, .slice none 0 0]
def zR (m : Nat) : List Value := (List.replicate m zN).flatten
theorem qoj (m : Nat) : zR (m + 1) = zN ++ zR m := by simp [zR, List.replicate_succ]
theorem zfh (m : Nat) : (zR m).length = m * 6 := by
  induction m with
  | zero => rfl
  | succ m ih => rw [qoj, List.length_append, ih]; simp [zN]; omega
theorem znc (ys : List Yn) (y : Yn) (m : Nat) {k : Nat} (hk : ys.length = k) : G.over (yC ys ++ zR (m + 1)) (k * 6) y.cells = yC (ys ++ [y]) ++ zR m := by
  rw [show k * 6 = (yC ys).length from by rw [zfg, hk], G.qfa _ _ _ (by rw [zfh]; simp [Yn.cells]; omega), qxc, qoj]
  rfl
theorem znd (m i : Nat) (h : i < m * 6) : (zR m)[i]? = zN[i % 6]? := by
  induction m generalizing i with
  | zero => omega
  | succ m ih =>
    rw [qoj]
    by_cases hi : i < 6
    · rw [List.getElem?_append_left (by simp [zN]; exact hi), Nat.mod_eq_of_lt hi]
    · rw [List.getElem?_append_right (by simp [zN]; omega)]
      show (zR m)[i - 6]? = _
      rw [ih (i - 6) (by omega), show (i - 6) % 6 = i % 6 from by omega]
theorem qxd (m : Nat) {z : Value} (hz : z.cells = zN.toArray) : (madeCells z.cells (m * 6)).toList = zR m := by
  rw [hz]
  refine List.ext_getElem? fun i => ?_
  unfold madeCells
  rw [Array.toList_map, Array.toList_range, List.getElem?_map]
  by_cases h : i < m * 6
  · rw [List.getElem?_range h, znd m i h]
    have h6 : i % 6 < 6 := Nat.mod_lt _ (by decide)
    show some (zN.toArray[i % 6]!) = _
    rw [getElem!_pos zN.toArray (i % 6) (by simpa [zN] using h6)]
    exact (List.getElem?_eq_getElem (by simpa [zN] using h6)).symm
  · rw [List.getElem?_eq_none (by simp; omega), List.getElem?_eq_none (by rw [zfh]; omega)]
    rfl
theorem zfi (m : Nat) : ∀ c ∈ zR m, G.kr c = true := by
  intro c hc
  obtain ⟨x, hx, hcx⟩ := List.mem_flatten.1 hc
  rw [(List.mem_replicate.1 hx).2] at hcx
  exact List.all_eq_true.1 (show zN.all G.kr = true from rfl) c hcx
/-- A slice reads as numbers. -/
def Rn (w : World) (so : Option Addr) (ys : List Yn) : Prop := ys ≠ [] → ∃ b off, so = some ⟨b, off, none⟩ ∧ b < w.heap.size ∧ ∀ j v, (yC ys)[j]? = some v → w.cell? ⟨b, off + j, none⟩ = some v
theorem Rn.below {w w' : World} {so : Option Addr} {ys : List Yn} (h : Rn w so ys) (hb : Below w.heap.size w w') : Rn w' so ys := fun hne => by
  obtain ⟨b, off, h1, h2, h3⟩ := h hne
  exact ⟨b, off, h1, Nat.lt_of_lt_of_le h2 hb.size, fun j v hj => (hb.cell h2).trans (h3 j v hj)⟩
theorem qvg : ∀ {ys : List Yn} {k : Nat} {y : Yn}, ys[k]? = some y → ∀ {j : Nat} {v : Value}, y.cells[j]? = some v → (yC ys)[k * 6 + j]? = some v
  | [], k, y, h, j, v, hj => by simp at h
  | z :: ys, 0, y, h, j, v, hj => by
    simp only [List.getElem?_cons_zero, Option.some.injEq] at h
    subst h
    have hlt := (List.getElem?_eq_some_iff.1 hj).1
    show (z.cells ++ yC ys)[0 * 6 + j]? = some v
    rw [Nat.zero_mul, Nat.zero_add, List.getElem?_append_left hlt]
    exact hj
  | z :: ys, k + 1, y, h, j, v, hj => by
    rw [List.getElem?_cons_succ] at h
    show (z.cells ++ yC ys)[(k + 1) * 6 + j]? = some v
    have hl : z.cells.length = 6 := rfl
    rw [List.getElem?_append_right (by rw [hl]; omega), hl, show (k + 1) * 6 + j - 6 = k * 6 + j from by omega]
    exact qvg h hj
theorem Rn.at_ {w : World} {so : Option Addr} {ys : List Yn} (h : Rn w so ys) {k : Nat} {y : Yn} (hk : ys[k]? = some y) : ∃ b off, so = some ⟨b, off, none⟩ ∧ b < w.heap.size ∧ ∀ j v, y.cells[j]? = some v → w.cell? ⟨b, off + k * 6 + j, none⟩ = some v := by
  obtain ⟨b, off, h1, h2, h3⟩ := h (fun e => by rw [e] at hk; simp at hk)
  exact ⟨b, off, h1, h2, fun j v hj => by rw [Nat.add_assoc]; exact h3 _ v (qvg hk hj)⟩
noncomputable def bsF (n : Nat) (bg sg : Bool) (qs : List Q6) : List UInt8 := (qs.map fun q => (xv n bg sg q).1).flatten
/-- The bytes of numbers, or the first error. -/
noncomputable def ofQ (n : Nat) (bg sg : Bool) : List Q6 → List UInt8 × Int
  | [] => ([], 0)
  | q :: qs => if qgd n bg sg q = true then (if (ofQ n bg sg qs).2 = 0 then ((xv n bg sg q).1 ++ (ofQ n bg sg qs).1, 0) else ([], (ofQ n bg sg qs).2)) else ([], (xv n bg sg q).2)
theorem qdf {n : Nat} {bg sg : Bool} : ∀ {qs : List Q6}, (∀ q ∈ qs, qgd n bg sg q = true) → ofQ n bg sg qs = (bsF n bg sg qs, 0)
  | [], _ => rfl
  | q :: qs, h => by
    have ih := qdf (qs := qs) (fun z hz => h z (by simp [hz]))
    unfold ofQ
    rw [if_pos (h q (by simp)), ih, if_pos rfl]
    rfl
theorem qpa {n : Nat} {bg sg : Bool} : ∀ {qs : List Q6} {k : Nat} {q : Q6}, qs[k]? = some q → (∀ z ∈ qs.take k, qgd n bg sg z = true) → qgd n bg sg q = false → ofQ n bg sg qs = ([], (xv n bg sg q).2)
  | [], k, q, h, _, _ => by simp at h
  | z :: qs, 0, q, h, _, hb => by
    simp only [List.getElem?_cons_zero, Option.some.injEq] at h
    subst h
    unfold ofQ
    rw [if_neg (by rw [hb]; decide)]
  | z :: qs, k + 1, q, h, ha, hb => by
    rw [List.getElem?_cons_succ] at h
    have ih := qpa h (fun x hx => ha x (by simp [hx])) hb
    have hne : (xv n bg sg q).2 ≠ 0 := of_decide_eq_false hb
    unfold ofQ
    rw [if_pos (ha z (by simp)), ih, if_neg hne]
theorem qsj {n : Nat} {bg sg : Bool} {qs : List Q6} {k : Nat} {q : Q6} (h : qs[k]? = some q) : bsF n bg sg (qs.take (k + 1)) = bsF n bg sg (qs.take k) ++ (xv n bg sg q).1 := by
  unfold bsF
  rw [List.take_add_one, h]
  simp
theorem qpb {w0 w : World} {L : List G.Ck} (hM : G.Mg w0 w L) (k : Nat) {e : TypeId} {g m c : Nat} {ys : List Yn} (hk : L[k]? = some (.row e 6 (.slice (some ⟨g, 0, none⟩) m c) m (yC ys))) : Rn w (some ⟨g, 0, none⟩) ys := fun hne => by
  refine ⟨g, 0, rfl, (G.Ck.lt (hM.has k hk) g rfl).2, fun j v hj => ?_⟩
  rw [Nat.zero_add]
  exact G.yf hM k hk j v hj
section
variable {P : Program} {w0 w : World} {l : List (Nat × Value)} {dst : Option Tmp} {ty : TypeId} {pos : String} {after : Array Edge} {guard : Option (Nat × Bool)} {v : Value} {L : List (Nat × List Value)} {R : List (Option Addr × List Nat)} {O : List (Option Addr × Nat × List Nat)}
theorem ug (hS : St w0 w L R O) {b o n : Nat} (hlt : b < w0.heap.size) {cs : List Value} (hc : ∀ j v, cs[j]? = some v → w0.cell? ⟨b, o + j, none⟩ = some v) {t : TypeId} (ht : IsS P t n) {x : Operand} (hx : ev l x = some (.pointer (some ⟨b, o, none⟩))) (hl : cs.length = n) : Does P l ⟨dst, .load t x, ty, pos, after, guard⟩ w (.agg cs.toArray) w :=
  xp hx (vv ht cs hl (fun j v hj => (hS.bel.cell hlt).trans (hc j v hj)))
theorem qdg {t e : TypeId} {sz : Nat} (hu : P.underlying t = some (.slice e)) (he : (P.info? e).map (·.size) = some sz) {x i : Operand} {so : Option Addr} {g off n c k : Nat} {z : Int} (hx : ev l x = some (.slice so n c)) (hi : ev l i = some (.int .i64 z)) (hz : z = (k : Nat)) (hso : so = some ⟨g, off, none⟩) (hk : k < n) :
    Does P l ⟨dst, .indexAddr t x i, ty, pos, after, guard⟩ w (.pointer (some ⟨g, off + k * sz, none⟩)) w := by
  subst hz hso
  exact ve hx hi (G.qbg hu he hk)
end
theorem zfj {w : World} {y z : Yn} (h : y.q = z.q) (hy : y.nm w) (hz : z.nm w) (hl : LenQ y.q) : Calls Tryz.prog 10 #[.agg y.cells.toArray, .agg z.cells.toArray] w fun e w' => e = .returned (.bool true) ∧ Below w.heap.size w w' := by
  obtain ⟨q, o1, c1, o2, c2, o3, c3, o4, c4⟩ := y
  obtain ⟨q2, p1, d1, p2, d2, p3, d3, p4, d4⟩ := z
  have h9 : q = q2 := h
  subst h9
  exact qzf hy hl hz
end Go.Proofs.YtbhdnpbbmpemnaaGreatDoor
namespace Go.Proofs.YtbhdnpbbmpemnaaGreatDoor.G
open Go.RowKit
set_option linter.unusedVariables false
set_option linter.unusedSimpArgs false
set_option maxRecDepth 100000
theorem ByS_isS_36 : IsS Tryz.prog 36 6 := ⟨⟨_, Tryz.underlying36⟩, by kernel_rfl⟩
theorem ByS_isS_39 : IsS Tryz.prog 39 3 := ⟨⟨_, Tryz.underlying39⟩, by kernel_rfl⟩
theorem zkg (x n : Nat) : Int.tmod ((x : Nat) : Int) ((n : Nat) : Int) = ((x % n : Nat) : Int) := (Int.tmod_eq_emod_of_nonneg (by omega)).trans (Int.natCast_emod x n).symm
theorem zne {x n c : Nat} (hx : x ≤ 140737488351232) (h : x / n = c) : IntKind.i64.wrap (Int.tdiv ((x : Nat) : Int) ((n : Nat) : Int)) = ((c : Nat) : Int) := by
 have hc : c ≤ x := by rw [← h]; exact Nat.div_le_self _ _
 rw [Int.tdiv_eq_ediv_of_nonneg (by omega), ← Int.natCast_ediv, h]
 exact in_i64 (by omega) (by omega)
theorem zga {k n : Nat} (h : k * n ≤ 140737488351232) : IntKind.i64.wrap (((k : Nat) : Int) * ((n : Nat) : Int)) = ((k * n : Nat) : Int) := by
 rw [← Int.natCast_mul]
 exact in_i64 (by omega) (by omega)
theorem yv {x n c k : Nat} (h : x / n = c) (hk : k < c) : k * n + n ≤ x := by
 have h1 : (k + 1) * n ≤ c * n := Nat.mul_le_mul_right _ hk
 rw [Nat.add_mul, Nat.one_mul] at h1
 have h2 : c * n ≤ x := by rw [← h]; exact Nat.div_mul_le_self _ _
 omega
theorem qta {w : World} {so : Option Addr} {ca : Nat} {l : List UInt8} (hb : Rb w so l) (hca : l.length ≤ ca) (hl : l.length ≤ 1048576) {n cn : Nat} (h1 : 1 ≤ n) (h64 : n ≤ 64) (hcn : l.length / n = cn) (bg sg : Bool) (hrem : l.length % n = 0) : Calls Tryz.prog 5 #[.slice so l.length ca, .int .i64 ((n : Nat) : Int), .bool bg, .bool sg] w fun e w' => ∃ ys g cap, e = .returned (.tuple #[.slice (some ⟨g, 0, none⟩) cn cap, .int .i64 0]) ∧ Mg w w' [.row 36 6 (.slice (some ⟨g, 0, none⟩) cn cap) cn (yC ys)] ∧ NL w' ys ∧ ys.map Yn.q = kh bg sg l n cn := by
 have hM : Mg w w ([]) := Mg.start w
 refine za (l := [(0, .slice so l.length ca), (1, .int .i64 (((n : Nat) : Int))), (2, .bool bg), (3, .bool sg)]) Tryz.func5 rfl Tryz.ntmps5 rfl rfl ?_
 intro Q hret hnorm hP a hA
 refine wsk fun K1 hK1 => wrl ?_
 iterate 2 refine sdo hA (qb rfl) fun a hA => ?_
 refine qe (hK1 _ _ (wsk fun K2 hK2 => wsk fun K3 hK3 => wrl (sdo hA (qa rfl) fun a hA => ?_)))
 refine sdo (v := .bool false) hA (qg rfl rfl (fun w => (zi w).trans (by rw [show (decide (((n : Nat) : Int) < 1)) = false from (decide_eq_false (by omega))]))) fun a hA => ?_
 iterate 2 refine sdo hA (qa rfl) fun a hA => ?_
 refine sdo (v := .bool false) hA (qg rfl rfl (fun w => (ja w).trans (by rw [show (decide (64 < ((n : Nat) : Int))) = false from (decide_eq_false (by omega))]))) fun a hA => ?_
 refine sdo (v := .bool false) hA (qj rfl rfl rfl rfl) fun a hA => ?_
 iterate 2 refine sdo hA (qa rfl) fun a hA => ?_
 refine sdo hA (zb Tryz.underlying22 rfl) fun a hA => ?_
 refine sdo hA (qa rfl) fun a hA => ?_
 refine sdo (v := .int .i64 (((l.length % n : Nat) : Int))) hA (qg rfl rfl (ar_rem (by omega) (zkg _ _))) fun a hA => ?_
 refine sdo (v := .bool false) hA (qg rfl rfl (fun w => (jm w).trans (by rw [show ((((l.length % n : Nat) : Int) != 0)) = false from (bne_eq_false_iff_eq.2 (by rw [hrem]; rfl))]))) fun a hA => ?_
 refine sdo (v := .bool false) hA (qj rfl rfl rfl rfl) fun a hA => ?_
 refine qe (hK3 _ _ (wp_cond_false (hA.ev rfl) ?_))
 refine wp_skip (hK2 _ _ (wsk fun K4 hK4 => wrl (zfc (vs := []) (m := 0) (sz := 6) (e := 36) hA hM rfl rfl rfl (qx rfl (by kernel_rfl)) rfl (by omega) (by decide) (by simp) ?_)))
 intro g5 w6 hM hB7 hCl a hA
 have hN : NL w6 [] := fun y hy => by cases hy
 refine sdo hA (qb rfl) fun a hA => ?_
 refine qe (hK4 _ _ (wsk fun K8 hK8 => wsk fun K9 hK9 => wrl (sdo hA (qb rfl) fun a hA => ?_)))
 refine qe (hK9 _ _ (wp_block (jb (fun m_ a w1 => ∃ (k : Nat) (ys : List Yn) (gy : Nat) (cy : Nat), m_ = 1 + (cn - k) ∧ (k ≤ cn ∧ ys.length = k ∧ ys.map Yn.q = kh bg sg l n k ∧ NL w1 ys ∧ Clean w1 gy) ∧ Sl a 52 [(0, .slice so l.length ca), (1, .int .i64 (((n : Nat) : Int))), (2, .bool bg), (3, .bool sg), (8, .slice none 0 0), (9, .int .i64 0), (10, .slice (some ⟨gy, 0, none⟩) k cy), (11, .int .i64 (((k : Nat) : Int))), (14, .int .i64 (((n : Nat) : Int))), (15, .bool false), (16, .bool false), (17, .int .i64 (((n : Nat) : Int))), (18, .bool false), (19, .bool false), (20, .bool false), (21, .slice so l.length ca), (22, .int .i64 (((l.length : Nat) : Int))), (23, .int .i64 (((n : Nat) : Int))), (24, .int .i64 (((l.length % n : Nat) : Int))), (25, .bool false), (26, .bool false), (27, .slice (some ⟨g5, 0, none⟩) 0 0)] ∧ Mg w w1 (.row 36 6 (.slice (some ⟨gy, 0, none⟩) k cy) k ((yC ys)) :: [])) _ ⟨0, [], g5, 0, rfl, ⟨Nat.zero_le _, rfl, rfl, hN, hCl⟩, hA.keep _ ⟨rfl, rfl, rfl, rfl, rfl, rfl, rfl, rfl, rfl, rfl, rfl, rfl, rfl, rfl, rfl, rfl, rfl, rfl, rfl, rfl, rfl, rfl, trivial⟩, hM⟩ ?_)))
 clear hM hA
 rintro m_ a w10 ⟨k, ys, gy, cy, rfl, hinv12, hA, hM⟩ K11 hK11
 obtain ⟨hk9, hyl, hyq, hN, hCl⟩ := hinv12
 have hcl9 : cn ≤ l.length := by rw [← hcn]; exact Nat.div_le_self _ _
 refine wsk fun K13 hK13 => wsk fun K14 hK14 => wrl ?_
 iterate 2 refine sdo hA (qa rfl) fun a hA => ?_
 refine sdo hA (zb Tryz.underlying22 rfl) fun a hA => ?_
 refine sdo hA (qa rfl) fun a hA => ?_
 refine sdo (v := .int .i64 (((cn : Nat) : Int))) hA (qg rfl rfl (ar_quo (by omega) (zne (by omega) hcn))) fun a hA => ?_
 rcases tf (decide (((k : Nat) : Int) < ((cn : Nat) : Int))) with hb15 | hb15
 ·
  have hb15' := of_decide_eq_true hb15
  refine sdo (v := .bool true) hA (qg rfl rfl (fun w => (zi w).trans (by rw [hb15]))) fun a hA => ?_
  refine qe (hK14 _ _ (wp_cond_true (hA.ev rfl) ?_))
  refine wp_skip (hK13 _ _ (wsk fun K16 hK16 => wp_block (wsk fun K17 hK17 => wrl ?_)))
  iterate 3 refine sdo hA (qa rfl) fun a hA => ?_
  have hle8 := yv hcn (show k < cn by omega)
  refine sdo (v := .int .i64 (((k * n : Nat) : Int))) hA (qg rfl rfl (ar_mul (zga (by omega)))) fun a hA => ?_
  iterate 3 refine sdo hA (qa rfl) fun a hA => ?_
  have hle9 := yv hcn (show k < cn by omega)
  obtain ⟨q20, hq20⟩ : ∃ q9, jt bg sg ((l.drop (k * n)).take n) = q9 := ⟨_, rfl⟩
  have hgl := (Ck.lt (hM.has 0 rfl) _ rfl).2
  refine qi hA rfl rfl rfl (qf rfl rfl (fun w => by kernel_rfl)) ((hq20 ▸ zjc (w := w10) (an := k * n) (hb.below hM.bel) hca (by omega) h1 h64 hle9 bg sg)) ?_
  rintro _ w22 ⟨o21_1, o21_c1, o21_2, o21_c2, o21_3, o21_c3, o21_4, o21_c4, rfl, hn18, hb19⟩
  replace hN := hN.below hb19
  replace hCl := hCl.below hgl hb19
  replace hM := hM.call hb19
  refine ⟨_, rfl, ?_⟩
  intro a hA
  refine sdo hA (qa rfl) fun a hA => ?_
  iterate 2 refine sdo hA (qz (vs := [.agg #[.bool q20.b1, .slice o21_1 q20.t1.length o21_c1, .slice o21_2 q20.q1.length o21_c2, .bool q20.b2, .slice o21_3 q20.t2.length o21_c3, .slice o21_4 q20.q2.length o21_c4], .int .i64 0]) rfl rfl) fun a hA => ?_
  have hgl := (Ck.lt (hM.has 0 rfl) _ rfl).2
  refine znb (vs := [.bool false, .slice none 0 0, .slice none 0 0, .bool false, .slice none 0 0, .slice none 0 0]) (t := 36) hA hM rfl rfl rfl (fun g => .pointer (some ⟨g, 0, none⟩)) (qp (z := .agg #[.bool false, .slice none 0 0, .slice none 0 0, .bool false, .slice none 0 0, .slice none 0 0]) (by kernel_rfl) rfl) (by decide) ?_
  intro g23 w24 hM hB25 a hA
  replace hn18 := xa hn18 hB25
  replace hN := hN.below hB25
  replace hCl := hCl.below hgl hB25
  have hne9 := zfe hM (k := 0) (j := 1) rfl rfl
  refine zfd (us := [.bool q20.b1, .slice o21_1 q20.t1.length o21_c1, .slice o21_2 q20.q1.length o21_c2, .bool q20.b2, .slice o21_3 q20.t2.length o21_c3, .slice o21_4 q20.q2.length o21_c4]) (L' := (.obj g23 (.cells #[.bool q20.b1, .slice o21_1 q20.t1.length o21_c1, .slice o21_2 q20.q1.length o21_c2, .bool q20.b2, .slice o21_3 q20.t2.length o21_c3, .slice o21_4 q20.q2.length o21_c4] 36) :: .row 36 6 (.slice (some ⟨gy, 0, none⟩) k cy) k ((yC ys)) :: [])) hA hM rfl rfl (jz rfl rfl rfl (by kernel_rfl) hM 0 rfl rfl rfl) 0 rfl rfl rfl rfl rfl rfl ?_
  intro w26 hM hc27 hk28
  replace hn18 := jv hn18 hc27
  replace hN := hN.carry hc27
  replace hCl := hk28 _ hne9 hCl
  refine sdo hA (qb rfl) fun a hA => ?_
  refine qe (hK17 _ _ (wrl (sdo hA (qa rfl) fun a hA => ?_)))
  refine sdo hA (jc hM ByS_isS_36 rfl 0 rfl (cs := [.bool q20.b1, .slice o21_1 q20.t1.length o21_c1, .slice o21_2 q20.q1.length o21_c2, .bool q20.b2, .slice o21_3 q20.t2.length o21_c3, .slice o21_4 q20.q2.length o21_c4]) rfl rfl) fun a hA => ?_
  have hgl := (Ck.lt (hM.has 1 rfl) _ rfl).2
  refine zfc (vs := [.bool q20.b1, .slice o21_1 q20.t1.length o21_c1, .slice o21_2 q20.q1.length o21_c2, .bool q20.b2, .slice o21_3 q20.t2.length o21_c3, .slice o21_4 q20.q2.length o21_c4]) (m := 1) (sz := 6) (e := 36) hA hM rfl rfl rfl (qx rfl (by kernel_rfl)) rfl (by omega) (by decide) (qka (Yn.mk q20 o21_1 o21_c1 o21_2 o21_c2 o21_3 o21_c3 o21_4 o21_c4)) ?_
  intro g29 w30 hM hB31 hCx a hA
  replace hn18 := xa hn18 hB31
  replace hN := hN.below hB31
  replace hCl := hCl.below hgl hB31
  refine zna (k := 2) (q := k) (m := 1) (sz := 6) (e := 36) (xs := yC ys) (news := [.bool q20.b1, .slice o21_1 q20.t1.length o21_c1, .slice o21_2 q20.q1.length o21_c2, .bool q20.b2, .slice o21_3 q20.t2.length o21_c3, .slice o21_4 q20.q2.length o21_c4]) hA rfl rfl rfl (zab (zv := (.agg #[.bool false, .slice none 0 0, .slice none 0 0, .bool false, .slice none 0 0, .slice none 0 0])) (by_ := 112) Tryz.underlying23 (by kernel_rfl) rfl (by decide) (fun c hc9 => List.all_eq_true.1 (show ((Value.cells (.agg #[.bool false, .slice none 0 0, .slice none 0 0, .bool false, .slice none 0 0, .slice none 0 0])).toList).all kr = true from rfl) c hc9) hM 2 rfl hCl rfl 0 rfl rfl rfl (qka (Yn.mk q20 o21_1 o21_c1 o21_2 o21_c2 o21_3 o21_c3 o21_4 o21_c4)) (by decide) (by omega) (by omega)) ?_
  intro g32 ca33 w34 hM hc35 hCl a hA
  replace hn18 := jv hn18 hc35
  replace hN := NL.snoc (y := (Yn.mk q20 o21_1 o21_c1 o21_2 o21_c2 o21_3 o21_c3 o21_4 o21_c4)) (hN.carry hc35) hn18
  replace hM : Mg w w34 (.row 36 6 (.slice (some ⟨g29, 0, none⟩) 1 1) 1 ([.bool q20.b1, .slice o21_1 q20.t1.length o21_c1, .slice o21_2 q20.q1.length o21_c2, .bool q20.b2, .slice o21_3 q20.t2.length o21_c3, .slice o21_4 q20.q2.length o21_c4]) :: .obj g23 (.cells #[.bool q20.b1, .slice o21_1 q20.t1.length o21_c1, .slice o21_2 q20.q1.length o21_c2, .bool q20.b2, .slice o21_3 q20.t2.length o21_c3, .slice o21_4 q20.q2.length o21_c4] 36) :: .row 36 6 (.slice (some ⟨g32, 0, none⟩) ((k + 1)) ca33) ((k + 1)) ((yC (ys ++ [(Yn.mk q20 o21_1 o21_c1 o21_2 o21_c2 o21_3 o21_c3 o21_4 o21_c4)]))) :: []) := by
   rw [qxc]
   exact hM
  replace hM : Mg w w34 (.row 36 6 (.slice (some ⟨g32, 0, none⟩) ((k + 1)) ca33) ((k + 1)) ((yC (ys ++ [(Yn.mk q20 o21_1 o21_c1 o21_2 o21_c2 o21_3 o21_c3 o21_4 o21_c4)]))) :: []) := by
   have h9 := hM.sub (.cons _ (.cons _ (.cons_cons _ (.refl _))))
   exact h9
  refine sdo hA (qb rfl) fun a hA => ?_
  refine qe (hK16 _ _ (wrl (sdo hA (qa rfl) fun a hA => ?_)))
  refine sdo (v := .int .i64 (((k + 1 : Nat) : Int))) hA (qg rfl rfl (ar_add ((in_i64 (by omega) (by omega)).trans (by omega)))) fun a hA => ?_
  refine sdo hA (qb rfl) fun a hA => ?_
  refine qe ?_
  refine hK11 _ _ _ (by omega) ⟨k + 1, ys ++ [(Yn.mk q20 o21_1 o21_c1 o21_2 o21_c2 o21_3 o21_c3 o21_4 o21_c4)], g32, ca33, rfl, ⟨by omega, by rw [List.length_append, hyl]; rfl, by rw [List.map_append, hyq, qkb]; exact congrArg (fun z => kh bg sg l n k ++ [z]) hq20.symm, hN, hCl⟩, hA.keep _ ⟨rfl, rfl, rfl, rfl, rfl, rfl, rfl, rfl, rfl, rfl, rfl, rfl, rfl, rfl, rfl, rfl, rfl, rfl, rfl, rfl, rfl, rfl, trivial⟩, hM⟩
 ·
  have hb15' := of_decide_eq_false hb15
  refine sdo (v := .bool false) hA (qg rfl rfl (fun w => (zi w).trans (by rw [hb15]))) fun a hA => ?_
  refine qe (hK14 _ _ (wp_cond_false (hA.ev rfl) ?_))
  refine wp_exit (hK8 _ _ (wsk fun K36 hK36 => wrl (sdo hA (qa rfl) fun a hA => ?_)))
  iterate 2 refine sdo hA (qb rfl) fun a hA => ?_
  refine qe (hK36 _ _ (wp_ret (hret _ _ (en2 hA rfl (ql rfl) (ql rfl) ?_))))
  have hkc : k = cn := by omega
  subst hkc
  exact ⟨ys, gy, cy, rfl, hM.sub (.cons_cons _ (.refl _)), hN, hyq⟩
theorem qxe {w : World} {so : Option Addr} {ca : Nat} {l : List UInt8} (hb : Rb w so l) (hca : l.length ≤ ca) (hl : l.length ≤ 1048576) {n cn : Nat} (h1 : 1 ≤ n) (h64 : n ≤ 64) (hcn : l.length / n = cn) (bg sg : Bool) (hrem : l.length % n = 0) : Calls Tryz.prog 4 #[.slice so l.length ca, .int .i64 ((n : Nat) : Int), .bool bg, .bool sg] w fun e w' => ∃ ys g cap, e = .returned (.tuple #[.slice (some ⟨g, 0, none⟩) cn cap, .int .i64 0]) ∧ Mg w w' [.row 36 6 (.slice (some ⟨g, 0, none⟩) cn cap) cn (yC ys)] ∧ NL w' ys ∧ ys.map Yn.q = kh bg sg l n cn := by
 have k1 : js ((n : Nat) : Int) = true := by unfold js; apply decide_eq_true; omega
 have hM : Mg w w ([]) := Mg.start w
 refine za (l := [(0, .slice so l.length ca), (1, .int .i64 (((n : Nat) : Int))), (2, .bool bg), (3, .bool sg)]) Tryz.func4 rfl Tryz.ntmps4 rfl rfl ?_
 intro Q hret hnorm hP a hA
 refine wsk fun K1 hK1 => wrl ?_
 iterate 2 refine sdo hA (qb rfl) fun a hA => ?_
 refine qe (hK1 _ _ (wsk fun K2 hK2 => wrl ?_))
 iterate 3 refine sdo hA (qa rfl) fun a hA => ?_
 refine sdo (v := .agg #[.int .i64 (((n : Nat) : Int)), .bool bg, .bool sg]) hA (zj rfl (fun w => by kernel_rfl)) fun a hA => ?_
 refine xr (vs := [.int .i64 0, .bool false, .bool false]) (t := 39) hA hM rfl rfl rfl (fun g => .pointer (some ⟨g, 0, none⟩)) (qp (z := .agg #[.int .i64 0, .bool false, .bool false]) (by kernel_rfl) rfl) (by decide) ?_
 intro g3 w4 hM a hA
 refine vg (us := [.int .i64 (((n : Nat) : Int)), .bool bg, .bool sg]) (L' := (.obj g3 (.cells #[.int .i64 (((n : Nat) : Int)), .bool bg, .bool sg] 39) :: [])) hA hM rfl rfl (jz rfl rfl rfl (by kernel_rfl) hM 0 rfl rfl rfl) 0 rfl rfl rfl ?_
 intro w5 hM
 refine qe (hK2 _ _ (wsk fun K6 hK6 => wsk fun K7 hK7 => wrl (sdo hA (jc hM ByS_isS_39 rfl 0 rfl (cs := [.int .i64 (((n : Nat) : Int)), .bool bg, .bool sg]) rfl rfl) fun a hA => ?_)))
 refine qi hA rfl rfl rfl (qf rfl rfl (fun w => by kernel_rfl)) (kl k1) ?_
 rintro _ w9 ⟨rfl, hb8⟩
 replace hM := hM.call hb8
 refine ⟨_, rfl, ?_⟩
 intro a hA
 refine sdo (v := .bool false) hA (zp rfl zu) fun a hA => ?_
 iterate 2 refine sdo hA (qa rfl) fun a hA => ?_
 refine sdo hA (zb Tryz.underlying22 rfl) fun a hA => ?_
 refine sdo hA (qa rfl) fun a hA => ?_
 refine sdo (v := .int .i64 (((l.length % n : Nat) : Int))) hA (qg rfl rfl (ar_rem (by omega) (zkg _ _))) fun a hA => ?_
 refine sdo (v := .bool false) hA (qg rfl rfl (fun w => (jm w).trans (by rw [show ((((l.length % n : Nat) : Int) != 0)) = false from (bne_eq_false_iff_eq.2 (by rw [hrem]; rfl))]))) fun a hA => ?_
 refine sdo (v := .bool false) hA (qj rfl rfl rfl rfl) fun a hA => ?_
 refine qe (hK7 _ _ (wp_cond_false (hA.ev rfl) ?_))
 refine wp_skip (hK6 _ _ (wsk fun K10 hK10 => wrl (sdo hA (qa rfl) fun a hA => ?_)))
 refine sdo hA (zb Tryz.underlying22 rfl) fun a hA => ?_
 refine sdo hA (qa rfl) fun a hA => ?_
 refine sdo (v := .int .i64 (((cn : Nat) : Int))) hA (qg rfl rfl (ar_quo (by omega) (zne (by omega) hcn))) fun a hA => ?_
 have hcl9 : cn ≤ l.length := by rw [← hcn]; exact Nat.div_le_self _ _
 refine zkf (z := (.agg #[.bool false, .slice none 0 0, .slice none 0 0, .bool false, .slice none 0 0, .slice none 0 0])) (sz := 6) (by_ := 112) (m := cn) hA hM Tryz.underlying23 (by kernel_rfl) rfl rfl rfl rfl rfl rfl (by omega) (by omega) (.inl (by decide)) (by rw [qxd cn (z := (.agg #[.bool false, .slice none 0 0, .slice none 0 0, .bool false, .slice none 0 0, .slice none 0 0])) rfl]; exact zfi cn) ?_
 intro gy w11 hM hB12 hCl a hA
 rw [qxd cn (z := (.agg #[.bool false, .slice none 0 0, .slice none 0 0, .bool false, .slice none 0 0, .slice none 0 0])) rfl] at hM
 have hN : NL w11 [] := fun y hy => by cases hy
 refine sdo hA (qb rfl) fun a hA => ?_
 refine qe (hK10 _ _ (wsk fun K13 hK13 => wsk fun K14 hK14 => wrl (sdo hA (qa rfl) fun a hA => ?_)))
 refine sdo hA (zb Tryz.underlying23 rfl) fun a hA => ?_
 refine sdo hA (qa rfl) fun a hA => ?_
 refine qe (hK14 _ _ (wp_block (jb (fun m_ a w1 => ∃ (k : Nat) (ys : List Yn), m_ = 1 + (cn - k) ∧ (k ≤ cn ∧ ys.length = k ∧ ys.map Yn.q = kh bg sg l n k ∧ NL w1 ys ∧ Clean w1 gy) ∧ Sl a 53 [(0, .slice so l.length ca), (1, .int .i64 (((n : Nat) : Int))), (2, .bool bg), (3, .bool sg), (8, .slice none 0 0), (9, .int .i64 0), (10, .pointer (some ⟨g3, 0, none⟩)), (11, .slice (some ⟨gy, 0, none⟩) cn cn), (13, .int .i64 (((n : Nat) : Int))), (14, .bool bg), (15, .bool sg), (16, .agg #[.int .i64 (((n : Nat) : Int)), .bool bg, .bool sg]), (17, .agg #[.int .i64 (((n : Nat) : Int)), .bool bg, .bool sg]), (18, .bool true), (19, .bool false), (20, .bool false), (21, .slice so l.length ca), (22, .int .i64 (((l.length : Nat) : Int))), (23, .int .i64 (((n : Nat) : Int))), (24, .int .i64 (((l.length % n : Nat) : Int))), (25, .bool false), (26, .bool false), (27, .slice so l.length ca), (28, .int .i64 (((l.length : Nat) : Int))), (29, .int .i64 (((n : Nat) : Int))), (30, .int .i64 (((cn : Nat) : Int))), (31, .slice (some ⟨gy, 0, none⟩) cn cn), (32, .slice (some ⟨gy, 0, none⟩) cn cn), (33, .int .i64 (((cn : Nat) : Int))), (34, .int .i64 (((k : Nat) : Int)))] ∧ Mg w w1 (.row 36 6 (.slice (some ⟨gy, 0, none⟩) cn cn) cn ((yC ys ++ zR (cn - k))) :: .obj g3 (.cells #[.int .i64 (((n : Nat) : Int)), .bool bg, .bool sg] 39) :: [])) _ ⟨0, [], rfl, ⟨Nat.zero_le _, rfl, rfl, hN, hCl⟩, hA.keep _ ⟨rfl, rfl, rfl, rfl, rfl, rfl, rfl, rfl, rfl, rfl, rfl, rfl, rfl, rfl, rfl, rfl, rfl, rfl, rfl, rfl, rfl, rfl, rfl, rfl, rfl, rfl, rfl, rfl, rfl, rfl, trivial⟩, hM⟩ ?_)))
 clear hM hA
 rintro m_ a w15 ⟨k, ys, rfl, hinv17, hA, hM⟩ K16 hK16
 obtain ⟨hk9, hyl, hyq, hN, hCl⟩ := hinv17
 refine wsk fun K18 hK18 => wrl ?_
 rcases tf (decide (((k : Nat) : Int) < ((cn : Nat) : Int))) with hb19 | hb19
 ·
  have hb19' := of_decide_eq_true hb19
  refine sdo (v := .bool true) hA (qg rfl rfl (fun w => (zi w).trans (by rw [hb19]))) fun a hA => ?_
  refine qe (hK18 _ _ (wsk fun K20 hK20 => wp_cond_true (hA.ev rfl) ?_))
  refine wp_skip (hK20 _ _ (wsk fun K21 hK21 => wp_block (wsk fun K22 hK22 => wrl (sdo hA (qa rfl) fun a hA => ?_))))
  refine sdo hA (qb rfl) fun a hA => ?_
  refine qe (hK22 _ _ (je (S := fun w1 => Mg w w1 (.obj g3 (.cells #[.int .i64 (((n : Nat) : Int)), .bool bg, .bool sg] 39) :: [])) (by kernel_rfl) ?_))
  replace hM := hM.drew
  refine qk hA 0 rfl rfl rfl rfl hP (hM.sub (.cons _ (.cons_cons _ (List.nil_sublist _)))) (fun w1 hM => qa rfl) fun a hA => ?_
  refine qk hA 1 rfl rfl rfl rfl hP (hM.sub (.cons _ (.cons_cons _ (List.nil_sublist _)))) (fun w1 hM => qa rfl) fun a hA => ?_
  refine qk hA 2 rfl rfl rfl rfl hP (hM.sub (.cons _ (.cons_cons _ (List.nil_sublist _)))) (fun w1 hM => jc hM ByS_isS_39 rfl 0 rfl (cs := [.int .i64 (((n : Nat) : Int)), .bool bg, .bool sg]) rfl rfl) fun a hA => ?_
  refine qk hA 3 rfl rfl rfl rfl hP (hM.sub (.cons _ (.cons_cons _ (List.nil_sublist _)))) (fun w1 hM => qa rfl) fun a hA => ?_
  refine qk hA 4 rfl rfl rfl rfl hP (hM.sub (.cons _ (.cons_cons _ (List.nil_sublist _)))) (fun w1 hM => qa rfl) fun a hA => ?_
  refine qk hA 5 rfl rfl rfl rfl hP (hM.sub (.cons _ (.cons_cons _ (List.nil_sublist _)))) (fun w1 hM => qa rfl) fun a hA => ?_
  have hle8 := yv hcn (show k < cn by omega)
  refine qk (v := .int .i64 (((k * n : Nat) : Int))) hA 6 rfl rfl rfl rfl hP (hM.sub (.cons _ (.cons_cons _ (List.nil_sublist _)))) (fun w1 hM => qg rfl rfl (ar_mul (zga (by omega)))) fun a hA => ?_
  refine qk hA 7 rfl rfl rfl rfl hP (hM.sub (.cons _ (.cons_cons _ (List.nil_sublist _)))) (fun w1 hM => qa rfl) fun a hA => ?_
  refine qk (v := .int .i64 (((k + 1 : Nat) : Int))) hA 8 rfl rfl rfl rfl hP (hM.sub (.cons _ (.cons_cons _ (List.nil_sublist _)))) (fun w1 hM => qg rfl rfl (ar_add ((in_i64 (by omega) (by omega)).trans (by omega)))) fun a hA => ?_
  refine qk hA 9 rfl rfl rfl rfl hP (hM.sub (.cons _ (.cons_cons _ (List.nil_sublist _)))) (fun w1 hM => qa rfl) fun a hA => ?_
  have hle8 := yv hcn (show k < cn by omega)
  refine qk (v := .int .i64 (((k * n + n : Nat) : Int))) hA 10 rfl rfl rfl rfl hP (hM.sub (.cons _ (.cons_cons _ (List.nil_sublist _)))) (fun w1 hM => qg rfl rfl (ar_mul ((zga (k := k + 1) (by rw [Nat.add_mul, Nat.one_mul]; omega)).trans (by rw [Nat.add_mul, Nat.one_mul])))) fun a hA => ?_
  refine qk (v := .slice ((ui so ca (k * n))) n ((ca - k * n))) hA 11 rfl rfl rfl rfl hP (hM.sub (.cons _ (.cons_cons _ (List.nil_sublist _)))) (fun w1 hM => zhg (lo := k * n) (hi := k * n + n) Tryz.underlying22 (by kernel_rfl) rfl rfl rfl rfl rfl (by omega) (by omega) (by omega)) fun a hA => ?_
  have hle9 := yv hcn (show k < cn by omega)
  have hpl9 : ((l.drop (k * n)).take n).length = n := by rw [List.length_take, List.length_drop]; omega
  obtain ⟨q25, hq25⟩ : ∃ q9, jt bg sg ((l.drop (k * n)).take n) = q9 := ⟨_, rfl⟩
  have hgl := (Ck.lt (hM.has 0 rfl) _ rfl).2
  replace hN := hN.below ((Below.refl _ _).drew)
  replace hCl := hCl.below hgl ((Below.refl _ _).drew)
  refine qt (by kernel_rfl) (zm hA 12 rfl rfl rfl rfl (qf rfl rfl (fun w => by kernel_rfl)) ((by have h9 := yy (w := w15.drew) (p := ((l.drop (k * n)).take n)) (cp := ca - k * n) (((hb.drop ca (k * n) hca).takeZ n).below hM.bel) (by omega) (by omega) bg sg; rw [hpl9, hq25] at h9; exact h9)) ?_)
  rintro _ w27 ⟨o26_1, o26_c1, o26_2, o26_c2, o26_3, o26_c3, o26_4, o26_c4, rfl, hn23, hb24⟩
  replace hN := hN.below hb24
  replace hCl := hCl.below hgl hb24
  replace hM := hM.call hb24
  refine ⟨_, rfl, (hM.sub (.cons _ (.cons_cons _ (List.nil_sublist _)))), ?_⟩
  intro a hA
  refine qk (v := .pointer (some ⟨gy, (k) * 6, none⟩)) hA 13 rfl rfl rfl rfl hP (hM.sub (.cons _ (.cons_cons _ (List.nil_sublist _)))) (fun w1 hM => jd Tryz.underlying23 (by kernel_rfl) rfl rfl rfl (show k < cn by omega)) fun a hA => ?_
  refine qt (by kernel_rfl) (zff (cs := Yn.cells (Yn.mk q25 o26_1 o26_c1 o26_2 o26_c2 o26_3 o26_c3 o26_4 o26_c4)) hA hM 14 rfl rfl rfl (jo rfl rfl rfl (by kernel_rfl) hM 0 rfl (show (k) * 6 + 6 ≤ cn * 6 by omega) rfl) 0 rfl hCl (show (k) * 6 + 6 ≤ cn * 6 by omega) (qka _) rfl ?_)
  intro w28 hM hc29 hCl
  replace hM : Mg w w28 (.row 36 6 (.slice (some ⟨gy, 0, none⟩) cn cn) cn ((yC (ys ++ [(Yn.mk q25 o26_1 o26_c1 o26_2 o26_c2 o26_3 o26_c3 o26_4 o26_c4)]) ++ zR (cn - (k + 1)))) :: .obj g3 (.cells #[.int .i64 (((n : Nat) : Int)), .bool bg, .bool sg] 39) :: []) := by
   rw [← znc ys (Yn.mk q25 o26_1 o26_c1 o26_2 o26_c2 o26_3 o26_c3 o26_4 o26_c4) (cn - (k + 1)) hyl, show cn - (k + 1) + 1 = cn - k from by omega]
   exact hM
  replace hn23 := jv hn23 hc29
  replace hN := NL.snoc (y := (Yn.mk q25 o26_1 o26_c1 o26_2 o26_c2 o26_3 o26_c3 o26_4 o26_c4)) (hN.carry hc29) hn23
  refine ⟨(hM.sub (.cons _ (.cons_cons _ (List.nil_sublist _)))), ?_⟩
  refine zn (by kernel_rfl) ?_
  refine hK21 _ _ (wrl (sdo (v := .int .i64 (((k + 1 : Nat) : Int))) hA (qg rfl rfl (ar_add ((in_i64 (by omega) (by omega)).trans (by omega)))) fun a hA => ?_))
  refine sdo hA (qa rfl) fun a hA => ?_
  refine qe ?_
  refine hK16 _ _ _ (by omega) ⟨k + 1, ys ++ [(Yn.mk q25 o26_1 o26_c1 o26_2 o26_c2 o26_3 o26_c3 o26_4 o26_c4)], rfl, ⟨by omega, by rw [List.length_append, hyl]; rfl, by rw [List.map_append, hyq, qkb]; exact congrArg (fun z => kh bg sg l n k ++ [z]) hq25.symm, hN, hCl⟩, hA.keep _ ⟨rfl, rfl, rfl, rfl, rfl, rfl, rfl, rfl, rfl, rfl, rfl, rfl, rfl, rfl, rfl, rfl, rfl, rfl, rfl, rfl, rfl, rfl, rfl, rfl, rfl, rfl, rfl, rfl, rfl, rfl, trivial⟩, hM⟩
 ·
  have hb19' := of_decide_eq_false hb19
  refine sdo (v := .bool false) hA (qg rfl rfl (fun w => (zi w).trans (by rw [hb19]))) fun a hA => ?_
  refine qe (hK18 _ _ (wsk fun K30 hK30 => wp_cond_false (hA.ev rfl) ?_))
  refine wp_exit (hK13 _ _ (wsk fun K31 hK31 => wrl (sdo hA (qa rfl) fun a hA => ?_)))
  iterate 2 refine sdo hA (qb rfl) fun a hA => ?_
  refine qe (hK31 _ _ (wp_ret (hret _ _ (en2 hA rfl (ql rfl) (ql rfl) ?_))))
  have hkc : k = cn := by omega
  subst hkc
  rw [Nat.sub_self, show zR 0 = [] from rfl, List.append_nil] at hM
  exact ⟨ys, gy, k, rfl, hM.sub (.cons_cons _ (.cons _ (.refl _))), hN, hyq⟩
theorem qxf {w : World} {so : Option Addr} {ca : Nat} {l : List UInt8} {size : Int} (hsize0 : -9223372036854775808 ≤ size) (hsize1 : size ≤ 9223372036854775807) (bg sg : Bool) (k1 : js size = false) : Calls Tryz.prog 4 #[.slice so l.length ca, .int .i64 size, .bool bg, .bool sg] w fun e w' => e = .returned (.tuple #[.slice none 0 0, .int .i64 1]) ∧ Below w.heap.size w w' := by
 have hM : Mg w w ([]) := Mg.start w
 refine za (l := [(0, .slice so l.length ca), (1, .int .i64 size), (2, .bool bg), (3, .bool sg)]) Tryz.func4 rfl Tryz.ntmps4 rfl rfl ?_
 intro Q hret hnorm hP a hA
 refine wsk fun K1 hK1 => wrl ?_
 iterate 2 refine sdo hA (qb rfl) fun a hA => ?_
 refine qe (hK1 _ _ (wsk fun K2 hK2 => wrl ?_))
 iterate 3 refine sdo hA (qa rfl) fun a hA => ?_
 refine sdo (v := .agg #[.int .i64 size, .bool bg, .bool sg]) hA (zj rfl (fun w => by kernel_rfl)) fun a hA => ?_
 refine xr (vs := [.int .i64 0, .bool false, .bool false]) (t := 39) hA hM rfl rfl rfl (fun g => .pointer (some ⟨g, 0, none⟩)) (qp (z := .agg #[.int .i64 0, .bool false, .bool false]) (by kernel_rfl) rfl) (by decide) ?_
 intro g3 w4 hM a hA
 refine vg (us := [.int .i64 size, .bool bg, .bool sg]) (L' := (.obj g3 (.cells #[.int .i64 size, .bool bg, .bool sg] 39) :: [])) hA hM rfl rfl (jz rfl rfl rfl (by kernel_rfl) hM 0 rfl rfl rfl) 0 rfl rfl rfl ?_
 intro w5 hM
 refine qe (hK2 _ _ (wsk fun K6 hK6 => wsk fun K7 hK7 => wrl (sdo hA (jc hM ByS_isS_39 rfl 0 rfl (cs := [.int .i64 size, .bool bg, .bool sg]) rfl rfl) fun a hA => ?_)))
 refine qi hA rfl rfl rfl (qf rfl rfl (fun w => by kernel_rfl)) (kl k1) ?_
 rintro _ w9 ⟨rfl, hb8⟩
 replace hM := hM.call hb8
 refine ⟨_, rfl, ?_⟩
 intro a hA
 refine sdo (v := .bool true) hA (zp rfl zu) fun a hA => ?_
 refine sdo hA (qa rfl) fun a hA => ?_
 iterate 5 refine zg hA rfl rfl rfl fun a hA => ?_
 refine sdo (v := .bool true) hA (qj rfl rfl rfl rfl) fun a hA => ?_
 refine qe (hK7 _ _ (wp_cond_true (hA.ev rfl) ?_))
 refine wsk fun K10 hK10 => wrl ?_
 iterate 2 refine sdo hA (qb rfl) fun a hA => ?_
 refine qe (hK10 _ _ (wp_ret (hret _ _ (en2 hA rfl (ql rfl) (ql rfl) ?_))))
 exact ⟨rfl, hM.bel⟩
theorem zgb {w : World} {so : Option Addr} {ca : Nat} {l : List UInt8} {size : Int} (hsize0 : -9223372036854775808 ≤ size) (hsize1 : size ≤ 9223372036854775807) (bg sg : Bool) (k1 : size < 1) : Calls Tryz.prog 5 #[.slice so l.length ca, .int .i64 size, .bool bg, .bool sg] w fun e w' => e = .returned (.tuple #[.slice none 0 0, .int .i64 1]) ∧ Below w.heap.size w w' := by
 have hM : Mg w w ([]) := Mg.start w
 refine za (l := [(0, .slice so l.length ca), (1, .int .i64 size), (2, .bool bg), (3, .bool sg)]) Tryz.func5 rfl Tryz.ntmps5 rfl rfl ?_
 intro Q hret hnorm hP a hA
 refine wsk fun K1 hK1 => wrl ?_
 iterate 2 refine sdo hA (qb rfl) fun a hA => ?_
 refine qe (hK1 _ _ (wsk fun K2 hK2 => wsk fun K3 hK3 => wrl (sdo hA (qa rfl) fun a hA => ?_)))
 refine sdo (v := .bool true) hA (qg rfl rfl (fun w => (zi w).trans (by rw [show (decide (size < 1)) = true from (decide_eq_true k1)]))) fun a hA => ?_
 refine sdo hA (qa rfl) fun a hA => ?_
 iterate 2 refine zg hA rfl rfl rfl fun a hA => ?_
 refine sdo (v := .bool true) hA (qj rfl rfl rfl rfl) fun a hA => ?_
 refine sdo hA (qa rfl) fun a hA => ?_
 iterate 5 refine zg hA rfl rfl rfl fun a hA => ?_
 refine sdo (v := .bool true) hA (qj rfl rfl rfl rfl) fun a hA => ?_
 refine qe (hK3 _ _ (wp_cond_true (hA.ev rfl) ?_))
 refine wsk fun K4 hK4 => wrl ?_
 iterate 2 refine sdo hA (qb rfl) fun a hA => ?_
 refine qe (hK4 _ _ (wp_ret (hret _ _ (en2 hA rfl (ql rfl) (ql rfl) ?_))))
 exact ⟨rfl, hM.bel⟩
theorem zgc {w : World} {so : Option Addr} {ca : Nat} {l : List UInt8} {size : Int} (hsize0 : -9223372036854775808 ≤ size) (hsize1 : size ≤ 9223372036854775807) (bg sg : Bool) (k1 : 64 < size) : Calls Tryz.prog 5 #[.slice so l.length ca, .int .i64 size, .bool bg, .bool sg] w fun e w' => e = .returned (.tuple #[.slice none 0 0, .int .i64 1]) ∧ Below w.heap.size w w' := by
 have hM : Mg w w ([]) := Mg.start w
 refine za (l := [(0, .slice so l.length ca), (1, .int .i64 size), (2, .bool bg), (3, .bool sg)]) Tryz.func5 rfl Tryz.ntmps5 rfl rfl ?_
 intro Q hret hnorm hP a hA
 refine wsk fun K1 hK1 => wrl ?_
 iterate 2 refine sdo hA (qb rfl) fun a hA => ?_
 refine qe (hK1 _ _ (wsk fun K2 hK2 => wsk fun K3 hK3 => wrl (sdo hA (qa rfl) fun a hA => ?_)))
 refine sdo (v := .bool false) hA (qg rfl rfl (fun w => (zi w).trans (by rw [show (decide (size < 1)) = false from (decide_eq_false (by omega))]))) fun a hA => ?_
 iterate 2 refine sdo hA (qa rfl) fun a hA => ?_
 refine sdo (v := .bool true) hA (qg rfl rfl (fun w => (ja w).trans (by rw [show (decide (64 < size)) = true from (decide_eq_true k1)]))) fun a hA => ?_
 refine sdo (v := .bool true) hA (qj rfl rfl rfl rfl) fun a hA => ?_
 refine sdo hA (qa rfl) fun a hA => ?_
 iterate 5 refine zg hA rfl rfl rfl fun a hA => ?_
 refine sdo (v := .bool true) hA (qj rfl rfl rfl rfl) fun a hA => ?_
 refine qe (hK3 _ _ (wp_cond_true (hA.ev rfl) ?_))
 refine wsk fun K4 hK4 => wrl ?_
 iterate 2 refine sdo hA (qb rfl) fun a hA => ?_
 refine qe (hK4 _ _ (wp_ret (hret _ _ (en2 hA rfl (ql rfl) (ql rfl) ?_))))
 exact ⟨rfl, hM.bel⟩
theorem qtb {w : World} {so : Option Addr} {ca : Nat} {l : List UInt8} (hb : Rb w so l) (hca : l.length ≤ ca) (hl : l.length ≤ 1048576) {n cn : Nat} (h1 : 1 ≤ n) (h64 : n ≤ 64) (hcn : l.length / n = cn) (bg sg : Bool) (hrem : l.length % n ≠ 0) : Calls Tryz.prog 4 #[.slice so l.length ca, .int .i64 ((n : Nat) : Int), .bool bg, .bool sg] w fun e w' => e = .returned (.tuple #[.slice none 0 0, .int .i64 1]) ∧ Below w.heap.size w w' := by
 have k1 : js ((n : Nat) : Int) = true := by unfold js; apply decide_eq_true; omega
 have hM : Mg w w ([]) := Mg.start w
 refine za (l := [(0, .slice so l.length ca), (1, .int .i64 (((n : Nat) : Int))), (2, .bool bg), (3, .bool sg)]) Tryz.func4 rfl Tryz.ntmps4 rfl rfl ?_
 intro Q hret hnorm hP a hA
 refine wsk fun K1 hK1 => wrl ?_
 iterate 2 refine sdo hA (qb rfl) fun a hA => ?_
 refine qe (hK1 _ _ (wsk fun K2 hK2 => wrl ?_))
 iterate 3 refine sdo hA (qa rfl) fun a hA => ?_
 refine sdo (v := .agg #[.int .i64 (((n : Nat) : Int)), .bool bg, .bool sg]) hA (zj rfl (fun w => by kernel_rfl)) fun a hA => ?_
 refine xr (vs := [.int .i64 0, .bool false, .bool false]) (t := 39) hA hM rfl rfl rfl (fun g => .pointer (some ⟨g, 0, none⟩)) (qp (z := .agg #[.int .i64 0, .bool false, .bool false]) (by kernel_rfl) rfl) (by decide) ?_
 intro g3 w4 hM a hA
 refine vg (us := [.int .i64 (((n : Nat) : Int)), .bool bg, .bool sg]) (L' := (.obj g3 (.cells #[.int .i64 (((n : Nat) : Int)), .bool bg, .bool sg] 39) :: [])) hA hM rfl rfl (jz rfl rfl rfl (by kernel_rfl) hM 0 rfl rfl rfl) 0 rfl rfl rfl ?_
 intro w5 hM
 refine qe (hK2 _ _ (wsk fun K6 hK6 => wsk fun K7 hK7 => wrl (sdo hA (jc hM ByS_isS_39 rfl 0 rfl (cs := [.int .i64 (((n : Nat) : Int)), .bool bg, .bool sg]) rfl rfl) fun a hA => ?_)))
 refine qi hA rfl rfl rfl (qf rfl rfl (fun w => by kernel_rfl)) (kl k1) ?_
 rintro _ w9 ⟨rfl, hb8⟩
 replace hM := hM.call hb8
 refine ⟨_, rfl, ?_⟩
 intro a hA
 refine sdo (v := .bool false) hA (zp rfl zu) fun a hA => ?_
 iterate 2 refine sdo hA (qa rfl) fun a hA => ?_
 refine sdo hA (zb Tryz.underlying22 rfl) fun a hA => ?_
 refine sdo hA (qa rfl) fun a hA => ?_
 refine sdo (v := .int .i64 (((l.length % n : Nat) : Int))) hA (qg rfl rfl (ar_rem (by omega) (zkg _ _))) fun a hA => ?_
 refine sdo (v := .bool true) hA (qg rfl rfl (fun w => (jm w).trans (by rw [show ((((l.length % n : Nat) : Int) != 0)) = true from (bne_iff_ne.2 (fun k9 => hrem (by omega)))]))) fun a hA => ?_
 refine sdo (v := .bool true) hA (qj rfl rfl rfl rfl) fun a hA => ?_
 refine qe (hK7 _ _ (wp_cond_true (hA.ev rfl) ?_))
 refine wsk fun K10 hK10 => wrl ?_
 iterate 2 refine sdo hA (qb rfl) fun a hA => ?_
 refine qe (hK10 _ _ (wp_ret (hret _ _ (en2 hA rfl (ql rfl) (ql rfl) ?_))))
 exact ⟨rfl, hM.bel⟩
theorem qmf {w : World} {so : Option Addr} {ca : Nat} {l : List UInt8} (hb : Rb w so l) (hca : l.length ≤ ca) (hl : l.length ≤ 1048576) {n cn : Nat} (h1 : 1 ≤ n) (h64 : n ≤ 64) (hcn : l.length / n = cn) (bg sg : Bool) (hrem : l.length % n ≠ 0) : Calls Tryz.prog 5 #[.slice so l.length ca, .int .i64 ((n : Nat) : Int), .bool bg, .bool sg] w fun e w' => e = .returned (.tuple #[.slice none 0 0, .int .i64 1]) ∧ Below w.heap.size w w' := by
 have hM : Mg w w ([]) := Mg.start w
 refine za (l := [(0, .slice so l.length ca), (1, .int .i64 (((n : Nat) : Int))), (2, .bool bg), (3, .bool sg)]) Tryz.func5 rfl Tryz.ntmps5 rfl rfl ?_
 intro Q hret hnorm hP a hA
 refine wsk fun K1 hK1 => wrl ?_
 iterate 2 refine sdo hA (qb rfl) fun a hA => ?_
 refine qe (hK1 _ _ (wsk fun K2 hK2 => wsk fun K3 hK3 => wrl (sdo hA (qa rfl) fun a hA => ?_)))
 refine sdo (v := .bool false) hA (qg rfl rfl (fun w => (zi w).trans (by rw [show (decide (((n : Nat) : Int) < 1)) = false from (decide_eq_false (by omega))]))) fun a hA => ?_
 iterate 2 refine sdo hA (qa rfl) fun a hA => ?_
 refine sdo (v := .bool false) hA (qg rfl rfl (fun w => (ja w).trans (by rw [show (decide (64 < ((n : Nat) : Int))) = false from (decide_eq_false (by omega))]))) fun a hA => ?_
 refine sdo (v := .bool false) hA (qj rfl rfl rfl rfl) fun a hA => ?_
 iterate 2 refine sdo hA (qa rfl) fun a hA => ?_
 refine sdo hA (zb Tryz.underlying22 rfl) fun a hA => ?_
 refine sdo hA (qa rfl) fun a hA => ?_
 refine sdo (v := .int .i64 (((l.length % n : Nat) : Int))) hA (qg rfl rfl (ar_rem (by omega) (zkg _ _))) fun a hA => ?_
 refine sdo (v := .bool true) hA (qg rfl rfl (fun w => (jm w).trans (by rw [show ((((l.length % n : Nat) : Int) != 0)) = true from (bne_iff_ne.2 (fun k9 => hrem (by omega)))]))) fun a hA => ?_
 refine sdo (v := .bool true) hA (qj rfl rfl rfl rfl) fun a hA => ?_
 refine qe (hK3 _ _ (wp_cond_true (hA.ev rfl) ?_))
 refine wsk fun K4 hK4 => wrl ?_
 iterate 2 refine sdo hA (qb rfl) fun a hA => ?_
 refine qe (hK4 _ _ (wp_ret (hret _ _ (en2 hA rfl (ql rfl) (ql rfl) ?_))))
 exact ⟨rfl, hM.bel⟩
end Go.Proofs.YtbhdnpbbmpemnaaGreatDoor.G
namespace Go.Proofs.YtbhdnpbbmpemnaaGreatDoor.G
open Go.RowKit
set_option linter.unusedVariables false
set_option linter.unusedSimpArgs false
set_option maxRecDepth 100000
theorem ByT_isS_36 : IsS Tryz.prog 36 6 := ⟨⟨_, Tryz.underlying36⟩, by kernel_rfl⟩
theorem ByT_isS_39 : IsS Tryz.prog 39 3 := ⟨⟨_, Tryz.underlying39⟩, by kernel_rfl⟩
theorem zkh {n c : Nat} (h : 65536 / n = c) : IntKind.i64.wrap (Int.tdiv 65536 ((n : Nat) : Int)) = ((c : Nat) : Int) := zne (x := 65536) (by decide) h
theorem znf {l : List UInt8} : (Lib.byteCells l).all Value.oneCell' = true := by
 rw [List.all_eq_true]
 intro u hu
 unfold Lib.byteCells at hu
 obtain ⟨b, _, rfl⟩ := List.mem_map.1 hu
 rfl
theorem qef {α : Type} {P : α → Prop} {l : List α} {k : Nat} {x : α} (h : l[k]? = some x) (ha : ∀ z ∈ l.take k, P z) (hx : P x) : ∀ z ∈ l.take (k + 1), P z := by
 intro z hz
 rw [List.take_add_one, h] at hz
 rcases List.mem_append.1 hz with k9 | k9
 ·
  exact ha z k9
 ·
  simp at k9
  rw [k9]
  exact hx
theorem zgd {w : World} {so : Option Addr} {ca : Nat} {ys : List Yn} (hR : Rn w so ys) (hN : NL w ys) (hLq : ∀ y ∈ ys, LenQ y.q) (hca : ys.length ≤ ca) (hm : ys.length ≤ 1048576) {n cp : Nat} (h1 : 1 ≤ n) (h64 : n ≤ 64) (hcp : 65536 / n = cp) (bg sg : Bool) (hle : ys.length ≤ cp) : Calls Tryz.prog 7 #[.slice so ys.length ca, .int .i64 ((n : Nat) : Int), .bool bg, .bool sg] w fun e w' => ((ofQ n bg sg (ys.map Yn.q)).2 ≠ 0 ∧ e = .returned (.tuple #[.slice none 0 0, .int .i64 (ofQ n bg sg (ys.map Yn.q)).2]) ∧ Below w.heap.size w w') ∨ ((ofQ n bg sg (ys.map Yn.q)).2 = 0 ∧ ∃ v, e = .returned (.tuple #[v, .int .i64 0]) ∧ Mg w w' [.row BY 1 v (ofQ n bg sg (ys.map Yn.q)).1.length (Lib.byteCells (ofQ n bg sg (ys.map Yn.q)).1)]) := by
 have hM : Mg w w ([]) := Mg.start w
 refine za (l := [(0, .slice so ys.length ca), (1, .int .i64 (((n : Nat) : Int))), (2, .bool bg), (3, .bool sg)]) Tryz.func7 rfl Tryz.ntmps7 rfl rfl ?_
 intro Q hret hnorm hP a hA
 refine wsk fun K1 hK1 => wrl ?_
 iterate 2 refine sdo hA (qb rfl) fun a hA => ?_
 refine qe (hK1 _ _ (wsk fun K2 hK2 => wsk fun K3 hK3 => wrl (sdo hA (qa rfl) fun a hA => ?_)))
 refine sdo (v := .bool false) hA (qg rfl rfl (fun w => (zi w).trans (by rw [show (decide (((n : Nat) : Int) < 1)) = false from (decide_eq_false (by omega))]))) fun a hA => ?_
 iterate 2 refine sdo hA (qa rfl) fun a hA => ?_
 refine sdo (v := .bool false) hA (qg rfl rfl (fun w => (ja w).trans (by rw [show (decide (64 < ((n : Nat) : Int))) = false from (decide_eq_false (by omega))]))) fun a hA => ?_
 refine sdo (v := .bool false) hA (qj rfl rfl rfl rfl) fun a hA => ?_
 refine qe (hK3 _ _ (wp_cond_false (hA.ev rfl) ?_))
 refine wp_skip (hK2 _ _ (wsk fun K4 hK4 => wsk fun K5 hK5 => wrl (sdo hA (qa rfl) fun a hA => ?_)))
 refine sdo hA (zb Tryz.underlying23 rfl) fun a hA => ?_
 refine sdo hA (qa rfl) fun a hA => ?_
 refine sdo (v := .int .i64 (((cp : Nat) : Int))) hA (qg rfl rfl (ar_quo (by omega) (zkh hcp))) fun a hA => ?_
 refine sdo (v := .bool false) hA (qg rfl rfl (fun w => (ja w).trans (by rw [show (decide (((cp : Nat) : Int) < ((ys.length : Nat) : Int))) = false from (decide_eq_false (by omega))]))) fun a hA => ?_
 refine qe (hK5 _ _ (wp_cond_false (hA.ev rfl) ?_))
 refine wp_skip (hK4 _ _ (wsk fun K6 hK6 => wrl (zle (vs := []) hA hM rfl rfl rfl (qx rfl (by kernel_rfl)) rfl rfl (qy zd) ?_)))
 intro g7 w8 hM a hA
 refine sdo hA (qb rfl) fun a hA => ?_
 refine qe (hK6 _ _ (wsk fun K9 hK9 => wsk fun K10 hK10 => wrl (sdo hA (qb rfl) fun a hA => ?_)))
 refine qe (hK10 _ _ (wp_block (jb (fun m_ a w1 => ∃ (k : Nat) (bs : List UInt8) (ro : Option Addr) (rc : Nat), m_ = 1 + (ys.length - k) ∧ (k ≤ ys.length ∧ (∀ z ∈ (ys.map Yn.q).take k, qgd n bg sg z = true) ∧ bs = bsF n bg sg ((ys.map Yn.q).take k) ∧ bs.length ≤ k * n) ∧ Sl a 50 [(0, .slice so ys.length ca), (1, .int .i64 (((n : Nat) : Int))), (2, .bool bg), (3, .bool sg), (10, .slice ro bs.length rc), (11, .int .i64 (((k : Nat) : Int))), (14, .int .i64 (((n : Nat) : Int))), (15, .bool false), (16, .bool false), (17, .int .i64 (((n : Nat) : Int))), (18, .bool false), (19, .bool false), (20, .slice so ys.length ca), (21, .int .i64 (((ys.length : Nat) : Int))), (22, .int .i64 (((n : Nat) : Int))), (23, .int .i64 (((cp : Nat) : Int))), (24, .bool false), (25, .slice (some ⟨g7, 0, none⟩) 0 0)] ∧ Mg w w1 (.row BY 1 (.slice ro bs.length rc) bs.length ((Lib.byteCells bs)) :: [])) _ ⟨0, [], some ⟨g7, 0, none⟩, 0, rfl, ⟨Nat.zero_le _, fun z hz => by simp at hz, rfl, Nat.zero_le _⟩, hA.keep _ ⟨rfl, rfl, rfl, rfl, rfl, rfl, rfl, rfl, rfl, rfl, rfl, rfl, rfl, rfl, rfl, rfl, rfl, rfl, trivial⟩, hM⟩ ?_)))
 clear hM hA
 rintro m_ a w11 ⟨k, bs, ro, rc, rfl, hinv13, hA, hM⟩ K12 hK12
 obtain ⟨hk9, hall, hbs, hbk⟩ := hinv13
 have hkn : k * n ≤ 1000000 := Nat.le_trans (Nat.mul_le_mul (Nat.le_trans hk9 hle) (Nat.le_refl n)) (by rw [← hcp]; exact Nat.le_trans (Nat.div_mul_le_self _ _) (by decide))
 have hbl : bs.length ≤ 1000000 := Nat.le_trans hbk hkn
 refine wsk fun K14 hK14 => wsk fun K15 hK15 => wrl ?_
 iterate 2 refine sdo hA (qa rfl) fun a hA => ?_
 refine sdo hA (zb Tryz.underlying23 rfl) fun a hA => ?_
 rcases tf (decide (((k : Nat) : Int) < ((ys.length : Nat) : Int))) with hb16 | hb16
 ·
  have hb16' := of_decide_eq_true hb16
  refine sdo (v := .bool true) hA (qg rfl rfl (fun w => (zi w).trans (by rw [hb16]))) fun a hA => ?_
  refine qe (hK15 _ _ (wp_cond_true (hA.ev rfl) ?_))
  refine wp_skip (hK14 _ _ (wsk fun K17 hK17 => wp_block (wsk fun K18 hK18 => wrl ?_)))
  iterate 5 refine sdo hA (qa rfl) fun a hA => ?_
  obtain ⟨y, hy⟩ : ∃ y, ys[k]? = some y := ⟨ys[k]'(by omega), List.getElem?_eq_getElem (by omega)⟩
  have hyq : (ys.map Yn.q)[k]? = some y.q := by rw [List.getElem?_map, hy]; rfl
  obtain ⟨b9, o9, ho9, hl9, hc9⟩ := hR.at_ hy
  have hyN : Nm w y.q y.o1 y.c1 y.o2 y.c2 y.o3 y.c3 y.o4 y.c4 := hN y (List.mem_of_getElem? hy)
  have hyL := hLq y (List.mem_of_getElem? hy)
  refine sdo (v := .pointer (some ⟨b9, o9 + k * 6, none⟩)) hA (qga (k := k) Tryz.underlying23 (by kernel_rfl) rfl rfl rfl ho9 (show k < ys.length by omega)) fun a hA => ?_
  refine sdo (v := .agg #[.bool y.q.b1, .slice y.o1 y.q.t1.length y.c1, .slice y.o2 y.q.q1.length y.c2, .bool y.q.b2, .slice y.o3 y.q.t2.length y.c3, .slice y.o4 y.q.q2.length y.c4]) hA (qxb (cs := Yn.cells y) hM hl9 hc9 ByT_isS_36 rfl rfl) fun a hA => ?_
  rcases tf (qgd n bg sg y.q) with hb19 | hb19
  ·
   obtain ⟨hpl9, hcL9, hcO9⟩ := qsi h1 h64 (xa hyN hM.bel) hyL hb19
   refine qi hA rfl rfl rfl (qf rfl rfl (fun w => by kernel_rfl)) (hcO9) ?_
   rintro _ w22 ⟨g20, rfl, hM21⟩
   replace hM : Mg w w22 (.row BY 1 (.slice (some ⟨g20, 0, none⟩) n n) n ((Lib.byteCells (xv n bg sg y.q).1)) :: .row BY 1 (.slice ro bs.length rc) bs.length ((Lib.byteCells bs)) :: []) := (hM.both hM21 (qn (by simp) (qy zd)) (qn (by simp) (qy zd)))
   refine ⟨_, rfl, ?_⟩
   intro a hA
   refine sdo hA (qa rfl) fun a hA => ?_
   iterate 2 refine sdo hA (qz (vs := [.slice (some ⟨g20, 0, none⟩) n n, .int .i64 0]) rfl rfl) fun a hA => ?_
   iterate 2 refine sdo hA (qb rfl) fun a hA => ?_
   refine qe (hK18 _ _ (wsk fun K23 hK23 => wsk fun K24 hK24 => wrl (sdo hA (qa rfl) fun a hA => ?_)))
   refine sdo (v := .bool false) hA (qg rfl rfl (fun w => by kernel_rfl)) fun a hA => ?_
   refine qe (hK24 _ _ (wp_cond_false (hA.ev rfl) ?_))
   refine wp_skip (hK23 _ _ (wrl ?_))
   iterate 2 refine sdo hA (qa rfl) fun a hA => ?_
   have hbl9 : bs.length ≤ 1000000 := hbl
   refine zba (k := 1) (q := bs.length) (m := n) (xs := Lib.byteCells bs) (news := Lib.byteCells (xv n bg sg y.q).1) (L' := fun v25 => (.row BY 1 (.slice (some ⟨g20, 0, none⟩) n n) n ((Lib.byteCells (xv n bg sg y.q).1)) :: .row BY 1 (v25) ((bs.length + n)) ((Lib.byteCells bs ++ Lib.byteCells (xv n bg sg y.q).1)) :: [])) hA rfl rfl rfl (zaj Tryz.underlying22 (by kernel_rfl) hM 1 rfl rfl 0 rfl rfl znf (Nat.ble_eq_true_of_le h1) (by omega)) (fun _ => rfl) ?_
   intro v25 w26 hM a hA
   replace hM : Mg w w26 (.row BY 1 (v25) ((bs ++ (xv n bg sg y.q).1).length) ((Lib.byteCells (bs ++ (xv n bg sg y.q).1))) :: []) := by
    have h9 := hM.sub (.cons _ (.cons_cons _ (.refl _)))
    rw [List.length_append, Lib.byteCells_append, hpl9]
    exact h9
   obtain ⟨so27, ca28, rfl⟩ := vu (hM.has 0 rfl)
   refine sdo hA (qb rfl) fun a hA => ?_
   refine qe (hK17 _ _ (wrl (sdo hA (qa rfl) fun a hA => ?_)))
   refine sdo (v := .int .i64 (((k + 1 : Nat) : Int))) hA (qg rfl rfl (ar_add ((in_i64 (by omega) (by omega)).trans (by omega)))) fun a hA => ?_
   refine sdo hA (qb rfl) fun a hA => ?_
   refine qe ?_
   refine hK12 _ _ _ (by omega) ⟨k + 1, bs ++ (xv n bg sg y.q).1, so27, ca28, rfl, ⟨by omega, qef hyq hall hb19, by rw [qsj hyq, hbs], by rw [List.length_append, hpl9, Nat.add_mul]; omega⟩, hA.keep _ ⟨rfl, rfl, rfl, rfl, rfl, rfl, rfl, rfl, rfl, rfl, rfl, rfl, rfl, rfl, rfl, rfl, rfl, rfl, trivial⟩, hM⟩
  ·
   obtain ⟨hne9, hcL9, hcO9⟩ := qxa h1 h64 (xa hyN hM.bel) hyL hb19
   refine qi hA rfl rfl rfl (qf rfl rfl (fun w => by kernel_rfl)) (hcO9) ?_
   rintro _ w30 ⟨rfl, hb29⟩
   replace hM := hM.call hb29
   refine ⟨_, rfl, ?_⟩
   intro a hA
   refine sdo hA (qa rfl) fun a hA => ?_
   iterate 2 refine sdo hA (qz (vs := [.slice none 0 0, .int .i64 ((xv n bg sg y.q).2)]) rfl rfl) fun a hA => ?_
   iterate 2 refine sdo hA (qb rfl) fun a hA => ?_
   refine qe (hK18 _ _ (wsk fun K31 hK31 => wsk fun K32 hK32 => wrl (sdo hA (qa rfl) fun a hA => ?_)))
   refine sdo (v := .bool true) hA (qg rfl rfl (fun w => (jm w).trans (by rw [show (((xv n bg sg y.q).2 != 0)) = true from (bne_iff_ne.2 hne9)]))) fun a hA => ?_
   refine qe (hK32 _ _ (wp_cond_true (hA.ev rfl) ?_))
   refine wsk fun K33 hK33 => wrl (sdo hA (qa rfl) fun a hA => ?_)
   iterate 2 refine sdo hA (qb rfl) fun a hA => ?_
   refine qe (hK33 _ _ (wp_ret (hret _ _ (en2 hA rfl (ql rfl) (ql rfl) ?_))))
   rw [show ofQ n bg sg (ys.map Yn.q) = ([], (xv n bg sg y.q).2) from qpa hyq hall hb19]
   exact .inl ⟨hne9, rfl, hM.bel⟩
 ·
  have hb16' := of_decide_eq_false hb16
  refine sdo (v := .bool false) hA (qg rfl rfl (fun w => (zi w).trans (by rw [hb16]))) fun a hA => ?_
  refine qe (hK15 _ _ (wp_cond_false (hA.ev rfl) ?_))
  refine wp_exit (hK9 _ _ (wsk fun K34 hK34 => wrl (sdo hA (qa rfl) fun a hA => ?_)))
  iterate 2 refine sdo hA (qb rfl) fun a hA => ?_
  refine qe (hK34 _ _ (wp_ret (hret _ _ (en2 hA rfl (ql rfl) (ql rfl) ?_))))
  have hkl : k = ys.length := by omega
  rw [show ofQ n bg sg (ys.map Yn.q) = (bs, 0) from by rw [qdf (fun z hz => hall z (by rw [hkl, List.take_of_length_le (by simp)]; exact hz)), hbs, hkl, List.take_of_length_le (by simp)]]
  exact .inr ⟨rfl, _, rfl, hM.sub (.cons_cons _ (.refl _))⟩
theorem zki {bs pl : List UInt8} {o n z z2 : Nat} (hb : bs.length = o) (hp : pl.length = n) (hz : z = z2 + n) : over (Lib.byteCells (bs ++ List.replicate z 0)) o (Lib.byteCells pl) = Lib.byteCells ((bs ++ pl) ++ List.replicate z2 0) := by
 rw [Lib.byteCells_append, show o = (Lib.byteCells bs).length from by rw [Lib.byteCells_length, hb], qfa _ _ _ (by rw [Lib.byteCells_length, Lib.byteCells_length, List.length_replicate]; omega), Lib.byteCells_append, Lib.byteCells_append]
 congr 1
 unfold Lib.byteCells
 rw [List.length_map, ← List.map_drop, List.drop_replicate, hp, hz, Nat.add_sub_cancel]
theorem qpc {a c n : Nat} (h : a ≤ c) (hc : 65536 / n = c) : a * n ≤ 65536 := Nat.le_trans (Nat.mul_le_mul_right n h) (by rw [← hc]; exact Nat.div_mul_le_self _ _)
theorem zkj {a k n : Nat} (h : k < a) : k * n + n ≤ a * n := by
 have h1 : (k + 1) * n ≤ a * n := Nat.mul_le_mul_right _ h
 rw [Nat.add_mul, Nat.one_mul] at h1
 exact h1
theorem zac {a k n : Nat} (h : k < a) : (a - k) * n = (a - (k + 1)) * n + n := by
 rw [show a - k = a - (k + 1) + 1 from by omega, Nat.add_mul, Nat.one_mul]
theorem zge {w : World} {so : Option Addr} {ca : Nat} {ys : List Yn} (hR : Rn w so ys) (hN : NL w ys) (hLq : ∀ y ∈ ys, LenQ y.q) (hca : ys.length ≤ ca) (hm : ys.length ≤ 1048576) {n cp : Nat} (h1 : 1 ≤ n) (h64 : n ≤ 64) (hcp : 65536 / n = cp) (bg sg : Bool) (hle : ys.length ≤ cp) : Calls Tryz.prog 6 #[.slice so ys.length ca, .int .i64 ((n : Nat) : Int), .bool bg, .bool sg] w fun e w' => ((ofQ n bg sg (ys.map Yn.q)).2 ≠ 0 ∧ e = .returned (.tuple #[.slice none 0 0, .int .i64 (ofQ n bg sg (ys.map Yn.q)).2]) ∧ Below w.heap.size w w') ∨ ((ofQ n bg sg (ys.map Yn.q)).2 = 0 ∧ ∃ v, e = .returned (.tuple #[v, .int .i64 0]) ∧ Mg w w' [.row BY 1 v (ofQ n bg sg (ys.map Yn.q)).1.length (Lib.byteCells (ofQ n bg sg (ys.map Yn.q)).1)]) := by
 have k1 : js ((n : Nat) : Int) = true := by unfold js; apply decide_eq_true; omega
 have hM : Mg w w ([]) := Mg.start w
 refine za (l := [(0, .slice so ys.length ca), (1, .int .i64 (((n : Nat) : Int))), (2, .bool bg), (3, .bool sg)]) Tryz.func6 rfl Tryz.ntmps6 rfl rfl ?_
 intro Q hret hnorm hP a hA
 refine wsk fun K1 hK1 => wrl ?_
 iterate 2 refine sdo hA (qb rfl) fun a hA => ?_
 refine qe (hK1 _ _ (wsk fun K2 hK2 => wrl ?_))
 iterate 3 refine sdo hA (qa rfl) fun a hA => ?_
 refine sdo (v := .agg #[.int .i64 (((n : Nat) : Int)), .bool bg, .bool sg]) hA (zj rfl (fun w => by kernel_rfl)) fun a hA => ?_
 refine xr (vs := [.int .i64 0, .bool false, .bool false]) (t := 39) hA hM rfl rfl rfl (fun g => .pointer (some ⟨g, 0, none⟩)) (qp (z := .agg #[.int .i64 0, .bool false, .bool false]) (by kernel_rfl) rfl) (by decide) ?_
 intro g3 w4 hM a hA
 refine vg (us := [.int .i64 (((n : Nat) : Int)), .bool bg, .bool sg]) (L' := (.obj g3 (.cells #[.int .i64 (((n : Nat) : Int)), .bool bg, .bool sg] 39) :: [])) hA hM rfl rfl (jz rfl rfl rfl (by kernel_rfl) hM 0 rfl rfl rfl) 0 rfl rfl rfl ?_
 intro w5 hM
 refine qe (hK2 _ _ (wsk fun K6 hK6 => wsk fun K7 hK7 => wrl (sdo hA (jc hM ByT_isS_39 rfl 0 rfl (cs := [.int .i64 (((n : Nat) : Int)), .bool bg, .bool sg]) rfl rfl) fun a hA => ?_)))
 refine qi hA rfl rfl rfl (qf rfl rfl (fun w => by kernel_rfl)) (kl k1) ?_
 rintro _ w9 ⟨rfl, hb8⟩
 replace hM := hM.call hb8
 refine ⟨_, rfl, ?_⟩
 intro a hA
 refine sdo (v := .bool false) hA (zp rfl zu) fun a hA => ?_
 refine qe (hK7 _ _ (wp_cond_false (hA.ev rfl) ?_))
 refine wp_skip (hK6 _ _ (wsk fun K10 hK10 => wsk fun K11 hK11 => wrl (sdo hA (qa rfl) fun a hA => ?_)))
 refine sdo hA (zb Tryz.underlying23 rfl) fun a hA => ?_
 refine sdo hA (qa rfl) fun a hA => ?_
 refine sdo (v := .int .i64 (((cp : Nat) : Int))) hA (qg rfl rfl (ar_quo (by omega) (zkh hcp))) fun a hA => ?_
 refine sdo (v := .bool false) hA (qg rfl rfl (fun w => (ja w).trans (by rw [show (decide (((cp : Nat) : Int) < ((ys.length : Nat) : Int))) = false from (decide_eq_false (by omega))]))) fun a hA => ?_
 refine qe (hK11 _ _ (wp_cond_false (hA.ev rfl) ?_))
 refine wp_skip (hK10 _ _ (wsk fun K12 hK12 => wrl (sdo hA (qa rfl) fun a hA => ?_)))
 refine sdo hA (zb Tryz.underlying23 rfl) fun a hA => ?_
 refine sdo hA (qa rfl) fun a hA => ?_
 have hmx := qpc hle hcp
 refine sdo (v := .int .i64 (((ys.length * n : Nat) : Int))) hA (qg rfl rfl (ar_mul (zga (by omega)))) fun a hA => ?_
 refine qgf (z := .int .u8 0) (sz := 1) (by_ := 1) (m := ys.length * n) hA hM Tryz.underlying22 (by kernel_rfl) rfl rfl rfl rfl rfl rfl (by omega) (by omega) (.inr (qn (by simp) (qy zd))) ?_
 intro gx w13 hM a hA
 rw [qaa (ys.length * n) 0, qse] at hM
 replace hM : Mg w w13 (.row BY 1 (.slice (some ⟨gx, 0, none⟩) ((ys.length * n)) ((ys.length * n))) ((ys.length * n)) ((Lib.byteCells ([] ++ List.replicate ((ys.length - 0) * n) 0))) :: .obj g3 (.cells #[.int .i64 (((n : Nat) : Int)), .bool bg, .bool sg] 39) :: []) := by
  rw [Nat.sub_zero, List.nil_append]
  exact hM
 refine sdo hA (qb rfl) fun a hA => ?_
 refine qe (hK12 _ _ (wsk fun K14 hK14 => wsk fun K15 hK15 => wrl (sdo hA (qa rfl) fun a hA => ?_)))
 refine sdo hA (zb Tryz.underlying23 rfl) fun a hA => ?_
 refine sdo hA (qa rfl) fun a hA => ?_
 refine qe (hK15 _ _ (wp_block (jb (fun m_ a w1 => ∃ (k : Nat) (bs : List UInt8), m_ = 1 + (ys.length - k) ∧ (k ≤ ys.length ∧ (∀ z ∈ (ys.map Yn.q).take k, qgd n bg sg z = true) ∧ bs = bsF n bg sg ((ys.map Yn.q).take k) ∧ bs.length = k * n) ∧ Sl a 58 [(0, .slice so ys.length ca), (1, .int .i64 (((n : Nat) : Int))), (2, .bool bg), (3, .bool sg), (10, .pointer (some ⟨g3, 0, none⟩)), (11, .slice (some ⟨gx, 0, none⟩) ((ys.length * n)) ((ys.length * n))), (16, .int .i64 (((n : Nat) : Int))), (17, .bool bg), (18, .bool sg), (19, .agg #[.int .i64 (((n : Nat) : Int)), .bool bg, .bool sg]), (20, .agg #[.int .i64 (((n : Nat) : Int)), .bool bg, .bool sg]), (21, .bool true), (22, .bool false), (23, .slice so ys.length ca), (24, .int .i64 (((ys.length : Nat) : Int))), (25, .int .i64 (((n : Nat) : Int))), (26, .int .i64 (((cp : Nat) : Int))), (27, .bool false), (28, .slice so ys.length ca), (29, .int .i64 (((ys.length : Nat) : Int))), (30, .int .i64 (((n : Nat) : Int))), (31, .int .i64 (((ys.length * n : Nat) : Int))), (32, .slice (some ⟨gx, 0, none⟩) ((ys.length * n)) ((ys.length * n))), (33, .slice so ys.length ca), (34, .int .i64 (((ys.length : Nat) : Int))), (35, .int .i64 (((k : Nat) : Int)))] ∧ Mg w w1 (.row BY 1 (.slice (some ⟨gx, 0, none⟩) ((ys.length * n)) ((ys.length * n))) ((ys.length * n)) ((Lib.byteCells (bs ++ List.replicate ((ys.length - k) * n) 0))) :: .obj g3 (.cells #[.int .i64 (((n : Nat) : Int)), .bool bg, .bool sg] 39) :: [])) _ ⟨0, [], rfl, ⟨Nat.zero_le _, fun z hz => by simp at hz, rfl, by simp⟩, hA.keep _ ⟨rfl, rfl, rfl, rfl, rfl, rfl, rfl, rfl, rfl, rfl, rfl, rfl, rfl, rfl, rfl, rfl, rfl, rfl, rfl, rfl, rfl, rfl, rfl, rfl, rfl, rfl, trivial⟩, hM⟩ ?_)))
 clear hM hA
 rintro m_ a w16 ⟨k, bs, rfl, hinv18, hA, hM⟩ K17 hK17
 obtain ⟨hk9, hall, hbs, hbk⟩ := hinv18
 refine wsk fun K19 hK19 => wrl ?_
 rcases tf (decide (((k : Nat) : Int) < ((ys.length : Nat) : Int))) with hb20 | hb20
 ·
  have hb20' := of_decide_eq_true hb20
  refine sdo (v := .bool true) hA (qg rfl rfl (fun w => (zi w).trans (by rw [hb20]))) fun a hA => ?_
  refine qe (hK19 _ _ (wsk fun K21 hK21 => wp_cond_true (hA.ev rfl) ?_))
  refine wp_skip (hK21 _ _ (wsk fun K22 hK22 => wp_block (wsk fun K23 hK23 => wrl (sdo hA (qa rfl) fun a hA => ?_))))
  obtain ⟨y, hy⟩ : ∃ y, ys[k]? = some y := ⟨ys[k]'(by omega), List.getElem?_eq_getElem (by omega)⟩
  have hyq : (ys.map Yn.q)[k]? = some y.q := by rw [List.getElem?_map, hy]; rfl
  obtain ⟨b9, o9, ho9, hl9, hc9⟩ := hR.at_ hy
  have hyN : Nm w y.q y.o1 y.c1 y.o2 y.c2 y.o3 y.c3 y.o4 y.c4 := hN y (List.mem_of_getElem? hy)
  have hyL := hLq y (List.mem_of_getElem? hy)
  refine sdo (v := .pointer (some ⟨b9, o9 + k * 6, none⟩)) hA (qga (k := k) Tryz.underlying23 (by kernel_rfl) rfl rfl rfl ho9 (show k < ys.length by omega)) fun a hA => ?_
  refine sdo (v := .agg #[.bool y.q.b1, .slice y.o1 y.q.t1.length y.c1, .slice y.o2 y.q.q1.length y.c2, .bool y.q.b2, .slice y.o3 y.q.t2.length y.c3, .slice y.o4 y.q.q2.length y.c4]) hA (qxb (cs := Yn.cells y) hM hl9 hc9 ByT_isS_36 rfl rfl) fun a hA => ?_
  refine xr (vs := [.bool false, .slice none 0 0, .slice none 0 0, .bool false, .slice none 0 0, .slice none 0 0]) (t := 36) hA hM rfl rfl rfl (fun g => .pointer (some ⟨g, 0, none⟩)) (qp (z := .agg #[.bool false, .slice none 0 0, .slice none 0 0, .bool false, .slice none 0 0, .slice none 0 0]) (by kernel_rfl) rfl) (by decide) ?_
  intro g24 w25 hM a hA
  refine sdo hA (qb rfl) fun a hA => ?_
  refine vg (us := [.bool y.q.b1, .slice y.o1 y.q.t1.length y.c1, .slice y.o2 y.q.q1.length y.c2, .bool y.q.b2, .slice y.o3 y.q.t2.length y.c3, .slice y.o4 y.q.q2.length y.c4]) (L' := (.obj g24 (.cells #[.bool y.q.b1, .slice y.o1 y.q.t1.length y.c1, .slice y.o2 y.q.q1.length y.c2, .bool y.q.b2, .slice y.o3 y.q.t2.length y.c3, .slice y.o4 y.q.q2.length y.c4] 36) :: .row BY 1 (.slice (some ⟨gx, 0, none⟩) ((ys.length * n)) ((ys.length * n))) ((ys.length * n)) ((Lib.byteCells (bs ++ List.replicate ((ys.length - k) * n) 0))) :: .obj g3 (.cells #[.int .i64 (((n : Nat) : Int)), .bool bg, .bool sg] 39) :: [])) hA hM rfl rfl (jz rfl rfl rfl (by kernel_rfl) hM 0 rfl rfl rfl) 0 rfl rfl rfl ?_
  intro w26 hM
  refine qe (hK23 _ _ (wsk fun K27 hK27 => wrl (sdo hA (jc hM ByT_isS_39 rfl 2 rfl (cs := [.int .i64 (((n : Nat) : Int)), .bool bg, .bool sg]) rfl rfl) fun a hA => ?_)))
  refine sdo hA (jc hM ByT_isS_36 rfl 0 rfl (cs := [.bool y.q.b1, .slice y.o1 y.q.t1.length y.c1, .slice y.o2 y.q.q1.length y.c2, .bool y.q.b2, .slice y.o3 y.q.t2.length y.c3, .slice y.o4 y.q.q2.length y.c4]) rfl rfl) fun a hA => ?_
  rcases tf (qgd n bg sg y.q) with hb28 | hb28
  ·
   obtain ⟨hpl9, hcL9, hcO9⟩ := qsi h1 h64 (xa hyN hM.bel) hyL hb28
   refine qi hA rfl rfl rfl (qf rfl rfl (fun w => by kernel_rfl)) (hcL9) ?_
   rintro _ w31 ⟨g29, rfl, hM30⟩
   replace hM : Mg w w31 (.row BY 1 (.slice (some ⟨g29, 0, none⟩) n n) n ((Lib.byteCells (xv n bg sg y.q).1)) :: .obj g24 (.cells #[.bool y.q.b1, .slice y.o1 y.q.t1.length y.c1, .slice y.o2 y.q.q1.length y.c2, .bool y.q.b2, .slice y.o3 y.q.t2.length y.c3, .slice y.o4 y.q.q2.length y.c4] 36) :: .row BY 1 (.slice (some ⟨gx, 0, none⟩) ((ys.length * n)) ((ys.length * n))) ((ys.length * n)) ((Lib.byteCells (bs ++ List.replicate ((ys.length - k) * n) 0))) :: .obj g3 (.cells #[.int .i64 (((n : Nat) : Int)), .bool bg, .bool sg] 39) :: []) := (hM.both hM30 (qn (by simp) (qn (by simp) (qn (by simp) (qy zd)))) (qn (by simp) (qy zd)))
   refine ⟨_, rfl, ?_⟩
   intro a hA
   refine sdo hA (qa rfl) fun a hA => ?_
   iterate 2 refine sdo hA (qz (vs := [.slice (some ⟨g29, 0, none⟩) n n, .int .i64 0]) rfl rfl) fun a hA => ?_
   iterate 2 refine sdo hA (qb rfl) fun a hA => ?_
   refine qe (hK27 _ _ (wsk fun K32 hK32 => wsk fun K33 hK33 => wrl (sdo hA (qa rfl) fun a hA => ?_)))
   refine sdo (v := .bool false) hA (qg rfl rfl (fun w => by kernel_rfl)) fun a hA => ?_
   refine qe (hK33 _ _ (wp_cond_false (hA.ev rfl) ?_))
   refine wp_skip (hK32 _ _ (wrl ?_))
   iterate 3 refine sdo hA (qa rfl) fun a hA => ?_
   have hmx := qpc hle hcp
   have hkx := zkj (n := n) (show k < ys.length by omega)
   refine sdo (v := .int .i64 (((k * n : Nat) : Int))) hA (qg rfl rfl (ar_mul (zga (by omega)))) fun a hA => ?_
   have hdr : ui (some ⟨gx, 0, none⟩) (ys.length * n) (k * n) = some ⟨gx, k * n, none⟩ := by
    unfold ui
    rw [if_neg (by omega)]
    simp [xw]
   refine sdo (v := .slice (some ⟨gx, k * n, none⟩) ((ys.length * n - k * n)) ((ys.length * n - k * n))) hA (hdr ▸ qxj Tryz.underlying22 (by kernel_rfl) rfl rfl rfl (by omega)) fun a hA => ?_
   refine sdo hA (qa rfl) fun a hA => ?_
   refine qmh (v := .int .i64 ((((xv n bg sg y.q).1.length : Nat) : Int))) (cs := Lib.byteCells (xv n bg sg y.q).1) (L' := (.row BY 1 (.slice (some ⟨g29, 0, none⟩) n n) n ((Lib.byteCells (xv n bg sg y.q).1)) :: .obj g24 (.cells #[.bool y.q.b1, .slice y.o1 y.q.t1.length y.c1, .slice y.o2 y.q.q1.length y.c2, .bool y.q.b2, .slice y.o3 y.q.t2.length y.c3, .slice y.o4 y.q.q2.length y.c4] 36) :: .row BY 1 (.slice (some ⟨gx, 0, none⟩) ((ys.length * n)) ((ys.length * n))) ((ys.length * n)) ((over (Lib.byteCells (bs ++ List.replicate ((ys.length - k) * n) 0)) (k * n) (Lib.byteCells (xv n bg sg y.q).1))) :: .obj g3 (.cells #[.int .i64 (((n : Nat) : Int)), .bool bg, .bool sg] 39) :: [])) hA hM rfl rfl rfl (qmi Tryz.underlying22 (by kernel_rfl) hM 2 rfl rfl (vl (bs := (xv n bg sg y.q).1) (n := n) hM 0 (by first | rfl | (rw [hpl9]; rfl))).1 (by rw [hpl9]; rfl) (by omega) (by omega)) 2 rfl rfl ?_
   intro w34 hM a hA
   replace hM : Mg w w34 (.row BY 1 (.slice (some ⟨g29, 0, none⟩) n n) n ((Lib.byteCells (xv n bg sg y.q).1)) :: .obj g24 (.cells #[.bool y.q.b1, .slice y.o1 y.q.t1.length y.c1, .slice y.o2 y.q.q1.length y.c2, .bool y.q.b2, .slice y.o3 y.q.t2.length y.c3, .slice y.o4 y.q.q2.length y.c4] 36) :: .row BY 1 (.slice (some ⟨gx, 0, none⟩) ((ys.length * n)) ((ys.length * n))) ((ys.length * n)) ((Lib.byteCells ((bs ++ (xv n bg sg y.q).1) ++ List.replicate ((ys.length - (k + 1)) * n) 0))) :: .obj g3 (.cells #[.int .i64 (((n : Nat) : Int)), .bool bg, .bool sg] 39) :: []) := by
    have h9 := hM
    rw [zki hbk hpl9 (zac (show k < ys.length by omega))] at h9
    exact h9
   replace hM : Mg w w34 (.row BY 1 (.slice (some ⟨gx, 0, none⟩) ((ys.length * n)) ((ys.length * n))) ((ys.length * n)) ((Lib.byteCells ((bs ++ (xv n bg sg y.q).1) ++ List.replicate ((ys.length - (k + 1)) * n) 0))) :: .obj g3 (.cells #[.int .i64 (((n : Nat) : Int)), .bool bg, .bool sg] 39) :: []) := by
    have h9 := hM.sub (.cons _ (.cons _ (.cons_cons _ (.cons_cons _ (.refl _)))))
    exact h9
   refine qe (hK22 _ _ (wrl (sdo (v := .int .i64 (((k + 1 : Nat) : Int))) hA (qg rfl rfl (ar_add ((in_i64 (by omega) (by omega)).trans (by omega)))) fun a hA => ?_)))
   refine sdo hA (qa rfl) fun a hA => ?_
   refine qe ?_
   refine hK17 _ _ _ (by omega) ⟨k + 1, bs ++ (xv n bg sg y.q).1, rfl, ⟨by omega, qef hyq hall hb28, by rw [qsj hyq, hbs], by rw [List.length_append, hpl9, hbk, Nat.add_mul, Nat.one_mul]⟩, hA.keep _ ⟨rfl, rfl, rfl, rfl, rfl, rfl, rfl, rfl, rfl, rfl, rfl, rfl, rfl, rfl, rfl, rfl, rfl, rfl, rfl, rfl, rfl, rfl, rfl, rfl, rfl, rfl, trivial⟩, hM⟩
  ·
   obtain ⟨hne9, hcL9, hcO9⟩ := qxa h1 h64 (xa hyN hM.bel) hyL hb28
   refine qi hA rfl rfl rfl (qf rfl rfl (fun w => by kernel_rfl)) (hcL9) ?_
   rintro _ w36 ⟨rfl, hb35⟩
   replace hM := hM.call hb35
   refine ⟨_, rfl, ?_⟩
   intro a hA
   refine sdo hA (qa rfl) fun a hA => ?_
   iterate 2 refine sdo hA (qz (vs := [.slice none 0 0, .int .i64 ((xv n bg sg y.q).2)]) rfl rfl) fun a hA => ?_
   iterate 2 refine sdo hA (qb rfl) fun a hA => ?_
   refine qe (hK27 _ _ (wsk fun K37 hK37 => wsk fun K38 hK38 => wrl (sdo hA (qa rfl) fun a hA => ?_)))
   refine sdo (v := .bool true) hA (qg rfl rfl (fun w => (jm w).trans (by rw [show (((xv n bg sg y.q).2 != 0)) = true from (bne_iff_ne.2 hne9)]))) fun a hA => ?_
   refine qe (hK38 _ _ (wp_cond_true (hA.ev rfl) ?_))
   refine wsk fun K39 hK39 => wrl (sdo hA (qa rfl) fun a hA => ?_)
   iterate 2 refine sdo hA (qb rfl) fun a hA => ?_
   refine qe (hK39 _ _ (wp_ret (hret _ _ (en2 hA rfl (ql rfl) (ql rfl) ?_))))
   rw [show ofQ n bg sg (ys.map Yn.q) = ([], (xv n bg sg y.q).2) from qpa hyq hall hb28]
   exact .inl ⟨hne9, rfl, hM.bel⟩
 ·
  have hb20' := of_decide_eq_false hb20
  refine sdo (v := .bool false) hA (qg rfl rfl (fun w => (zi w).trans (by rw [hb20]))) fun a hA => ?_
  refine qe (hK19 _ _ (wsk fun K40 hK40 => wp_cond_false (hA.ev rfl) ?_))
  refine wp_exit (hK14 _ _ (wsk fun K41 hK41 => wrl (sdo hA (qa rfl) fun a hA => ?_)))
  iterate 2 refine sdo hA (qb rfl) fun a hA => ?_
  refine qe (hK41 _ _ (wp_ret (hret _ _ (en2 hA rfl (ql rfl) (ql rfl) ?_))))
  have hkl : k = ys.length := by omega
  rw [show ofQ n bg sg (ys.map Yn.q) = (bs, 0) from by rw [qdf (fun z hz => hall z (by rw [hkl, List.take_of_length_le (by simp)]; exact hz)), hbs, hkl, List.take_of_length_le (by simp)]]
  rw [show (ys.length - k) * n = 0 from by rw [hkl, Nat.sub_self, Nat.zero_mul], List.replicate_zero, List.append_nil] at hM
  refine .inr ⟨rfl, _, rfl, ?_⟩
  show Mg _ _ [.row BY 1 _ bs.length (Lib.byteCells bs)]
  rw [show bs.length = ys.length * n from by rw [hbk, hkl]]
  exact hM.sub (.cons_cons _ (.cons _ (.refl _)))
theorem zli {w : World} {so : Option Addr} {ca m : Nat} {size : Int} (hsize0 : -9223372036854775808 ≤ size) (hsize1 : size ≤ 9223372036854775807) (bg sg : Bool) (k1 : js size = false) : Calls Tryz.prog 6 #[.slice so m ca, .int .i64 size, .bool bg, .bool sg] w fun e w' => e = .returned (.tuple #[.slice none 0 0, .int .i64 1]) ∧ Below w.heap.size w w' := by
 have hM : Mg w w ([]) := Mg.start w
 refine za (l := [(0, .slice so m ca), (1, .int .i64 size), (2, .bool bg), (3, .bool sg)]) Tryz.func6 rfl Tryz.ntmps6 rfl rfl ?_
 intro Q hret hnorm hP a hA
 refine wsk fun K1 hK1 => wrl ?_
 iterate 2 refine sdo hA (qb rfl) fun a hA => ?_
 refine qe (hK1 _ _ (wsk fun K2 hK2 => wrl ?_))
 iterate 3 refine sdo hA (qa rfl) fun a hA => ?_
 refine sdo (v := .agg #[.int .i64 size, .bool bg, .bool sg]) hA (zj rfl (fun w => by kernel_rfl)) fun a hA => ?_
 refine xr (vs := [.int .i64 0, .bool false, .bool false]) (t := 39) hA hM rfl rfl rfl (fun g => .pointer (some ⟨g, 0, none⟩)) (qp (z := .agg #[.int .i64 0, .bool false, .bool false]) (by kernel_rfl) rfl) (by decide) ?_
 intro g3 w4 hM a hA
 refine vg (us := [.int .i64 size, .bool bg, .bool sg]) (L' := (.obj g3 (.cells #[.int .i64 size, .bool bg, .bool sg] 39) :: [])) hA hM rfl rfl (jz rfl rfl rfl (by kernel_rfl) hM 0 rfl rfl rfl) 0 rfl rfl rfl ?_
 intro w5 hM
 refine qe (hK2 _ _ (wsk fun K6 hK6 => wsk fun K7 hK7 => wrl (sdo hA (jc hM ByT_isS_39 rfl 0 rfl (cs := [.int .i64 size, .bool bg, .bool sg]) rfl rfl) fun a hA => ?_)))
 refine qi hA rfl rfl rfl (qf rfl rfl (fun w => by kernel_rfl)) (kl k1) ?_
 rintro _ w9 ⟨rfl, hb8⟩
 replace hM := hM.call hb8
 refine ⟨_, rfl, ?_⟩
 intro a hA
 refine sdo (v := .bool true) hA (zp rfl zu) fun a hA => ?_
 refine qe (hK7 _ _ (wp_cond_true (hA.ev rfl) ?_))
 refine wsk fun K10 hK10 => wrl ?_
 iterate 2 refine sdo hA (qb rfl) fun a hA => ?_
 refine qe (hK10 _ _ (wp_ret (hret _ _ (en2 hA rfl (ql rfl) (ql rfl) ?_))))
 exact ⟨rfl, hM.bel⟩
theorem zng {w : World} {so : Option Addr} {ca m : Nat} {size : Int} (hsize0 : -9223372036854775808 ≤ size) (hsize1 : size ≤ 9223372036854775807) (bg sg : Bool) (k1 : size < 1) : Calls Tryz.prog 7 #[.slice so m ca, .int .i64 size, .bool bg, .bool sg] w fun e w' => e = .returned (.tuple #[.slice none 0 0, .int .i64 1]) ∧ Below w.heap.size w w' := by
 have hM : Mg w w ([]) := Mg.start w
 refine za (l := [(0, .slice so m ca), (1, .int .i64 size), (2, .bool bg), (3, .bool sg)]) Tryz.func7 rfl Tryz.ntmps7 rfl rfl ?_
 intro Q hret hnorm hP a hA
 refine wsk fun K1 hK1 => wrl ?_
 iterate 2 refine sdo hA (qb rfl) fun a hA => ?_
 refine qe (hK1 _ _ (wsk fun K2 hK2 => wsk fun K3 hK3 => wrl (sdo hA (qa rfl) fun a hA => ?_)))
 refine sdo (v := .bool true) hA (qg rfl rfl (fun w => (zi w).trans (by rw [show (decide (size < 1)) = true from (decide_eq_true k1)]))) fun a hA => ?_
 refine sdo hA (qa rfl) fun a hA => ?_
 iterate 2 refine zg hA rfl rfl rfl fun a hA => ?_
 refine sdo (v := .bool true) hA (qj rfl rfl rfl rfl) fun a hA => ?_
 refine qe (hK3 _ _ (wp_cond_true (hA.ev rfl) ?_))
 refine wsk fun K4 hK4 => wrl ?_
 iterate 2 refine sdo hA (qb rfl) fun a hA => ?_
 refine qe (hK4 _ _ (wp_ret (hret _ _ (en2 hA rfl (ql rfl) (ql rfl) ?_))))
 exact ⟨rfl, hM.bel⟩
theorem znh {w : World} {so : Option Addr} {ca m : Nat} {size : Int} (hsize0 : -9223372036854775808 ≤ size) (hsize1 : size ≤ 9223372036854775807) (bg sg : Bool) (k1 : 64 < size) : Calls Tryz.prog 7 #[.slice so m ca, .int .i64 size, .bool bg, .bool sg] w fun e w' => e = .returned (.tuple #[.slice none 0 0, .int .i64 1]) ∧ Below w.heap.size w w' := by
 have hM : Mg w w ([]) := Mg.start w
 refine za (l := [(0, .slice so m ca), (1, .int .i64 size), (2, .bool bg), (3, .bool sg)]) Tryz.func7 rfl Tryz.ntmps7 rfl rfl ?_
 intro Q hret hnorm hP a hA
 refine wsk fun K1 hK1 => wrl ?_
 iterate 2 refine sdo hA (qb rfl) fun a hA => ?_
 refine qe (hK1 _ _ (wsk fun K2 hK2 => wsk fun K3 hK3 => wrl (sdo hA (qa rfl) fun a hA => ?_)))
 refine sdo (v := .bool false) hA (qg rfl rfl (fun w => (zi w).trans (by rw [show (decide (size < 1)) = false from (decide_eq_false (by omega))]))) fun a hA => ?_
 iterate 2 refine sdo hA (qa rfl) fun a hA => ?_
 refine sdo (v := .bool true) hA (qg rfl rfl (fun w => (ja w).trans (by rw [show (decide (64 < size)) = true from (decide_eq_true k1)]))) fun a hA => ?_
 refine sdo (v := .bool true) hA (qj rfl rfl rfl rfl) fun a hA => ?_
 refine qe (hK3 _ _ (wp_cond_true (hA.ev rfl) ?_))
 refine wsk fun K4 hK4 => wrl ?_
 iterate 2 refine sdo hA (qb rfl) fun a hA => ?_
 refine qe (hK4 _ _ (wp_ret (hret _ _ (en2 hA rfl (ql rfl) (ql rfl) ?_))))
 exact ⟨rfl, hM.bel⟩
theorem zgf {w : World} {so : Option Addr} {ca m : Nat} {n cp : Nat} (h1 : 1 ≤ n) (h64 : n ≤ 64) (hcp : 65536 / n = cp) (hgt : cp < m) (bg sg : Bool) : Calls Tryz.prog 6 #[.slice so m ca, .int .i64 ((n : Nat) : Int), .bool bg, .bool sg] w fun e w' => e = .returned (.tuple #[.slice none 0 0, .int .i64 4]) ∧ Below w.heap.size w w' := by
 have k1 : js ((n : Nat) : Int) = true := by unfold js; apply decide_eq_true; omega
 have hM : Mg w w ([]) := Mg.start w
 refine za (l := [(0, .slice so m ca), (1, .int .i64 (((n : Nat) : Int))), (2, .bool bg), (3, .bool sg)]) Tryz.func6 rfl Tryz.ntmps6 rfl rfl ?_
 intro Q hret hnorm hP a hA
 refine wsk fun K1 hK1 => wrl ?_
 iterate 2 refine sdo hA (qb rfl) fun a hA => ?_
 refine qe (hK1 _ _ (wsk fun K2 hK2 => wrl ?_))
 iterate 3 refine sdo hA (qa rfl) fun a hA => ?_
 refine sdo (v := .agg #[.int .i64 (((n : Nat) : Int)), .bool bg, .bool sg]) hA (zj rfl (fun w => by kernel_rfl)) fun a hA => ?_
 refine xr (vs := [.int .i64 0, .bool false, .bool false]) (t := 39) hA hM rfl rfl rfl (fun g => .pointer (some ⟨g, 0, none⟩)) (qp (z := .agg #[.int .i64 0, .bool false, .bool false]) (by kernel_rfl) rfl) (by decide) ?_
 intro g3 w4 hM a hA
 refine vg (us := [.int .i64 (((n : Nat) : Int)), .bool bg, .bool sg]) (L' := (.obj g3 (.cells #[.int .i64 (((n : Nat) : Int)), .bool bg, .bool sg] 39) :: [])) hA hM rfl rfl (jz rfl rfl rfl (by kernel_rfl) hM 0 rfl rfl rfl) 0 rfl rfl rfl ?_
 intro w5 hM
 refine qe (hK2 _ _ (wsk fun K6 hK6 => wsk fun K7 hK7 => wrl (sdo hA (jc hM ByT_isS_39 rfl 0 rfl (cs := [.int .i64 (((n : Nat) : Int)), .bool bg, .bool sg]) rfl rfl) fun a hA => ?_)))
 refine qi hA rfl rfl rfl (qf rfl rfl (fun w => by kernel_rfl)) (kl k1) ?_
 rintro _ w9 ⟨rfl, hb8⟩
 replace hM := hM.call hb8
 refine ⟨_, rfl, ?_⟩
 intro a hA
 refine sdo (v := .bool false) hA (zp rfl zu) fun a hA => ?_
 refine qe (hK7 _ _ (wp_cond_false (hA.ev rfl) ?_))
 refine wp_skip (hK6 _ _ (wsk fun K10 hK10 => wsk fun K11 hK11 => wrl (sdo hA (qa rfl) fun a hA => ?_)))
 refine sdo hA (zb Tryz.underlying23 rfl) fun a hA => ?_
 refine sdo hA (qa rfl) fun a hA => ?_
 refine sdo (v := .int .i64 (((cp : Nat) : Int))) hA (qg rfl rfl (ar_quo (by omega) (zkh hcp))) fun a hA => ?_
 refine sdo (v := .bool true) hA (qg rfl rfl (fun w => (ja w).trans (by rw [show (decide (((cp : Nat) : Int) < ((m : Nat) : Int))) = true from (decide_eq_true (by omega))]))) fun a hA => ?_
 refine qe (hK11 _ _ (wp_cond_true (hA.ev rfl) ?_))
 refine wsk fun K12 hK12 => wrl ?_
 iterate 2 refine sdo hA (qb rfl) fun a hA => ?_
 refine qe (hK12 _ _ (wp_ret (hret _ _ (en2 hA rfl (ql rfl) (ql rfl) ?_))))
 exact ⟨rfl, hM.bel⟩
theorem zad {w : World} {so : Option Addr} {ca m : Nat} {n cp : Nat} (h1 : 1 ≤ n) (h64 : n ≤ 64) (hcp : 65536 / n = cp) (hgt : cp < m) (bg sg : Bool) : Calls Tryz.prog 7 #[.slice so m ca, .int .i64 ((n : Nat) : Int), .bool bg, .bool sg] w fun e w' => e = .returned (.tuple #[.slice none 0 0, .int .i64 4]) ∧ Below w.heap.size w w' := by
 have hM : Mg w w ([]) := Mg.start w
 refine za (l := [(0, .slice so m ca), (1, .int .i64 (((n : Nat) : Int))), (2, .bool bg), (3, .bool sg)]) Tryz.func7 rfl Tryz.ntmps7 rfl rfl ?_
 intro Q hret hnorm hP a hA
 refine wsk fun K1 hK1 => wrl ?_
 iterate 2 refine sdo hA (qb rfl) fun a hA => ?_
 refine qe (hK1 _ _ (wsk fun K2 hK2 => wsk fun K3 hK3 => wrl (sdo hA (qa rfl) fun a hA => ?_)))
 refine sdo (v := .bool false) hA (qg rfl rfl (fun w => (zi w).trans (by rw [show (decide (((n : Nat) : Int) < 1)) = false from (decide_eq_false (by omega))]))) fun a hA => ?_
 iterate 2 refine sdo hA (qa rfl) fun a hA => ?_
 refine sdo (v := .bool false) hA (qg rfl rfl (fun w => (ja w).trans (by rw [show (decide (64 < ((n : Nat) : Int))) = false from (decide_eq_false (by omega))]))) fun a hA => ?_
 refine sdo (v := .bool false) hA (qj rfl rfl rfl rfl) fun a hA => ?_
 refine qe (hK3 _ _ (wp_cond_false (hA.ev rfl) ?_))
 refine wp_skip (hK2 _ _ (wsk fun K4 hK4 => wsk fun K5 hK5 => wrl (sdo hA (qa rfl) fun a hA => ?_)))
 refine sdo hA (zb Tryz.underlying23 rfl) fun a hA => ?_
 refine sdo hA (qa rfl) fun a hA => ?_
 refine sdo (v := .int .i64 (((cp : Nat) : Int))) hA (qg rfl rfl (ar_quo (by omega) (zkh hcp))) fun a hA => ?_
 refine sdo (v := .bool true) hA (qg rfl rfl (fun w => (ja w).trans (by rw [show (decide (((cp : Nat) : Int) < ((m : Nat) : Int))) = true from (decide_eq_true (by omega))]))) fun a hA => ?_
 refine qe (hK5 _ _ (wp_cond_true (hA.ev rfl) ?_))
 refine wsk fun K6 hK6 => wrl ?_
 iterate 2 refine sdo hA (qb rfl) fun a hA => ?_
 refine qe (hK6 _ _ (wp_ret (hret _ _ (en2 hA rfl (ql rfl) (ql rfl) ?_))))
 exact ⟨rfl, hM.bel⟩
end Go.Proofs.YtbhdnpbbmpemnaaGreatDoor.G
namespace Go.Proofs.YtbhdnpbbmpemnaaGreatDoor
open Go.RowKit
set_option linter.unusedVariables false
set_option linter.unusedSimpArgs false
set_option maxRecDepth 100000
theorem GvN_isS_36 : IsS Tryz.prog 36 6 := ⟨⟨_, Tryz.underlying36⟩, by kernel_rfl⟩
theorem zni : G.jt true false ((([1, 2] : List UInt8).drop 0).take 2) = Q6.whole false 258 := by unfold G.jt; rw [if_neg (by rintro ⟨k, _⟩; cases k)]; rfl
theorem qvh : (words 258).length ≤ 512 := Nat.le_trans (words_mono (show 258 ≤ 2 ^ 31 by decide)) (by rw [show words (2 ^ 31) = [2 ^ 31] from by rw [words_pos (by decide)]; simp [words_zero]]; decide)
theorem uh {w : World} : Calls Tryz.prog 8 #[] w fun e w' => e = .returned (.bool true) ∧ Below w.heap.size w w' := by
 have hS : St w w [] [] [] := St.start w
 refine za (l := []) Tryz.func8 rfl Tryz.ntmps8 rfl rfl ?_
 intro Q hret hnorm hP a hA
 refine wsk fun K1 hK1 => wrl (sdo hA (qb rfl) fun a hA => ?_)
 refine qe (hK1 _ _ (wsk fun K2 hK2 => wrl ?_))
 have hM : G.Mg w w [] := G.Mg.start w
 refine G.zle (vs := [.int .u8 1, .int .u8 2]) (toG hA) hM rfl rfl rfl (G.qx rfl (by kernel_rfl)) rfl rfl (G.qy G.zd) ?_
 intro g3 w4 hM a hA
 replace hA := ofG hA
 have hW : Below w.heap.size w w4 := hM.bel
 have hr2 : G.Rb w4 (some ⟨g3, 0, none⟩) ([1, 2] : List UInt8) := (G.vl (bs := [1, 2]) hM 0 rfl).1
 clear hS
 have hS : St w4 w4 [] [] [] := St.start w4
 refine qi hA rfl rfl rfl (qf  rfl rfl (fun w => by kernel_rfl)) ((zni ▸ zmj (l := [1, 2]) (ca := 2) (an := 0) (nn := 2) (hr2.below hS.bel) (Nat.le_refl _) (by decide) (by decide) (by decide) (by decide) true false)) ?_
 rintro _ w8 ⟨p5_1, p5_c1, p5_2, p5_c2, p5_3, p5_c3, p5_4, p5_c4, rfl, hn6, hb7⟩
 replace hS := hS.call hb7
 replace hS := hS.addR hn6.s1.rd
 replace hS := hS.addR hn6.s2.rd
 replace hS := hS.addR hn6.s3.rd
 replace hS := hS.addR hn6.s4.rd
 refine ⟨_, rfl, ?_⟩
 intro a hA
 refine sdo hA (qa rfl) fun a hA => ?_
 iterate 2 refine sdo hA (qz (vs := [.agg #[.bool false, .slice p5_1 ((words 258).length) p5_c1, .slice p5_2 1 p5_c2, .bool false, .slice p5_3 0 p5_c3, .slice p5_4 1 p5_c4], .int .i64 0]) rfl rfl) fun a hA => ?_
 refine ze (vs := [.bool false, .slice none 0 0, .slice none 0 0, .bool false, .slice none 0 0, .slice none 0 0]) (t := 36) hA hS rfl rfl rfl (fun g => .pointer (some ⟨g, 0, none⟩)) (qp (z := .agg #[.bool false, .slice none 0 0, .slice none 0 0, .bool false, .slice none 0 0, .slice none 0 0]) (by kernel_rfl) rfl) rfl ?_
 intro g9 w10 hS a hA
 refine zq (us := [.bool false, .slice p5_1 ((words 258).length) p5_c1, .slice p5_2 1 p5_c2, .bool false, .slice p5_3 0 p5_c3, .slice p5_4 1 p5_c4]) hA hS rfl rfl (qr rfl rfl rfl (by kernel_rfl) hS 0 rfl rfl rfl) 0 rfl rfl rfl rfl ?_
 intro w11 hS
 refine sdo hA (qb rfl) fun a hA => ?_
 refine qe (hK2 _ _ (wsk fun K12 hK12 => je (S := fun w1 => St w4 w1 [(g9, [.bool false, .slice p5_1 ((words 258).length) p5_c1, .slice p5_2 1 p5_c2, .bool false, .slice p5_3 0 p5_c3, .slice p5_4 1 p5_c4])] [(p5_4, [1]), (p5_3, []), (p5_2, [1]), (p5_1, words 258)] []) (by kernel_rfl) ?_))
 replace hS := hS.drew
 refine qk hA 0 rfl rfl rfl rfl hP hS (fun w1 hS => qa rfl) fun a hA => ?_
 refine qk (v := .bool true) hA 1 rfl rfl rfl rfl hP hS (fun w1 hS => qg rfl rfl (fun w => by kernel_rfl)) fun a hA => ?_
 refine qk hA 2 rfl rfl rfl rfl hP hS (fun w1 hS => qa rfl) fun a hA => ?_
 refine qk hA 3 rfl rfl rfl rfl hP hS (fun w1 hS => qw hS GvN_isS_36 rfl 0 rfl (cs := [.bool false, .slice p5_1 ((words 258).length) p5_c1, .slice p5_2 1 p5_c2, .bool false, .slice p5_3 0 p5_c3, .slice p5_4 1 p5_c4]) rfl rfl) fun a hA => ?_
 refine qt (by kernel_rfl) (zm hA 4 rfl rfl rfl rfl (qf  rfl rfl (fun w => by kernel_rfl)) ((show Calls Tryz.prog 18 #[.int .i64 (258)] _ (AnsV _ (Q6.whole false 258)) from zbf (k := 258) (by decide))) ?_)
 rintro _ w16 ⟨p13_1, p13_c1, p13_2, p13_c2, p13_3, p13_c3, p13_4, p13_c4, rfl, hn14, hb15⟩
 replace hS := hS.call hb15
 replace hS := hS.addR hn14.s1.rd
 replace hS := hS.addR hn14.s2.rd
 replace hS := hS.addR hn14.s3.rd
 replace hS := hS.addR hn14.s4.rd
 refine ⟨_, rfl, (hS.partD (.refl _) 4 rfl (.refl _)), ?_⟩
 intro a hA
 refine qt (by kernel_rfl) (zm hA 5 rfl rfl rfl rfl (qf  rfl rfl (fun w => by kernel_rfl)) (qyi (p := Q6.whole false 258) (q := Q6.whole false 258) (show Nm _ _ p5_1 p5_c1 p5_2 p5_c2 p5_3 p5_c3 p5_4 p5_c4 from ⟨⟨(hS.rd 7 rfl), hn6.s1.nil, hn6.s1.cap⟩, ⟨(hS.rd 6 rfl), hn6.s2.nil, hn6.s2.cap⟩, ⟨(hS.rd 5 rfl), hn6.s3.nil, hn6.s3.cap⟩, ⟨(hS.rd 4 rfl), hn6.s4.nil, hn6.s4.cap⟩⟩) (jl qvh) (show Nm _ _ p13_1 p13_c1 p13_2 p13_c2 p13_3 p13_c3 p13_4 p13_c4 from ⟨⟨(hS.rd 3 rfl), hn14.s1.nil, hn14.s1.cap⟩, ⟨(hS.rd 2 rfl), hn14.s2.nil, hn14.s2.cap⟩, ⟨(hS.rd 1 rfl), hn14.s3.nil, hn14.s3.cap⟩, ⟨(hS.rd 0 rfl), hn14.s4.nil, hn14.s4.cap⟩⟩) (jl qvh) (que (xz qvh (by decide)))) ?_)
 rintro _ w18 ⟨rfl, hb17⟩
 replace hS := hS.call hb17
 refine ⟨_, rfl, (hS.partD (.refl _) 4 rfl (.refl _)), ?_⟩
 intro a hA
 refine qk (v := .bool true) hA 6 rfl rfl rfl rfl hP (hS.partD (.refl _) 4 rfl (.refl _)) (fun w1 hS => qj rfl rfl rfl rfl) fun a hA => ?_
 refine qk hA 7 rfl rfl rfl rfl hP (hS.partD (.refl _) 4 rfl (.refl _)) (fun w1 hS => qb rfl) fun a hA => ?_
 refine zn (by kernel_rfl) ?_
 refine hK12 _ _ (wp_ret (hret _ _ (en1 hA rfl (ql rfl) ?_)))
 exact ⟨rfl, chain2 hW hS.bel⟩
end Go.Proofs.YtbhdnpbbmpemnaaGreatDoor
