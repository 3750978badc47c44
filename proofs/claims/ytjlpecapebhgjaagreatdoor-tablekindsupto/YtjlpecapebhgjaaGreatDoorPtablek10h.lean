/- Walks of the order of numbers. Walks of small comparisons, and of the hash of lists. Walks of the order of data. Walks of Equal, Cmp and Hash. Plain functions on characters: what the program's functions and the document's answers give, and that they agree. Walks of the program's small functions on characters. The library's contracts, as theorems of this program. Walks of the program's Up, Down and Fold. Walks of the small functions of table, and of marks. Walks of where a key is looked for. Walks of Get, and of calls on a nil table. Walks of a new table, and of Set. Tables: what they hold, and what a vf at a mark finds. Tables: what they hold, as pairs of trees in the order in which they came. Tables: how a table's state goes on. Calls on a table, by its state. Walks of the fixed fact, and of TableNil. Whole numbers by their last digits. -/
import Derived.Test.YtjlpecapebhgjaaGreatDoorPtablek10c
import Derived.Test.YtjlpecapebhgjaaGreatDoorPtablek10g
import Derived.Lib.RuneBytes
import Derived.RowKit
import Derived.Test.YtjlpecapebhgjaaGreatDoorProg
import Derived.WalkKit
import Derived.WalkSpells
import Derived.Deep.Light
import Derived.Shelf.Strings.Builder1
import Derived.Shelf.Small.Utf8
import Derived.Shelf.Small.Bits
import Derived.Shelf.Small.Strs
import Derived.Shelf.Strings.BuilderF
import Derived.Shelf.Strings.BuilderK
import Derived.Shelf.Strings.BuilderRune
import Derived.Shelf.Utf8.AppendRunePlain
import Derived.Shelf.Strconv.Itoa0
import Derived.Shelf.LaysM
import Derived.Shelf.Strconv.Clone
import Derived.Test.YtjlpecapebhgjaaGreatDoorText
import Derived.BigCall
namespace Go.Proofs.YtjlpecapebhgjaaGreatDoor
open Go.RowKit
set_option linter.unusedVariables false
set_option linter.unusedSimpArgs false
set_option maxRecDepth 100000
theorem EqN_is1_31 : Is1 Tryz.prog 31 := ⟨⟨_, Tryz.underlying31, rfl⟩, by kernel_rfl⟩
theorem EqN_is1_4 : Is1 Tryz.prog 4 := ⟨⟨_, Tryz.underlying4, rfl⟩, by kernel_rfl⟩
theorem EqN_fld_33_0 : FieldAt Tryz.prog 33 0 0 := ⟨_, _, Tryz.underlying33, rfl, rfl, by kernel_rfl⟩
theorem EqN_fld_33_1 : FieldAt Tryz.prog 33 1 1 := ⟨_, _, Tryz.underlying33, rfl, rfl, by kernel_rfl⟩
theorem EqN_fld_33_2 : FieldAt Tryz.prog 33 2 2 := ⟨_, _, Tryz.underlying33, rfl, rfl, by kernel_rfl⟩
theorem EqN_fld_35_0 : FieldAt Tryz.prog 35 0 0 := ⟨_, _, Tryz.underlying35, rfl, rfl, by kernel_rfl⟩
theorem EqN_fld_35_1 : FieldAt Tryz.prog 35 1 3 := ⟨_, _, Tryz.underlying35, rfl, rfl, by kernel_rfl⟩
theorem EqN_isS_33 : IsS Tryz.prog 33 3 := ⟨⟨_, Tryz.underlying33⟩, by kernel_rfl⟩
theorem EqN_isS_35 : IsS Tryz.prog 35 6 := ⟨⟨_, Tryz.underlying35⟩, by kernel_rfl⟩
theorem qpf (u : Rat) : Q6.rat u 0 = ⟨rb u.num, words u.num.natAbs, words u.den, false, [], [1]⟩ := by
 unfold Q6.rat
 have h0 : words (0 : Rat).num.natAbs = [] := by show words 0 = []; exact words_zero
 have h1 : words (0 : Rat).den = [1] := by show words 1 = [1]; exact jw
 rw [h0, h1]
 rfl
theorem zpe {u x : Rat} (hu : jx u) (hx : jx x) : zhf ⟨rb u.num, words u.num.natAbs, words u.den, false, [], [1]⟩ ⟨rb x.num, words x.num.natAbs, words x.den, false, [], [1]⟩ = (yd u x, 0) := by
 rw [← qpf, ← qpf, zmf hu hx]
theorem zpf : jx 0 := by
 refine ⟨?_, ?_⟩
 ·
  show (words 0).length ≤ 512; rw [words_zero]; decide
 ·
  show (words 1).length ≤ 512; rw [jw]; decide
theorem qzh {u : Rat} (hu : jx u) : LenQ ⟨rb u.num, words u.num.natAbs, words u.den, false, [], [1]⟩ := by rw [← qpf]; exact uw hu zpf
theorem zkb {u x : Rat} (h : qkj (rb u.num) (words u.num.natAbs) (words u.den) (rb x.num) (words x.num.natAbs) (words x.den) = true) : yd u x = 0 := by
 unfold qkj at h
 simp only [Bool.and_eq_true, beq_iff_eq, decide_eq_true_eq] at h
 rw [ztb h.1 h.2.1 h.2.2]
 unfold yd
 rw [if_neg Rat.lt_irrefl, if_pos rfl]
theorem qle {w : World} {b b' : Bool} {t q t' q' : List Nat} {a1 a2 : Option Addr} {ac1 ac2 : Nat} (ha1 : Sc w a1 ac1 t) (ha2 : Sc w a2 ac2 q) {u1 u2 : Option Addr} {uc1 uc2 : Nat} (hu1 : Sc w u1 uc1 t') (hu2 : Sc w u2 uc2 q') (l1 : t.length ≤ 9223372036854775807) (l2 : q.length ≤ 9223372036854775807) (l3 : t'.length ≤ 9223372036854775807) (l4 : q'.length ≤ 9223372036854775807) {r : Bool} (hr : qkj b t q b' t' q' = r) :
  Calls Tryz.prog 179 #[.agg #[.bool b, .slice a1 t.length ac1, .slice a2 q.length ac2], .agg #[.bool b', .slice u1 t'.length uc1, .slice u2 q'.length uc2]] w fun e w' => e = .returned (.bool r) ∧ Below w.heap.size w w' := by
 have V : St w w [] [(u2, q'), (u1, t'), (a2, q), (a1, t)] [] := ((((St.start w).addR ha1.rd).addR ha2.rd).addR hu1.rd).addR hu2.rd
 refine za (l := [(0, .agg #[.bool b, .slice a1 t.length ac1, .slice a2 q.length ac2]), (1, .agg #[.bool b', .slice u1 t'.length uc1, .slice u2 q'.length uc2])]) Tryz.func179 rfl Tryz.ntmps179 rfl rfl ?_
 intro Q hret hnorm hP a A
 refine wsk fun K1 hK1 => wrl (zn A V rfl rfl rfl pg (zb rfl rfl) rfl ?_)
 intro g2 w3 V a A
 refine zn A V rfl rfl rfl pg (zb rfl rfl) rfl ?_
 intro g4 w5 V a A
 refine sda A λa A↦?_
 refine qa (hK1 _ _ (wsk fun K6 hK6 => wrl (sdo (v := .pointer (some ⟨g2, 0, none⟩)) A (qb EqN_fld_33_0 rfl rfl) λa A↦?_)))
 refine sdo A (qw V EqN_is1_4 rfl 1 rfl rfl) λa A↦?_
 refine sdo (v := .pointer (some ⟨g4, 0, none⟩)) A (qb EqN_fld_33_0 rfl rfl) λa A↦?_
 refine sdo A (qw V EqN_is1_4 rfl 0 rfl rfl) λa A↦?_
 rcases tf ((b == b')) with hb7 | hb7
 ·
  have hb7' := eq_of_beq hb7
  refine sdo (v := .bool true) A (qk rfl rfl (fun w => ((yq Tryz.underlying4) w).trans (by rw [hb7]))) λa A↦?_
  refine sdm A λa A↦?_
  refine sdo (v := .pointer (some ⟨g2, 1, none⟩)) A (qb EqN_fld_33_1 rfl rfl) λa A↦?_
  refine sdo A (qw V EqN_is1_31 rfl 1 rfl rfl) λa A↦?_
  refine sdo (v := .pointer (some ⟨g4, 1, none⟩)) A (qb EqN_fld_33_1 rfl rfl) λa A↦?_
  refine sdo A (qw V EqN_is1_31 rfl 0 rfl rfl) λa A↦?_
  rcases tf (decide (t = t')) with hb8 | hb8
  ·
   have hb8' := of_decide_eq_true hb8
   refine sct A (ef rfl rfl) (qai _ _ (V.rd 3 rfl) (V.rd 1 rfl) l1 l3 hb8) ?_
   rintro _ w10 ⟨rfl, hb9⟩
   replace V := V.call hb9
   refine ⟨_, rfl, ?_⟩
   intro a A
   refine sdk (v := .bool true) A λa A↦?_
   refine sdm A λa A↦?_
   refine sdo (v := .pointer (some ⟨g2, 2, none⟩)) A (qb EqN_fld_33_2 rfl rfl) λa A↦?_
   refine sdo A (qw V EqN_is1_31 rfl 1 rfl rfl) λa A↦?_
   refine sdo (v := .pointer (some ⟨g4, 2, none⟩)) A (qb EqN_fld_33_2 rfl rfl) λa A↦?_
   refine sdo A (qw V EqN_is1_31 rfl 0 rfl rfl) λa A↦?_
   rcases tf (decide (q = q')) with hb11 | hb11
   ·
    have hb11' := of_decide_eq_true hb11
    refine sct A (ef rfl rfl) (qai _ _ (V.rd 2 rfl) (V.rd 0 rfl) l2 l4 hb11) ?_
    rintro _ w13 ⟨rfl, hb12⟩
    replace V := V.call hb12
    refine ⟨_, rfl, ?_⟩
    intro a A
    refine sdk (v := .bool true) A λa A↦?_
    refine sda A λa A↦?_
    refine qa (hK6 _ _ (wp_ret (hret _ _ (en1 A rfl (ql rfl) ?_))))
    subst hr
    exact ⟨by unfold qkj; rw [hb7, hb8, hb11]; try rfl, V.bel⟩
   ·
    have hb11' := of_decide_eq_false hb11
    refine sct A (ef rfl rfl) (qai _ _ (V.rd 2 rfl) (V.rd 0 rfl) l2 l4 hb11) ?_
    rintro _ w15 ⟨rfl, hb14⟩
    replace V := V.call hb14
    refine ⟨_, rfl, ?_⟩
    intro a A
    refine sdk (v := .bool false) A λa A↦?_
    refine sda A λa A↦?_
    refine qa (hK6 _ _ (wp_ret (hret _ _ (en1 A rfl (ql rfl) ?_))))
    subst hr
    exact ⟨by unfold qkj; rw [hb7, hb8, hb11]; try rfl, V.bel⟩
  ·
   have hb8' := of_decide_eq_false hb8
   refine sct A (ef rfl rfl) (qai _ _ (V.rd 3 rfl) (V.rd 1 rfl) l1 l3 hb8) ?_
   rintro _ w17 ⟨rfl, hb16⟩
   replace V := V.call hb16
   refine ⟨_, rfl, ?_⟩
   intro a A
   refine sdk (v := .bool false) A λa A↦?_
   refine sdm A λa A↦?_
   iterate 5 refine zf A rfl rfl rfl λa A↦?_
   refine sdk (v := .bool false) A λa A↦?_
   refine sda A λa A↦?_
   refine qa (hK6 _ _ (wp_ret (hret _ _ (en1 A rfl (ql rfl) ?_))))
   subst hr
   exact ⟨by unfold qkj; rw [hb7, hb8]; try rfl, V.bel⟩
 ·
  have hb7' := ne_of_beq_false hb7
  refine sdo (v := .bool false) A (qk rfl rfl (fun w => ((yq Tryz.underlying4) w).trans (by rw [hb7]))) λa A↦?_
  refine sdm A λa A↦?_
  iterate 5 refine zf A rfl rfl rfl λa A↦?_
  refine sdk (v := .bool false) A λa A↦?_
  refine sdm A λa A↦?_
  iterate 5 refine zf A rfl rfl rfl λa A↦?_
  refine sdk (v := .bool false) A λa A↦?_
  refine sda A λa A↦?_
  refine qa (hK6 _ _ (wp_ret (hret _ _ (en1 A rfl (ql rfl) ?_))))
  subst hr
  exact ⟨by unfold qkj; rw [hb7]; try rfl, V.bel⟩
theorem qsi {w : World} {b : Bool} {t q : List Nat} {a1 a2 : Option Addr} {ac1 ac2 : Nat} (ha1 : Sc w a1 ac1 t) (ha2 : Sc w a2 ac2 q) : Calls Tryz.prog 181 #[.agg #[.bool b, .slice a1 t.length ac1, .slice a2 q.length ac2]] w (AnsV w ⟨b, t, q, false, [], [1]⟩) := by
 have V : St w w [] [(a2, q), (a1, t)] [] := ((St.start w).addR ha1.rd).addR ha2.rd
 refine za (l := [(0, .agg #[.bool b, .slice a1 t.length ac1, .slice a2 q.length ac2])]) Tryz.func181 rfl Tryz.ntmps181 rfl rfl ?_
 intro Q hret hnorm hP a A
 refine wsk fun K1 hK1 => wrl (zn A V rfl rfl rfl pg (zb rfl rfl) rfl ?_)
 intro g2 w3 V a A
 refine zn (vs := [.bool false, .slice none 0 0, .slice none 0 0, .bool false, .slice none 0 0, .slice none 0 0]) (t := 35) A V rfl rfl rfl pg (qi (z := .agg #[.bool false, .slice none 0 0, .slice none 0 0, .bool false, .slice none 0 0, .slice none 0 0]) (by kernel_rfl) rfl) rfl ?_
 intro g4 w5 V a A
 refine qa (hK1 _ _ (wsk fun K6 hK6 => je (S := fun w1 => St w w1 [(g2, [.bool b, .slice a1 t.length ac1, .slice a2 q.length ac2])] [(a2, q), (a1, t)] []) (by kernel_rfl) ?_))
 replace V := V.drew
 refine qe A 0 rfl rfl rfl rfl hP (V.partD (cn (cc .slnil)) 0 rfl (.refl _)) (fun w1 V => zd V EqN_isS_33 rfl 0 rfl (cs := [.bool b, .slice a1 t.length ac1, .slice a2 q.length ac2]) rfl rfl) λa A↦?_
 refine qf (by kernel_rfl) (qm A 1 rfl rfl rfl rfl (qg  rfl rfl (fun w => by kernel_rfl)) ((show Calls Tryz.prog 24 #[.int .i64 (0)] _ (AnsV _ (Q6.whole false 0)) from qzf (k := 0) (by decide))) ?_)
 rintro _ w10 ⟨p7_1, p7_c1, p7_2, p7_c2, p7_3, p7_c3, p7_4, p7_c4, rfl, hn8, hb9⟩
 replace V := V.call hb9
 replace V := V.addR hn8.s1.rd
 replace V := V.addR hn8.s2.rd
 replace V := V.addR hn8.s3.rd
 replace V := V.addR hn8.s4.rd
 refine ⟨_, rfl, (V.partD (cn (cc .slnil)) 4 rfl (.refl _)), ?_⟩
 intro a A
 refine qe (v := .agg #[.bool false, .slice p7_3 0 p7_c3, .slice p7_4 1 p7_c4]) A 2 rfl rfl rfl rfl hP (V.partD (cn (cc .slnil)) 4 rfl (.refl _)) (fun w1 V => qwj rfl (fun w => by kernel_rfl)) λa A↦?_
 refine qe (v := .agg #[.bool b, .slice a1 t.length ac1, .slice a2 q.length ac2, .bool false, .slice p7_3 0 p7_c3, .slice p7_4 1 p7_c4]) A 3 rfl rfl rfl rfl hP (V.partD (cn (cc .slnil)) 4 rfl (.refl _)) (fun w1 V => zg rfl (fun w => by kernel_rfl)) λa A↦?_
 refine qf (by kernel_rfl) (qn (us := [.bool b, .slice a1 t.length ac1, .slice a2 q.length ac2, .bool false, .slice p7_3 0 p7_c3, .slice p7_4 1 p7_c4]) A V 4 rfl rfl rfl (qj rfl rfl rfl (by kernel_rfl) V 0 rfl rfl rfl) 0 rfl rfl rfl rfl ?_)
 intro w11 V
 refine ⟨(V.partD (cn (cc .slnil)) 4 rfl (.refl _)), ?_⟩
 refine qy (by kernel_rfl) ?_
 refine hK6 _ _ (wp_ret (hret _ _ (en1 A rfl (jj V EqN_isS_35 rfl 0 rfl (cs := [.bool b, .slice a1 t.length ac1, .slice a2 q.length ac2, .bool false, .slice p7_3 0 p7_c3, .slice p7_4 1 p7_c4]) rfl rfl) ?_)))
 exact ⟨a1, ac1, a2, ac2, p7_3, p7_c3, p7_4, p7_c4, rfl, ⟨⟨(V.rd 5 rfl), ha1.nil, ha1.cap⟩, ⟨(V.rd 4 rfl), ha2.nil, ha2.cap⟩, ⟨(V.rd 1 rfl), hn8.s3.nil, hn8.s3.cap⟩, ⟨(V.rd 0 rfl), hn8.s4.nil, hn8.s4.cap⟩⟩, V.bel⟩
theorem qsj {w : World} {u x : Rat} (hu : jx u) (hx : jx x) {a1 a2 : Option Addr} {ac1 ac2 : Nat} (ha1 : Sc w a1 ac1 (words u.num.natAbs)) (ha2 : Sc w a2 ac2 (words u.den)) {e1 e2 : Option Addr} {ec1 ec2 : Nat} (he1 : Sc w e1 ec1 (words x.num.natAbs)) (he2 : Sc w e2 ec2 (words x.den)) : Calls Tryz.prog 148 #[.agg #[.bool ((rb u.num)), .slice a1 (words u.num.natAbs).length ac1, .slice a2 (words u.den).length ac2], .agg #[.bool ((rb x.num)), .slice e1 (words x.num.natAbs).length ec1, .slice e2 (words x.den).length ec2]] w fun e w' => e = .returned (.int .i64 (yd u x)) ∧ Below w.heap.size w w' := by
 have V : St w w [] [(e2, words x.den), (e1, words x.num.natAbs), (a2, words u.den), (a1, words u.num.natAbs)] [] := ((((St.start w).addR ha1.rd).addR ha2.rd).addR he1.rd).addR he2.rd
 refine za (l := [(0, .agg #[.bool ((rb u.num)), .slice a1 ((words u.num.natAbs).length) ac1, .slice a2 ((words u.den).length) ac2]), (1, .agg #[.bool ((rb x.num)), .slice e1 ((words x.num.natAbs).length) ec1, .slice e2 ((words x.den).length) ec2])]) Tryz.func148 rfl Tryz.ntmps148 rfl rfl ?_
 intro Q hret hnorm hP a A
 refine wsk fun K1 hK1 => wrl (zn A V rfl rfl rfl pg (zb rfl rfl) rfl ?_)
 intro g2 w3 V a A
 refine zn A V rfl rfl rfl pg (zb rfl rfl) rfl ?_
 intro g4 w5 V a A
 refine sda A λa A↦?_
 refine qa (hK1 _ _ (wsk fun K6 hK6 => wsk fun K7 hK7 => wrl (sdo A (zd V EqN_isS_33 rfl 1 rfl (cs := [.bool ((rb u.num)), .slice a1 ((words u.num.natAbs).length) ac1, .slice a2 ((words u.den).length) ac2]) rfl rfl) λa A↦?_)))
 refine sdo A (zd V EqN_isS_33 rfl 0 rfl (cs := [.bool ((rb x.num)), .slice e1 ((words x.num.natAbs).length) ec1, .slice e2 ((words x.den).length) ec2]) rfl rfl) λa A↦?_
 rcases tf (qkj (rb u.num) (words u.num.natAbs) (words u.den) (rb x.num) (words x.num.natAbs) (words x.den)) with hb8 | hb8
 ·
  refine sct A (ef rfl rfl) (qle ⟨(V.rd 3 rfl), ha1.nil, ha1.cap⟩ ⟨(V.rd 2 rfl), ha2.nil, ha2.cap⟩ ⟨(V.rd 1 rfl), he1.nil, he1.cap⟩ ⟨(V.rd 0 rfl), he2.nil, he2.cap⟩ (Nat.le_trans hu.1 (by decide)) (Nat.le_trans hu.2 (by decide)) (Nat.le_trans hx.1 (by decide)) (Nat.le_trans hx.2 (by decide)) hb8) ?_
  rintro _ w10 ⟨rfl, hb9⟩
  replace V := V.call hb9
  refine ⟨_, rfl, ?_⟩
  intro a A
  refine qa (hK7 _ _ (wp_cond_true (A.ev rfl) ?_))
  refine wsk fun K11 hK11 => wrl (sda A λa A↦?_)
  refine qa (hK11 _ _ (wp_ret (hret _ _ (en1 A rfl (ql rfl) ?_))))
  exact ⟨by rw [zkb hb8], V.bel⟩
 ·
  refine sct A (ef rfl rfl) (qle ⟨(V.rd 3 rfl), ha1.nil, ha1.cap⟩ ⟨(V.rd 2 rfl), ha2.nil, ha2.cap⟩ ⟨(V.rd 1 rfl), he1.nil, he1.cap⟩ ⟨(V.rd 0 rfl), he2.nil, he2.cap⟩ (Nat.le_trans hu.1 (by decide)) (Nat.le_trans hu.2 (by decide)) (Nat.le_trans hx.1 (by decide)) (Nat.le_trans hx.2 (by decide)) hb8) ?_
  rintro _ w13 ⟨rfl, hb12⟩
  replace V := V.call hb12
  refine ⟨_, rfl, ?_⟩
  intro a A
  refine qa (hK7 _ _ (wp_cond_false (A.ev rfl) ?_))
  refine wp_skip (hK6 _ _ (wsk fun K14 hK14 => je (S := fun w1 => St w w1 [(g4, [.bool ((rb x.num)), .slice e1 ((words x.num.natAbs).length) ec1, .slice e2 ((words x.den).length) ec2]), (g2, [.bool ((rb u.num)), .slice a1 ((words u.num.natAbs).length) ac1, .slice a2 ((words u.den).length) ac2])] [(e2, words x.den), (e1, words x.num.natAbs), (a2, words u.den), (a1, words u.num.natAbs)] []) (by kernel_rfl) ?_))
  replace V := V.drew
  refine qe A 0 rfl rfl rfl rfl hP V (fun w1 V => zd V EqN_isS_33 rfl 1 rfl (cs := [.bool ((rb u.num)), .slice a1 ((words u.num.natAbs).length) ac1, .slice a2 ((words u.den).length) ac2]) rfl rfl) λa A↦?_
  refine qe A 2 rfl rfl rfl rfl hP V (fun w1 V => zd V EqN_isS_33 rfl 0 rfl (cs := [.bool ((rb x.num)), .slice e1 ((words x.num.natAbs).length) ec1, .slice e2 ((words x.den).length) ec2]) rfl rfl) λa A↦?_
  refine qf (by kernel_rfl) (qm A 1 rfl rfl rfl rfl (qg  rfl rfl (fun w => by kernel_rfl)) (qsi ⟨(V.rd 3 rfl), ha1.nil, ha1.cap⟩ ⟨(V.rd 2 rfl), ha2.nil, ha2.cap⟩) ?_)
  rintro _ w18 ⟨p15_1, p15_c1, p15_2, p15_c2, p15_3, p15_c3, p15_4, p15_c4, rfl, hn16, hb17⟩
  replace V := V.call hb17
  replace V := V.addR hn16.s1.rd
  replace V := V.addR hn16.s2.rd
  replace V := V.addR hn16.s3.rd
  replace V := V.addR hn16.s4.rd
  refine ⟨_, rfl, (V.partD (.refl _) 4 rfl (.refl _)), ?_⟩
  intro a A
  refine qf (by kernel_rfl) (qm A 3 rfl rfl rfl rfl (qg  rfl rfl (fun w => by kernel_rfl)) (qsi ⟨(V.rd 5 rfl), he1.nil, he1.cap⟩ ⟨(V.rd 4 rfl), he2.nil, he2.cap⟩) ?_)
  rintro _ w22 ⟨p19_1, p19_c1, p19_2, p19_c2, p19_3, p19_c3, p19_4, p19_c4, rfl, hn20, hb21⟩
  replace V := V.call hb21
  replace V := V.addR hn20.s1.rd
  replace V := V.addR hn20.s2.rd
  replace V := V.addR hn20.s3.rd
  replace V := V.addR hn20.s4.rd
  refine ⟨_, rfl, (V.partD (.refl _) 8 rfl (.refl _)), ?_⟩
  intro a A
  refine qf (by kernel_rfl) (qm A 4 rfl rfl rfl rfl (qg  rfl rfl (fun w => by kernel_rfl)) (((zpe hu hx) ▸ zpd (show Nm _ ⟨rb u.num, words u.num.natAbs, words u.den, false, [], [1]⟩ p15_1 p15_c1 p15_2 p15_c2 p15_3 p15_c3 p15_4 p15_c4 from ⟨⟨(V.rd 7 rfl), hn16.s1.nil, hn16.s1.cap⟩, ⟨(V.rd 6 rfl), hn16.s2.nil, hn16.s2.cap⟩, ⟨(V.rd 5 rfl), hn16.s3.nil, hn16.s3.cap⟩, ⟨(V.rd 4 rfl), hn16.s4.nil, hn16.s4.cap⟩⟩) (qzh hu) (show Nm _ ⟨rb x.num, words x.num.natAbs, words x.den, false, [], [1]⟩ p19_1 p19_c1 p19_2 p19_c2 p19_3 p19_c3 p19_4 p19_c4 from ⟨⟨(V.rd 3 rfl), hn20.s1.nil, hn20.s1.cap⟩, ⟨(V.rd 2 rfl), hn20.s2.nil, hn20.s2.cap⟩, ⟨(V.rd 1 rfl), hn20.s3.nil, hn20.s3.cap⟩, ⟨(V.rd 0 rfl), hn20.s4.nil, hn20.s4.cap⟩⟩) (qzh hx))) ?_)
  rintro _ w24 ⟨rfl, hb23⟩
  replace V := V.call hb23
  refine ⟨_, rfl, (V.partD (.refl _) 8 rfl (.refl _)), ?_⟩
  intro a A
  refine qe A 5 rfl rfl rfl rfl hP (V.partD (.refl _) 8 rfl (.refl _)) (fun w1 V => qz rfl) λa A↦?_
  refine qe (v := .int .i64 (yd u x)) A 6 rfl rfl rfl rfl hP (V.partD (.refl _) 8 rfl (.refl _)) (fun w1 V => qh (vs := [.int .i64 (yd u x), .int .i64 0]) rfl rfl) λa A↦?_
  refine qe (v := .int .i64 0) A 7 rfl rfl rfl rfl hP (V.partD (.refl _) 8 rfl (.refl _)) (fun w1 V => qh (vs := [.int .i64 (yd u x), .int .i64 0]) rfl rfl) λa A↦?_
  refine qe A 8 rfl rfl rfl rfl hP (V.partD (.refl _) 8 rfl (.refl _)) (fun w1 V => zh rfl) λa A↦?_
  refine qe A 9 rfl rfl rfl rfl hP (V.partD (.refl _) 8 rfl (.refl _)) (fun w1 V => zh rfl) λa A↦?_
  refine qy (by kernel_rfl) ?_
  refine hK14 _ _ (wsk fun K25 hK25 => wrl (sdm A λa A↦?_))
  refine sda A λa A↦?_
  refine qa (hK25 _ _ (wp_ret (hret _ _ (en1 A rfl (ql rfl) ?_))))
  exact ⟨rfl, V.bel⟩
theorem zdi {w : World} {u v x y : Rat} {a1 a2 a3 a4 : Option Addr} {ac1 ac2 ac3 ac4 : Nat} (ha : Nm w (Q6.rat u v) a1 ac1 a2 ac2 a3 ac3 a4 ac4) {u1 u2 u3 u4 : Option Addr} {uc1 uc2 uc3 uc4 : Nat} (hb : Nm w (Q6.rat x y) u1 uc1 u2 uc2 u3 uc3 u4 uc4) (hu : jx u) (hv : jx v) (hx : jx x) (hy : jx y) : Calls Tryz.prog 115 #[ys (Q6.rat u v) a1 ac1 a2 ac2 a3 ac3 a4 ac4, ys (Q6.rat x y) u1 uc1 u2 uc2 u3 uc3 u4 uc4] w fun e w' => e = .returned (.int .i64 (if yd u x = 0 then yd v y else yd u x)) ∧ Below w.heap.size w w' := by
 have V : St w w [] [(u4, words y.den), (u3, words y.num.natAbs), (u2, words x.den), (u1, words x.num.natAbs), (a4, words v.den), (a3, words v.num.natAbs), (a2, words u.den), (a1, words u.num.natAbs)] [] := ((((((((St.start w).addR ha.s1.rd).addR ha.s2.rd).addR ha.s3.rd).addR ha.s4.rd).addR hb.s1.rd).addR hb.s2.rd).addR hb.s3.rd).addR hb.s4.rd
 refine za (l := [(0, .agg #[.bool (rb u.num), .slice a1 ((words u.num.natAbs).length) ac1, .slice a2 ((words u.den).length) ac2, .bool (rb v.num), .slice a3 ((words v.num.natAbs).length) ac3, .slice a4 ((words v.den).length) ac4]), (1, .agg #[.bool (rb x.num), .slice u1 ((words x.num.natAbs).length) uc1, .slice u2 ((words x.den).length) uc2, .bool (rb y.num), .slice u3 ((words y.num.natAbs).length) uc3, .slice u4 ((words y.den).length) uc4])]) Tryz.func115 rfl Tryz.ntmps115 rfl rfl ?_
 intro Q hret hnorm hP a A
 refine wsk fun K1 hK1 => wrl (zn A V rfl rfl rfl pg (zb rfl rfl) rfl ?_)
 intro g2 w3 V a A
 refine zn A V rfl rfl rfl pg (zb rfl rfl) rfl ?_
 intro g4 w5 V a A
 refine sda A λa A↦?_
 refine qa (hK1 _ _ (wsk fun K6 hK6 => wsk fun K7 hK7 => wrl (sdo (v := .pointer (some ⟨g2, 0, none⟩)) A (qb EqN_fld_35_0 rfl rfl) λa A↦?_)))
 refine sdo A (zd V EqN_isS_33 rfl 1 rfl (cs := [.bool (rb u.num), .slice a1 ((words u.num.natAbs).length) ac1, .slice a2 ((words u.den).length) ac2]) rfl rfl) λa A↦?_
 refine sdo (v := .pointer (some ⟨g4, 0, none⟩)) A (qb EqN_fld_35_0 rfl rfl) λa A↦?_
 refine sdo A (zd V EqN_isS_33 rfl 0 rfl (cs := [.bool (rb x.num), .slice u1 ((words x.num.natAbs).length) uc1, .slice u2 ((words x.den).length) uc2]) rfl rfl) λa A↦?_
 refine sct A (ef rfl rfl) (qsj hu hx ⟨(V.rd 7 rfl), ha.s1.nil, ha.s1.cap⟩ ⟨(V.rd 6 rfl), ha.s2.nil, ha.s2.cap⟩ ⟨(V.rd 3 rfl), hb.s1.nil, hb.s1.cap⟩ ⟨(V.rd 2 rfl), hb.s2.nil, hb.s2.cap⟩) ?_
 rintro _ w9 ⟨rfl, hb8⟩
 replace V := V.call hb8
 refine ⟨_, rfl, ?_⟩
 intro a A
 refine sda A λa A↦?_
 refine qa (hK7 _ _ (wsk fun K10 hK10 => wrl (sdm A λa A↦?_)))
 rcases tf ((yd u x != 0)) with hb11 | hb11
 ·
  have hb11' := bne_iff_ne.1 hb11
  refine sdc A jr hb11 λa A↦?_
  refine qa (hK10 _ _ (wp_cond_true (A.ev rfl) ?_))
  refine wsk fun K12 hK12 => wrl (sdm A λa A↦?_)
  refine sda A λa A↦?_
  refine qa (hK12 _ _ (wp_ret (hret _ _ (en1 A rfl (ql rfl) ?_))))
  exact ⟨by rw [if_neg hb11'], V.bel⟩
 ·
  have hb11' := bne_eq_false_iff_eq.1 hb11
  refine sdc A jr hb11 λa A↦?_
  refine qa (hK10 _ _ (wp_cond_false (A.ev rfl) ?_))
  refine wp_skip (hK6 _ _ (wsk fun K13 hK13 => wrl (sdo (v := .pointer (some ⟨g2, 3, none⟩)) A (qb EqN_fld_35_1 rfl rfl) λa A↦?_)))
  refine sdo A (zd V EqN_isS_33 rfl 1 rfl (cs := [.bool (rb v.num), .slice a3 ((words v.num.natAbs).length) ac3, .slice a4 ((words v.den).length) ac4]) rfl rfl) λa A↦?_
  refine sdo (v := .pointer (some ⟨g4, 3, none⟩)) A (qb EqN_fld_35_1 rfl rfl) λa A↦?_
  refine sdo A (zd V EqN_isS_33 rfl 0 rfl (cs := [.bool (rb y.num), .slice u3 ((words y.num.natAbs).length) uc3, .slice u4 ((words y.den).length) uc4]) rfl rfl) λa A↦?_
  refine sct A (ef rfl rfl) (qsj hv hy ⟨(V.rd 5 rfl), ha.s3.nil, ha.s3.cap⟩ ⟨(V.rd 4 rfl), ha.s4.nil, ha.s4.cap⟩ ⟨(V.rd 1 rfl), hb.s3.nil, hb.s3.cap⟩ ⟨(V.rd 0 rfl), hb.s4.nil, hb.s4.cap⟩) ?_
  rintro _ w15 ⟨rfl, hb14⟩
  replace V := V.call hb14
  refine ⟨_, rfl, ?_⟩
  intro a A
  refine sda A λa A↦?_
  refine qa (hK13 _ _ (wp_ret (hret _ _ (en1 A rfl (ql rfl) ?_))))
  exact ⟨by rw [if_pos hb11'], V.bel⟩
end Go.Proofs.YtjlpecapebhgjaaGreatDoor
namespace Go.Proofs.YtjlpecapebhgjaaGreatDoor.G
open Go.RowKit
set_option linter.unusedVariables false
set_option linter.unusedSimpArgs false
set_option maxRecDepth 100000
theorem EqA_is1_118 : Is1 Tryz.prog 118 := ⟨⟨_, Tryz.underlying118, rfl⟩, by kernel_rfl⟩
theorem EqA_is1_31 : Is1 Tryz.prog 31 := ⟨⟨_, Tryz.underlying31, rfl⟩, by kernel_rfl⟩
theorem EqA_is1_4 : Is1 Tryz.prog 4 := ⟨⟨_, Tryz.underlying4, rfl⟩, by kernel_rfl⟩
theorem EqA_is1_5 : Is1 Tryz.prog 5 := ⟨⟨_, Tryz.underlying5, rfl⟩, by kernel_rfl⟩
theorem EqA_fld_33_0 : FieldAt Tryz.prog 33 0 0 := ⟨_, _, Tryz.underlying33, rfl, rfl, by kernel_rfl⟩
theorem EqA_fld_33_1 : FieldAt Tryz.prog 33 1 1 := ⟨_, _, Tryz.underlying33, rfl, rfl, by kernel_rfl⟩
theorem EqA_fld_33_2 : FieldAt Tryz.prog 33 2 2 := ⟨_, _, Tryz.underlying33, rfl, rfl, by kernel_rfl⟩
theorem zgg {w : World} {n : Int} : Calls Tryz.prog 63 #[.int .i64 n] w fun e w' => e = .returned (.bool false) ∧ Below w.heap.size w w' := by
 have M : Mg w w ([]) := Mg.start w
 refine za (l := [(0, .int .i64 n)]) Tryz.func63 rfl Tryz.ntmps63 rfl rfl ?_
 intro Q hret hnorm hP a A
 refine wsk fun K1 hK1 => wrl (sda A λa A↦?_)
 refine qa (hK1 _ _ (wsk fun K2 hK2 => wrl ?_))
 iterate 2 refine sdm A λa A↦?_
 refine sdo (v := .bool false) A (qk rfl rfl (fun w => (jr w).trans (by rw [show ((n != n)) = false from (bne_self_eq_false n)]))) λa A↦?_
 refine sda A λa A↦?_
 refine qa (hK2 _ _ (wp_ret (hret _ _ (en1 A rfl (ql rfl) ?_))))
 exact ⟨rfl, M.bel⟩
theorem qci {w : World} {m n : Int} : Calls Tryz.prog 37 #[.int .i64 m, .int .i64 n] w fun e w' => e = .returned (.int .i64 (ye m n)) ∧ Below w.heap.size w w' := by
 have M : Mg w w ([]) := Mg.start w
 refine za (l := [(0, .int .i64 m), (1, .int .i64 n)]) Tryz.func37 rfl Tryz.ntmps37 rfl rfl ?_
 intro Q hret hnorm hP a A
 refine wsk fun K1 hK1 => wrl (sda A λa A↦?_)
 refine qa (hK1 _ _ (wsk fun K2 hK2 => wrl (sdm A λa A↦?_)))
 refine gcl A M (ef rfl rfl) (zgg) fun w4 hb3 M a A => ?_
 refine sda A λa A↦?_
 refine qa (hK2 _ _ (wsk fun K5 hK5 => wrl (sdm A λa A↦?_)))
 refine gcl A M (ef rfl rfl) (zgg) fun w7 hb6 M a A => ?_
 refine sda A λa A↦?_
 refine qa (hK5 _ _ (wsk fun K8 hK8 => wsk fun K9 hK9 => wrl (sdm A λa A↦?_)))
 refine qa (hK9 _ _ (wp_cond_false (A.ev rfl) ?_))
 refine wp_skip (hK8 _ _ (wsk fun K10 hK10 => wsk fun K11 hK11 => wrl (sdm A λa A↦?_)))
 refine qa (hK11 _ _ (wp_cond_false (A.ev rfl) ?_))
 refine wp_skip (hK10 _ _ (wsk fun K12 hK12 => wsk fun K13 hK13 => wrl ?_))
 iterate 2 refine sdm A λa A↦?_
 rcases tf (decide (m < n)) with hb14 | hb14
 ·
  have hb14' := of_decide_eq_true hb14
  refine sdc A zu hb14 λa A↦?_
  refine qa (hK13 _ _ (wp_cond_true (A.ev rfl) ?_))
  refine wsk fun K15 hK15 => wrl (sda A λa A↦?_)
  refine qa (hK15 _ _ (wp_ret (hret _ _ (en1 A rfl (ql rfl) ?_))))
  exact ⟨by rw [show ye m n = -1 from by unfold ye; (repeat' split) <;> omega], M.bel⟩
 ·
  have hb14' := of_decide_eq_false hb14
  refine sdc A zu hb14 λa A↦?_
  refine qa (hK13 _ _ (wp_cond_false (A.ev rfl) ?_))
  refine wp_skip (hK12 _ _ (wsk fun K16 hK16 => wsk fun K17 hK17 => wrl ?_))
  iterate 2 refine sdm A λa A↦?_
  rcases tf (decide (n < m)) with hb18 | hb18
  ·
   have hb18' := of_decide_eq_true hb18
   refine sdc A xu hb18 λa A↦?_
   refine qa (hK17 _ _ (wp_cond_true (A.ev rfl) ?_))
   refine wsk fun K19 hK19 => wrl (sda A λa A↦?_)
   refine qa (hK19 _ _ (wp_ret (hret _ _ (en1 A rfl (ql rfl) ?_))))
   exact ⟨by rw [show ye m n = 1 from by unfold ye; (repeat' split) <;> omega], M.bel⟩
  ·
   have hb18' := of_decide_eq_false hb18
   refine sdc A xu hb18 λa A↦?_
   refine qa (hK17 _ _ (wp_cond_false (A.ev rfl) ?_))
   refine wp_skip (hK16 _ _ (wsk fun K20 hK20 => wrl (sda A λa A↦?_)))
   refine qa (hK20 _ _ (wp_ret (hret _ _ (en1 A rfl (ql rfl) ?_))))
   exact ⟨by rw [show ye m n = 0 from by unfold ye; (repeat' split) <;> omega], M.bel⟩
theorem vn {w : World} {h n : Int} : Calls Tryz.prog 111 #[.int .u64 h, .int .u64 n] w fun e w' => e = .returned (.int .u64 (hw h n)) ∧ Below w.heap.size w w' := by
 have M : Mg w w ([]) := Mg.start w
 refine za (l := [(0, .int .u64 h), (1, .int .u64 n)]) Tryz.func111 rfl Tryz.ntmps111 rfl rfl ?_
 intro Q hret hnorm hP a A
 refine wsk fun K1 hK1 => wrl (sda A λa A↦?_)
 refine qa (hK1 _ _ (wsk fun K2 hK2 => wrl ?_))
 iterate 2 refine sdm A λa A↦?_
 refine sdo (v := .int .u64 (bits .xor .u64 h n)) A (qk rfl rfl (ar_xor rfl)) λa A↦?_
 refine sdo (v := .int .u64 (IntKind.u64.wrap (bits .xor .u64 h n * 1099511628211))) A (qk rfl rfl (ar_mul rfl)) λa A↦?_
 refine sda A λa A↦?_
 refine qa (hK2 _ _ (wsk fun K3 hK3 => wrl ?_))
 iterate 2 refine sdm A λa A↦?_
 refine sdo (v := .int .u64 ((IntKind.u64.wrap (bits .xor .u64 h n * 1099511628211)) / 2 ^ 32)) A (qk rfl rfl (ar_shr (n := 32) rfl rfl rfl)) λa A↦?_
 refine sdo (v := .int .u64 (bits .xor .u64 (IntKind.u64.wrap (bits .xor .u64 h n * 1099511628211)) ((IntKind.u64.wrap (bits .xor .u64 h n * 1099511628211)) / 2 ^ 32))) A (qk rfl rfl (ar_xor rfl)) λa A↦?_
 refine sda A λa A↦?_
 refine qa (hK3 _ _ (wp_ret (hret _ _ (en1 A rfl (ql rfl) ?_))))
 exact ⟨rfl, M.bel⟩
theorem zva {w : World} {so : Option Addr} {l : List Nat} {i : Nat} (h : Rd w so l) (hi : i < l.length) : ∃ b off, so = some ⟨b, off, none⟩ ∧ b < w.heap.size ∧ ∀ j, j < l.length → w.cell? ⟨b, off + j, none⟩ = some (.int .u32 ((l.getD j 0 : Nat) : Int)) :=
 h.pos (fun k => by rw [k] at hi; exact absurd hi (Nat.not_lt_zero _))
theorem qmi {w : World} {h : Int} {so : Option Addr} {ca : Nat} {l : List UInt8} (hb : Rb w so l) (hl : l.length ≤ 9223372036854775807) : Calls Tryz.prog 113 #[.int .u64 h, .slice so l.length ca] w fun e w' => e = .returned (.int .u64 (hwS h l)) ∧ Below w.heap.size w w' := by
 have M : Mg w w ([]) := Mg.start w
 refine za (l := [(0, .int .u64 h), (1, .slice so l.length ca)]) Tryz.func113 rfl Tryz.ntmps113 rfl rfl ?_
 intro Q hret hnorm hP a A
 refine wsk fun K1 hK1 => wrl (sda A λa A↦?_)
 refine qa (hK1 _ _ (wsk fun K2 hK2 => wrl ?_))
 iterate 2 refine sdm A λa A↦?_
 refine sdo A (zp Tryz.underlying36 rfl) λa A↦?_
 refine sdo (v := .int .u64 (((l.length : Nat) : Int))) A (zr rfl (ar_conv Tryz.underlying3 Tryz.underlying67 (in_u64 (by omega) (by omega)))) λa A↦?_
 refine gcl A M (ef rfl rfl) (vn) fun w4 hb3 M a A => ?_
 refine sda A λa A↦?_
 refine qa (hK2 _ _ (wsk fun K5 hK5 => wsk fun K6 hK6 => wrl (sdm A λa A↦?_)))
 refine sdo A (zp Tryz.underlying36 rfl) λa A↦?_
 refine sdm A λa A↦?_
 refine qa (hK6 _ _ (wp_block (jv (fun m_ a w1 => ∃ (i : Nat) (m : Int), m_ = 1 + (l.length - i) ∧ (i ≤ l.length ∧ hwS h l = hwB m (l.drop i)) ∧ Sl a 24 [(0, .int .u64 m), (1, .slice so l.length ca), (4, .int .u64 0), (7, .int .u64 h), (8, .slice so l.length ca), (9, .int .i64 (((l.length : Nat) : Int))), (10, .int .u64 (((l.length : Nat) : Int))), (11, .int .u64 (hw h (((l.length : Nat) : Int)))), (12, .slice so l.length ca), (13, .int .i64 (((l.length : Nat) : Int))), (14, .int .i64 (((i : Nat) : Int)))] ∧ Mg w w1 ([])) _ ⟨0, hw h ((l.length : Nat) : Int), rfl, ⟨Nat.zero_le _, rfl⟩, A.keep _ (by repeat' constructor), M⟩ ?_)))
 clear M A
 rintro m_ a w7 ⟨i, m, rfl, hinv9, A, M⟩ K8 hK8
 obtain ⟨hi0, hin9⟩ := hinv9
 refine wsk fun K10 hK10 => wrl ?_
 rcases tf (decide (((i : Nat) : Int) < ((l.length : Nat) : Int))) with hb11 | hb11
 ·
  have hb11' := of_decide_eq_true hb11
  refine sdc A zu hb11 λa A↦?_
  refine qa (hK10 _ _ (wsk fun K12 hK12 => wp_cond_true (A.ev rfl) ?_))
  refine wp_skip (hK12 _ _ (wsk fun K13 hK13 => wp_block (wsk fun K14 hK14 => wrl ?_)))
  obtain ⟨bx, ox, hx1, hx2, hx3⟩ := qve (i := i) hb (by omega)
  have hX8 : (l.getD i 0).toNat < 256 := UInt8.toNat_lt _
  refine sdo (v := .pointer (some ⟨bx, ox + i, none⟩)) A (xv (k := i) Tryz.underlying36 (by kernel_rfl) rfl rfl rfl hx1 (by omega)) λa A↦?_
  refine sdo A (qli M hx2 (hx3 i (by omega)) EqA_is1_5 rfl) λa A↦?_
  refine sda A λa A↦?_
  refine qa (hK14 _ _ (wrl ?_))
  iterate 2 refine sdm A λa A↦?_
  refine sdo (v := .int .u64 ((((l.getD i 0).toNat : Nat) : Int))) A (zr rfl (ar_conv Tryz.underlying5 Tryz.underlying67 (in_u64 (by omega) (by omega)))) λa A↦?_
  refine gcl A M (ef rfl rfl) (vn) fun w16 hb15 M a A => ?_
  refine sda A λa A↦?_
  refine qa (hK13 _ _ (wrl (sdo (v := .int .i64 (((i + 1 : Nat) : Int))) A (qk rfl rfl (fun w => (vg (yp (by omega) (by omega)) w).trans (by rw [show (((i : Nat) : Int) + 1 : Int) = ((i + 1 : Nat) : Int) from by omega]))) λa A↦?_)))
  refine sdm A λa A↦?_
  refine qa ?_
  refine hK8 _ _ _ (by omega) ⟨i + 1, hw m ((((l.getD i 0).toNat : Nat) : Int)), rfl, ⟨by omega, by rw [hin9, zxh (by omega)]⟩, A.keep _ (by repeat' constructor), M⟩
 ·
  have hb11' := of_decide_eq_false hb11
  refine sdc A zu hb11 λa A↦?_
  refine qa (hK10 _ _ (wsk fun K17 hK17 => wp_cond_false (A.ev rfl) ?_))
  refine wp_exit (hK5 _ _ (wsk fun K18 hK18 => wrl (sdm A λa A↦?_)))
  refine sda A λa A↦?_
  refine qa (hK18 _ _ (wp_ret (hret _ _ (en1 A rfl (ql rfl) ?_))))
  exact ⟨by rw [show hwS h l = m from by rw [hin9, zti (by omega)]], M.bel⟩
theorem qmj {w : World} {h : Int} {so : Option Addr} {ca : Nat} {l : List Nat} (hb : Rd w so l) (hl : l.length ≤ 9223372036854775807) : Calls Tryz.prog 147 #[.int .u64 h, .slice so l.length ca] w fun e w' => e = .returned (.int .u64 (hwN h l)) ∧ Below w.heap.size w w' := by
 have M : Mg w w ([]) := Mg.start w
 refine za (l := [(0, .int .u64 h), (1, .slice so l.length ca)]) Tryz.func147 rfl Tryz.ntmps147 rfl rfl ?_
 intro Q hret hnorm hP a A
 refine wsk fun K1 hK1 => wrl (sda A λa A↦?_)
 refine qa (hK1 _ _ (wsk fun K2 hK2 => wrl ?_))
 iterate 2 refine sdm A λa A↦?_
 refine sdo A (zp Tryz.underlying31 rfl) λa A↦?_
 refine sdo (v := .int .u64 (((l.length : Nat) : Int))) A (zr rfl (ar_conv Tryz.underlying3 Tryz.underlying67 (in_u64 (by omega) (by omega)))) λa A↦?_
 refine gcl A M (ef rfl rfl) (vn) fun w4 hb3 M a A => ?_
 refine sda A λa A↦?_
 refine qa (hK2 _ _ (wsk fun K5 hK5 => wsk fun K6 hK6 => wrl (sdm A λa A↦?_)))
 refine sdo A (zp Tryz.underlying31 rfl) λa A↦?_
 refine sdm A λa A↦?_
 refine qa (hK6 _ _ (wp_block (jv (fun m_ a w1 => ∃ (i : Nat) (m : Int), m_ = 1 + (l.length - i) ∧ (i ≤ l.length ∧ hwN h l = hwL m (l.drop i)) ∧ Sl a 24 [(0, .int .u64 m), (1, .slice so l.length ca), (4, .int .u64 0), (7, .int .u64 h), (8, .slice so l.length ca), (9, .int .i64 (((l.length : Nat) : Int))), (10, .int .u64 (((l.length : Nat) : Int))), (11, .int .u64 (hw h (((l.length : Nat) : Int)))), (12, .slice so l.length ca), (13, .int .i64 (((l.length : Nat) : Int))), (14, .int .i64 (((i : Nat) : Int)))] ∧ Mg w w1 ([])) _ ⟨0, hw h ((l.length : Nat) : Int), rfl, ⟨Nat.zero_le _, rfl⟩, A.keep _ (by repeat' constructor), M⟩ ?_)))
 clear M A
 rintro m_ a w7 ⟨i, m, rfl, hinv9, A, M⟩ K8 hK8
 obtain ⟨hi0, hin9⟩ := hinv9
 refine wsk fun K10 hK10 => wrl ?_
 rcases tf (decide (((i : Nat) : Int) < ((l.length : Nat) : Int))) with hb11 | hb11
 ·
  have hb11' := of_decide_eq_true hb11
  refine sdc A zu hb11 λa A↦?_
  refine qa (hK10 _ _ (wsk fun K12 hK12 => wp_cond_true (A.ev rfl) ?_))
  refine wp_skip (hK12 _ _ (wsk fun K13 hK13 => wp_block (wsk fun K14 hK14 => wrl ?_)))
  obtain ⟨bx, ox, hx1, hx2, hx3⟩ := zva (i := i) hb (by omega)
  have hX8 : l.getD i 0 < 4294967296 := Dig.getD hb.dig i
  refine sdo (v := .pointer (some ⟨bx, ox + i, none⟩)) A (xv (k := i) Tryz.underlying31 (by kernel_rfl) rfl rfl rfl hx1 (by omega)) λa A↦?_
  refine sdo A (qli M hx2 (hx3 i (by omega)) EqA_is1_118 rfl) λa A↦?_
  refine sda A λa A↦?_
  refine qa (hK14 _ _ (wrl ?_))
  iterate 2 refine sdm A λa A↦?_
  refine sdo (v := .int .u64 (((l.getD i 0 : Nat) : Int))) A (zr rfl (ar_conv Tryz.underlying118 Tryz.underlying67 (in_u64 (by omega) (by omega)))) λa A↦?_
  refine gcl A M (ef rfl rfl) (vn) fun w16 hb15 M a A => ?_
  refine sda A λa A↦?_
  refine qa (hK13 _ _ (wrl (sdo (v := .int .i64 (((i + 1 : Nat) : Int))) A (qk rfl rfl (fun w => (vg (yp (by omega) (by omega)) w).trans (by rw [show (((i : Nat) : Int) + 1 : Int) = ((i + 1 : Nat) : Int) from by omega]))) λa A↦?_)))
  refine sdm A λa A↦?_
  refine qa ?_
  refine hK8 _ _ _ (by omega) ⟨i + 1, hw m (((l.getD i 0 : Nat) : Int)), rfl, ⟨by omega, by rw [hin9, zxg (by omega)]⟩, A.keep _ (by repeat' constructor), M⟩
 ·
  have hb11' := of_decide_eq_false hb11
  refine sdc A zu hb11 λa A↦?_
  refine qa (hK10 _ _ (wsk fun K17 hK17 => wp_cond_false (A.ev rfl) ?_))
  refine wp_exit (hK5 _ _ (wsk fun K18 hK18 => wrl (sdm A λa A↦?_)))
  refine sda A λa A↦?_
  refine qa (hK18 _ _ (wp_ret (hret _ _ (en1 A rfl (ql rfl) ?_))))
  exact ⟨by rw [show hwN h l = m from by rw [hin9, zth (by omega)]], M.bel⟩
theorem zgh {w : World} {h : Int} {b : Bool} {o1 o2 : Option Addr} {c1 c2 : Nat} {t q : List Nat} (h1 : Rd w o1 t) (h2 : Rd w o2 q) (l1 : t.length ≤ 9223372036854775807) (l2 : q.length ≤ 9223372036854775807) : Calls Tryz.prog 112 #[.int .u64 h, .agg #[.bool b, .slice o1 t.length c1, .slice o2 q.length c2]] w fun e w' => e = .returned (.int .u64 (hwF h b t q)) ∧ Below w.heap.size w w' := by
 have M : Mg w w ([]) := Mg.start w
 refine za (l := [(0, .int .u64 h), (1, .agg #[.bool b, .slice o1 t.length c1, .slice o2 q.length c2])]) Tryz.func112 rfl Tryz.ntmps112 rfl rfl ?_
 intro Q hret hnorm hP a A
 refine wsk fun K1 hK1 => wrl (jg (vs := [.bool b, .slice o1 t.length c1, .slice o2 q.length c2]) (t := 33) A M rfl rfl rfl pg (zb rfl rfl) (by decide) ?_)
 intro g2 w3 M a A
 refine sda A λa A↦?_
 refine qa (hK1 _ _ (wsk fun K4 hK4 => wrl (sda A λa A↦?_)))
 refine qa (hK4 _ _ (wsk fun K5 hK5 => wsk fun K6 hK6 => wrl (sdo (v := .pointer (some ⟨g2, 0, none⟩)) A (qb EqA_fld_33_0 rfl rfl) λa A↦?_)))
 refine sdo A (qr M EqA_is1_4 rfl 0 rfl rfl) λa A↦?_
 refine qa (hK6 _ _ ?_)
 refine wp_cond_split (t := b) (A.ev rfl) (fun hc7 => ?_) (fun hc7 => ?_)
 ·
  refine wrl (sda A λa A↦?_)
  refine qa (hK5 _ _ (wsk fun K8 hK8 => je (S := fun w1 => Mg w w1 (.obj g2 (.cells #[.bool b, .slice o1 t.length c1, .slice o2 q.length c2] 33) :: [])) (by kernel_rfl) ?_))
  replace M := M.drew
  refine qe A 0 rfl rfl rfl rfl hP (M.sub (cc (List.nil_sublist _))) (fun w1 M => qz rfl) λa A↦?_
  refine qe A 1 rfl rfl rfl rfl hP (M.sub (cc (List.nil_sublist _))) (fun w1 M => qz rfl) λa A↦?_
  refine qe (v := .pointer (some ⟨g2, 1, none⟩)) A 3 rfl rfl rfl rfl hP (M.sub (cc (List.nil_sublist _))) (fun w1 M => qb EqA_fld_33_1 rfl rfl) λa A↦?_
  refine qe A 4 rfl rfl rfl rfl hP (M.sub (cc (List.nil_sublist _))) (fun w1 M => qr M EqA_is1_31 rfl 0 rfl rfl) λa A↦?_
  refine qe (v := .pointer (some ⟨g2, 2, none⟩)) A 6 rfl rfl rfl rfl hP (M.sub (cc (List.nil_sublist _))) (fun w1 M => qb EqA_fld_33_2 rfl rfl) λa A↦?_
  refine qe A 7 rfl rfl rfl rfl hP (M.sub (cc (List.nil_sublist _))) (fun w1 M => qr M EqA_is1_31 rfl 0 rfl rfl) λa A↦?_
  refine qf (by kernel_rfl) (qm A 2 rfl rfl rfl rfl (qg rfl rfl (fun w => by kernel_rfl)) (vn) ?_)
  rintro _ w10 ⟨rfl, hb9⟩
  replace M := M.call hb9
  refine ⟨_, rfl, (M.sub (cc (List.nil_sublist _))), ?_⟩
  intro a A
  refine qf (by kernel_rfl) (qm A 5 rfl rfl rfl rfl (qg rfl rfl (fun w => by kernel_rfl)) (qmj (h1.below M.bel) l1) ?_)
  rintro _ w11 ⟨rfl, hbl1⟩
  replace M := M.call hbl1
  refine ⟨_, rfl, (M.sub (cc (List.nil_sublist _))), ?_⟩
  intro a A
  refine qf (by kernel_rfl) (qm A 8 rfl rfl rfl rfl (qg rfl rfl (fun w => by kernel_rfl)) (qmj (h2.below M.bel) l2) ?_)
  rintro _ w12 ⟨rfl, hbl2⟩
  replace M := M.call hbl2
  refine ⟨_, rfl, (M.sub (cc (List.nil_sublist _))), ?_⟩
  intro a A
  refine qe A 9 rfl rfl rfl rfl hP (M.sub (cc (List.nil_sublist _))) (fun w1 M => zh rfl) λa A↦?_
  refine qy (by kernel_rfl) ?_
  refine hK8 _ _ (wp_ret (hret _ _ (en1 A rfl (ql rfl) ?_)))
  exact ⟨by rw [show hwF h b t q = hwN (hwN (hw h 1) t) q from by unfold hwF; rw [hc7]; rfl], M.bel⟩
 ·
  refine wp_skip (hK5 _ _ (wsk fun K13 hK13 => je (S := fun w1 => Mg w w1 (.obj g2 (.cells #[.bool b, .slice o1 t.length c1, .slice o2 q.length c2] 33) :: [])) (by kernel_rfl) ?_))
  replace M := M.drew
  refine qe A 0 rfl rfl rfl rfl hP (M.sub (cc (List.nil_sublist _))) (fun w1 M => qz rfl) λa A↦?_
  refine qe A 1 rfl rfl rfl rfl hP (M.sub (cc (List.nil_sublist _))) (fun w1 M => qz rfl) λa A↦?_
  refine qe (v := .pointer (some ⟨g2, 1, none⟩)) A 3 rfl rfl rfl rfl hP (M.sub (cc (List.nil_sublist _))) (fun w1 M => qb EqA_fld_33_1 rfl rfl) λa A↦?_
  refine qe A 4 rfl rfl rfl rfl hP (M.sub (cc (List.nil_sublist _))) (fun w1 M => qr M EqA_is1_31 rfl 0 rfl rfl) λa A↦?_
  refine qe (v := .pointer (some ⟨g2, 2, none⟩)) A 6 rfl rfl rfl rfl hP (M.sub (cc (List.nil_sublist _))) (fun w1 M => qb EqA_fld_33_2 rfl rfl) λa A↦?_
  refine qe A 7 rfl rfl rfl rfl hP (M.sub (cc (List.nil_sublist _))) (fun w1 M => qr M EqA_is1_31 rfl 0 rfl rfl) λa A↦?_
  refine qf (by kernel_rfl) (qm A 2 rfl rfl rfl rfl (qg rfl rfl (fun w => by kernel_rfl)) (vn) ?_)
  rintro _ w15 ⟨rfl, hb14⟩
  replace M := M.call hb14
  refine ⟨_, rfl, (M.sub (cc (List.nil_sublist _))), ?_⟩
  intro a A
  refine qf (by kernel_rfl) (qm A 5 rfl rfl rfl rfl (qg rfl rfl (fun w => by kernel_rfl)) (qmj (h1.below M.bel) l1) ?_)
  rintro _ w16 ⟨rfl, hbl1⟩
  replace M := M.call hbl1
  refine ⟨_, rfl, (M.sub (cc (List.nil_sublist _))), ?_⟩
  intro a A
  refine qf (by kernel_rfl) (qm A 8 rfl rfl rfl rfl (qg rfl rfl (fun w => by kernel_rfl)) (qmj (h2.below M.bel) l2) ?_)
  rintro _ w17 ⟨rfl, hbl2⟩
  replace M := M.call hbl2
  refine ⟨_, rfl, (M.sub (cc (List.nil_sublist _))), ?_⟩
  intro a A
  refine qe A 9 rfl rfl rfl rfl hP (M.sub (cc (List.nil_sublist _))) (fun w1 M => zh rfl) λa A↦?_
  refine qy (by kernel_rfl) ?_
  refine hK13 _ _ (wp_ret (hret _ _ (en1 A rfl (ql rfl) ?_)))
  exact ⟨by rw [show hwF h b t q = hwN (hwN (hw h 0) t) q from by unfold hwF; rw [hc7]; rfl], M.bel⟩
theorem zpg {w : World} {y z : Nu} (hy : y.nm w) (hz : z.nm w) (h1 : zbj y.q) (h2 : zbj z.q) : Calls Tryz.prog 115 #[y.val, z.val] w fun e w' => e = .returned (.int .i64 (zmg y.q z.q)) ∧ Below w.heap.size w w' := by
 obtain ⟨q, o1, c1, o2, c2, o3, c3, o4, c4⟩ := y
 obtain ⟨q', p1, d1, p2, d2, p3, d3, p4, d4⟩ := z
 obtain ⟨u, v, rfl, hu, hv⟩ := h1
 obtain ⟨x, y, rfl, hx, hy'⟩ := h2
 refine (zdi hy hz hu hv hx hy').mono fun e w' ⟨h, b⟩ => ⟨h.trans ?_, b⟩
 unfold zmg lex
 rw [ku, ku, qmc, qmc]
theorem EqB_is1_28 : Is1 Tryz.prog 28 := ⟨⟨_, Tryz.underlying28, rfl⟩, by kernel_rfl⟩
theorem EqB_is1_3 : Is1 Tryz.prog 3 := ⟨⟨_, Tryz.underlying3, rfl⟩, by kernel_rfl⟩
theorem EqB_is1_36 : Is1 Tryz.prog 36 := ⟨⟨_, Tryz.underlying36, rfl⟩, by kernel_rfl⟩
theorem EqB_is1_9 : Is1 Tryz.prog 9 := ⟨⟨_, Tryz.underlying9, rfl⟩, by kernel_rfl⟩
theorem EqB_fld_38_0 : FieldAt Tryz.prog 38 0 0 := ⟨_, _, Tryz.underlying38, rfl, rfl, by kernel_rfl⟩
theorem EqB_fld_38_1 : FieldAt Tryz.prog 38 1 1 := ⟨_, _, Tryz.underlying38, rfl, rfl, by kernel_rfl⟩
theorem EqB_fld_38_2 : FieldAt Tryz.prog 38 2 2 := ⟨_, _, Tryz.underlying38, rfl, rfl, by kernel_rfl⟩
theorem EqB_fld_38_3 : FieldAt Tryz.prog 38 3 8 := ⟨_, _, Tryz.underlying38, rfl, rfl, by kernel_rfl⟩
theorem EqB_fld_38_4 : FieldAt Tryz.prog 38 4 9 := ⟨_, _, Tryz.underlying38, rfl, rfl, by kernel_rfl⟩
theorem EqB_fld_38_5 : FieldAt Tryz.prog 38 5 10 := ⟨_, _, Tryz.underlying38, rfl, rfl, by kernel_rfl⟩
theorem EqB_isS_35 : IsS Tryz.prog 35 6 := ⟨⟨_, Tryz.underlying35⟩, by kernel_rfl⟩
theorem EqB_isS_38 : IsS Tryz.prog 38 11 := ⟨⟨_, Tryz.underlying38⟩, by kernel_rfl⟩
def Orders (n : Nat) : Prop := ∀ {w : World} {t u : Dt}, t.tr.bulk < n → t.rd w → u.rd w → t.tr.good → u.tr.good → Calls Tryz.prog 77 #[.agg (t.d.cells t.ts.length).toArray, .agg (u.d.cells u.ts.length).toArray] w fun e w' => e = .returned (.int .i64 (ko t.tr u.tr)) ∧ Below w.heap.size w w'
theorem zph {n : Nat} (ih : Orders n) {w : World} {t u : Dt} (ht : t.rd w) (hu : u.rd w) (gt : t.tr.good) (gu : u.tr.good) (hb : t.tr.bulk ≤ n) (hlen : t.ts.length = u.ts.length) : Calls Tryz.prog 151 #[.slice t.d.lo t.ts.length t.d.lc, .slice u.d.lo u.ts.length u.d.lc, .func (.func 77) #[] #[]] w fun e w' => e = .returned (.int .i64 (yt (t.ts.map Dt.tr) (u.ts.map Dt.tr))) ∧ Below w.heap.size w w' := by
 have hlt := (Dt.okT ht).2
 have M : Mg w w ([]) := Mg.start w
 refine za (l := [(0, .slice t.d.lo t.ts.length t.d.lc), (1, .slice u.d.lo u.ts.length u.d.lc), (2, .func (.func 77) #[] #[])]) Tryz.func151 rfl Tryz.ntmps151 rfl rfl ?_
 intro Q hret hnorm hP a A
 refine wsk fun K1 hK1 => wrl (sda A λa A↦?_)
 refine qa (hK1 _ _ (wsk fun K2 hK2 => wsk fun K3 hK3 => wrl (sdm A λa A↦?_)))
 refine sdo A (zp Tryz.underlying28 rfl) λa A↦?_
 refine sdm A λa A↦?_
 refine qa (hK3 _ _ (wp_block (jv (fun m_ a w1 => ∃ (i : Nat), m_ = 1 + (t.ts.length - i) ∧ (i ≤ t.ts.length ∧ yt (t.ts.map Dt.tr) (u.ts.map Dt.tr) = yt ((t.ts.map Dt.tr).drop i) ((u.ts.map Dt.tr).drop i)) ∧ Sl a 39 [(0, .slice t.d.lo t.ts.length t.d.lc), (1, .slice u.d.lo u.ts.length u.d.lc), (2, .func (.func 77) #[] #[]), (11, .slice t.d.lo t.ts.length t.d.lc), (12, .int .i64 (((t.ts.length : Nat) : Int))), (13, .int .i64 (((i : Nat) : Int)))] ∧ Mg w w1 ([])) _ ⟨0, rfl, ⟨Nat.zero_le _, rfl⟩, A.keep _ (by repeat' constructor), M⟩ ?_)))
 clear M A
 rintro m_ a w4 ⟨i, rfl, hinv6, A, M⟩ K5 hK5
 obtain ⟨hi0, hin9⟩ := hinv6
 refine wsk fun K7 hK7 => wrl ?_
 rcases tf (decide (((i : Nat) : Int) < ((t.ts.length : Nat) : Int))) with hb8 | hb8
 ·
  have hb8' := of_decide_eq_true hb8
  refine sdc A zu hb8 λa A↦?_
  refine qa (hK7 _ _ (wsk fun K9 hK9 => wp_cond_true (A.ev rfl) ?_))
  refine wp_skip (hK9 _ _ (wsk fun K10 hK10 => wp_block (wsk fun K11 hK11 => ?_)))
  obtain ⟨t1, bt1, ot1, it1, mt1, rt1_, lt1, Ht1⟩ := quf ht (i := i) (by omega)
  obtain ⟨u1, bu1, ou1, iu1, mu1, ru1_, lu1, Hu1⟩ := quf hu (i := i) (by omega)
  refine wrl (sdm A λa A↦?_)
  refine sdo (v := .pointer (some ⟨bt1, ot1 + i * 11, none⟩)) A (jh (k := i) Tryz.underlying28 (by kernel_rfl) rfl rfl rfl lt1 (by omega)) λa A↦?_
  refine sdo A (xg M Ht1 EqB_isS_38 rfl rfl) λa A↦?_
  refine jg (vs := [.int .i64 0, .int .i64 0, .bool false, .slice none 0 0, .slice none 0 0, .bool false, .slice none 0 0, .slice none 0 0, .string (⟨#[]⟩), .slice none 0 0, .slice none 0 0]) (t := 38) A M rfl rfl rfl pg (qi (z := .agg #[.int .i64 0, .int .i64 0, .bool false, .slice none 0 0, .slice none 0 0, .bool false, .slice none 0 0, .slice none 0 0, .string (⟨#[]⟩), .slice none 0 0, .slice none 0 0]) (by kernel_rfl) rfl) (by decide) ?_
  intro g12 w13 M a A
  refine sda A λa A↦?_
  refine jc (us := (t1.d.cells t1.ts.length)) (L' := (.obj g12 (.cells (t1.d.cells t1.ts.length).toArray 38) :: [])) A M rfl rfl (ze rfl rfl rfl (by kernel_rfl) M 0 rfl rfl rfl) 0 rfl rfl rfl ?_
  intro w14 M
  refine qa (hK11 _ _ (wsk fun K15 hK15 => wsk fun K16 hK16 => wrl ?_))
  iterate 2 refine sdm A λa A↦?_
  refine sdo A (zp Tryz.underlying28 rfl) λa A↦?_
  refine sdo (v := .bool false) A (qk rfl rfl (fun w => (kl w).trans (by rw [show (decide (((u.ts.length : Nat) : Int) ≤ ((i : Nat) : Int))) = false from (decide_eq_false (by omega))]))) λa A↦?_
  refine qa (hK16 _ _ (wp_cond_false (A.ev rfl) ?_))
  refine wp_skip (hK15 _ _ (wsk fun K17 hK17 => wrl ?_))
  iterate 2 refine sdm A λa A↦?_
  refine sdo (v := .pointer (some ⟨bu1, ou1 + i * 11, none⟩)) A (jh (k := i) Tryz.underlying28 (by kernel_rfl) rfl rfl rfl lu1 (by omega)) λa A↦?_
  refine sdo A (xg M Hu1 EqB_isS_38 rfl rfl) λa A↦?_
  refine jg (vs := [.int .i64 0, .int .i64 0, .bool false, .slice none 0 0, .slice none 0 0, .bool false, .slice none 0 0, .slice none 0 0, .string (⟨#[]⟩), .slice none 0 0, .slice none 0 0]) (t := 38) A M rfl rfl rfl pg (qi (z := .agg #[.int .i64 0, .int .i64 0, .bool false, .slice none 0 0, .slice none 0 0, .bool false, .slice none 0 0, .slice none 0 0, .string (⟨#[]⟩), .slice none 0 0, .slice none 0 0]) (by kernel_rfl) rfl) (by decide) ?_
  intro g18 w19 M a A
  refine jc (us := (u1.d.cells u1.ts.length)) (L' := (.obj g18 (.cells (u1.d.cells u1.ts.length).toArray 38) :: .obj g12 (.cells (t1.d.cells t1.ts.length).toArray 38) :: [])) A M rfl rfl (ze rfl rfl rfl (by kernel_rfl) M 0 rfl rfl rfl) 0 rfl rfl rfl ?_
  intro w20 M
  refine qa (hK17 _ _ (wsk fun K21 hK21 => wrl (sdm A λa A↦?_)))
  refine sdo A (zl M EqB_isS_38 rfl 1 rfl (cs := (t1.d.cells t1.ts.length)) rfl rfl) λa A↦?_
  refine sdo A (zl M EqB_isS_38 rfl 0 rfl (cs := (u1.d.cells u1.ts.length)) rfl rfl) λa A↦?_
  refine gcl A M (ef rfl rfl) (ih (by have := qla mt1; omega) (Dt.keep M.bel _ rt1_) (Dt.keep M.bel _ ru1_) ((xj gt).2.2 _ mt1) ((xj gu).2.2 _ mu1)) fun w23 hb22 M a A => ?_
  refine sda A λa A↦?_
  refine qa (hK21 _ _ (wsk fun K24 hK24 => wrl (sdm A λa A↦?_)))
  rcases tf ((ko t1.tr u1.tr != 0)) with hb25 | hb25
  ·
   have hb25' := bne_iff_ne.1 hb25
   refine sdc A jr hb25 λa A↦?_
   refine qa (hK24 _ _ (wp_cond_true (A.ev rfl) ?_))
   refine wsk fun K26 hK26 => wrl (sdm A λa A↦?_)
   refine sda A λa A↦?_
   refine qa (hK26 _ _ (wp_ret (hret _ _ (en1 A rfl (ql rfl) ?_))))
   exact ⟨by rw [hin9, zfg it1 iu1, zmj hb25'], M.bel⟩
  ·
   have hb25' := bne_eq_false_iff_eq.1 hb25
   refine sdc A jr hb25 λa A↦?_
   refine qa (hK24 _ _ (wp_cond_false (A.ev rfl) ?_))
   refine wp_skip (hK10 _ _ (wrl (sdo (v := .int .i64 (((i + 1 : Nat) : Int))) A (qk rfl rfl (fun w => (vg (yp (by omega) (by omega)) w).trans (by rw [show (((i : Nat) : Int) + 1 : Int) = ((i + 1 : Nat) : Int) from by omega]))) λa A↦?_)))
   refine sdm A λa A↦?_
   refine qa ?_
   replace M : Mg w w23 ([]) := by
    have h9 := M.sub (cn (cn (.refl _)))
    exact h9
   refine hK5 _ _ _ (by omega) ⟨i + 1, rfl, ⟨by omega, by rw [hin9, zfg it1 iu1, hb25', zmi]⟩, A.keep _ (by repeat' constructor), M⟩
 ·
  have hb8' := of_decide_eq_false hb8
  refine sdc A zu hb8 λa A↦?_
  refine qa (hK7 _ _ (wsk fun K27 hK27 => wp_cond_false (A.ev rfl) ?_))
  refine wp_exit (hK2 _ _ (wsk fun K28 hK28 => wsk fun K29 hK29 => wrl (sdm A λa A↦?_)))
  refine sdo A (zp Tryz.underlying28 rfl) λa A↦?_
  refine sdm A λa A↦?_
  refine sdo A (zp Tryz.underlying28 rfl) λa A↦?_
  refine sdo (v := .bool false) A (qk rfl rfl (fun w => (zu w).trans (by rw [show (decide (((t.ts.length : Nat) : Int) < ((u.ts.length : Nat) : Int))) = false from (decide_eq_false (by omega))]))) λa A↦?_
  refine qa (hK29 _ _ (wp_cond_false (A.ev rfl) ?_))
  refine wp_skip (hK28 _ _ (wsk fun K30 hK30 => wrl (sda A λa A↦?_)))
  refine qa (hK30 _ _ (wp_ret (hret _ _ (en1 A rfl (ql rfl) ?_))))
  exact ⟨by rw [hin9, zna (by omega)], M.bel⟩
theorem zvb {n : Nat} (ih : Orders n) {w : World} {t u : Dt} (ht : t.rd w) (hu : u.rd w) (gt : t.tr.good) (gu : u.tr.good) (hb : t.tr.bulk ≤ n) : Calls Tryz.prog 118 #[.slice t.d.lo t.ts.length t.d.lc, .slice u.d.lo u.ts.length u.d.lc] w fun e w' => e = .returned (.int .i64 (lex (ye (t.ts.length : Int) (u.ts.length : Int)) (yt (t.ts.map Dt.tr) (u.ts.map Dt.tr)))) ∧ Below w.heap.size w w' := by
 have M : Mg w w ([]) := Mg.start w
 refine za (l := [(0, .slice t.d.lo t.ts.length t.d.lc), (1, .slice u.d.lo u.ts.length u.d.lc)]) Tryz.func118 rfl Tryz.ntmps118 rfl rfl ?_
 intro Q hret hnorm hP a A
 refine wsk fun K1 hK1 => wrl (sda A λa A↦?_)
 refine qa (hK1 _ _ (wsk fun K2 hK2 => wsk fun K3 hK3 => wrl (sdm A λa A↦?_)))
 refine sdo A (zp Tryz.underlying28 rfl) λa A↦?_
 refine sdm A λa A↦?_
 refine sdo A (zp Tryz.underlying28 rfl) λa A↦?_
 rcases tf ((((t.ts.length : Nat) : Int) != ((u.ts.length : Nat) : Int))) with hb4 | hb4
 ·
  have hb4' := bne_iff_ne.1 hb4
  refine sdc A jr hb4 λa A↦?_
  refine qa (hK3 _ _ (wp_cond_true (A.ev rfl) ?_))
  refine wsk fun K5 hK5 => wrl (sdm A λa A↦?_)
  refine sdo A (zp Tryz.underlying28 rfl) λa A↦?_
  refine sdm A λa A↦?_
  refine sdo A (zp Tryz.underlying28 rfl) λa A↦?_
  refine gcl A M (ef rfl rfl) (qci) fun w7 hb6 M a A => ?_
  refine sda A λa A↦?_
  refine qa (hK5 _ _ (wp_ret (hret _ _ (en1 A rfl (ql rfl) ?_))))
  exact ⟨by rw [zmj (fun e => hb4' (yk e))], M.bel⟩
 ·
  have hb4' := bne_eq_false_iff_eq.1 hb4
  refine sdc A jr hb4 λa A↦?_
  refine qa (hK3 _ _ (wp_cond_false (A.ev rfl) ?_))
  refine wp_skip (hK2 _ _ (wsk fun K8 hK8 => wrl ?_))
  iterate 2 refine sdm A λa A↦?_
  refine gcl A M (ef rfl rfl) (zph ih (Dt.keep M.bel _ ht) (Dt.keep M.bel _ hu) gt gu hb (by omega)) fun w9 hbv M a A => ?_
  refine sda A λa A↦?_
  refine qa (hK8 _ _ (wp_ret (hret _ _ (en1 A rfl (ql rfl) ?_))))
  exact ⟨by rw [hb4', qjh, zmi], M.bel⟩
theorem qzi {n : Nat} (ih : Orders n) : Orders (n + 1) := by
 intro w t u hn ht hu gt gu
 have M : Mg w w ([]) := Mg.start w
 refine za (l := [(0, .agg (t.d.cells t.ts.length).toArray), (1, .agg (u.d.cells u.ts.length).toArray)]) Tryz.func77 rfl Tryz.ntmps77 rfl rfl ?_
 intro Q hret hnorm hP a A
 refine wsk fun K1 hK1 => wrl (jg (vs := (t.d.cells t.ts.length)) (t := 38) A M rfl rfl rfl pg (zb rfl rfl) (by decide) ?_)
 intro g2 w3 M a A
 refine jg (vs := (u.d.cells u.ts.length)) (t := 38) A M rfl rfl rfl pg (zb rfl rfl) (by decide) ?_
 intro g4 w5 M a A
 refine sda A λa A↦?_
 refine qa (hK1 _ _ (wsk fun K6 hK6 => wp_block (jv (fun m_ a w1 => ∃ (p : Dt) (r : Dt), m_ = 1 + p.tr.bulk ∧ (p.rd w ∧ r.rd w ∧ p.tr.good ∧ r.tr.good ∧ p.tr.bulk ≤ t.tr.bulk ∧ ko t.tr u.tr = ko p.tr r.tr) ∧ Sl a 84 [(0, .agg (t.d.cells t.ts.length).toArray), (1, .agg (u.d.cells u.ts.length).toArray), (2, .pointer (some ⟨g2, 0, none⟩)), (3, .pointer (some ⟨g4, 0, none⟩))] ∧ Mg w w1 (.obj g4 (.cells (r.d.cells r.ts.length).toArray 38) :: .obj g2 (.cells (p.d.cells p.ts.length).toArray 38) :: [])) _ ⟨t, u, rfl, ⟨ht, hu, gt, gu, Nat.le_refl _, rfl⟩, A.keep _ ⟨rfl, rfl, rfl, rfl, trivial⟩, M⟩ ?_)))
 clear M A
 rintro m_ a w7 ⟨p, r, rfl, hinv9, A, M⟩ K8 hK8
 obtain ⟨hp, hr, gp, gr, hbk, hin9⟩ := hinv9
 refine wsk fun K10 hK10 => wsk fun K11 hK11 => wrl (sdo (v := .pointer (some ⟨g2, 0, none⟩)) A (qb EqB_fld_38_0 rfl rfl) λa A↦?_)
 refine sdo A (qr M EqB_is1_3 rfl 1 rfl rfl) λa A↦?_
 rcases tf ((p.d.k == 8)) with hb12 | hb12
 ·
  have hb12' := eq_of_beq hb12
  refine sdc A qp hb12 λa A↦?_
  refine sdm A λa A↦?_
  refine sdo (v := .pointer (some ⟨g4, 0, none⟩)) A (qb EqB_fld_38_0 rfl rfl) λa A↦?_
  refine sdo A (qr M EqB_is1_3 rfl 0 rfl rfl) λa A↦?_
  rcases tf ((r.d.k == 8)) with hb13 | hb13
  ·
   have hb13' := eq_of_beq hb13
   refine sdc A qp hb13 λa A↦?_
   refine sdk (v := .bool true) A λa A↦?_
   refine qa (hK11 _ _ (wp_cond_true (A.ev rfl) ?_))
   refine wp_skip (hK10 _ _ (wp_block (wsk fun K14 hK14 => wsk fun K15 hK15 => ?_)))
   have l2p := (xj gp).1.h8 hb12'
   have l2r := (xj gr).1.h8 hb13'
   obtain ⟨p0, bp0, op0, ip0, mp0, rp0_, lp0, Hp0⟩ := quf hp (i := 0) (by omega)
   obtain ⟨p1, bp1, op1, ip1, mp1, rp1_, lp1, Hp1⟩ := quf hp (i := 1) (by omega)
   obtain ⟨r0, br0, or0, ir0, mr0, rr0_, lr0, Hr0⟩ := quf hr (i := 0) (by omega)
   obtain ⟨r1, br1, or1, ir1, mr1, rr1_, lr1, Hr1⟩ := quf hr (i := 1) (by omega)
   have hpq := zmh hb12' hb13' l2p l2r ip0 ip1 ir0 ir1
   refine je (S := fun w1 => Mg w w1 (.obj g4 (.cells (r.d.cells r.ts.length).toArray 38) :: .obj g2 (.cells (p.d.cells p.ts.length).toArray 38) :: [])) (by kernel_rfl) ?_
   replace M := M.drew
   refine qe (v := .pointer (some ⟨g2, 10, none⟩)) A 0 rfl rfl rfl rfl hP (M.sub (cc (cc (List.nil_sublist _)))) (fun w1 M => qb EqB_fld_38_5 rfl rfl) λa A↦?_
   refine qe A 1 rfl rfl rfl rfl hP (M.sub (cc (cc (List.nil_sublist _)))) (fun w1 M => qr M EqB_is1_28 rfl 1 rfl rfl) λa A↦?_
   refine qe (v := .pointer (some ⟨bp0, op0 + 0 * 11, none⟩)) A 2 rfl rfl rfl rfl hP (M.sub (cc (cc (List.nil_sublist _)))) (fun w1 M => jh (k := 0) Tryz.underlying28 (by kernel_rfl) rfl rfl rfl lp0 (by omega)) λa A↦?_
   refine qe A 3 rfl rfl rfl rfl hP (M.sub (cc (cc (List.nil_sublist _)))) (fun w1 M => xg M Hp0 EqB_isS_38 rfl rfl) λa A↦?_
   refine qe (v := .pointer (some ⟨g4, 10, none⟩)) A 4 rfl rfl rfl rfl hP (M.sub (cc (cc (List.nil_sublist _)))) (fun w1 M => qb EqB_fld_38_5 rfl rfl) λa A↦?_
   refine qe A 5 rfl rfl rfl rfl hP (M.sub (cc (cc (List.nil_sublist _)))) (fun w1 M => qr M EqB_is1_28 rfl 0 rfl rfl) λa A↦?_
   refine qe (v := .pointer (some ⟨br0, or0 + 0 * 11, none⟩)) A 6 rfl rfl rfl rfl hP (M.sub (cc (cc (List.nil_sublist _)))) (fun w1 M => jh (k := 0) Tryz.underlying28 (by kernel_rfl) rfl rfl rfl lr0 (by omega)) λa A↦?_
   refine qe A 7 rfl rfl rfl rfl hP (M.sub (cc (cc (List.nil_sublist _)))) (fun w1 M => xg M Hr0 EqB_isS_38 rfl rfl) λa A↦?_
   refine qf (by kernel_rfl) (qm A 8 rfl rfl rfl rfl (qg rfl rfl (fun w => by kernel_rfl)) (ih (by have := qla mp0; omega) (Dt.keep M.bel _ rp0_) (Dt.keep M.bel _ rr0_) ((xj gp).2.2 _ mp0) ((xj gr).2.2 _ mr0)) ?_)
   rintro _ w17 ⟨rfl, hb16⟩
   replace M := M.call hb16
   refine ⟨_, rfl, (M.sub (cc (cc (List.nil_sublist _)))), ?_⟩
   intro a A
   refine qe A 9 rfl rfl rfl rfl hP (M.sub (cc (cc (List.nil_sublist _)))) (fun w1 M => zh rfl) λa A↦?_
   refine qy (by kernel_rfl) ?_
   refine hK15 _ _ (wsk fun K18 hK18 => wrl (sdm A λa A↦?_))
   rcases tf ((ko p0.tr r0.tr != 0)) with hb19 | hb19
   ·
    have hb19' := bne_iff_ne.1 hb19
    refine sdc A jr hb19 λa A↦?_
    refine qa (hK18 _ _ (wp_cond_true (A.ev rfl) ?_))
    refine wsk fun K20 hK20 => wrl (sdm A λa A↦?_)
    refine sda A λa A↦?_
    refine qa (hK20 _ _ (wp_ret (hret _ _ (en1 A rfl (ql rfl) ?_))))
    exact ⟨by rw [hin9, hpq, zmj hb19'], M.bel⟩
   ·
    have hb19' := bne_eq_false_iff_eq.1 hb19
    refine sdc A jr hb19 λa A↦?_
    refine qa (hK18 _ _ (wp_cond_false (A.ev rfl) ?_))
    refine wp_skip (hK14 _ _ ?_)
    have hJ21 : ∀ a w1, (∃ (z_ : Unit), Sl a 84 [(0, .agg (t.d.cells t.ts.length).toArray), (1, .agg (u.d.cells u.ts.length).toArray), (2, .pointer (some ⟨g2, 0, none⟩)), (3, .pointer (some ⟨g4, 0, none⟩)), (5, .int .i64 (ko p0.tr r0.tr)), (6, .pointer (some ⟨g2, 0, none⟩)), (7, .int .i64 p.d.k), (8, .bool true), (9, .bool true), (10, .pointer (some ⟨g4, 0, none⟩)), (11, .int .i64 r.d.k), (12, .bool true), (13, .bool true), (14, .pointer (some ⟨g2, 10, none⟩)), (15, .slice p.d.lo p.ts.length p.d.lc), (16, .pointer (some ⟨bp0, op0 + 0 * 11, none⟩)), (17, .agg (p0.d.cells p0.ts.length).toArray), (18, .pointer (some ⟨g4, 10, none⟩)), (19, .slice r.d.lo r.ts.length r.d.lc), (20, .pointer (some ⟨br0, or0 + 0 * 11, none⟩)), (21, .agg (r0.d.cells r0.ts.length).toArray), (22, .int .i64 (ko p0.tr r0.tr)), (23, .int .i64 (ko p0.tr r0.tr)), (24, .bool false)] ∧ Mg w w1 (.obj g4 (.cells (r1.d.cells r1.ts.length).toArray 38) :: .obj g2 (.cells (p1.d.cells p1.ts.length).toArray 38) :: [])) → K8 a w1 := by
     clear A M
     rintro a w22 ⟨z_, A, M⟩
     refine hK8 _ _ _ (by have := qla mp1; omega) ⟨p1, r1, rfl, ⟨rp1_, rr1_, (xj gp).2.2 _ mp1, (xj gr).2.2 _ mr1, by have := qla mp1; omega, by rw [hin9, hpq, hb19', zmi]⟩, A.keep _ ⟨rfl, rfl, rfl, rfl, trivial⟩, M⟩
    refine je (S := fun w1 => Mg w w1 ([])) (by kernel_rfl) ?_
    replace M := M.drew
    refine qe (v := .pointer (some ⟨g2, 10, none⟩)) A 0 rfl rfl rfl rfl hP (M.sub (cn (cn (List.nil_sublist _)))) (fun w1 M => qb EqB_fld_38_5 rfl rfl) λa A↦?_
    refine qe (v := .pointer (some ⟨g4, 10, none⟩)) A 4 rfl rfl rfl rfl hP (M.sub (cn (cn (List.nil_sublist _)))) (fun w1 M => qb EqB_fld_38_5 rfl rfl) λa A↦?_
    refine zk (rs := [1, 5]) (by kernel_rfl) (by simp) ⟨?_, ?_, trivial⟩
    ·
     refine yn A 1 rfl rfl rfl rfl (qr M EqB_is1_28 rfl 1 rfl rfl) (M.sub (cn (cn (List.nil_sublist _)))) λa A↦?_
     refine qe (v := .pointer (some ⟨bp1, op1 + 1 * 11, none⟩)) A 2 rfl rfl rfl rfl hP (M.sub (cn (cn (List.nil_sublist _)))) (fun w1 M => jh (k := 1) Tryz.underlying28 (by kernel_rfl) rfl rfl rfl lp1 (by omega)) λa A↦?_
     refine qe A 3 rfl rfl rfl rfl hP (M.sub (cn (cn (List.nil_sublist _)))) (fun w1 M => xg M Hp1 EqB_isS_38 rfl rfl) λa A↦?_
     refine zk (rs := [5, 8]) (by kernel_rfl) (by simp) ⟨?_, ?_, trivial⟩
     ·
      refine yn A 5 rfl rfl rfl rfl (qr M EqB_is1_28 rfl 0 rfl rfl) (M.sub (cn (cn (List.nil_sublist _)))) λa A↦?_
      refine qe (v := .pointer (some ⟨br1, or1 + 1 * 11, none⟩)) A 6 rfl rfl rfl rfl hP (M.sub (cn (cn (List.nil_sublist _)))) (fun w1 M => jh (k := 1) Tryz.underlying28 (by kernel_rfl) rfl rfl rfl lr1 (by omega)) λa A↦?_
      refine qe A 7 rfl rfl rfl rfl hP (M.sub (cn (cn (List.nil_sublist _)))) (fun w1 M => xg M Hr1 EqB_isS_38 rfl rfl) λa A↦?_
      refine qf (by kernel_rfl) (qag (us := (p1.d.cells p1.ts.length)) (L' := (.obj g4 (.cells (r.d.cells r.ts.length).toArray 38) :: .obj g2 (.cells (p1.d.cells p1.ts.length).toArray 38) :: [])) A M 8 rfl rfl rfl (ze rfl rfl rfl (by kernel_rfl) M 1 rfl rfl rfl) 1 rfl rfl rfl ?_)
      intro w23 M
      refine ⟨(M.sub (cn (cn (List.nil_sublist _)))), ?_⟩
      refine qf (by kernel_rfl) (qag (us := (r1.d.cells r1.ts.length)) (L' := (.obj g4 (.cells (r1.d.cells r1.ts.length).toArray 38) :: .obj g2 (.cells (p1.d.cells p1.ts.length).toArray 38) :: [])) A M 9 rfl rfl rfl (ze rfl rfl rfl (by kernel_rfl) M 0 rfl rfl rfl) 0 rfl rfl rfl ?_)
      intro w24 M
      refine ⟨(M.sub (cn (cn (List.nil_sublist _)))), ?_⟩
      refine qy (by kernel_rfl) ?_
      exact hJ21 _ _ ⟨(), A.keep _ (by repeat' constructor), M⟩
     ·
      refine qag (us := (p1.d.cells p1.ts.length)) (L' := (.obj g4 (.cells (r.d.cells r.ts.length).toArray 38) :: .obj g2 (.cells (p1.d.cells p1.ts.length).toArray 38) :: [])) A M 8 rfl rfl rfl (ze rfl rfl rfl (by kernel_rfl) M 1 rfl rfl rfl) 1 rfl rfl rfl ?_
      intro w25 M
      refine ⟨(M.sub (cn (cn (List.nil_sublist _)))), ?_⟩
      refine qf (by kernel_rfl) (yn A 5 rfl rfl rfl rfl (qr M EqB_is1_28 rfl 0 rfl rfl) (M.sub (cn (cn (List.nil_sublist _)))) ?_)
      intro a A
      refine qe (v := .pointer (some ⟨br1, or1 + 1 * 11, none⟩)) A 6 rfl rfl rfl rfl hP (M.sub (cn (cn (List.nil_sublist _)))) (fun w1 M => jh (k := 1) Tryz.underlying28 (by kernel_rfl) rfl rfl rfl lr1 (by omega)) λa A↦?_
      refine qe A 7 rfl rfl rfl rfl hP (M.sub (cn (cn (List.nil_sublist _)))) (fun w1 M => xg M Hr1 EqB_isS_38 rfl rfl) λa A↦?_
      refine qf (by kernel_rfl) (qag (us := (r1.d.cells r1.ts.length)) (L' := (.obj g4 (.cells (r1.d.cells r1.ts.length).toArray 38) :: .obj g2 (.cells (p1.d.cells p1.ts.length).toArray 38) :: [])) A M 9 rfl rfl rfl (ze rfl rfl rfl (by kernel_rfl) M 0 rfl rfl rfl) 0 rfl rfl rfl ?_)
      intro w26 M
      refine ⟨(M.sub (cn (cn (List.nil_sublist _)))), ?_⟩
      refine qy (by kernel_rfl) ?_
      exact hJ21 _ _ ⟨(), A.keep _ (by repeat' constructor), M⟩
    ·
     refine yn A 5 rfl rfl rfl rfl (qr M EqB_is1_28 rfl 0 rfl rfl) (M.sub (cn (cn (List.nil_sublist _)))) λa A↦?_
     refine qe (v := .pointer (some ⟨br1, or1 + 1 * 11, none⟩)) A 6 rfl rfl rfl rfl hP (M.sub (cn (cn (List.nil_sublist _)))) (fun w1 M => jh (k := 1) Tryz.underlying28 (by kernel_rfl) rfl rfl rfl lr1 (by omega)) λa A↦?_
     refine qe A 7 rfl rfl rfl rfl hP (M.sub (cn (cn (List.nil_sublist _)))) (fun w1 M => xg M Hr1 EqB_isS_38 rfl rfl) λa A↦?_
     refine qf (by kernel_rfl) (yn A 1 rfl rfl rfl rfl (qr M EqB_is1_28 rfl 1 rfl rfl) (M.sub (cn (cn (List.nil_sublist _)))) ?_)
     intro a A
     refine qe (v := .pointer (some ⟨bp1, op1 + 1 * 11, none⟩)) A 2 rfl rfl rfl rfl hP (M.sub (cn (cn (List.nil_sublist _)))) (fun w1 M => jh (k := 1) Tryz.underlying28 (by kernel_rfl) rfl rfl rfl lp1 (by omega)) λa A↦?_
     refine qe A 3 rfl rfl rfl rfl hP (M.sub (cn (cn (List.nil_sublist _)))) (fun w1 M => xg M Hp1 EqB_isS_38 rfl rfl) λa A↦?_
     refine qf (by kernel_rfl) (qag (us := (p1.d.cells p1.ts.length)) (L' := (.obj g4 (.cells (r.d.cells r.ts.length).toArray 38) :: .obj g2 (.cells (p1.d.cells p1.ts.length).toArray 38) :: [])) A M 8 rfl rfl rfl (ze rfl rfl rfl (by kernel_rfl) M 1 rfl rfl rfl) 1 rfl rfl rfl ?_)
     intro w27 M
     refine ⟨(M.sub (cn (cn (List.nil_sublist _)))), ?_⟩
     refine qf (by kernel_rfl) (qag (us := (r1.d.cells r1.ts.length)) (L' := (.obj g4 (.cells (r1.d.cells r1.ts.length).toArray 38) :: .obj g2 (.cells (p1.d.cells p1.ts.length).toArray 38) :: [])) A M 9 rfl rfl rfl (ze rfl rfl rfl (by kernel_rfl) M 0 rfl rfl rfl) 0 rfl rfl rfl ?_)
     intro w28 M
     refine ⟨(M.sub (cn (cn (List.nil_sublist _)))), ?_⟩
     refine qy (by kernel_rfl) ?_
     exact hJ21 _ _ ⟨(), A.keep _ (by repeat' constructor), M⟩
  ·
   have hb13' := ne_of_beq_false hb13
   refine sdc A qp hb13 λa A↦?_
   refine sdk (v := .bool false) A λa A↦?_
   refine qa (hK11 _ _ (wp_cond_false (A.ev rfl) ?_))
   refine wp_exit (hK6 _ _ (wsk fun K29 hK29 => wsk fun K30 hK30 => wrl (sdo (v := .pointer (some ⟨g2, 0, none⟩)) A (qb EqB_fld_38_0 rfl rfl) λa A↦?_)))
   refine sdo A (qr M EqB_is1_3 rfl 1 rfl rfl) λa A↦?_
   refine sdo (v := .pointer (some ⟨g4, 0, none⟩)) A (qb EqB_fld_38_0 rfl rfl) λa A↦?_
   refine sdo A (qr M EqB_is1_3 rfl 0 rfl rfl) λa A↦?_
   refine sdo (v := .bool true) A (qk rfl rfl (fun w => (jr w).trans (by rw [show ((p.d.k != r.d.k)) = true from (bne_iff_ne.2 (by omega))]))) λa A↦?_
   refine qa (hK30 _ _ (wp_cond_true (A.ev rfl) ?_))
   refine wsk fun K31 hK31 => wrl (sdo (v := .pointer (some ⟨g2, 0, none⟩)) A (qb EqB_fld_38_0 rfl rfl) λa A↦?_)
   refine sdo A (qr M EqB_is1_3 rfl 1 rfl rfl) λa A↦?_
   refine sdo (v := .pointer (some ⟨g4, 0, none⟩)) A (qb EqB_fld_38_0 rfl rfl) λa A↦?_
   refine sdo A (qr M EqB_is1_3 rfl 0 rfl rfl) λa A↦?_
   refine gcl A M (ef rfl rfl) (qci) fun w33 hb32 M a A => ?_
   refine sda A λa A↦?_
   refine qa (hK31 _ _ (wp_ret (hret _ _ (en1 A rfl (ql rfl) ?_))))
   exact ⟨by rw [hin9, qyb (by omega)], M.bel⟩
 ·
  have hb12' := ne_of_beq_false hb12
  refine sdc A qp hb12 λa A↦?_
  refine sdm A λa A↦?_
  iterate 3 refine zf A rfl rfl rfl λa A↦?_
  refine sdk (v := .bool false) A λa A↦?_
  refine qa (hK11 _ _ (wp_cond_false (A.ev rfl) ?_))
  refine wp_exit (hK6 _ _ (wsk fun K34 hK34 => wsk fun K35 hK35 => wrl (sdo (v := .pointer (some ⟨g2, 0, none⟩)) A (qb EqB_fld_38_0 rfl rfl) λa A↦?_)))
  refine sdo A (qr M EqB_is1_3 rfl 1 rfl rfl) λa A↦?_
  refine sdo (v := .pointer (some ⟨g4, 0, none⟩)) A (qb EqB_fld_38_0 rfl rfl) λa A↦?_
  refine sdo A (qr M EqB_is1_3 rfl 0 rfl rfl) λa A↦?_
  rcases tf ((p.d.k != r.d.k)) with hb36 | hb36
  ·
   have hb36' := bne_iff_ne.1 hb36
   refine sdc A jr hb36 λa A↦?_
   refine qa (hK35 _ _ (wp_cond_true (A.ev rfl) ?_))
   refine wsk fun K37 hK37 => wrl (sdo (v := .pointer (some ⟨g2, 0, none⟩)) A (qb EqB_fld_38_0 rfl rfl) λa A↦?_)
   refine sdo A (qr M EqB_is1_3 rfl 1 rfl rfl) λa A↦?_
   refine sdo (v := .pointer (some ⟨g4, 0, none⟩)) A (qb EqB_fld_38_0 rfl rfl) λa A↦?_
   refine sdo A (qr M EqB_is1_3 rfl 0 rfl rfl) λa A↦?_
   refine gcl A M (ef rfl rfl) (qci) fun w39 hb38 M a A => ?_
   refine sda A λa A↦?_
   refine qa (hK37 _ _ (wp_ret (hret _ _ (en1 A rfl (ql rfl) ?_))))
   exact ⟨by rw [hin9, qyb (by omega)], M.bel⟩
  ·
   have hb36' := bne_eq_false_iff_eq.1 hb36
   refine sdc A jr hb36 λa A↦?_
   refine qa (hK35 _ _ (wp_cond_false (A.ev rfl) ?_))
   refine wp_skip (hK34 _ _ (wsk fun K40 hK40 => wsk fun K41 hK41 => wrl (sdo (v := .pointer (some ⟨g2, 0, none⟩)) A (qb EqB_fld_38_0 rfl rfl) λa A↦?_)))
   refine sdo A (qr M EqB_is1_3 rfl 1 rfl rfl) λa A↦?_
   refine qa (hK41 _ _ (wp_block (wsk fun K42 hK42 => wsk fun K43 hK43 => wrl ?_)))
   rcases tf ((p.d.k == 2)) with hb44 | hb44
   ·
    have hb44' := eq_of_beq hb44
    refine sdc A qp hb44 λa A↦?_
    refine sda A λa A↦?_
    refine qa (hK43 _ _ (wp_cond_true (A.ev rfl) ?_))
    refine wp_skip (hK42 _ _ (wp_cond_true (A.ev rfl) ?_))
    refine wsk fun K45 hK45 => wrl (sdo (v := .pointer (some ⟨g2, 1, none⟩)) A (qb EqB_fld_38_1 rfl rfl) λa A↦?_)
    refine sdo A (qr M EqB_is1_3 rfl 1 rfl rfl) λa A↦?_
    refine sdo (v := .pointer (some ⟨g4, 1, none⟩)) A (qb EqB_fld_38_1 rfl rfl) λa A↦?_
    refine sdo A (qr M EqB_is1_3 rfl 0 rfl rfl) λa A↦?_
    refine gcl A M (ef rfl rfl) (qci) fun w47 hb46 M a A => ?_
    refine sda A λa A↦?_
    refine qa (hK45 _ _ (wp_ret (hret _ _ (en1 A rfl (ql rfl) ?_))))
    exact ⟨by
     rw [hin9, yf gp gr (by omega) (by omega)]
     repeat (first | rw [if_pos (by omega)] | rw [if_neg (by omega)]), M.bel⟩
   ·
    have hb44' := ne_of_beq_false hb44
    refine sdc A qp hb44 λa A↦?_
    refine sda A λa A↦?_
    refine qa (hK43 _ _ (wp_cond_false (A.ev rfl) ?_))
    refine wrl ?_
    rcases tf ((p.d.k == 4)) with hb48 | hb48
    ·
     have hb48' := eq_of_beq hb48
     refine sdc A qp hb48 λa A↦?_
     refine sda A λa A↦?_
     refine qa (hK42 _ _ (wp_cond_true (A.ev rfl) ?_))
     refine wsk fun K49 hK49 => wrl (sdo (v := .pointer (some ⟨g2, 1, none⟩)) A (qb EqB_fld_38_1 rfl rfl) λa A↦?_)
     refine sdo A (qr M EqB_is1_3 rfl 1 rfl rfl) λa A↦?_
     refine sdo (v := .pointer (some ⟨g4, 1, none⟩)) A (qb EqB_fld_38_1 rfl rfl) λa A↦?_
     refine sdo A (qr M EqB_is1_3 rfl 0 rfl rfl) λa A↦?_
     refine gcl A M (ef rfl rfl) (qci) fun w51 hb50 M a A => ?_
     refine sda A λa A↦?_
     refine qa (hK49 _ _ (wp_ret (hret _ _ (en1 A rfl (ql rfl) ?_))))
     exact ⟨by
      rw [hin9, yf gp gr (by omega) (by omega)]
      repeat (first | rw [if_pos (by omega)] | rw [if_neg (by omega)]), M.bel⟩
    ·
     have hb48' := ne_of_beq_false hb48
     refine sdc A qp hb48 λa A↦?_
     refine sda A λa A↦?_
     refine qa (hK42 _ _ (wp_cond_false (A.ev rfl) ?_))
     refine wsk fun K52 hK52 => wrl ?_
     rcases tf ((p.d.k == 3)) with hb53 | hb53
     ·
      have hb53' := eq_of_beq hb53
      refine sdc A qp hb53 λa A↦?_
      refine sda A λa A↦?_
      refine qa (hK52 _ _ (wp_cond_true (A.ev rfl) ?_))
      refine wsk fun K54 hK54 => wrl (sdo (v := .pointer (some ⟨g2, 2, none⟩)) A (qb EqB_fld_38_2 rfl rfl) λa A↦?_)
      refine sdo A (zl M EqB_isS_35 rfl 1 rfl (cs := [.bool p.d.y.q.b1, .slice p.d.y.o1 p.d.y.q.t1.length p.d.y.c1, .slice p.d.y.o2 p.d.y.q.q1.length p.d.y.c2, .bool p.d.y.q.b2, .slice p.d.y.o3 p.d.y.q.t2.length p.d.y.c3, .slice p.d.y.o4 p.d.y.q.q2.length p.d.y.c4]) rfl rfl) λa A↦?_
      refine sdo (v := .pointer (some ⟨g4, 2, none⟩)) A (qb EqB_fld_38_2 rfl rfl) λa A↦?_
      refine sdo A (zl M EqB_isS_35 rfl 0 rfl (cs := [.bool r.d.y.q.b1, .slice r.d.y.o1 r.d.y.q.t1.length r.d.y.c1, .slice r.d.y.o2 r.d.y.q.q1.length r.d.y.c2, .bool r.d.y.q.b2, .slice r.d.y.o3 r.d.y.q.t2.length r.d.y.c3, .slice r.d.y.o4 r.d.y.q.q2.length r.d.y.c4]) rfl rfl) λa A↦?_
      refine gcl A M (ef rfl rfl) (zpg (y := p.d.y) (z := r.d.y) (Nu.below (Dt.okT hp).1.num M.bel) (Nu.below (Dt.okT hr).1.num M.bel) ((xj gp).2.1 (by omega)) ((xj gr).2.1 (by omega))) fun w55 hbn M a A => ?_
      refine sda A λa A↦?_
      refine qa (hK54 _ _ (wp_ret (hret _ _ (en1 A rfl (ql rfl) ?_))))
      exact ⟨by
       rw [hin9, yf gp gr (by omega) (by omega)]
       repeat (first | rw [if_pos (by omega)] | rw [if_neg (by omega)]), M.bel⟩
     ·
      have hb53' := ne_of_beq_false hb53
      refine sdc A qp hb53 λa A↦?_
      refine sda A λa A↦?_
      refine qa (hK52 _ _ (wp_cond_false (A.ev rfl) ?_))
      refine wsk fun K56 hK56 => wsk fun K57 hK57 => wrl ?_
      rcases tf ((p.d.k == 5)) with hb58 | hb58
      ·
       have hb58' := eq_of_beq hb58
       refine sdc A qp hb58 λa A↦?_
       refine sda A λa A↦?_
       refine qa (hK57 _ _ (wp_cond_true (A.ev rfl) ?_))
       refine wp_skip (hK56 _ _ (wp_cond_true (A.ev rfl) ?_))
       refine wsk fun K59 hK59 => wrl (sdo (v := .pointer (some ⟨g2, 8, none⟩)) A (qb EqB_fld_38_3 rfl rfl) λa A↦?_)
       refine sdo A (qr M EqB_is1_9 rfl 1 rfl rfl) λa A↦?_
       refine sdo (v := .pointer (some ⟨g4, 8, none⟩)) A (qb EqB_fld_38_3 rfl rfl) λa A↦?_
       refine sdo A (qr M EqB_is1_9 rfl 0 rfl rfl) λa A↦?_
       refine gcl A M (ef rfl rfl) (qoi) fun w61 hb60 M a A => ?_
       refine sda A λa A↦?_
       refine qa (hK59 _ _ (wp_ret (hret _ _ (en1 A rfl (ql rfl) ?_))))
       exact ⟨by
        rw [hin9, yf gp gr (by omega) (by omega)]
        repeat (first | rw [if_pos (by omega)] | rw [if_neg (by omega)]), M.bel⟩
      ·
       have hb58' := ne_of_beq_false hb58
       refine sdc A qp hb58 λa A↦?_
       refine sda A λa A↦?_
       refine qa (hK57 _ _ (wp_cond_false (A.ev rfl) ?_))
       refine wsk fun K62 hK62 => wrl ?_
       rcases tf ((p.d.k == 6)) with hb63 | hb63
       ·
        have hb63' := eq_of_beq hb63
        refine sdc A qp hb63 λa A↦?_
        refine sda A λa A↦?_
        refine qa (hK62 _ _ (wp_cond_true (A.ev rfl) ?_))
        refine wp_skip (hK56 _ _ (wp_cond_true (A.ev rfl) ?_))
        refine wsk fun K64 hK64 => wrl (sdo (v := .pointer (some ⟨g2, 8, none⟩)) A (qb EqB_fld_38_3 rfl rfl) λa A↦?_)
        refine sdo A (qr M EqB_is1_9 rfl 1 rfl rfl) λa A↦?_
        refine sdo (v := .pointer (some ⟨g4, 8, none⟩)) A (qb EqB_fld_38_3 rfl rfl) λa A↦?_
        refine sdo A (qr M EqB_is1_9 rfl 0 rfl rfl) λa A↦?_
        refine gcl A M (ef rfl rfl) (qoi) fun w66 hb65 M a A => ?_
        refine sda A λa A↦?_
        refine qa (hK64 _ _ (wp_ret (hret _ _ (en1 A rfl (ql rfl) ?_))))
        exact ⟨by
         rw [hin9, yf gp gr (by omega) (by omega)]
         repeat (first | rw [if_pos (by omega)] | rw [if_neg (by omega)]), M.bel⟩
       ·
        have hb63' := ne_of_beq_false hb63
        refine sdc A qp hb63 λa A↦?_
        refine sda A λa A↦?_
        refine qa (hK62 _ _ (wp_cond_false (A.ev rfl) ?_))
        refine wrl ?_
        rcases tf ((p.d.k == 11)) with hb67 | hb67
        ·
         have hb67' := eq_of_beq hb67
         refine sdc A qp hb67 λa A↦?_
         refine sda A λa A↦?_
         refine qa (hK56 _ _ (wp_cond_true (A.ev rfl) ?_))
         refine wsk fun K68 hK68 => wrl (sdo (v := .pointer (some ⟨g2, 8, none⟩)) A (qb EqB_fld_38_3 rfl rfl) λa A↦?_)
         refine sdo A (qr M EqB_is1_9 rfl 1 rfl rfl) λa A↦?_
         refine sdo (v := .pointer (some ⟨g4, 8, none⟩)) A (qb EqB_fld_38_3 rfl rfl) λa A↦?_
         refine sdo A (qr M EqB_is1_9 rfl 0 rfl rfl) λa A↦?_
         refine gcl A M (ef rfl rfl) (qoi) fun w70 hb69 M a A => ?_
         refine sda A λa A↦?_
         refine qa (hK68 _ _ (wp_ret (hret _ _ (en1 A rfl (ql rfl) ?_))))
         exact ⟨by
          rw [hin9, yf gp gr (by omega) (by omega)]
          repeat (first | rw [if_pos (by omega)] | rw [if_neg (by omega)]), M.bel⟩
        ·
         have hb67' := ne_of_beq_false hb67
         refine sdc A qp hb67 λa A↦?_
         refine sda A λa A↦?_
         refine qa (hK56 _ _ (wp_cond_false (A.ev rfl) ?_))
         refine wsk fun K71 hK71 => wrl ?_
         rcases tf ((p.d.k == 7)) with hb72 | hb72
         ·
          have hb72' := eq_of_beq hb72
          refine sdc A qp hb72 λa A↦?_
          refine sda A λa A↦?_
          refine qa (hK71 _ _ (wp_cond_true (A.ev rfl) ?_))
          refine wsk fun K73 hK73 => wrl (sdo (v := .pointer (some ⟨g2, 9, none⟩)) A (qb EqB_fld_38_4 rfl rfl) λa A↦?_)
          refine sdo A (qr M EqB_is1_36 rfl 1 rfl rfl) λa A↦?_
          refine sdo (v := .pointer (some ⟨g4, 9, none⟩)) A (qb EqB_fld_38_4 rfl rfl) λa A↦?_
          refine sdo A (qr M EqB_is1_36 rfl 0 rfl rfl) λa A↦?_
          refine gcl A M (ef rfl rfl) (zod ((Dt.okT hp).1.raw.below M.bel) ((Dt.okT hr).1.raw.below M.bel)) fun w75 hb74 M a A => ?_
          refine sda A λa A↦?_
          refine qa (hK73 _ _ (wp_ret (hret _ _ (en1 A rfl (ql rfl) ?_))))
          exact ⟨by
           rw [hin9, yf gp gr (by omega) (by omega)]
           repeat (first | rw [if_pos (by omega)] | rw [if_neg (by omega)]), M.bel⟩
         ·
          have hb72' := ne_of_beq_false hb72
          refine sdc A qp hb72 λa A↦?_
          refine sda A λa A↦?_
          refine qa (hK71 _ _ (wp_cond_false (A.ev rfl) ?_))
          refine wsk fun K76 hK76 => wrl ?_
          rcases tf ((p.d.k == 9)) with hb77 | hb77
          ·
           have hb77' := eq_of_beq hb77
           refine sdc A qp hb77 λa A↦?_
           refine sda A λa A↦?_
           refine qa (hK76 _ _ (wp_cond_true (A.ev rfl) ?_))
           refine wsk fun K78 hK78 => wrl (sdo (v := .pointer (some ⟨g2, 10, none⟩)) A (qb EqB_fld_38_5 rfl rfl) λa A↦?_)
           refine sdo A (qr M EqB_is1_28 rfl 1 rfl rfl) λa A↦?_
           refine sdo (v := .pointer (some ⟨g4, 10, none⟩)) A (qb EqB_fld_38_5 rfl rfl) λa A↦?_
           refine sdo A (qr M EqB_is1_28 rfl 0 rfl rfl) λa A↦?_
           refine gcl A M (ef rfl rfl) (zvb ih (Dt.keep M.bel _ hp) (Dt.keep M.bel _ hr) gp gr (by omega)) fun w80 hb79 M a A => ?_
           refine sda A λa A↦?_
           refine qa (hK78 _ _ (wp_ret (hret _ _ (en1 A rfl (ql rfl) ?_))))
           exact ⟨by
            rw [hin9, yf gp gr (by omega) (by omega)]
            repeat (first | rw [if_pos (by omega)] | rw [if_neg (by omega)]), M.bel⟩
          ·
           have hb77' := ne_of_beq_false hb77
           refine sdc A qp hb77 λa A↦?_
           refine sda A λa A↦?_
           refine qa (hK76 _ _ (wp_cond_false (A.ev rfl) ?_))
           refine wp_skip (hK40 _ _ (wsk fun K81 hK81 => wrl (sda A λa A↦?_)))
           refine qa (hK81 _ _ (wp_ret (hret _ _ (en1 A rfl (ql rfl) ?_))))
           exact ⟨by
            rw [hin9, yf gp gr (by omega) (by omega)]
            repeat (first | rw [if_pos (by omega)] | rw [if_neg (by omega)]), M.bel⟩
theorem qpg : ∀ n, Orders n
 | 0 => fun h => absurd h (Nat.not_lt_zero _)
 | n + 1 => qzi (qpg n)
theorem EqC_is1_28 : Is1 Tryz.prog 28 := ⟨⟨_, Tryz.underlying28, rfl⟩, by kernel_rfl⟩
theorem EqC_is1_3 : Is1 Tryz.prog 3 := ⟨⟨_, Tryz.underlying3, rfl⟩, by kernel_rfl⟩
theorem EqC_is1_36 : Is1 Tryz.prog 36 := ⟨⟨_, Tryz.underlying36, rfl⟩, by kernel_rfl⟩
theorem EqC_is1_9 : Is1 Tryz.prog 9 := ⟨⟨_, Tryz.underlying9, rfl⟩, by kernel_rfl⟩
theorem EqC_fld_35_0 : FieldAt Tryz.prog 35 0 0 := ⟨_, _, Tryz.underlying35, rfl, rfl, by kernel_rfl⟩
theorem EqC_fld_35_1 : FieldAt Tryz.prog 35 1 3 := ⟨_, _, Tryz.underlying35, rfl, rfl, by kernel_rfl⟩
theorem EqC_fld_38_0 : FieldAt Tryz.prog 38 0 0 := ⟨_, _, Tryz.underlying38, rfl, rfl, by kernel_rfl⟩
theorem EqC_fld_38_1 : FieldAt Tryz.prog 38 1 1 := ⟨_, _, Tryz.underlying38, rfl, rfl, by kernel_rfl⟩
theorem EqC_fld_38_2 : FieldAt Tryz.prog 38 2 2 := ⟨_, _, Tryz.underlying38, rfl, rfl, by kernel_rfl⟩
theorem EqC_fld_38_3 : FieldAt Tryz.prog 38 3 8 := ⟨_, _, Tryz.underlying38, rfl, rfl, by kernel_rfl⟩
theorem EqC_fld_38_4 : FieldAt Tryz.prog 38 4 9 := ⟨_, _, Tryz.underlying38, rfl, rfl, by kernel_rfl⟩
theorem EqC_fld_38_5 : FieldAt Tryz.prog 38 5 10 := ⟨_, _, Tryz.underlying38, rfl, rfl, by kernel_rfl⟩
theorem EqC_isS_33 : IsS Tryz.prog 33 3 := ⟨⟨_, Tryz.underlying33⟩, by kernel_rfl⟩
theorem EqC_isS_38 : IsS Tryz.prog 38 11 := ⟨⟨_, Tryz.underlying38⟩, by kernel_rfl⟩
theorem qzj {w : World} {t u : Dt} (ht : t.rd w) (hu : u.rd w) (hT : Tabs8 w) : Calls Tryz.prog 76 #[.agg (t.d.cells t.ts.length).toArray, .agg (u.d.cells u.ts.length).toArray] w fun e w' => e = .returned (.bool (zx zq t.tr && zx zq u.tr : Bool)) ∧ Below w.heap.size w w' := by
 have M : Mg w w ([]) := Mg.start w
 refine za (l := [(0, .agg (t.d.cells t.ts.length).toArray), (1, .agg (u.d.cells u.ts.length).toArray)]) Tryz.func76 rfl Tryz.ntmps76 rfl rfl ?_
 intro Q hret hnorm hP a A
 refine wsk fun K1 hK1 => wrl (jg (vs := (t.d.cells t.ts.length)) (t := 38) A M rfl rfl rfl pg (zb rfl rfl) (by decide) ?_)
 intro g2 w3 M a A
 refine jg (vs := (u.d.cells u.ts.length)) (t := 38) A M rfl rfl rfl pg (zb rfl rfl) (by decide) ?_
 intro g4 w5 M a A
 refine sda A λa A↦?_
 refine qa (hK1 _ _ (wsk fun K6 hK6 => wrl (sdo A (zl M EqC_isS_38 rfl 1 rfl (cs := (t.d.cells t.ts.length)) rfl rfl) λa A↦?_)))
 rcases tf (zx zq t.tr) with hb7 | hb7
 ·
  refine gcl A M (ef rfl rfl) ((hb7 ▸ sound_any (t := t) (Dt.keep M.bel _ ht) (hT.below M.bel))) fun w9 hb8 M a A => ?_
  refine sdm A λa A↦?_
  refine sdo A (zl M EqC_isS_38 rfl 0 rfl (cs := (u.d.cells u.ts.length)) rfl rfl) λa A↦?_
  rcases tf (zx zq u.tr) with hb10 | hb10
  ·
   refine gcl A M (ef rfl rfl) ((hb10 ▸ sound_any (t := u) (Dt.keep M.bel _ hu) (hT.below M.bel))) fun w12 hb11 M a A => ?_
   refine sdk (v := .bool true) A λa A↦?_
   refine sda A λa A↦?_
   refine qa (hK6 _ _ (wp_ret (hret _ _ (en1 A rfl (ql rfl) ?_))))
   exact ⟨by simp_all, M.bel⟩
  ·
   refine gcl A M (ef rfl rfl) ((hb10 ▸ sound_any (t := u) (Dt.keep M.bel _ hu) (hT.below M.bel))) fun w14 hb13 M a A => ?_
   refine sdk (v := .bool false) A λa A↦?_
   refine sda A λa A↦?_
   refine qa (hK6 _ _ (wp_ret (hret _ _ (en1 A rfl (ql rfl) ?_))))
   exact ⟨by simp_all, M.bel⟩
 ·
  refine gcl A M (ef rfl rfl) ((hb7 ▸ sound_any (t := t) (Dt.keep M.bel _ ht) (hT.below M.bel))) fun w16 hb15 M a A => ?_
  refine sdm A λa A↦?_
  iterate 2 refine zf A rfl rfl rfl λa A↦?_
  refine sdk (v := .bool false) A λa A↦?_
  refine sda A λa A↦?_
  refine qa (hK6 _ _ (wp_ret (hret _ _ (en1 A rfl (ql rfl) ?_))))
  exact ⟨by simp_all, M.bel⟩
theorem qjd {w : World} {t u : Dt} (ht : t.rd w) (hu : u.rd w) (hT : Tabs8 w) : Calls Tryz.prog 52 #[.agg (t.d.cells t.ts.length).toArray, .agg (u.d.cells u.ts.length).toArray] w fun e w' => e = .returned (.bool (ux t.tr u.tr)) ∧ Below w.heap.size w w' := by
 have M : Mg w w ([]) := Mg.start w
 refine za (l := [(0, .agg (t.d.cells t.ts.length).toArray), (1, .agg (u.d.cells u.ts.length).toArray)]) Tryz.func52 rfl Tryz.ntmps52 rfl rfl ?_
 intro Q hret hnorm hP a A
 refine wsk fun K1 hK1 => wrl (jg (vs := (t.d.cells t.ts.length)) (t := 38) A M rfl rfl rfl pg (zb rfl rfl) (by decide) ?_)
 intro g2 w3 M a A
 refine jg (vs := (u.d.cells u.ts.length)) (t := 38) A M rfl rfl rfl pg (zb rfl rfl) (by decide) ?_
 intro g4 w5 M a A
 refine sda A λa A↦?_
 refine qa (hK1 _ _ (wsk fun K6 hK6 => wrl (sdo A (zl M EqC_isS_38 rfl 1 rfl (cs := (t.d.cells t.ts.length)) rfl rfl) λa A↦?_)))
 refine sdo A (zl M EqC_isS_38 rfl 0 rfl (cs := (u.d.cells u.ts.length)) rfl rfl) λa A↦?_
 rcases tf ((zx zq t.tr && zx zq u.tr)) with hb7 | hb7
 ·
  refine gcl A M (ef rfl rfl) ((hb7 ▸ qzj (Dt.keep M.bel _ ht) (Dt.keep M.bel _ hu) (hT.below M.bel))) fun w9 hb8 M a A => ?_
  refine sdm A λa A↦?_
  refine sdo A (zl M EqC_isS_38 rfl 1 rfl (cs := (t.d.cells t.ts.length)) rfl rfl) λa A↦?_
  refine sdo A (zl M EqC_isS_38 rfl 0 rfl (cs := (u.d.cells u.ts.length)) rfl rfl) λa A↦?_
  refine gcl A M (ef rfl rfl) (qpg (t.tr.bulk + 1) (Nat.lt_succ_self _) (Dt.keep M.bel _ ht) (Dt.keep M.bel _ hu) (qug ht (zfh hb7).1) (qug hu (zfh hb7).2)) fun w11 hb10 M a A => ?_
  rcases tf ((ko t.tr u.tr == 0)) with hb12 | hb12
  ·
   have hb12' := eq_of_beq hb12
   refine sdc A qp hb12 λa A↦?_
   refine sdk (v := .bool true) A λa A↦?_
   refine sda A λa A↦?_
   refine qa (hK6 _ _ (wp_ret (hret _ _ (en1 A rfl (ql rfl) ?_))))
   exact ⟨by unfold ux; simp_all, M.bel⟩
  ·
   have hb12' := ne_of_beq_false hb12
   refine sdc A qp hb12 λa A↦?_
   refine sdk (v := .bool false) A λa A↦?_
   refine sda A λa A↦?_
   refine qa (hK6 _ _ (wp_ret (hret _ _ (en1 A rfl (ql rfl) ?_))))
   exact ⟨by unfold ux; simp_all, M.bel⟩
 ·
  refine gcl A M (ef rfl rfl) ((hb7 ▸ qzj (Dt.keep M.bel _ ht) (Dt.keep M.bel _ hu) (hT.below M.bel))) fun w14 hb13 M a A => ?_
  refine sdm A λa A↦?_
  iterate 4 refine zf A rfl rfl rfl λa A↦?_
  refine sdk (v := .bool false) A λa A↦?_
  refine sda A λa A↦?_
  refine qa (hK6 _ _ (wp_ret (hret _ _ (en1 A rfl (ql rfl) ?_))))
  exact ⟨by unfold ux; simp_all, M.bel⟩
def Hashes (n : Nat) : Prop := ∀ {w : World} {t : Dt} {h : Int}, t.tr.bulk < n → t.rd w → t.tr.good → Calls Tryz.prog 75 #[.int .u64 h, .agg (t.d.cells t.ts.length).toArray] w fun e w' => e = .returned (.int .u64 (ud h t.tr)) ∧ Below w.heap.size w w'
theorem zpi {n : Nat} (ih : Hashes n) {w : World} {t : Dt} {h : Int} (ht : t.rd w) (gt : t.tr.good) (hb : t.tr.bulk ≤ n) : Calls Tryz.prog 114 #[.int .u64 h, .slice t.d.lo t.ts.length t.d.lc] w fun e w' => e = .returned (.int .u64 (ue (hw h (t.ts.length : Int)) (t.ts.map Dt.tr))) ∧ Below w.heap.size w w' := by
 have hlt := (Dt.okT ht).2
 have M : Mg w w ([]) := Mg.start w
 refine za (l := [(0, .int .u64 h), (1, .slice t.d.lo t.ts.length t.d.lc)]) Tryz.func114 rfl Tryz.ntmps114 rfl rfl ?_
 intro Q hret hnorm hP a A
 refine wsk fun K1 hK1 => wrl (sda A λa A↦?_)
 refine qa (hK1 _ _ (wsk fun K2 hK2 => wrl ?_))
 iterate 2 refine sdm A λa A↦?_
 refine sdo A (zp Tryz.underlying28 rfl) λa A↦?_
 refine sdo (v := .int .u64 (((t.ts.length : Nat) : Int))) A (zr rfl (ar_conv Tryz.underlying3 Tryz.underlying67 (in_u64 (by omega) (by omega)))) λa A↦?_
 refine gcl A M (ef rfl rfl) (vn) fun w4 hb3 M a A => ?_
 refine sda A λa A↦?_
 refine qa (hK2 _ _ (wsk fun K5 hK5 => wsk fun K6 hK6 => wrl (sdm A λa A↦?_)))
 refine sdo A (zp Tryz.underlying28 rfl) λa A↦?_
 refine sdm A λa A↦?_
 refine qa (hK6 _ _ (wp_block (jv (fun m_ a w1 => ∃ (i : Nat) (m : Int), m_ = 1 + (t.ts.length - i) ∧ (i ≤ t.ts.length ∧ ue (hw h (t.ts.length : Int)) (t.ts.map Dt.tr) = ue m ((t.ts.map Dt.tr).drop i)) ∧ Sl a 23 [(0, .int .u64 m), (1, .slice t.d.lo t.ts.length t.d.lc), (4, .int .u64 0), (7, .int .u64 h), (8, .slice t.d.lo t.ts.length t.d.lc), (9, .int .i64 (((t.ts.length : Nat) : Int))), (10, .int .u64 (((t.ts.length : Nat) : Int))), (11, .int .u64 (hw h (((t.ts.length : Nat) : Int)))), (12, .slice t.d.lo t.ts.length t.d.lc), (13, .int .i64 (((t.ts.length : Nat) : Int))), (14, .int .i64 (((i : Nat) : Int)))] ∧ Mg w w1 ([])) _ ⟨0, hw h ((t.ts.length : Nat) : Int), rfl, ⟨Nat.zero_le _, rfl⟩, A.keep _ (by repeat' constructor), M⟩ ?_)))
 clear M A
 rintro m_ a w7 ⟨i, m, rfl, hinv9, A, M⟩ K8 hK8
 obtain ⟨hi0, hin9⟩ := hinv9
 refine wsk fun K10 hK10 => wrl ?_
 rcases tf (decide (((i : Nat) : Int) < ((t.ts.length : Nat) : Int))) with hb11 | hb11
 ·
  have hb11' := of_decide_eq_true hb11
  refine sdc A zu hb11 λa A↦?_
  refine qa (hK10 _ _ (wsk fun K12 hK12 => wp_cond_true (A.ev rfl) ?_))
  refine wp_skip (hK12 _ _ (wsk fun K13 hK13 => wp_block (wsk fun K14 hK14 => ?_)))
  obtain ⟨t1, bt1, ot1, it1, mt1, rt1_, lt1, Ht1⟩ := quf ht (i := i) (by omega)
  refine wrl (sdo (v := .pointer (some ⟨bt1, ot1 + i * 11, none⟩)) A (jh (k := i) Tryz.underlying28 (by kernel_rfl) rfl rfl rfl lt1 (by omega)) λa A↦?_)
  refine sdo A (xg M Ht1 EqC_isS_38 rfl rfl) λa A↦?_
  refine jg (vs := [.int .i64 0, .int .i64 0, .bool false, .slice none 0 0, .slice none 0 0, .bool false, .slice none 0 0, .slice none 0 0, .string (⟨#[]⟩), .slice none 0 0, .slice none 0 0]) (t := 38) A M rfl rfl rfl pg (qi (z := .agg #[.int .i64 0, .int .i64 0, .bool false, .slice none 0 0, .slice none 0 0, .bool false, .slice none 0 0, .slice none 0 0, .string (⟨#[]⟩), .slice none 0 0, .slice none 0 0]) (by kernel_rfl) rfl) (by decide) ?_
  intro g15 w16 M a A
  refine jc (us := (t1.d.cells t1.ts.length)) (L' := (.obj g15 (.cells (t1.d.cells t1.ts.length).toArray 38) :: [])) A M rfl rfl (ze rfl rfl rfl (by kernel_rfl) M 0 rfl rfl rfl) 0 rfl rfl rfl ?_
  intro w17 M
  refine qa (hK14 _ _ (wrl (sdm A λa A↦?_)))
  refine sdo A (zl M EqC_isS_38 rfl 0 rfl (cs := (t1.d.cells t1.ts.length)) rfl rfl) λa A↦?_
  refine gcl A M (ef rfl rfl) (ih (by have := qla mt1; omega) (Dt.keep M.bel _ rt1_) ((xj gt).2.2 _ mt1)) fun w19 hb18 M a A => ?_
  refine sda A λa A↦?_
  refine qa (hK13 _ _ (wrl (sdo (v := .int .i64 (((i + 1 : Nat) : Int))) A (qk rfl rfl (fun w => (vg (yp (by omega) (by omega)) w).trans (by rw [show (((i : Nat) : Int) + 1 : Int) = ((i + 1 : Nat) : Int) from by omega]))) λa A↦?_)))
  refine sdm A λa A↦?_
  refine qa ?_
  replace M : Mg w w19 ([]) := by
   have h9 := M.sub (cn (.refl _))
   exact h9
  refine hK8 _ _ _ (by omega) ⟨i + 1, ud m t1.tr, rfl, ⟨by omega, by rw [hin9, znb it1]⟩, A.keep _ (by repeat' constructor), M⟩
 ·
  have hb11' := of_decide_eq_false hb11
  refine sdc A zu hb11 λa A↦?_
  refine qa (hK10 _ _ (wsk fun K20 hK20 => wp_cond_false (A.ev rfl) ?_))
  refine wp_exit (hK5 _ _ (wsk fun K21 hK21 => wrl (sdm A λa A↦?_)))
  refine sda A λa A↦?_
  refine qa (hK21 _ _ (wp_ret (hret _ _ (en1 A rfl (ql rfl) ?_))))
  exact ⟨by rw [hin9, zii (by omega)], M.bel⟩
theorem zaa {n : Nat} (ih : Hashes n) : Hashes (n + 1) := by
 intro w t h hn ht gt
 have M : Mg w w ([]) := Mg.start w
 refine za (l := [(0, .int .u64 h), (1, .agg (t.d.cells t.ts.length).toArray)]) Tryz.func75 rfl Tryz.ntmps75 rfl rfl ?_
 intro Q hret hnorm hP a A
 refine wsk fun K1 hK1 => wrl (jg (vs := (t.d.cells t.ts.length)) (t := 38) A M rfl rfl rfl pg (zb rfl rfl) (by decide) ?_)
 intro g2 w3 M a A
 refine sda A λa A↦?_
 refine qa (hK1 _ _ (wsk fun K4 hK4 => wp_block (jv (fun m_ a w1 => ∃ (p : Dt) (m : Int), m_ = 1 + p.tr.bulk ∧ (p.rd w ∧ p.tr.good ∧ p.tr.bulk ≤ t.tr.bulk ∧ ud h t.tr = ud m p.tr) ∧ Sl a 67 [(0, .int .u64 m), (1, .agg (t.d.cells t.ts.length).toArray), (3, .pointer (some ⟨g2, 0, none⟩)), (4, .int .u64 0)] ∧ Mg w w1 (.obj g2 (.cells (p.d.cells p.ts.length).toArray 38) :: [])) _ ⟨t, h, rfl, ⟨ht, gt, Nat.le_refl _, rfl⟩, A.keep _ ⟨rfl, rfl, rfl, rfl, trivial⟩, M⟩ ?_)))
 clear M A
 rintro m_ a w5 ⟨p, m, rfl, hinv7, A, M⟩ K6 hK6
 obtain ⟨hp, gp, hbk, hin9⟩ := hinv7
 have hk0 := (xj gp).1.h0
 have hk1 := (xj gp).1.h1
 have hn9 := jab (xj gp).1
 refine wsk fun K8 hK8 => wsk fun K9 hK9 => wrl (sdo (v := .pointer (some ⟨g2, 0, none⟩)) A (qb EqC_fld_38_0 rfl rfl) λa A↦?_)
 refine sdo A (qr M EqC_is1_3 rfl 0 rfl rfl) λa A↦?_
 rcases tf ((p.d.k == 8)) with hb10 | hb10
 ·
  have hb10' := eq_of_beq hb10
  refine sdc A qp hb10 λa A↦?_
  refine qa (hK9 _ _ (wp_cond_true (A.ev rfl) ?_))
  refine wp_skip (hK8 _ _ (wp_block (wsk fun K11 hK11 => ?_)))
  have l2p := (xj gp).1.h8 hb10'
  obtain ⟨p0, bp0, op0, ip0, mp0, rp0_, lp0, Hp0⟩ := quf hp (i := 0) (by omega)
  obtain ⟨p1, bp1, op1, ip1, mp1, rp1_, lp1, Hp1⟩ := quf hp (i := 1) (by omega)
  have hpq := zih (h := m) hb10' l2p ip0 ip1
  refine je (S := fun w1 => Mg w w1 (.obj g2 (.cells (p.d.cells p.ts.length).toArray 38) :: [])) (by kernel_rfl) ?_
  replace M := M.drew
  refine qe A 0 rfl rfl rfl rfl hP (M.sub (cc (List.nil_sublist _))) (fun w1 M => qz rfl) λa A↦?_
  refine qe (v := .pointer (some ⟨g2, 10, none⟩)) A 2 rfl rfl rfl rfl hP (M.sub (cc (List.nil_sublist _))) (fun w1 M => qb EqC_fld_38_5 rfl rfl) λa A↦?_
  refine qe A 3 rfl rfl rfl rfl hP (M.sub (cc (List.nil_sublist _))) (fun w1 M => qr M EqC_is1_28 rfl 0 rfl rfl) λa A↦?_
  refine qe (v := .pointer (some ⟨bp0, op0 + 0 * 11, none⟩)) A 4 rfl rfl rfl rfl hP (M.sub (cc (List.nil_sublist _))) (fun w1 M => jh (k := 0) Tryz.underlying28 (by kernel_rfl) rfl rfl rfl lp0 (by omega)) λa A↦?_
  refine qe A 5 rfl rfl rfl rfl hP (M.sub (cc (List.nil_sublist _))) (fun w1 M => xg M Hp0 EqC_isS_38 rfl rfl) λa A↦?_
  refine qf (by kernel_rfl) (qm A 1 rfl rfl rfl rfl (qg rfl rfl (fun w => by kernel_rfl)) (vn) ?_)
  rintro _ w13 ⟨rfl, hb12⟩
  replace M := M.call hb12
  refine ⟨_, rfl, (M.sub (cc (List.nil_sublist _))), ?_⟩
  intro a A
  refine qf (by kernel_rfl) (qm A 6 rfl rfl rfl rfl (qg rfl rfl (fun w => by kernel_rfl)) (ih (by have := qla mp0; omega) (Dt.keep M.bel _ rp0_) ((xj gp).2.2 _ mp0)) ?_)
  rintro _ w15 ⟨rfl, hb14⟩
  replace M := M.call hb14
  refine ⟨_, rfl, (M.sub (cc (List.nil_sublist _))), ?_⟩
  intro a A
  refine qe A 7 rfl rfl rfl rfl hP (M.sub (cc (List.nil_sublist _))) (fun w1 M => zh rfl) λa A↦?_
  refine qy (by kernel_rfl) ?_
  refine hK11 _ _ (wrl (sdo (v := .pointer (some ⟨g2, 10, none⟩)) A (qb EqC_fld_38_5 rfl rfl) λa A↦?_))
  refine sdo A (qr M EqC_is1_28 rfl 0 rfl rfl) λa A↦?_
  refine sdo (v := .pointer (some ⟨bp1, op1 + 1 * 11, none⟩)) A (jh (k := 1) Tryz.underlying28 (by kernel_rfl) rfl rfl rfl lp1 (by omega)) λa A↦?_
  refine sdo A (xg M Hp1 EqC_isS_38 rfl rfl) λa A↦?_
  refine jc (us := (p1.d.cells p1.ts.length)) (L' := (.obj g2 (.cells (p1.d.cells p1.ts.length).toArray 38) :: [])) A M rfl rfl (ze rfl rfl rfl (by kernel_rfl) M 0 rfl rfl rfl) 0 rfl rfl rfl ?_
  intro w16 M
  refine qa ?_
  refine hK6 _ _ _ (by have := qla mp1; omega) ⟨p1, ud (hw m 8) p0.tr, rfl, ⟨rp1_, (xj gp).2.2 _ mp1, by have := qla mp1; omega, by rw [hin9, hpq]⟩, A.keep _ ⟨rfl, rfl, rfl, rfl, trivial⟩, M⟩
 ·
  have hb10' := ne_of_beq_false hb10
  refine sdc A qp hb10 λa A↦?_
  refine qa (hK9 _ _ (wp_cond_false (A.ev rfl) ?_))
  refine wp_exit (hK4 _ _ (wsk fun K17 hK17 => wrl (sdm A λa A↦?_)))
  refine sdo (v := .pointer (some ⟨g2, 0, none⟩)) A (qb EqC_fld_38_0 rfl rfl) λa A↦?_
  refine sdo A (qr M EqC_is1_3 rfl 0 rfl rfl) λa A↦?_
  refine sdo (v := .int .u64 p.d.k) A (zr rfl (ar_conv Tryz.underlying3 Tryz.underlying67 (in_u64 (by omega) (by omega)))) λa A↦?_
  refine gcl A M (ef rfl rfl) (vn) fun w19 hb18 M a A => ?_
  refine sda A λa A↦?_
  refine qa (hK17 _ _ (wsk fun K20 hK20 => wsk fun K21 hK21 => wrl (sdo (v := .pointer (some ⟨g2, 0, none⟩)) A (qb EqC_fld_38_0 rfl rfl) λa A↦?_)))
  refine sdo A (qr M EqC_is1_3 rfl 0 rfl rfl) λa A↦?_
  refine qa (hK21 _ _ (wp_block (wsk fun K22 hK22 => wsk fun K23 hK23 => wrl ?_)))
  rcases tf ((p.d.k == 2)) with hb24 | hb24
  ·
   have hb24' := eq_of_beq hb24
   refine sdc A qp hb24 λa A↦?_
   refine sda A λa A↦?_
   refine qa (hK23 _ _ (wp_cond_true (A.ev rfl) ?_))
   refine wp_skip (hK22 _ _ (wp_cond_true (A.ev rfl) ?_))
   refine wsk fun K25 hK25 => wrl (sdm A λa A↦?_)
   refine sdo (v := .pointer (some ⟨g2, 1, none⟩)) A (qb EqC_fld_38_1 rfl rfl) λa A↦?_
   refine sdo A (qr M EqC_is1_3 rfl 0 rfl rfl) λa A↦?_
   refine sdo (v := .int .u64 p.d.n) A (zr rfl (ar_conv Tryz.underlying3 Tryz.underlying67 (in_u64 (by omega) (by omega)))) λa A↦?_
   refine gcl A M (ef rfl rfl) (vn) fun w27 hb26 M a A => ?_
   refine sda A λa A↦?_
   refine qa (hK25 _ _ (wp_ret (hret _ _ (en1 A rfl (ql rfl) ?_))))
   exact ⟨by
    rw [hin9, kw]
    repeat (first | rw [if_pos (by omega)] | rw [if_neg (by omega)])
    try rfl, M.bel⟩
  ·
   have hb24' := ne_of_beq_false hb24
   refine sdc A qp hb24 λa A↦?_
   refine sda A λa A↦?_
   refine qa (hK23 _ _ (wp_cond_false (A.ev rfl) ?_))
   refine wrl ?_
   rcases tf ((p.d.k == 4)) with hb28 | hb28
   ·
    have hb28' := eq_of_beq hb28
    refine sdc A qp hb28 λa A↦?_
    refine sda A λa A↦?_
    refine qa (hK22 _ _ (wp_cond_true (A.ev rfl) ?_))
    refine wsk fun K29 hK29 => wrl (sdm A λa A↦?_)
    refine sdo (v := .pointer (some ⟨g2, 1, none⟩)) A (qb EqC_fld_38_1 rfl rfl) λa A↦?_
    refine sdo A (qr M EqC_is1_3 rfl 0 rfl rfl) λa A↦?_
    refine sdo (v := .int .u64 p.d.n) A (zr rfl (ar_conv Tryz.underlying3 Tryz.underlying67 (in_u64 (by omega) (by omega)))) λa A↦?_
    refine gcl A M (ef rfl rfl) (vn) fun w31 hb30 M a A => ?_
    refine sda A λa A↦?_
    refine qa (hK29 _ _ (wp_ret (hret _ _ (en1 A rfl (ql rfl) ?_))))
    exact ⟨by
     rw [hin9, kw]
     repeat (first | rw [if_pos (by omega)] | rw [if_neg (by omega)])
     try rfl, M.bel⟩
   ·
    have hb28' := ne_of_beq_false hb28
    refine sdc A qp hb28 λa A↦?_
    refine sda A λa A↦?_
    refine qa (hK22 _ _ (wp_cond_false (A.ev rfl) ?_))
    refine wsk fun K32 hK32 => wrl ?_
    rcases tf ((p.d.k == 3)) with hb33 | hb33
    ·
     have hb33' := eq_of_beq hb33
     refine sdc A qp hb33 λa A↦?_
     refine sda A λa A↦?_
     refine qa (hK32 _ _ (wp_cond_true (A.ev rfl) ?_))
     refine wsk fun K34 hK34 => je (S := fun w1 => Mg w w1 (.obj g2 (.cells (p.d.cells p.ts.length).toArray 38) :: [])) (by kernel_rfl) ?_
     replace M := M.drew
     refine qe A 0 rfl rfl rfl rfl hP (M.sub (cc (List.nil_sublist _))) (fun w1 M => qz rfl) λa A↦?_
     refine qe (v := .pointer (some ⟨g2, 2, none⟩)) A 1 rfl rfl rfl rfl hP (M.sub (cc (List.nil_sublist _))) (fun w1 M => qb EqC_fld_38_2 rfl rfl) λa A↦?_
     refine qe (v := .pointer (some ⟨g2, 2, none⟩)) A 2 rfl rfl rfl rfl hP (M.sub (cc (List.nil_sublist _))) (fun w1 M => qb EqC_fld_35_0 rfl rfl) λa A↦?_
     refine qe A 3 rfl rfl rfl rfl hP (M.sub (cc (List.nil_sublist _))) (fun w1 M => zl M EqC_isS_33 rfl 0 rfl (cs := [.bool p.d.y.q.b1, .slice p.d.y.o1 p.d.y.q.t1.length p.d.y.c1, .slice p.d.y.o2 p.d.y.q.q1.length p.d.y.c2]) rfl rfl) λa A↦?_
     refine qe (v := .pointer (some ⟨g2, 2, none⟩)) A 5 rfl rfl rfl rfl hP (M.sub (cc (List.nil_sublist _))) (fun w1 M => qb EqC_fld_38_2 rfl rfl) λa A↦?_
     refine qe (v := .pointer (some ⟨g2, 5, none⟩)) A 6 rfl rfl rfl rfl hP (M.sub (cc (List.nil_sublist _))) (fun w1 M => qb EqC_fld_35_1 rfl rfl) λa A↦?_
     refine qe A 7 rfl rfl rfl rfl hP (M.sub (cc (List.nil_sublist _))) (fun w1 M => zl M EqC_isS_33 rfl 0 rfl (cs := [.bool p.d.y.q.b2, .slice p.d.y.o3 p.d.y.q.t2.length p.d.y.c3, .slice p.d.y.o4 p.d.y.q.q2.length p.d.y.c4]) rfl rfl) λa A↦?_
     refine qf (by kernel_rfl) (qm A 4 rfl rfl rfl rfl (qg rfl rfl (fun w => by kernel_rfl)) (zgh ((Dt.okT hp).1.num.s1.rd.below M.bel) ((Dt.okT hp).1.num.s2.rd.below M.bel) (Dt.okT hp).1.len.l1 (Dt.okT hp).1.len.l2) ?_)
     rintro _ w36 ⟨rfl, hb35⟩
     replace M := M.call hb35
     refine ⟨_, rfl, (M.sub (cc (List.nil_sublist _))), ?_⟩
     intro a A
     refine qf (by kernel_rfl) (qm A 8 rfl rfl rfl rfl (qg rfl rfl (fun w => by kernel_rfl)) (zgh ((Dt.okT hp).1.num.s3.rd.below M.bel) ((Dt.okT hp).1.num.s4.rd.below M.bel) (Dt.okT hp).1.len.l3 (Dt.okT hp).1.len.l4) ?_)
     rintro _ w38 ⟨rfl, hb37⟩
     replace M := M.call hb37
     refine ⟨_, rfl, (M.sub (cc (List.nil_sublist _))), ?_⟩
     intro a A
     refine qe A 9 rfl rfl rfl rfl hP (M.sub (cc (List.nil_sublist _))) (fun w1 M => zh rfl) λa A↦?_
     refine qy (by kernel_rfl) ?_
     refine hK34 _ _ (wp_ret (hret _ _ (en1 A rfl (ql rfl) ?_)))
     exact ⟨by
      rw [hin9, kw]
      repeat (first | rw [if_pos (by omega)] | rw [if_neg (by omega)])
      try rfl, M.bel⟩
    ·
     have hb33' := ne_of_beq_false hb33
     refine sdc A qp hb33 λa A↦?_
     refine sda A λa A↦?_
     refine qa (hK32 _ _ (wp_cond_false (A.ev rfl) ?_))
     refine wsk fun K39 hK39 => wsk fun K40 hK40 => wrl ?_
     rcases tf ((p.d.k == 5)) with hb41 | hb41
     ·
      have hb41' := eq_of_beq hb41
      refine sdc A qp hb41 λa A↦?_
      refine sda A λa A↦?_
      refine qa (hK40 _ _ (wp_cond_true (A.ev rfl) ?_))
      refine wp_skip (hK39 _ _ (wp_cond_true (A.ev rfl) ?_))
      refine wsk fun K42 hK42 => wrl (sdm A λa A↦?_)
      refine sdo (v := .pointer (some ⟨g2, 8, none⟩)) A (qb EqC_fld_38_3 rfl rfl) λa A↦?_
      refine sdo A (qr M EqC_is1_9 rfl 0 rfl rfl) λa A↦?_
      refine qmh A M rfl Tryz.underlying9 Tryz.underlying36 Tryz.underlying5 rfl rfl rfl rfl ?_
      intro so43 ca44 w45 hrb46 M a A
      refine gcl A M (ef rfl rfl) (qmi hrb46 (by rw [vm]; exact (Dt.okT hp).1.smax)) fun w48 hb47 M a A => ?_
      refine sda A λa A↦?_
      refine qa (hK42 _ _ (wp_ret (hret _ _ (en1 A rfl (ql rfl) ?_))))
      exact ⟨by
       rw [hin9, kw]
       repeat (first | rw [if_pos (by omega)] | rw [if_neg (by omega)])
       try rfl, M.bel⟩
     ·
      have hb41' := ne_of_beq_false hb41
      refine sdc A qp hb41 λa A↦?_
      refine sda A λa A↦?_
      refine qa (hK40 _ _ (wp_cond_false (A.ev rfl) ?_))
      refine wsk fun K49 hK49 => wrl ?_
      rcases tf ((p.d.k == 6)) with hb50 | hb50
      ·
       have hb50' := eq_of_beq hb50
       refine sdc A qp hb50 λa A↦?_
       refine sda A λa A↦?_
       refine qa (hK49 _ _ (wp_cond_true (A.ev rfl) ?_))
       refine wp_skip (hK39 _ _ (wp_cond_true (A.ev rfl) ?_))
       refine wsk fun K51 hK51 => wrl (sdm A λa A↦?_)
       refine sdo (v := .pointer (some ⟨g2, 8, none⟩)) A (qb EqC_fld_38_3 rfl rfl) λa A↦?_
       refine sdo A (qr M EqC_is1_9 rfl 0 rfl rfl) λa A↦?_
       refine qmh A M rfl Tryz.underlying9 Tryz.underlying36 Tryz.underlying5 rfl rfl rfl rfl ?_
       intro so52 ca53 w54 hrb55 M a A
       refine gcl A M (ef rfl rfl) (qmi hrb55 (by rw [vm]; exact (Dt.okT hp).1.smax)) fun w57 hb56 M a A => ?_
       refine sda A λa A↦?_
       refine qa (hK51 _ _ (wp_ret (hret _ _ (en1 A rfl (ql rfl) ?_))))
       exact ⟨by
        rw [hin9, kw]
        repeat (first | rw [if_pos (by omega)] | rw [if_neg (by omega)])
        try rfl, M.bel⟩
      ·
       have hb50' := ne_of_beq_false hb50
       refine sdc A qp hb50 λa A↦?_
       refine sda A λa A↦?_
       refine qa (hK49 _ _ (wp_cond_false (A.ev rfl) ?_))
       refine wrl ?_
       rcases tf ((p.d.k == 11)) with hb58 | hb58
       ·
        have hb58' := eq_of_beq hb58
        refine sdc A qp hb58 λa A↦?_
        refine sda A λa A↦?_
        refine qa (hK39 _ _ (wp_cond_true (A.ev rfl) ?_))
        refine wsk fun K59 hK59 => wrl (sdm A λa A↦?_)
        refine sdo (v := .pointer (some ⟨g2, 8, none⟩)) A (qb EqC_fld_38_3 rfl rfl) λa A↦?_
        refine sdo A (qr M EqC_is1_9 rfl 0 rfl rfl) λa A↦?_
        refine qmh A M rfl Tryz.underlying9 Tryz.underlying36 Tryz.underlying5 rfl rfl rfl rfl ?_
        intro so60 ca61 w62 hrb63 M a A
        refine gcl A M (ef rfl rfl) (qmi hrb63 (by rw [vm]; exact (Dt.okT hp).1.smax)) fun w65 hb64 M a A => ?_
        refine sda A λa A↦?_
        refine qa (hK59 _ _ (wp_ret (hret _ _ (en1 A rfl (ql rfl) ?_))))
        exact ⟨by
         rw [hin9, kw]
         repeat (first | rw [if_pos (by omega)] | rw [if_neg (by omega)])
         try rfl, M.bel⟩
       ·
        have hb58' := ne_of_beq_false hb58
        refine sdc A qp hb58 λa A↦?_
        refine sda A λa A↦?_
        refine qa (hK39 _ _ (wp_cond_false (A.ev rfl) ?_))
        refine wsk fun K66 hK66 => wrl ?_
        rcases tf ((p.d.k == 7)) with hb67 | hb67
        ·
         have hb67' := eq_of_beq hb67
         refine sdc A qp hb67 λa A↦?_
         refine sda A λa A↦?_
         refine qa (hK66 _ _ (wp_cond_true (A.ev rfl) ?_))
         refine wsk fun K68 hK68 => wrl (sdm A λa A↦?_)
         refine sdo (v := .pointer (some ⟨g2, 9, none⟩)) A (qb EqC_fld_38_4 rfl rfl) λa A↦?_
         refine sdo A (qr M EqC_is1_36 rfl 0 rfl rfl) λa A↦?_
         refine gcl A M (ef rfl rfl) (qmi ((Dt.okT hp).1.raw.below M.bel) (Nat.le_trans (Dt.okT hp).1.rcap (Dt.okT hp).1.rmax)) fun w70 hb69 M a A => ?_
         refine sda A λa A↦?_
         refine qa (hK68 _ _ (wp_ret (hret _ _ (en1 A rfl (ql rfl) ?_))))
         exact ⟨by
          rw [hin9, kw]
          repeat (first | rw [if_pos (by omega)] | rw [if_neg (by omega)])
          try rfl, M.bel⟩
        ·
         have hb67' := ne_of_beq_false hb67
         refine sdc A qp hb67 λa A↦?_
         refine sda A λa A↦?_
         refine qa (hK66 _ _ (wp_cond_false (A.ev rfl) ?_))
         refine wsk fun K71 hK71 => wrl ?_
         rcases tf ((p.d.k == 9)) with hb72 | hb72
         ·
          have hb72' := eq_of_beq hb72
          refine sdc A qp hb72 λa A↦?_
          refine sda A λa A↦?_
          refine qa (hK71 _ _ (wp_cond_true (A.ev rfl) ?_))
          refine wsk fun K73 hK73 => wrl (sdm A λa A↦?_)
          refine sdo (v := .pointer (some ⟨g2, 10, none⟩)) A (qb EqC_fld_38_5 rfl rfl) λa A↦?_
          refine sdo A (qr M EqC_is1_28 rfl 0 rfl rfl) λa A↦?_
          refine gcl A M (ef rfl rfl) (zpi ih (Dt.keep M.bel _ hp) gp (by omega)) fun w75 hb74 M a A => ?_
          refine sda A λa A↦?_
          refine qa (hK73 _ _ (wp_ret (hret _ _ (en1 A rfl (ql rfl) ?_))))
          exact ⟨by
           rw [hin9, kw]
           repeat (first | rw [if_pos (by omega)] | rw [if_neg (by omega)])
           try rfl, M.bel⟩
         ·
          have hb72' := ne_of_beq_false hb72
          refine sdc A qp hb72 λa A↦?_
          refine sda A λa A↦?_
          refine qa (hK71 _ _ (wp_cond_false (A.ev rfl) ?_))
          refine wp_skip (hK20 _ _ (wsk fun K76 hK76 => wrl (sdm A λa A↦?_)))
          refine sda A λa A↦?_
          refine qa (hK76 _ _ (wp_ret (hret _ _ (en1 A rfl (ql rfl) ?_))))
          exact ⟨by
           rw [hin9, kw]
           repeat (first | rw [if_pos (by omega)] | rw [if_neg (by omega)])
           try rfl, M.bel⟩
theorem qph : ∀ n, Hashes n
 | 0 => fun h => absurd h (Nat.not_lt_zero _)
 | n + 1 => zaa (qph n)
theorem zpj {w : World} {t : Dt} (ht : t.rd w) (hT : Tabs8 w) : Calls Tryz.prog 49 #[.agg (t.d.cells t.ts.length).toArray] w fun e w' => e = .returned (.int .u64 (xd t.tr)) ∧ Below w.heap.size w w' := by
 have M : Mg w w ([]) := Mg.start w
 refine za (l := [(0, .agg (t.d.cells t.ts.length).toArray)]) Tryz.func49 rfl Tryz.ntmps49 rfl rfl ?_
 intro Q hret hnorm hP a A
 refine wsk fun K1 hK1 => wrl (jg (vs := (t.d.cells t.ts.length)) (t := 38) A M rfl rfl rfl pg (zb rfl rfl) (by decide) ?_)
 intro g2 w3 M a A
 refine sda A λa A↦?_
 refine qa (hK1 _ _ (wsk fun K4 hK4 => wsk fun K5 hK5 => wrl (sdo A (zl M EqC_isS_38 rfl 0 rfl (cs := (t.d.cells t.ts.length)) rfl rfl) λa A↦?_)))
 rcases tf (zx zq t.tr) with hb6 | hb6
 ·
  refine gcl A M (ef rfl rfl) ((hb6 ▸ sound_any (t := t) (Dt.keep M.bel _ ht) (hT.below M.bel))) fun w8 hb7 M a A => ?_
  refine sdo (v := .bool false) A (zw rfl ji) λa A↦?_
  refine qa (hK5 _ _ (wp_cond_false (A.ev rfl) ?_))
  refine wp_skip (hK4 _ _ (wsk fun K9 hK9 => wrl (sdo A (zl M EqC_isS_38 rfl 0 rfl (cs := (t.d.cells t.ts.length)) rfl rfl) λa A↦?_)))
  refine gcl A M (ef rfl rfl) (qph (t.tr.bulk + 1) (Nat.lt_succ_self _) (Dt.keep M.bel _ ht) (qug ht hb6)) fun w10 hbh M a A => ?_
  refine sda A λa A↦?_
  refine qa (hK9 _ _ (wp_ret (hret _ _ (en1 A rfl (ql rfl) ?_))))
  exact ⟨by rw [zxj hb6], M.bel⟩
 ·
  refine gcl A M (ef rfl rfl) ((hb6 ▸ sound_any (t := t) (Dt.keep M.bel _ ht) (hT.below M.bel))) fun w12 hb11 M a A => ?_
  refine sdo (v := .bool true) A (zw rfl ji) λa A↦?_
  refine qa (hK5 _ _ (wp_cond_true (A.ev rfl) ?_))
  refine wsk fun K13 hK13 => wrl (sda A λa A↦?_)
  refine qa (hK13 _ _ (wp_ret (hret _ _ (en1 A rfl (ql rfl) ?_))))
  exact ⟨by rw [zxi hb6], M.bel⟩
end Go.Proofs.YtjlpecapebhgjaaGreatDoor.G
namespace Go.Proofs.YtjlpecapebhgjaaGreatDoor.C
open Go.RowKit

def qib (r : Int) : Bool := decide ((r ≠ 304 ∧ r ≠ 305 ∧ 256 ≤ r ∧ r ≤ 311) ∨ (330 ≤ r ∧ r ≤ 375))
def qvh (r : Int) : Bool := decide ((313 ≤ r ∧ r ≤ 328) ∨ (377 ≤ r ∧ r ≤ 382))
/-- how far below a small letter its capital stands -/
def qba (r : Int) : Int :=
  if 97 ≤ r ∧ r ≤ 122 then 32
  else if 224 ≤ r ∧ r ≤ 254 ∧ r ≠ 247 then 32
  else if qib r = true ∧ r % 2 = 1 then 1
  else if qvh r = true ∧ r % 2 = 0 then 1
  else if 945 ≤ r ∧ r ≤ 969 ∧ r ≠ 962 then 32
  else if 1072 ≤ r ∧ r ≤ 1103 then 32
  else if 1104 ≤ r ∧ r ≤ 1119 then 80
  else 0

def qfi (r : Int) : Int :=
  if qba (wrap32 (r + 1)) = 1 then 1 else if qba (wrap32 (r + 32)) = 32 then 32 else if qba (wrap32 (r + 80)) = 80 then 80 else 0
theorem qcj (r : Int) (h : r < 97 ∨ 1119 < r) : qba r = 0 := by
  unfold qba qib qvh
  simp only [decide_eq_true_eq]
  rw [if_neg (by omega), if_neg (by omega), if_neg (by omega), if_neg (by omega), if_neg (by omega), if_neg (by omega), if_neg (by omega)]
theorem zkc (x : Int) (h0 : -2147483648 ≤ x) (h1 : x ≤ 2147483647) : wrap32 x = x := by unfold wrap32; omega
theorem qvi (r k : Int) (h0 : -2147483648 ≤ r) (h1 : r ≤ 2147483647) (hk : 0 ≤ k) (hk' : k ≤ 80) : qba (wrap32 (r + k)) = qba (r + k) := by
  by_cases h : r + k ≤ 2147483647
  · rw [zkc _ (by omega) h]
  · rw [qcj (wrap32 (r + k)) (by unfold wrap32; omega), qcj (r + k) (by omega)]
def qkc (r : Int) : Int := if qba (r + 1) = 1 then 1 else if qba (r + 32) = 32 then 32 else if qba (r + 80) = 80 then 80 else 0
theorem qkd (r : Int) (h0 : -2147483648 ≤ r) (h1 : r ≤ 2147483647) : qfi r = qkc r := by
  unfold qfi qkc
  rw [qvi r 1 h0 h1 (by omega) (by omega), qvi r 32 h0 h1 (by omega) (by omega), qvi r 80 h0 h1 (by omega) (by omega)]
theorem zdj (r : Int) (h : r < 17 ∨ 1119 < r) : qkc r = 0 := by
  unfold qkc
  rw [qcj (r + 1) (by omega), if_neg (by omega)]
  by_cases a : r + 32 < 97 ∨ 1119 < r + 32
  · rw [qcj (r + 32) a, if_neg (by omega)]
    rw [qcj (r + 80) (by omega), if_neg (by omega)]
  · omega

theorem qeb (r : Int) : (qib r = true) = ((r ≠ 304 ∧ r ≠ 305 ∧ 256 ≤ r ∧ r ≤ 311) ∨ (330 ≤ r ∧ r ≤ 375)) := by simp [qib]
theorem qvj (r : Int) : (qib r = false) = ¬ ((r ≠ 304 ∧ r ≠ 305 ∧ 256 ≤ r ∧ r ≤ 311) ∨ (330 ≤ r ∧ r ≤ 375)) := by rw [← qeb]; simp
theorem qke (r : Int) : (qvh r = true) = ((313 ≤ r ∧ r ≤ 328) ∨ (377 ≤ r ∧ r ≤ 382)) := by simp [qvh]
theorem zea (r : Int) : (qvh r = false) = ¬ ((313 ≤ r ∧ r ≤ 328) ∨ (377 ≤ r ∧ r ≤ 382)) := by rw [← qke]; simp

/-- Which distance at which character. -/
theorem qbb (r : Int) :
    (qba r = 32 ∧ ((97 ≤ r ∧ r ≤ 122) ∨ (224 ≤ r ∧ r ≤ 254 ∧ r ≠ 247) ∨ (945 ≤ r ∧ r ≤ 969 ∧ r ≠ 962) ∨ (1072 ≤ r ∧ r ≤ 1103)))
    ∨ (qba r = 1 ∧ ((((r ≠ 304 ∧ r ≠ 305 ∧ 256 ≤ r ∧ r ≤ 311) ∨ (330 ≤ r ∧ r ≤ 375)) ∧ r % 2 = 1) ∨ (((313 ≤ r ∧ r ≤ 328) ∨ (377 ≤ r ∧ r ≤ 382)) ∧ r % 2 = 0)))
    ∨ (qba r = 80 ∧ 1104 ≤ r ∧ r ≤ 1119)
    ∨ (qba r = 0 ∧ ¬ (97 ≤ r ∧ r ≤ 122) ∧ ¬ (224 ≤ r ∧ r ≤ 254 ∧ r ≠ 247) ∧ ¬ (945 ≤ r ∧ r ≤ 969 ∧ r ≠ 962) ∧ ¬ (1072 ≤ r ∧ r ≤ 1119)
        ∧ ¬ (((r ≠ 304 ∧ r ≠ 305 ∧ 256 ≤ r ∧ r ≤ 311) ∨ (330 ≤ r ∧ r ≤ 375)) ∧ r % 2 = 1) ∧ ¬ (((313 ≤ r ∧ r ≤ 328) ∨ (377 ≤ r ∧ r ≤ 382)) ∧ r % 2 = 0)) := by
  unfold qba
  simp only [qeb, qke]
  split
  · omega
  · split
    · omega
    · split
      · omega
      · split
        · omega
        · split
          · omega
          · split
            · omega
            · split <;> omega

/-- Which distance at which capital. -/
def SmallAt (r s : Int) : Prop :=
    (s = 1 ∧ ((((r ≠ 304 ∧ 256 ≤ r ∧ r ≤ 310) ∨ (330 ≤ r ∧ r ≤ 374)) ∧ r % 2 = 0) ∨ (((313 ≤ r ∧ r ≤ 327) ∨ (377 ≤ r ∧ r ≤ 381)) ∧ r % 2 = 1)))
    ∨ (s = 32 ∧ ((65 ≤ r ∧ r ≤ 90) ∨ (192 ≤ r ∧ r ≤ 222 ∧ r ≠ 215) ∨ (913 ≤ r ∧ r ≤ 937 ∧ r ≠ 930) ∨ (1040 ≤ r ∧ r ≤ 1071)))
    ∨ (s = 80 ∧ 1024 ≤ r ∧ r ≤ 1039)
    ∨ (s = 0 ∧ ¬ (65 ≤ r ∧ r ≤ 90) ∧ ¬ (192 ≤ r ∧ r ≤ 222 ∧ r ≠ 215) ∧ ¬ (913 ≤ r ∧ r ≤ 937 ∧ r ≠ 930) ∧ ¬ (1024 ≤ r ∧ r ≤ 1071)
        ∧ ¬ (((r ≠ 304 ∧ 256 ≤ r ∧ r ≤ 310) ∨ (330 ≤ r ∧ r ≤ 374)) ∧ r % 2 = 0) ∧ ¬ (((313 ≤ r ∧ r ≤ 327) ∨ (377 ≤ r ∧ r ≤ 381)) ∧ r % 2 = 1))
def zeb (r : Int) : Int :=
  if (((r ≠ 304 ∧ 256 ≤ r ∧ r ≤ 310) ∨ (330 ≤ r ∧ r ≤ 374)) ∧ r % 2 = 0) ∨ (((313 ≤ r ∧ r ≤ 327) ∨ (377 ≤ r ∧ r ≤ 381)) ∧ r % 2 = 1) then 1
  else if (65 ≤ r ∧ r ≤ 90) ∨ (192 ≤ r ∧ r ≤ 222 ∧ r ≠ 215) ∨ (913 ≤ r ∧ r ≤ 937 ∧ r ≠ 930) ∨ (1040 ≤ r ∧ r ≤ 1071) then 32
  else if 1024 ≤ r ∧ r ≤ 1039 then 80 else 0
theorem zec : ∀ k : Nat, k < 1200 → qkc (k : Int) = zeb (k : Int) := by decide +kernel
theorem qwa (r : Int) : SmallAt r (zeb r) := by
  unfold zeb SmallAt
  split
  · omega
  · split
    · omega
    · split <;> omega
theorem qbc (r : Int) : SmallAt r (qkc r) := by
  by_cases h : 0 ≤ r ∧ r < 1200
  · have := zec r.toNat (by omega)
    rw [Int.toNat_of_nonneg h.1] at this
    rw [this]
    exact qwa r
  · rw [zdj r (by omega)]
    unfold SmallAt
    omega
set_option linter.unusedSimpArgs false
set_option linter.unusedVariables false
theorem qec {k : IntKind} {a b : Int} (h : a = b) : Ending.returned (.int k a) = .returned (.int k b) := by rw [h]
theorem zab {a b : Bool} (h : a = b) : Ending.returned (.bool a) = .returned (.bool b) := by rw [h]
set_option maxHeartbeats 400000 in
theorem qpi (r : Int) (w : World) :
    Calls Tryz.prog 104 #[.int .i32 r] w fun e w' => e = .returned (.bool (qib r)) ∧ w' = w := by
  go_enter Tryz.func104, Tryz.ntmps104
  go_wp2
  all_goals go_ret
  all_goals refine ⟨zab ?_, rfl⟩
  all_goals (unfold qib; rw [Bool.eq_iff_iff]; simp at *; omega)
set_option maxHeartbeats 400000 in
theorem qwb (r : Int) (w : World) :
    Calls Tryz.prog 105 #[.int .i32 r] w fun e w' => e = .returned (.bool (qvh r)) ∧ w' = w := by
  go_enter Tryz.func105, Tryz.ntmps105
  go_wp2
  all_goals go_ret
  all_goals refine ⟨zab ?_, rfl⟩
  all_goals (unfold qvh; rw [Bool.eq_iff_iff]; simp at *; try omega)
set_option maxHeartbeats 1000000 in
theorem zgi (r : Int) (w : World) :
    Calls Tryz.prog 68 #[.int .i32 r] w fun e w' => e = .returned (.int .i32 (qba r)) ∧ w' = w := by
  have HC : Hid _ := qbb r
  have h0 : qib r = true → 0 ≤ r := by rw [qeb]; omega
  have h1 : qvh r = true → 0 ≤ r := by rw [qke]; omega
  by_cases he : qib r = true
  · have hr := h0 he
    clear h0 h1
    go_enter Tryz.func68, Tryz.ntmps68
    go_wp2_with (first | (go_at_call 104; refine (qpi _ _).mono ?_; rintro e w' ⟨rfl, rfl⟩) | (go_at_call 105; refine (qwb _ _).mono ?_; rintro e w' ⟨rfl, rfl⟩))
    all_goals go_ret
    all_goals refine ⟨qec ?_, rfl⟩
    all_goals (have hc := HC.out; go_light; simp only [qeb, qke, qvj, zea, Bool.not_eq_true, beq_iff_eq, bne_iff_ne, beq_eq_false_iff_ne, bne_eq_false_iff_eq, ne_eq] at *; omega)
  · by_cases ho : qvh r = true
    · have hr := h1 ho
      clear h0 h1
      go_enter Tryz.func68, Tryz.ntmps68
      go_wp2_with (first | (go_at_call 104; refine (qpi _ _).mono ?_; rintro e w' ⟨rfl, rfl⟩) | (go_at_call 105; refine (qwb _ _).mono ?_; rintro e w' ⟨rfl, rfl⟩))
      all_goals go_ret
      all_goals refine ⟨qec ?_, rfl⟩
      all_goals (have hc := HC.out; go_light; simp only [qeb, qke, qvj, zea, Bool.not_eq_true, beq_iff_eq, bne_iff_ne, beq_eq_false_iff_ne, bne_eq_false_iff_eq, ne_eq] at *; omega)
    · clear h0 h1
      go_enter Tryz.func68, Tryz.ntmps68
      go_wp2_with (first | (go_at_call 104; refine (qpi _ _).mono ?_; rintro e w' ⟨rfl, rfl⟩) | (go_at_call 105; refine (qwb _ _).mono ?_; rintro e w' ⟨rfl, rfl⟩))
      all_goals go_ret
      all_goals refine ⟨qec ?_, rfl⟩
      all_goals (have hc := HC.out; go_light; simp only [qeb, qke, qvj, zea, Bool.not_eq_true, beq_iff_eq, bne_iff_ne, beq_eq_false_iff_ne, bne_eq_false_iff_eq, ne_eq] at *; omega)
set_option maxHeartbeats 1000000 in
theorem zed (r : Int) (w : World) :
    Calls Tryz.prog 67 #[.int .i32 r] w fun e w' => e = .returned (.int .i32 (qfi r)) ∧ w' = w := by
  go_enter Tryz.func67, Tryz.ntmps67
  go_wp2_with (go_at_call 68; refine (zgi _ _).mono ?_; rintro e w' ⟨rfl, rfl⟩)
  all_goals go_ret
  all_goals refine ⟨qec ?_, rfl⟩
  all_goals (unfold qfi; simp at *; simp [*])
end Go.Proofs.YtjlpecapebhgjaaGreatDoor.C
namespace Go.Proofs
open Go.Shelf
def Tryz.lays166_ren : Go.Shelf.Ren := ⟨fun | 166 => 39 | 240 => 65 | 276 => 102 | n => n, fun | 70 => 86 | 9 => 9 | 3 => 3 | 75 => 90 | 0 => 0 | 72 => 88 | 37 => 36 | 4 => 4 | 164 => 134 | 80 => 95 | 5 => 5 | 20 => 20 | n => n, fun | n => n⟩
theorem Tryz.lays166 : Go.Proofs.Lays.n166 Tryz.prog Tryz.lays166_ren := {
  mixed := by kernel_rfl
  f166 := Tryz.func39.trans (congrArg some (by kernel_rfl))
  f240 := Tryz.func65.trans (congrArg some (by kernel_rfl))
  f276 := Tryz.func102.trans (congrArg some (by kernel_rfl))
  t0 := Tryz.underlying0
  a0 := Tryz.isAgg0
  z0 := Tryz.sizeOf0
  v0 := Tryz.zeroValue0
  t3 := Tryz.underlying3
  a3 := Tryz.isAgg3
  z3 := Tryz.sizeOf3
  v3 := Tryz.zeroValue3
  t4 := Tryz.underlying4
  a4 := Tryz.isAgg4
  z4 := Tryz.sizeOf4
  v4 := Tryz.zeroValue4
  t9 := Tryz.underlying9
  a9 := Tryz.isAgg9
  z9 := Tryz.sizeOf9
  v9 := Tryz.zeroValue9
  t20 := Tryz.underlying20
  a20 := Tryz.isAgg20
  z20 := Tryz.sizeOf20
  v20 := Tryz.zeroValue20
  t37 := Tryz.underlying36
  a37 := Tryz.isAgg36
  z37 := Tryz.sizeOf36
  v37 := Tryz.zeroValue36
  t70 := Tryz.underlying86
  a70 := Tryz.isAgg86
  z70 := Tryz.sizeOf86
  v70 := Tryz.zeroValue86
  t72 := Tryz.underlying88
  a72 := Tryz.isAgg88
  z72 := Tryz.sizeOf88
  v72 := Tryz.zeroValue88
  t75 := Tryz.underlying90
  a75 := Tryz.isAgg90
  z75 := Tryz.sizeOf90
  v75 := Tryz.zeroValue90
  t164 := Tryz.underlying134
  a164 := Tryz.isAgg134
  z164 := Tryz.sizeOf134
  v164 := Tryz.zeroValue134 }
theorem Tryz.Builder_Extra_166 : Builder.Extra Tryz.prog Tryz.lays166_ren := {
  sizeBuilder := by kernel_rfl
  liesBuilder := by kernel_rfl
  t5 := Tryz.underlying5
  a5 := Tryz.isAgg5
  z5 := Tryz.sizeOf5
  v5 := Tryz.zeroValue5
  infoByte := by kernel_rfl
  cellsByte := by kernel_rfl
  sizeByte := by kernel_rfl
  neB5 := by decide }
def Tryz.lays169_ren : Go.Shelf.Ren := ⟨fun | 169 => 43 | n => n, fun | 70 => 86 | 9 => 9 | 0 => 0 | 72 => 88 | 37 => 36 | 127 => 113 | 3 => 3 | 5 => 5 | n => n, fun | n => n⟩
theorem Tryz.lays169 : Go.Proofs.Lays.n169 Tryz.prog Tryz.lays169_ren := {
  mixed := by kernel_rfl
  f169 := Tryz.func43.trans (congrArg some (by kernel_rfl))
  t0 := Tryz.underlying0
  a0 := Tryz.isAgg0
  z0 := Tryz.sizeOf0
  v0 := Tryz.zeroValue0
  t3 := Tryz.underlying3
  a3 := Tryz.isAgg3
  z3 := Tryz.sizeOf3
  v3 := Tryz.zeroValue3
  t9 := Tryz.underlying9
  a9 := Tryz.isAgg9
  z9 := Tryz.sizeOf9
  v9 := Tryz.zeroValue9
  t37 := Tryz.underlying36
  a37 := Tryz.isAgg36
  z37 := Tryz.sizeOf36
  v37 := Tryz.zeroValue36
  t70 := Tryz.underlying86
  a70 := Tryz.isAgg86
  z70 := Tryz.sizeOf86
  v70 := Tryz.zeroValue86
  t72 := Tryz.underlying88
  a72 := Tryz.isAgg88
  z72 := Tryz.sizeOf88
  v72 := Tryz.zeroValue88
  t127 := Tryz.underlying113
  a127 := Tryz.isAgg113
  z127 := Tryz.sizeOf113
  v127 := Tryz.zeroValue113 }
theorem Tryz.Builder_Extra_169 : Builder.Extra Tryz.prog Tryz.lays169_ren := {
  sizeBuilder := by kernel_rfl
  liesBuilder := by kernel_rfl
  t5 := Tryz.underlying5
  a5 := Tryz.isAgg5
  z5 := Tryz.sizeOf5
  v5 := Tryz.zeroValue5
  infoByte := by kernel_rfl
  cellsByte := by kernel_rfl
  sizeByte := by kernel_rfl
  neB5 := by decide }
open Go.RowKit in
theorem Tryz.Builder_WriteString_k (B b : Nat) (bs : List Value) (s : ByteArray) (w : World) (h : Lib.IsBuilderF 88 5 B b bs w) (hlen : bs.length + s.size ≤ 140737488355328) (hBw : B ≤ w.heap.size) :
    Calls Tryz.prog 39 #[.pointer (some ⟨b, 0, none⟩), .string s] w fun e w' => e = .returned (.tuple #[.int .i64 s.size, .nilIface]) ∧ (Lib.BuilderAtF 88 5 B b (.pointer (some ⟨b, 0, none⟩)) (bs ++ Lib.strCells s) w' ∧ Below B w w' ∧ Lib.OthersKept 5 (some b) w w') := Any.Builder_WriteString_k Tryz.lays166 Tryz.Builder_Extra_166 B b bs s w h hlen hBw
open Go.RowKit in
theorem Tryz.Builder_String_any_k (B b : Nat) (l : List UInt8) (w : World) (h : Lib.IsBuilderF 88 5 B b (Lib.byteCells l) w) (hBw : B ≤ w.heap.size) :
    Calls Tryz.prog 43 #[.pointer (some ⟨b, 0, none⟩)] w fun e w' => e = .returned (.string ⟨l.toArray⟩) ∧ (Lib.IsBuilderF 88 5 B b (Lib.byteCells l) w' ∧ Below B w w' ∧ Lib.OthersKept 5 (some b) w w') := Any.Builder_String_any_k Tryz.lays169 Tryz.Builder_Extra_169 B b l w h hBw
def Tryz.lays168_ren : Go.Shelf.Ren := ⟨fun | 168 => 40 | 240 => 65 | 242 => 66 | 276 => 102 | 278 => 103 | n => n, fun | 70 => 86 | 21 => 21 | 3 => 3 | 75 => 90 | 0 => 0 | 72 => 88 | 37 => 36 | 4 => 4 | 164 => 134 | 51 => 118 | 5 => 5 | 46 => 111 | 80 => 95 | 9 => 9 | 20 => 20 | n => n, fun | n => n⟩
theorem Tryz.lays168 : Go.Proofs.Lays.n168 Tryz.prog Tryz.lays168_ren := {
  mixed := by kernel_rfl
  f168 := Tryz.func40.trans (congrArg some (by kernel_rfl))
  f240 := Tryz.func65.trans (congrArg some (by kernel_rfl))
  f242 := Tryz.func66.trans (congrArg some (by kernel_rfl))
  f276 := Tryz.func102.trans (congrArg some (by kernel_rfl))
  f278 := Tryz.func103.trans (congrArg some (by kernel_rfl))
  t0 := Tryz.underlying0
  a0 := Tryz.isAgg0
  z0 := Tryz.sizeOf0
  v0 := Tryz.zeroValue0
  t3 := Tryz.underlying3
  a3 := Tryz.isAgg3
  z3 := Tryz.sizeOf3
  v3 := Tryz.zeroValue3
  t4 := Tryz.underlying4
  a4 := Tryz.isAgg4
  z4 := Tryz.sizeOf4
  v4 := Tryz.zeroValue4
  t5 := Tryz.underlying5
  a5 := Tryz.isAgg5
  z5 := Tryz.sizeOf5
  v5 := Tryz.zeroValue5
  t9 := Tryz.underlying9
  a9 := Tryz.isAgg9
  z9 := Tryz.sizeOf9
  v9 := Tryz.zeroValue9
  t20 := Tryz.underlying20
  a20 := Tryz.isAgg20
  z20 := Tryz.sizeOf20
  v20 := Tryz.zeroValue20
  t21 := Tryz.underlying21
  a21 := Tryz.isAgg21
  z21 := Tryz.sizeOf21
  v21 := Tryz.zeroValue21
  t37 := Tryz.underlying36
  a37 := Tryz.isAgg36
  z37 := Tryz.sizeOf36
  v37 := Tryz.zeroValue36
  t46 := Tryz.underlying111
  a46 := Tryz.isAgg111
  z46 := Tryz.sizeOf111
  v46 := Tryz.zeroValue111
  t51 := Tryz.underlying118
  a51 := Tryz.isAgg118
  z51 := Tryz.sizeOf118
  v51 := Tryz.zeroValue118
  t70 := Tryz.underlying86
  a70 := Tryz.isAgg86
  z70 := Tryz.sizeOf86
  v70 := Tryz.zeroValue86
  t72 := Tryz.underlying88
  a72 := Tryz.isAgg88
  z72 := Tryz.sizeOf88
  v72 := Tryz.zeroValue88
  t75 := Tryz.underlying90
  a75 := Tryz.isAgg90
  z75 := Tryz.sizeOf90
  v75 := Tryz.zeroValue90
  t164 := Tryz.underlying134
  a164 := Tryz.isAgg134
  z164 := Tryz.sizeOf134
  v164 := Tryz.zeroValue134 }
theorem Tryz.Builder_Extra_168 : Builder.Extra Tryz.prog Tryz.lays168_ren := {
  sizeBuilder := by kernel_rfl
  liesBuilder := by kernel_rfl
  t5 := Tryz.underlying5
  a5 := Tryz.isAgg5
  z5 := Tryz.sizeOf5
  v5 := Tryz.zeroValue5
  infoByte := by kernel_rfl
  cellsByte := by kernel_rfl
  sizeByte := by kernel_rfl
  neB5 := by decide }
open Go.RowKit in
theorem Tryz.Builder_WriteRune_k (B b : Nat) (bs : List Value) (r : Int) (hr0 : -2147483648 ≤ r) (hr1 : r ≤ 2147483647) (w : World) (h : Lib.IsBuilderF 88 5 B b bs w) (hlen : bs.length + 4 ≤ 140737488355328) (hBw : B ≤ w.heap.size) :
    Calls Tryz.prog 40 #[.pointer (some ⟨b, 0, none⟩), .int .i32 r] w fun e w' => e = .returned (.tuple #[.int .i64 (Lib.runeCells r).length, .nilIface]) ∧ (Lib.BuilderAtF 88 5 B b (.pointer (some ⟨b, 0, none⟩)) (bs ++ Lib.runeCells r) w' ∧ Below B w w' ∧ Lib.OthersKept 5 (some b) w w') := Any.Builder_WriteRune_k Tryz.lays168 Tryz.Builder_Extra_168 B b bs r hr0 hr1 w h hlen hBw
end Go.Proofs
namespace Go.Proofs.YtjlpecapebhgjaaGreatDoor.C
open Go.RowKit
set_option linter.unusedSimpArgs false
set_option linter.unusedVariables false

def upZ (r : Int) : Int := if r = 962 then 931 else if r = 383 then 83 else if r = 255 then 376 else r - qba r
def qbe (r : Int) : Int := if r = 376 then 255 else r + qfi r
set_option maxHeartbeats 1000000 in
theorem zzb (r : Int) (h0 : -2147483648 ≤ r) (h1 : r ≤ 2147483647) (w : World) :
    Calls Tryz.prog 42 #[.int .i32 r] w fun e w' => e = .returned (.int .i32 (upZ r)) ∧ w' = w := by
  have HC : Hid _ := qbb r
  have hb : -2147483648 ≤ r - qba r ∧ r - qba r ≤ 2147483647 := by
    have := HC.out
    omega
  go_enter Tryz.func42, Tryz.ntmps42
  go_wp2_with (go_at_call 68; refine (zgi _ _).mono ?_; rintro e w' ⟨rfl, rfl⟩)
  all_goals go_ret
  all_goals refine ⟨qec ?_, rfl⟩
  all_goals (unfold upZ; simp at *; first | omega | simp [*])

set_option maxHeartbeats 1000000 in
theorem zqa (r : Int) (h0 : -2147483648 ≤ r) (h1 : r ≤ 2147483647) (w : World) :
    Calls Tryz.prog 41 #[.int .i32 r] w fun e w' => e = .returned (.int .i32 (qbe r)) ∧ w' = w := by
  have hb : -2147483648 ≤ r + qfi r ∧ r + qfi r ≤ 2147483647 := by
    rw [qkd r h0 h1]
    have := qbc r
    unfold SmallAt at this
    omega
  go_enter Tryz.func41, Tryz.ntmps41
  go_wp2_with (go_at_call 67; refine (zed _ _).mono ?_; rintro e w' ⟨rfl, rfl⟩)
  all_goals go_ret
  all_goals refine ⟨qec ?_, rfl⟩
  all_goals (unfold qbe; simp at *; first | omega | simp [*])

def qej (r : Int) : List Int := if r = 223 then [115, 115] else [qbe (upZ r)]
def fold (l : List UInt8) : List UInt8 := encs ((runes l).flatMap qej)

theorem zzc (r : Int) (h0 : -2147483648 ≤ r) (h1 : r ≤ 2147483647) : -2147483648 ≤ upZ r ∧ upZ r ≤ 2147483647 := by
  have := qbb r
  unfold upZ
  repeat' split
  all_goals omega
theorem zqb (r : Int) (h0 : -2147483648 ≤ r) (h1 : r ≤ 2147483647) : -2147483648 ≤ qbe r ∧ qbe r ≤ 2147483647 := by
  have := qbc r
  unfold SmallAt at this
  unfold qbe
  rw [qkd r h0 h1]
  split <;> omega

/-- One step of a text that is gone through character by character. -/
theorem qta (s : ByteArray) (pos : Nat) (hp : pos < s.size) (F : Int → List Int) :
    encs ((runes (s.data.toList.drop pos)).flatMap F) = encs (F (Utf8.decode s pos).1) ++ encs ((runes (s.data.toList.drop (pos + (Utf8.decode s pos).2))).flatMap F) := by
  have hne : s.data.toList.drop pos ≠ [] := by
    intro h
    have := congrArg List.length h
    rw [List.length_drop, ← Lib.size_eq] at this
    simp at this
    omega
  rw [runes_step _ hne, Lib.decodeL_drop, List.drop_drop, List.flatMap_cons, encs_app]
theorem qpj (s : ByteArray) (pos : Nat) (hp : ¬ pos < s.size) (F : Int → List Int) : encs ((runes (s.data.toList.drop pos)).flatMap F) = [] := by
  have : s.data.toList.drop pos = [] := List.drop_eq_nil_of_le (by rw [← Lib.size_eq]; omega)
  rw [this]
  rfl
theorem qtb (s : ByteArray) (pos : Nat) (h : pos < s.size) : 1 ≤ (Utf8.decode s pos).2 := by
  by_cases ha : (s[pos]'h).toNat < 128
  · rw [decode_ascii s pos h ha]
    exact Nat.le_refl _
  · exact (decode_high s pos h (by omega)).2

set_option maxHeartbeats 4000000 in
set_option maxRecDepth 1000000 in
theorem fold_any (s : ByteArray) (w : World) (hs : s.size ≤ 35184372088832) :
    Calls Tryz.prog 23 #[.string s] w fun e w' => e = .returned (.string ⟨(fold s.data.toList).toArray⟩) ∧ Below w.heap.size w w' := by
  go_enter Tryz.func23, Tryz.ntmps23
  go_wp2
  go_loopw [] (fun wr => ∃ (pos : Nat) (acc : List UInt8), Lib.IsBuilderF 88 5 w.heap.size w.heap.size (Lib.byteCells acc) wr ∧ wr.heap[w.heap.size + 1]? = some (.stringIter s pos) ∧ Below w.heap.size w wr ∧ acc ++ encs ((runes (s.data.toList.drop pos)).flatMap qej) = fold s.data.toList ∧ acc.length ≤ 4 * pos) (fun wr => s.size - wr.iterPos (w.heap.size + 1))
  case atStart =>
    refine ⟨0, [], (Lib.IsBuilderF.of (Lib.fresh_isBuilder 88 5 w)).alloc _, ?_, ((Below.refl _ w).alloc (Nat.le_refl _) _).alloc (by simp) _, rfl, by simp⟩
    have := World.iter_heap (w.alloc (.cells #[.pointer none, .slice none 0 0] 88)) s 0
    simpa using this
  case round =>
    obtain ⟨pos, acc, hI, hit, hbw, hacc, hal⟩ := hrel
    have hsz : w.heap.size + 1 < wr.heap.size := (Array.getElem?_eq_some_iff.1 hit).1
    by_cases hp : pos < s.size
    · have hnx : ∀ ty, (Instr.next (.pointer (some ⟨w.heap.size + 1, 0, none⟩)) true ty).run Tryz.prog wr = _ := fun ty => Lib.run_next_any_at wr (w.heap.size + 1) s pos ty hit hp
      have hwd := qtb s pos hp
      have hd1 := decode_le s pos
      have hI2 := hI.iterAt hit (pos + (Utf8.decode s pos).2)
      have hit2 := Lib.iterAt_heap wr (w.heap.size + 1) s pos (pos + (Utf8.decode s pos).2) hit
      have hbw2 := Lib.below_iterAt hbw (k := w.heap.size + 1) (by omega) s (pos + (Utf8.decode s pos).2)
      have hsz2 : w.heap.size ≤ (wr.iterAt (w.heap.size + 1) s (pos + (Utf8.decode s pos).2)).heap.size := by rw [Lib.iterAt_size]; omega
      have HS : Hid _ := qta s pos hp qej
      have HA : Hid _ := hacc
      clear hacc
      by_cases h223 : (Utf8.decode s pos).1 = 223
      · go_wp2_with (go_at_call 39; refine (Tryz.Builder_WriteString_k w.heap.size w.heap.size _ ⟨#[115, 115]⟩ _ hI2 (by rw [Lib.byteCells_length]; show acc.length + 2 ≤ _; omega) hsz2).mono ?_)
        rintro e W1 ⟨rfl, h1, b1, k1⟩
        go_wp2
        go_roundw
        case rel =>
          refine ⟨pos + (Utf8.decode s pos).2, acc ++ [115, 115], ?_, k1.iter hit2 (by omega), hbw2.trans b1, ?_, by simp; omega⟩
          · rw [Lib.byteCells_append]; exact Or.inr h1
          · rw [← HA.out, HS.out, h223]; simp [qej]; rfl
        case measure =>
          simp only [World.iterPos, k1.iter hit2 (by omega), hit]
          omega
      · have hub := zzc ((Utf8.decode s pos).1 : Int) (by omega) (by omega)
        have hdb := zqb (upZ ((Utf8.decode s pos).1 : Int)) hub.1 hub.2
        go_wp2_with (first | (go_at_call 42; refine (zzb _ (by omega) (by omega) _).mono ?_; rintro e w' ⟨rfl, rfl⟩) | (go_at_call 41; refine (zqa _ (by omega) (by omega) _).mono ?_; rintro e w' ⟨rfl, rfl⟩) | (go_at_call 40; refine (Tryz.Builder_WriteRune_k w.heap.size w.heap.size _ _ (by omega) (by omega) _ hI2 (by rw [Lib.byteCells_length]; omega) hsz2).mono ?_))
        rintro e W1 ⟨rfl, h1, b1, k1⟩
        go_wp2
        go_roundw
        case rel =>
          have hl4 := encodeRune_len (qbe (upZ ((Utf8.decode s pos).1 : Int)))
          refine ⟨pos + (Utf8.decode s pos).2, acc ++ Lib.encodeRune (qbe (upZ (Utf8.decode s pos).1)), ?_, k1.iter hit2 (by omega), hbw2.trans b1, ?_, by simp; omega⟩
          · rw [Lib.byteCells_append, Lib.byteCells_encodeRune]; exact Or.inr h1
          · rw [← HA.out, HS.out]; have : ¬ ((Utf8.decode s pos).1 : Int) = 223 := by omega
            simp [qej, this, encs]
        case measure =>
          simp only [World.iterPos, k1.iter hit2 (by omega), hit]
          omega
    · have hnx : ∀ ty, (Instr.next (.pointer (some ⟨w.heap.size + 1, 0, none⟩)) true ty).run Tryz.prog wr = _ := fun ty => Lib.run_next_end_at wr (w.heap.size + 1) s pos ty hit hp
      rw [qpj s pos hp, List.append_nil] at hacc
      go_wp2_with (go_at_call 43; refine (Tryz.Builder_String_any_k w.heap.size w.heap.size acc _ hI (by omega)).mono ?_)
      rintro e W1 ⟨rfl, _, b1, _⟩
      go_wp2
      go_ret
      subst hacc
      exact ⟨rfl, hbw.trans b1⟩
theorem zkd (r : Int) : (encs (qej r)).length ≤ 4 := by
  unfold qej
  split
  · decide
  · rw [show encs [qbe (upZ r)] = Lib.encodeRune (qbe (upZ r)) from by simp [encs]]
    exact (encodeRune_len _).2
theorem zgj (s : ByteArray) : ∀ (n pos : Nat), s.size - pos ≤ n → (encs ((runes (s.data.toList.drop pos)).flatMap qej)).length ≤ 4 * n
  | 0, pos, h => by rw [qpj s pos (by omega)]; simp
  | n + 1, pos, h => by
    by_cases hp : pos < s.size
    · rw [qta s pos hp, List.length_append]
      have h1 := zkd ((Utf8.decode s pos).1 : Int)
      have h2 := qtb s pos hp
      have h3 := zgj s n (pos + (Utf8.decode s pos).2) (by omega)
      omega
    · rw [qpj s pos hp]; simp
theorem fold_len (l : List UInt8) : (fold l).length ≤ 4 * l.length := by
  have h := zgj ⟨l.toArray⟩ l.length 0 (by simp [ByteArray.size])
  simpa [fold] using h
end Go.Proofs.YtjlpecapebhgjaaGreatDoor.C
namespace Go.Proofs.YtjlpecapebhgjaaGreatDoor.G
open Go.RowKit
set_option linter.unusedVariables false
set_option linter.unusedSimpArgs false
set_option maxRecDepth 100000
theorem TeA_is1_3 : Is1 Tryz.prog 3 := ⟨⟨_, Tryz.underlying3, rfl⟩, by kernel_rfl⟩
theorem TeA_is1_9 : Is1 Tryz.prog 9 := ⟨⟨_, Tryz.underlying9, rfl⟩, by kernel_rfl⟩
theorem TeA_fld_38_0 : FieldAt Tryz.prog 38 0 0 := ⟨_, _, Tryz.underlying38, rfl, rfl, by kernel_rfl⟩
theorem TeA_fld_38_3 : FieldAt Tryz.prog 38 3 8 := ⟨_, _, Tryz.underlying38, rfl, rfl, by kernel_rfl⟩
theorem TeA_fld_69_1 : FieldAt Tryz.prog 69 1 1 := ⟨_, _, Tryz.underlying69, rfl, rfl, by kernel_rfl⟩
theorem TeA_isS_38 : IsS Tryz.prog 38 11 := ⟨⟨_, Tryz.underlying38⟩, by kernel_rfl⟩
def isK (k : Int) : Bool := (k == 1) || (k == 2) || (k == 3)
/-- A folded text as a datum. -/
def vw (s : ByteArray) : ByteArray := ⟨(C.fold s.data.toList).toArray⟩
def jy (s : ByteArray) : Dt := .mk ⟨5, 0, ⟨Q6.zero, none, 0, none, 0, none, 0, none, 0⟩, vw s, none, 0, [], none, 0⟩ []
def qqa (t : Tr) : Tr := .mk 5 0 Q6.zero (vw t.s) [] []
theorem zqc (s : ByteArray) : (jy s).tr = .mk 5 0 Q6.zero (vw s) [] [] := by unfold jy; rw [Dt.tr_mk]; rfl
theorem jbc (t : Dt) : t.tr.s = t.d.s := by cases t; rw [Dt.tr_mk]; rfl
theorem zqd (w : World) (s : ByteArray) (h : (vw s).size ≤ 9223372036854775807) : (jy s).rd w :=
 Dt.rd_iff.2 ⟨⟨⟨Sc.none w, Sc.none w, Sc.none w, Sc.none w⟩, qka, ⟨fun h => absurd rfl h⟩, Nat.le_refl _, by show (0 : Nat) ≤ _; omega, by show (-9223372036854775808 : Int) ≤ 5; omega, by show (5 : Int) ≤ 9223372036854775807; omega, by show (-9223372036854775808 : Int) ≤ 0; omega, by show (0 : Int) ≤ 9223372036854775807; omega, h⟩, Nat.le_refl _, by show (0 : Nat) ≤ _; omega, fun h => absurd rfl h, fun t h => by cases h⟩
theorem zqe (p : Nat → Prop) (s : ByteArray) : (jy s).at_ p :=
 Dt.at_iff.2 ⟨⟨fun h => absurd rfl h, fun h => absurd rfl h, fun h => absurd rfl h, fun h => absurd rfl h, fun h => absurd rfl h⟩, fun h => absurd rfl h, fun t h => by cases h⟩
/-- What a kind's marks are: how they are made, and of which keys. -/
structure Marks (kind : Int) (mk : Tr → Tr) (ok : Tr → Bool) : Prop where
 kd : isK kind = true
 run : ∀ {w : World} {t : Dt}, t.rd w → t.tr.bulk ≤ 4000000 → ok t.tr = true → Calls Tryz.prog 48 #[.int .i64 kind, .agg (t.d.cells t.ts.length).toArray] w fun e w' => ∃ m : Dt, e = .returned (.tuple #[.agg (m.d.cells m.ts.length).toArray, .int .i64 0]) ∧ (m.rd w' ∧ m.tr = mk t.tr ∧ MadeOf t m w) ∧ Below w.heap.size w w'
theorem zke (t : Dt) : t.d.s.size ≤ t.tr.bulk := by
 cases t; rw [Dt.tr_mk, yj]; simp only [Dt.d]; omega
theorem qqb {w : World} {k : Int} : Calls Tryz.prog 25 #[.int .i64 k] w fun e w' => e = .returned (.bool (isK k)) ∧ Below w.heap.size w w' := by
 have M : Mg w w ([]) := Mg.start w
 refine za (l := [(0, .int .i64 k)]) Tryz.func25 rfl Tryz.ntmps25 rfl rfl ?_
 intro Q hret hnorm hP a H
 refine wsk fun K1 hK1 => wrl (sda H λa H↦?_)
 refine qa (hK1 _ _ (wsk fun K2 hK2 => wrl (sdm H λa H↦?_)))
 rcases tf ((k == 1)) with hb3 | hb3
 ·
  have hb3' := eq_of_beq hb3
  refine sdc H qp hb3 λa H↦?_
  refine sdm H λa H↦?_
  iterate 2 refine zf H rfl rfl rfl λa H↦?_
  refine sdk (v := .bool true) H λa H↦?_
  refine sdm H λa H↦?_
  iterate 2 refine zf H rfl rfl rfl λa H↦?_
  refine sdk (v := .bool true) H λa H↦?_
  refine sda H λa H↦?_
  refine qa (hK2 _ _ (wp_ret (hret _ _ (en1 H rfl (ql rfl) ?_))))
  exact ⟨by unfold isK; simp_all, M.bel⟩
 ·
  have hb3' := ne_of_beq_false hb3
  refine sdc H qp hb3 λa H↦?_
  iterate 2 refine sdm H λa H↦?_
  rcases tf ((k == 2)) with hb4 | hb4
  ·
   have hb4' := eq_of_beq hb4
   refine sdc H qp hb4 λa H↦?_
   refine sdk (v := .bool true) H λa H↦?_
   refine sdm H λa H↦?_
   iterate 2 refine zf H rfl rfl rfl λa H↦?_
   refine sdk (v := .bool true) H λa H↦?_
   refine sda H λa H↦?_
   refine qa (hK2 _ _ (wp_ret (hret _ _ (en1 H rfl (ql rfl) ?_))))
   exact ⟨by unfold isK; simp_all, M.bel⟩
  ·
   have hb4' := ne_of_beq_false hb4
   refine sdc H qp hb4 λa H↦?_
   refine sdk (v := .bool false) H λa H↦?_
   iterate 2 refine sdm H λa H↦?_
   rcases tf ((k == 3)) with hb5 | hb5
   ·
    have hb5' := eq_of_beq hb5
    refine sdc H qp hb5 λa H↦?_
    refine sdk (v := .bool true) H λa H↦?_
    refine sda H λa H↦?_
    refine qa (hK2 _ _ (wp_ret (hret _ _ (en1 H rfl (ql rfl) ?_))))
    exact ⟨by unfold isK; simp_all, M.bel⟩
   ·
    have hb5' := ne_of_beq_false hb5
    refine sdc H qp hb5 λa H↦?_
    refine sdk (v := .bool false) H λa H↦?_
    refine sda H λa H↦?_
    refine qa (hK2 _ _ (wp_ret (hret _ _ (en1 H rfl (ql rfl) ?_))))
    exact ⟨by unfold isK; simp_all, M.bel⟩
theorem qkf {w : World} {h z : Int} : Calls Tryz.prog 27 #[.agg #[.int .u64 h, .int .i64 z]] w fun e w' => e = .returned (.bool (decide (0 ≤ z))) ∧ Below w.heap.size w w' := by
 have M : Mg w w ([]) := Mg.start w
 refine za (l := [(0, .agg #[.int .u64 h, .int .i64 z])]) Tryz.func27 rfl Tryz.ntmps27 rfl rfl ?_
 intro Q hret hnorm hP a H
 refine wsk fun K1 hK1 => wrl (jg (vs := [.int .u64 h, .int .i64 z]) (t := 69) H M rfl rfl rfl pg (zb rfl rfl) (by decide) ?_)
 intro g2 w3 M a H
 refine sda H λa H↦?_
 refine qa (hK1 _ _ (wsk fun K4 hK4 => wrl (sdo (v := .pointer (some ⟨g2, 1, none⟩)) H (qb TeA_fld_69_1 rfl rfl) λa H↦?_)))
 refine sdo H (qr M TeA_is1_3 rfl 0 rfl rfl) λa H↦?_
 refine sdo (v := .bool (decide (0 ≤ z))) H (qk rfl rfl kl) λa H↦?_
 refine sda H λa H↦?_
 refine qa (hK4 _ _ (wp_ret (hret _ _ (en1 H rfl (ql rfl) ?_))))
 exact ⟨rfl, M.bel⟩
theorem jah {w : World} {t : Dt} (hk : t.d.k = 5) (hs : t.d.s.size ≤ 4000000) : Calls Tryz.prog 73 #[.agg (t.d.cells t.ts.length).toArray] w fun e w' => e = .returned (.tuple #[.agg ((jy t.d.s).d.cells (jy t.d.s).ts.length).toArray, .int .i64 0]) ∧ Below w.heap.size w w' := by
 have M : Mg w w ([]) := Mg.start w
 refine za (l := [(0, .agg (t.d.cells t.ts.length).toArray)]) Tryz.func73 rfl Tryz.ntmps73 rfl rfl ?_
 intro Q hret hnorm hP a H
 refine wsk fun K1 hK1 => wrl (jg (vs := (t.d.cells t.ts.length)) (t := 38) H M rfl rfl rfl pg (zb rfl rfl) (by decide) ?_)
 intro g2 w3 M a H
 refine jg (vs := (qx.d.cells qx.ts.length)) (t := 38) H M rfl rfl rfl pg (qi (z := .agg (qx.d.cells qx.ts.length).toArray) (by kernel_rfl) rfl) (by decide) ?_
 intro g4 w5 M a H
 refine sda H λa H↦?_
 refine qa (hK1 _ _ (wsk fun K6 hK6 => wsk fun K7 hK7 => wrl (sdo (v := .pointer (some ⟨g2, 0, none⟩)) H (qb TeA_fld_38_0 rfl rfl) λa H↦?_)))
 refine sdo H (qr M TeA_is1_3 rfl 1 rfl rfl) λa H↦?_
 refine sdo (v := .bool false) H (qk rfl rfl (fun w => (jr w).trans (by rw [show ((t.d.k != 5)) = false from (bne_eq_false_iff_eq.2 hk)]))) λa H↦?_
 refine qa (hK7 _ _ (wp_cond_false (H.ev rfl) ?_))
 refine wp_skip (hK6 _ _ (wsk fun K8 hK8 => wrl (sdo (v := .pointer (some ⟨g2, 8, none⟩)) H (qb TeA_fld_38_3 rfl rfl) λa H↦?_)))
 refine sdo H (qr M TeA_is1_9 rfl 1 rfl rfl) λa H↦?_
 refine gcl H M (ef rfl rfl) (C.fold_any t.d.s _ (by omega)) fun w9 hbf M a H => ?_
 refine sdo (v := .agg #[.int .i64 5, .int .i64 0, .bool false, .slice none 0 0, .slice none 0 0, .bool false, .slice none 0 0, .slice none 0 0, .string (vw t.d.s), .slice none 0 0, .slice none 0 0]) H (zg rfl (fun w => by kernel_rfl)) λa H↦?_
 refine jc (us := [.int .i64 5, .int .i64 0, .bool false, .slice none 0 0, .slice none 0 0, .bool false, .slice none 0 0, .slice none 0 0, .string (vw t.d.s), .slice none 0 0, .slice none 0 0]) (L' := (.obj g4 (.cells #[.int .i64 5, .int .i64 0, .bool false, .slice none 0 0, .slice none 0 0, .bool false, .slice none 0 0, .slice none 0 0, .string (vw t.d.s), .slice none 0 0, .slice none 0 0] 38) :: .obj g2 (.cells (t.d.cells t.ts.length).toArray 38) :: [])) H M rfl rfl (ze rfl rfl rfl (by kernel_rfl) M 0 rfl rfl rfl) 0 rfl rfl rfl ?_
 intro w10 M
 refine sda H λa H↦?_
 refine qa (hK8 _ _ (wp_ret (hret _ _ (en2 H rfl (vq M TeA_isS_38 rfl 0 rfl (cs := [.int .i64 5, .int .i64 0, .bool false, .slice none 0 0, .slice none 0 0, .bool false, .slice none 0 0, .slice none 0 0, .string (vw t.d.s), .slice none 0 0, .slice none 0 0]) rfl rfl) (ql rfl) ?_))))
 exact ⟨rfl, M.bel⟩
theorem zqf {w : World} {t : Dt} (hk : t.d.k = 5) (hs : t.d.s.size ≤ 4000000) : Calls Tryz.prog 48 #[.int .i64 2, .agg (t.d.cells t.ts.length).toArray] w fun e w' => e = .returned (.tuple #[.agg ((jy t.d.s).d.cells (jy t.d.s).ts.length).toArray, .int .i64 0]) ∧ Below w.heap.size w w' := by
 have M : Mg w w ([]) := Mg.start w
 refine za (l := [(0, .int .i64 2), (1, .agg (t.d.cells t.ts.length).toArray)]) Tryz.func48 rfl Tryz.ntmps48 rfl rfl ?_
 intro Q hret hnorm hP a H
 refine wsk fun K1 hK1 => wrl (jg (vs := (t.d.cells t.ts.length)) (t := 38) H M rfl rfl rfl pg (zb rfl rfl) (by decide) ?_)
 intro g2 w3 M a H
 refine jg (vs := (qx.d.cells qx.ts.length)) (t := 38) H M rfl rfl rfl pg (qi (z := .agg (qx.d.cells qx.ts.length).toArray) (by kernel_rfl) rfl) (by decide) ?_
 intro g4 w5 M a H
 refine sda H λa H↦?_
 refine qa (hK1 _ _ (wsk fun K6 hK6 => wsk fun K7 hK7 => wrl (sdm H λa H↦?_)))
 refine qa (hK7 _ _ (wp_block (wsk fun K8 hK8 => wrl (sdo (v := .bool true) H (qk rfl rfl (fun w => by kernel_rfl)) λa H↦?_))))
 refine sda H λa H↦?_
 refine qa (hK8 _ _ (wp_cond_true (H.ev rfl) ?_))
 refine wsk fun K9 hK9 => wrl (sdo H (zl M TeA_isS_38 rfl 1 rfl (cs := (t.d.cells t.ts.length)) rfl rfl) λa H↦?_)
 refine gcl H M (ef rfl rfl) (jah hk hs) fun w10 hbm M a H => ?_
 iterate 2 refine sdo H (qh (vs := [.agg ((jy t.d.s).d.cells (jy t.d.s).ts.length).toArray, .int .i64 0]) rfl rfl) λa H↦?_
 refine jc (us := ((jy t.d.s).d.cells (jy t.d.s).ts.length)) (L' := (.obj g4 (.cells ((jy t.d.s).d.cells (jy t.d.s).ts.length).toArray 38) :: .obj g2 (.cells (t.d.cells t.ts.length).toArray 38) :: [])) H M rfl rfl (ze rfl rfl rfl (by kernel_rfl) M 0 rfl rfl rfl) 0 rfl rfl rfl ?_
 intro w11 M
 refine sda H λa H↦?_
 refine qa (hK9 _ _ (wp_ret (hret _ _ (en2 H rfl (vq M TeA_isS_38 rfl 0 rfl (cs := [.int .i64 ((jy t.d.s).d.k), .int .i64 ((jy t.d.s).d.n), .bool ((jy t.d.s).d.y.q.b1), .slice ((jy t.d.s).d.y.o1) ((jy t.d.s).d.y.q.t1.length) ((jy t.d.s).d.y.c1), .slice ((jy t.d.s).d.y.o2) ((jy t.d.s).d.y.q.q1.length) ((jy t.d.s).d.y.c2), .bool ((jy t.d.s).d.y.q.b2), .slice ((jy t.d.s).d.y.o3) ((jy t.d.s).d.y.q.t2.length) ((jy t.d.s).d.y.c3), .slice ((jy t.d.s).d.y.o4) ((jy t.d.s).d.y.q.q2.length) ((jy t.d.s).d.y.c4), .string ((jy t.d.s).d.s), .slice ((jy t.d.s).d.ro) ((jy t.d.s).d.rl.length) ((jy t.d.s).d.rc), .slice ((jy t.d.s).d.lo) ((jy t.d.s).ts.length) ((jy t.d.s).d.lc)]) rfl rfl) (ql rfl) ?_))))
 exact ⟨rfl, M.bel⟩
def isS (t : Tr) : Bool := t.k == 5
theorem zkf (s : ByteArray) (h : s.size ≤ 4000000) : (vw s).size ≤ 9223372036854775807 := by
 have := C.fold_len s.data.toList
 have h2 : (vw s).size = (C.fold s.data.toList).length := rfl
 have h3 : s.data.toList.length = s.size := (Lib.size_eq s).symm
 omega
theorem qqc : Marks 2 qqa isS := ⟨rfl, fun {w t} ht hb hs => by
  have hk : t.d.k = 5 := by unfold isS at hs; rw [zyc] at hs; exact beq_iff_eq.1 hs
  have hz : t.d.s.size ≤ 4000000 := Nat.le_trans (zke t) hb
  exact (zqf hk hz).mono fun e w' ⟨h, hb⟩ => ⟨_, h, ⟨zqd _ _ (zkf _ hz), by rw [zqc]; unfold qqa; rw [jbc], .inr (.inl (zqe _ _))⟩, hb⟩⟩
theorem TeB_is1_24 : Is1 Tryz.prog 24 := ⟨⟨_, Tryz.underlying24, rfl⟩, by kernel_rfl⟩
theorem TeB_is1_3 : Is1 Tryz.prog 3 := ⟨⟨_, Tryz.underlying3, rfl⟩, by kernel_rfl⟩
theorem TeB_is1_64 : Is1 Tryz.prog 64 := ⟨⟨_, Tryz.underlying64, rfl⟩, by kernel_rfl⟩
theorem TeB_fld_66_0 : FieldAt Tryz.prog 66 0 0 := ⟨_, _, Tryz.underlying66, rfl, rfl, by kernel_rfl⟩
theorem TeB_fld_66_1 : FieldAt Tryz.prog 66 1 1 := ⟨_, _, Tryz.underlying66, rfl, rfl, by kernel_rfl⟩
theorem TeB_fld_74_1 : FieldAt Tryz.prog 74 1 1 := ⟨_, _, Tryz.underlying74, rfl, rfl, by kernel_rfl⟩
theorem TeB_isS_38 : IsS Tryz.prog 38 11 := ⟨⟨_, Tryz.underlying38⟩, by kernel_rfl⟩
theorem TeB_isS_69 : IsS Tryz.prog 69 2 := ⟨⟨_, Tryz.underlying69⟩, by kernel_rfl⟩
theorem TeB_isS_74 : IsS Tryz.prog 74 23 := ⟨⟨_, Tryz.underlying74⟩, by kernel_rfl⟩
theorem zee {w : World} {so : Option Addr} {ca : Nat} {es : List Et} (hR : Rc w so (uz Et.c es)) (hl : es.length ≤ 1000000000) {f : FuncId} {cs : List Value} {p : Et → Bool} (hF : AskE Tryz.prog f cs w es p) : Calls Tryz.prog 50 #[.slice so es.length ca, .func (.func f) #[] cs.toArray] w fun e w' => e = .returned (.int .i64 (qch p es)) ∧ Below w.heap.size w w' := by
 have M : Mg w w ([]) := Mg.start w
 refine za (l := [(0, .slice so es.length ca), (1, .func (.func f) #[] cs.toArray)]) Tryz.func50 rfl Tryz.ntmps50 rfl rfl ?_
 intro Q hret hnorm hP a H
 refine wsk fun K1 hK1 => wrl (sda H λa H↦?_)
 refine qa (hK1 _ _ (wsk fun K2 hK2 => wsk fun K3 hK3 => wrl (sdm H λa H↦?_)))
 refine sdo H (zp Tryz.underlying75 rfl) λa H↦?_
 refine sdm H λa H↦?_
 refine qa (hK3 _ _ (wp_block (jv (fun m_ a w1 => ∃ (i : Nat), m_ = 1 + (es.length - i) ∧ (i ≤ es.length ∧ ∀ j u, j < i → es[j]? = some u → p u = false) ∧ Sl a 19 [(0, .slice so es.length ca), (1, .func (.func f) #[] cs.toArray), (6, .slice so es.length ca), (7, .int .i64 (((es.length : Nat) : Int))), (8, .int .i64 (((i : Nat) : Int)))] ∧ Mg w w1 ([])) _ ⟨0, rfl, ⟨Nat.zero_le _, fun j u h => absurd h (Nat.not_lt_zero _)⟩, H.keep _ ⟨rfl, rfl, rfl, rfl, rfl, trivial⟩, M⟩ ?_)))
 clear M H
 rintro m_ a w4 ⟨i, rfl, hinv6, H, M⟩ K5 hK5
 obtain ⟨hi0, hin9⟩ := hinv6
 refine wsk fun K7 hK7 => wrl ?_
 rcases tf (decide (((i : Nat) : Int) < ((es.length : Nat) : Int))) with hb8 | hb8
 ·
  have hb8' := of_decide_eq_true hb8
  refine sdc H zu hb8 λa H↦?_
  refine qa (hK7 _ _ (wsk fun K9 hK9 => wp_cond_true (H.ev rfl) ?_))
  refine wp_skip (hK9 _ _ (wsk fun K10 hK10 => wp_block (wsk fun K11 hK11 => wrl (sdm H λa H↦?_))))
  refine sda H λa H↦?_
  refine qa (hK11 _ _ (wsk fun K12 hK12 => ?_))
  obtain ⟨e, be, oe, ie, me, le, He⟩ := jae hR (i := i) (by omega)
  refine wrl ?_
  iterate 3 refine sdm H λa H↦?_
  refine sdo (v := .pointer (some ⟨be, oe + i * 23, none⟩)) H (jh (k := i) Tryz.underlying75 (by kernel_rfl) rfl rfl rfl le (by omega)) λa H↦?_
  refine sdo H (xg M He TeB_isS_74 rfl rfl) λa H↦?_
  rcases tf (p e) with hb13 | hb13
  ·
   refine kx H rfl rfl rfl (qdd rfl rfl hF.inv) ((hb13 ▸ hF.run e _ me M.bel)) ?_
   rintro _ w15 ⟨rfl, hb14⟩
   replace M := M.call hb14
   refine ⟨_, rfl, ?_⟩
   intro a H
   refine qa (hK12 _ _ (wp_cond_true (H.ev rfl) ?_))
   refine wsk fun K16 hK16 => wrl (sdm H λa H↦?_)
   refine sda H λa H↦?_
   refine qa (hK16 _ _ (wp_ret (hret _ _ (en1 H rfl (ql rfl) ?_))))
   exact ⟨by rw [qyj hin9 ie hb13], M.bel⟩
  ·
   refine kx H rfl rfl rfl (qdd rfl rfl hF.inv) ((hb13 ▸ hF.run e _ me M.bel)) ?_
   rintro _ w18 ⟨rfl, hb17⟩
   replace M := M.call hb17
   refine ⟨_, rfl, ?_⟩
   intro a H
   refine qa (hK12 _ _ (wp_cond_false (H.ev rfl) ?_))
   refine wp_skip (hK10 _ _ (wrl (sdo (v := .int .i64 (((i + 1 : Nat) : Int))) H (qk rfl rfl (fun w => (vg (yp (by omega) (by omega)) w).trans (by rw [show (((i : Nat) : Int) + 1 : Int) = ((i + 1 : Nat) : Int) from by omega]))) λa H↦?_)))
   refine sdm H λa H↦?_
   refine qa ?_
   replace M := M.sub (.refl _)
   refine hK5 _ _ _ (by omega) ⟨i + 1, rfl, ⟨by omega, fun j u hj hu => if h9 : j < i then hin9 j u h9 hu else by have h8 : j = i := (by omega); subst h8; rw [ie] at hu; rw [← Option.some.inj hu]; exact hb13⟩, H.keep _ ⟨rfl, rfl, rfl, rfl, rfl, trivial⟩, M⟩
 ·
  have hb8' := of_decide_eq_false hb8
  refine sdc H zu hb8 λa H↦?_
  refine qa (hK7 _ _ (wsk fun K19 hK19 => wp_cond_false (H.ev rfl) ?_))
  refine wp_exit (hK2 _ _ (wsk fun K20 hK20 => wrl (sda H λa H↦?_)))
  refine qa (hK20 _ _ (wp_ret (hret _ _ (en1 H rfl (ql rfl) ?_))))
  exact ⟨by rw [qse (fun j u hj => hin9 j u (by omega))], M.bel⟩
theorem zzd {kind : Int} {mk : Tr → Tr} {ok : Tr → Bool} (hK : Marks kind mk ok) {w : World} {g3 g8 g m count last : Nat} (h3 : w.heap[g3]? = some (.cells #[.pointer (some ⟨g, 0, none⟩)] 24)) (hg : w.heap[g]? = some (.cells #[.int .i64 kind, .map (some m), .int .i64 (((count : Nat) : Int)), .int .i64 (((last : Nat) : Int))] 66)) {u : Dt} (h8 : Here w g8 0 (u.d.cells u.ts.length)) (hu : u.rd w) {e : Et} (hek : e.k.rd w) (heb : e.k.tr.bulk ≤ 4000000) (hok : ok e.k.tr = true) (hT : Tabs8 w) : Calls Tryz.prog 51 #[.agg (xq e.p e.k e.v).toArray, .pointer (some ⟨g3, 0, none⟩), .pointer (some ⟨g8, 0, none⟩)] w fun r w' => r = .returned (.bool (ux u.tr (mk e.k.tr))) ∧ Below w.heap.size w w' := by
 have M : Mg w w ([]) := Mg.start w
 refine za (l := [(0, .agg (xq e.p e.k e.v).toArray), (1, .pointer (some ⟨g3, 0, none⟩)), (2, .pointer (some ⟨g8, 0, none⟩))]) Tryz.func51 rfl Tryz.ntmps51 rfl rfl ?_
 intro Q hret hnorm hP a H
 refine wsk fun K1 hK1 => wrl (jg (vs := (xq e.p e.k e.v)) (t := 74) H M rfl rfl rfl pg (zb rfl rfl) (by decide) ?_)
 intro g2 w3 M a H
 refine sda H λa H↦?_
 refine qa (hK1 _ _ (wsk fun K4 hK4 => ?_))
 have hJ5 : ∀ a w1, (∃ (m9 : Dt) (hmt9 : m9.tr = mk e.k.tr) (hm9 : m9.rd w1) (g9 : Nat), Sl a 20 [(0, .agg (xq e.p e.k e.v).toArray), (2, .pointer (some ⟨g8, 0, none⟩)), (4, .bool false), (5, .pointer (some ⟨g9, 0, none⟩)), (6, .int .i64 0)] ∧ Mg w w1 (.obj g9 (.cells (m9.d.cells m9.ts.length).toArray 38) :: .obj g2 (.cells (xq e.p e.k e.v).toArray 74) :: [])) → K4 a w1 := by
  clear H M
  rintro a w6 ⟨m9, hmt9, hm9, g9, H, M⟩
  refine hK4 _ _ (wsk fun K7 hK7 => wrl (sdo H (xg M h8 TeB_isS_38 rfl rfl) λa H↦?_))
  refine sdo H (zl M TeB_isS_38 rfl 0 rfl (cs := (m9.d.cells m9.ts.length)) rfl rfl) λa H↦?_
  refine gcl H M (ef rfl rfl) (qjd (Dt.keep M.bel _ hu) hm9 (hT.below M.bel)) fun w8 hbq M a H => ?_
  refine sda H λa H↦?_
  refine qa (hK7 _ _ (wp_ret (hret _ _ (en1 H rfl (ql rfl) ?_))))
  exact ⟨by rw [hmt9], M.bel⟩
 refine je (S := fun w1 => Mg w w1 (.obj g2 (.cells (xq e.p e.k e.v).toArray 74) :: [])) (by kernel_rfl) ?_
 replace M := M.drew
 refine qe H 0 rfl rfl rfl rfl hP (M.sub (cc (List.nil_sublist _))) (fun w1 M => uq M h3 TeB_is1_24 rfl rfl) λa H↦?_
 refine qe H 1 rfl rfl rfl rfl hP (M.sub (cc (List.nil_sublist _))) (fun w1 M => jm rfl) λa H↦?_
 refine qe (v := .pointer (some ⟨g, 0, none⟩)) H 2 rfl rfl rfl rfl hP (M.sub (cc (List.nil_sublist _))) (fun w1 M => qb TeB_fld_66_0 rfl rfl) λa H↦?_
 refine qe H 3 rfl rfl rfl rfl hP (M.sub (cc (List.nil_sublist _))) (fun w1 M => uq M hg TeB_is1_3 rfl rfl) λa H↦?_
 refine qe (v := .pointer (some ⟨g2, 1, none⟩)) H 4 rfl rfl rfl rfl hP (M.sub (cc (List.nil_sublist _))) (fun w1 M => qb TeB_fld_74_1 rfl rfl) λa H↦?_
 refine qe H 5 rfl rfl rfl rfl hP (M.sub (cc (List.nil_sublist _))) (fun w1 M => zl M TeB_isS_38 rfl 0 rfl (cs := (e.k.d.cells e.k.ts.length)) rfl rfl) λa H↦?_
 refine zk (rs := [6, 10]) (by kernel_rfl) (by simp) ⟨?_, ?_, trivial⟩
 ·
  have hM0_ := M
  refine qm H 6 rfl rfl rfl rfl (qg rfl rfl (fun w => by kernel_rfl)) (hK.run (Dt.keep M.bel _ hek) heb hok) ?_
  rintro _ w14 ⟨m9, rfl, ⟨hmr10, hmt11, hmo12⟩, hb13⟩
  replace M := M.call hb13
  refine ⟨_, rfl, (M.sub (cc (List.nil_sublist _))), ?_⟩
  intro a H
  refine qe H 7 rfl rfl rfl rfl hP (M.sub (cc (List.nil_sublist _))) (fun w1 M => qz rfl) λa H↦?_
  refine qe (v := .agg (m9.d.cells m9.ts.length).toArray) H 8 rfl rfl rfl rfl hP (M.sub (cc (List.nil_sublist _))) (fun w1 M => qh (vs := [.agg (m9.d.cells m9.ts.length).toArray, .int .i64 0]) rfl rfl) λa H↦?_
  refine qe (v := .int .i64 0) H 9 rfl rfl rfl rfl hP (M.sub (cc (List.nil_sublist _))) (fun w1 M => qh (vs := [.agg (m9.d.cells m9.ts.length).toArray, .int .i64 0]) rfl rfl) λa H↦?_
  refine qf (by kernel_rfl) (xr (vs := (qx.d.cells qx.ts.length)) (t := 38) H M 10 rfl rfl rfl rfl pg (qi (z := .agg (qx.d.cells qx.ts.length).toArray) (by kernel_rfl) rfl) (by decide) ?_)
  intro g15 w16 M hg17 hb18
  have hn9 := Dt.at_mono (q := (· ≠ g15)) (fun b hb => by intro e; omega) _ (Dt.at_lt _ hmr10)
  replace hmr10 := Dt.keep hb18 _ hmr10
  refine ⟨(M.sub (cn (cc (List.nil_sublist _)))), ?_⟩
  intro a H
  refine qf (by kernel_rfl) (jd (us := (m9.d.cells m9.ts.length)) (L' := (.obj g15 (.cells (m9.d.cells m9.ts.length).toArray 38) :: .obj g2 (.cells (xq e.p e.k e.v).toArray 74) :: [])) H M 11 rfl rfl rfl (ze rfl rfl rfl (by kernel_rfl) M 0 rfl rfl rfl) 0 rfl rfl rfl ?_)
  intro w19 M hK20
  replace hmr10 := Dt.kept hK20 _ hmr10 hn9
  refine ⟨(M.sub (cn (cc (List.nil_sublist _)))), ?_⟩
  refine qe H 12 rfl rfl rfl rfl hP (M.sub (cn (cc (List.nil_sublist _)))) (fun w1 M => zh rfl) λa H↦?_
  refine qy (by kernel_rfl) ?_
  exact hJ5 _ _ ⟨m9, hmt11, hmr10, g15, H.keep _ ⟨rfl, rfl, rfl, rfl, rfl, trivial⟩, M⟩
 ·
  refine xr (vs := (qx.d.cells qx.ts.length)) (t := 38) H M 10 rfl rfl rfl rfl pg (qi (z := .agg (qx.d.cells qx.ts.length).toArray) (by kernel_rfl) rfl) (by decide) ?_
  intro g21 w22 M hg23 hb24
  refine ⟨(M.sub (cn (cc (List.nil_sublist _)))), ?_⟩
  intro a H
  have hM0_ := M
  refine qf (by kernel_rfl) (qm H 6 rfl rfl rfl rfl (qg rfl rfl (fun w => by kernel_rfl)) (hK.run (Dt.keep M.bel _ hek) heb hok) ?_)
  rintro _ w30 ⟨m25, rfl, ⟨hmr26, hmt27, hmo28⟩, hb29⟩
  have hn9 := qoe hM0_ 0 (vs := (qx.d.cells qx.ts.length)) rfl rfl hek hmo28 hb29 hmr26
  replace M := M.call hb29
  refine ⟨_, rfl, (M.sub (cn (cc (List.nil_sublist _)))), ?_⟩
  intro a H
  refine qe H 7 rfl rfl rfl rfl hP (M.sub (cn (cc (List.nil_sublist _)))) (fun w1 M => qz rfl) λa H↦?_
  refine qe (v := .agg (m25.d.cells m25.ts.length).toArray) H 8 rfl rfl rfl rfl hP (M.sub (cn (cc (List.nil_sublist _)))) (fun w1 M => qh (vs := [.agg (m25.d.cells m25.ts.length).toArray, .int .i64 0]) rfl rfl) λa H↦?_
  refine qe (v := .int .i64 0) H 9 rfl rfl rfl rfl hP (M.sub (cn (cc (List.nil_sublist _)))) (fun w1 M => qh (vs := [.agg (m25.d.cells m25.ts.length).toArray, .int .i64 0]) rfl rfl) λa H↦?_
  refine qf (by kernel_rfl) (jd (us := (m25.d.cells m25.ts.length)) (L' := (.obj g21 (.cells (m25.d.cells m25.ts.length).toArray 38) :: .obj g2 (.cells (xq e.p e.k e.v).toArray 74) :: [])) H M 11 rfl rfl rfl (ze rfl rfl rfl (by kernel_rfl) M 0 rfl rfl rfl) 0 rfl rfl rfl ?_)
  intro w31 M hK32
  replace hmr26 := Dt.kept hK32 _ hmr26 hn9
  refine ⟨(M.sub (cn (cc (List.nil_sublist _)))), ?_⟩
  refine qe H 12 rfl rfl rfl rfl hP (M.sub (cn (cc (List.nil_sublist _)))) (fun w1 M => zh rfl) λa H↦?_
  refine qy (by kernel_rfl) ?_
  exact hJ5 _ _ ⟨m25, hmt27, hmr26, g21, H.keep _ ⟨rfl, rfl, rfl, rfl, rfl, trivial⟩, M⟩
/-- A table as it lies in memory. -/
structure Tab (w : World) (ok : Tr → Bool) (g : Nat) (kind : Int) (m count last ck : Nat) (bs : List Bk) : Prop where
 obj : w.heap[g]? = some (.cells #[.int .i64 kind, .map (some m), .int .i64 (((count : Nat) : Int)), .int .i64 (((last : Nat) : Int))] 66)
 map : w.heap[m]? = some (xw (bs.map Bk.en) ck)
 row : ∀ x ∈ bs, Rc w x.so (uz Et.c x.es)
 key : ∀ x ∈ bs, ∀ e ∈ x.es, e.k.rd w ∧ e.k.tr.bulk ≤ 4000000 ∧ ok e.k.tr = true ∧ e.v.rd w ∧ e.v.tr.bulk ≤ 4000000
 len : ∀ x ∈ bs, x.es.length ≤ 1000000
theorem Tab.below {w w' : World} {ok : Tr → Bool} {g : Nat} {kind : Int} {m count last ck : Nat} {bs : List Bk} (h : Tab w ok g kind m count last ck bs) (hb : Below w.heap.size w w') : Tab w' ok g kind m count last ck bs :=
 ⟨vd h.obj hb, vd h.map hb, fun x hx => (h.row x hx).below hb, fun x hx e he => have k := h.key x hx e he; ⟨Dt.keep hb _ k.1, k.2.1, k.2.2.1, Dt.keep hb _ k.2.2.2.1, k.2.2.2.2⟩, h.len⟩
theorem zac {w0 w : World} {L : List Ck} {ok : Tr → Bool} {g : Nat} {kind : Int} {m count last ck : Nat} {bs : List Bk} (hb : Tab w0 ok g kind m count last ck bs) (M : Mg w0 w L) (z : Int) : ∃ so ca es, es = vu bs z ∧ Rc w0 so (uz Et.c es) ∧ (∀ e ∈ es, e.k.rd w0 ∧ e.k.tr.bulk ≤ 4000000 ∧ ok e.k.tr = true ∧ e.v.rd w0 ∧ e.v.tr.bulk ≤ 4000000) ∧ es.length ≤ 1000000 ∧ ∀ {l : List (Nat × Value)} {dst : Option Tmp} {ty : TypeId} {pos : String} {after : Array Edge} {guard : Option (Nat × Bool)} {x y : Operand}, ev l x = some (.map (some m)) → ev l y = some (.int .u64 z) → Does Tryz.prog l ⟨dst, .lookup 64 x y false, ty, pos, after, guard⟩ w (.slice so es.length ca) w := by
 cases h : bs.find? (fun x => decide (x.h = z)) with
 | none => exact ⟨none, 0, [], by unfold vu; rw [h], fun k => absurd rfl k, (fun e he => by cases he), (by simp), fun hx hy => zyf (vd hb.map M.bel) Tryz.underlying64 Tryz.underlying67 (zv := .slice none 0 0) (by kernel_rfl) hx hy (by rw [qmg, h]; rfl) rfl⟩
 | some x =>
  have hx := List.mem_of_find?_eq_some h
  exact ⟨x.so, x.ca, x.es, by unfold vu; rw [h], hb.row x hx, hb.key x hx, hb.len x hx, fun hx hy => zye (vd hb.map M.bel) Tryz.underlying64 Tryz.underlying67 hx hy (by rw [qmg, h]; rfl) rfl⟩
theorem zvc {w : World} {t : Dt} (ht : t.rd w) (hT : Tabs8 w) : Calls Tryz.prog 47 #[.agg (t.d.cells t.ts.length).toArray] w fun e w' => e = .returned (.bool (!zx zq t.tr)) ∧ Below w.heap.size w w' := by
 have M : Mg w w ([]) := Mg.start w
 refine za (l := [(0, .agg (t.d.cells t.ts.length).toArray)]) Tryz.func47 rfl Tryz.ntmps47 rfl rfl ?_
 intro Q hret hnorm hP a H
 refine wsk fun K1 hK1 => wrl (jg (vs := (t.d.cells t.ts.length)) (t := 38) H M rfl rfl rfl pg (zb rfl rfl) (by decide) ?_)
 intro g2 w3 M a H
 refine sda H λa H↦?_
 refine qa (hK1 _ _ (wsk fun K4 hK4 => wrl (sdo H (zl M TeB_isS_38 rfl 0 rfl (cs := (t.d.cells t.ts.length)) rfl rfl) λa H↦?_)))
 rcases tf (zx zq t.tr) with hb5 | hb5
 ·
  refine gcl H M (ef rfl rfl) ((hb5 ▸ sound_any (t := t) (Dt.keep M.bel _ ht) (hT.below M.bel))) fun w7 hb6 M a H => ?_
  refine sdo (v := .bool false) H (zw rfl ji) λa H↦?_
  refine sda H λa H↦?_
  refine qa (hK4 _ _ (wp_ret (hret _ _ (en1 H rfl (ql rfl) ?_))))
  exact ⟨by simp_all, M.bel⟩
 ·
  refine gcl H M (ef rfl rfl) ((hb5 ▸ sound_any (t := t) (Dt.keep M.bel _ ht) (hT.below M.bel))) fun w9 hb8 M a H => ?_
  refine sdo (v := .bool true) H (zw rfl ji) λa H↦?_
  refine sda H λa H↦?_
  refine qa (hK4 _ _ (wp_ret (hret _ _ (en1 H rfl (ql rfl) ?_))))
  exact ⟨by simp_all, M.bel⟩
theorem zqg {w : World} {ts : List Dt} (hD : ∀ t ∈ ts, t.rd w) (hT : Tabs8 w) : Asks Tryz.prog 47 [] w ts (fun t => !zx zq t.tr) := ⟨fun us w => by kernel_rfl, fun t w1 ht hb => zvc (Dt.keep hb _ (hD t ht)) (hT.below hb)⟩
theorem qwc {kind : Int} {mk : Tr → Tr} {ok : Tr → Bool} (hK : Marks kind mk ok) {w : World} {g m count last ck : Nat} {bs : List Bk} (hB : Tab w ok g kind m count last ck bs) {t : Dt} (ht : t.rd w) (htb : t.tr.bulk ≤ 4000000) (hT : Tabs8 w) {so : Option Addr} {ca : Nat} {ts : List Dt} (hR : Rt w so ts) (hD : ∀ t ∈ ts, t.rd w) (hl : ts.length ≤ 1000000000) (hs : zx zq t.tr = true) (hu : (ts.any fun t => !zx zq t.tr) = false) (hok : ok t.tr = true) : Calls Tryz.prog 26 #[.pointer (some ⟨g, 0, none⟩), .agg (t.d.cells t.ts.length).toArray, .slice so ts.length ca] w fun e w' => e = .returned (.tuple #[.agg #[.int .u64 (xd (mk t.tr)), .int .i64 (qch (fun e => ux (mk t.tr) (mk e.k.tr)) (vu bs (xd (mk t.tr))))], .int .i64 0]) ∧ Below w.heap.size w w' := by
 have M : Mg w w ([]) := Mg.start w
 refine za (l := [(0, .pointer (some ⟨g, 0, none⟩)), (1, .agg (t.d.cells t.ts.length).toArray), (2, .slice so ts.length ca)]) Tryz.func26 rfl Tryz.ntmps26 rfl rfl ?_
 intro Q hret hnorm hP a H
 refine wsk fun K1 hK1 => wrl (jg (vs := [.pointer (some ⟨g, 0, none⟩)]) (t := 24) H M rfl rfl rfl pg (zb rfl rfl) (by decide) ?_)
 intro g2 w3 M a H
 refine jg (vs := (t.d.cells t.ts.length)) (t := 38) H M rfl rfl rfl pg (zb rfl rfl) (by decide) ?_
 intro g4 w5 M a H
 refine jg (vs := [.int .u64 0, .int .i64 0]) (t := 69) H M rfl rfl rfl pg (qi (z := .agg #[.int .u64 0, .int .i64 0]) (by kernel_rfl) rfl) (by decide) ?_
 intro g6 w7 M a H
 refine sda H λa H↦?_
 refine qa (hK1 _ _ (wsk fun K8 hK8 => wp_block (wsk fun K9 hK9 => wrl (sdo H (qr M TeB_is1_24 rfl 2 rfl rfl) λa H↦?_))))
 refine sdo (v := .bool false) H (qk rfl rfl (qia Tryz.underlying24)) λa H↦?_
 refine sdm H λa H↦?_
 refine sdo H (qr M TeB_is1_24 rfl 2 rfl rfl) λa H↦?_
 refine sdo H (jm rfl) λa H↦?_
 refine sdo (v := .pointer (some ⟨g, 0, none⟩)) H (qb TeB_fld_66_0 rfl rfl) λa H↦?_
 refine sdo H (uq M hB.obj TeB_is1_3 rfl rfl) λa H↦?_
 refine gcl H M (ef rfl rfl) ((hK.kd ▸ qqb)) fun w10 hbk M a H => ?_
 refine sdo (v := .bool false) H (zw rfl ji) λa H↦?_
 refine sdk (v := .bool false) H λa H↦?_
 refine sda H λa H↦?_
 refine qa (hK9 _ _ (wp_cond_false (H.ev rfl) ?_))
 refine wsk fun K11 hK11 => wrl (sdo H (zl M TeB_isS_38 rfl 1 rfl (cs := (t.d.cells t.ts.length)) rfl rfl) λa H↦?_)
 refine gcl H M (ef rfl rfl) ((hs ▸ sound_any (t := t) (Dt.keep M.bel _ ht) (hT.below M.bel))) fun w12 hbs M a H => ?_
 refine sdo (v := .bool false) H (zw rfl ji) λa H↦?_
 iterate 2 refine sdm H λa H↦?_
 refine gcl H M (ef rfl rfl) ((hu ▸ qvc (cs := []) (hR.below M.bel) (fun t ht => Dt.keep M.bel _ (hD t ht)) hl (zqg (fun t ht => Dt.keep M.bel _ (hD t ht)) (hT.below M.bel)))) fun w13 hbc M a H => ?_
 refine sdk (v := .bool false) H λa H↦?_
 refine sda H λa H↦?_
 refine qa (hK11 _ _ (wp_cond_false (H.ev rfl) ?_))
 refine wp_skip (hK8 _ _ (wsk fun K14 hK14 => ?_))
 have hJ15 : ∀ a w1, (∃ (m9 : Dt) (hmt9 : m9.tr = mk t.tr) (hm9 : m9.rd w1) (g9 : Nat), Sl a 59 [(0, .pointer (some ⟨g, 0, none⟩)), (1, .agg (t.d.cells t.ts.length).toArray), (2, .slice so ts.length ca), (3, .pointer (some ⟨g2, 0, none⟩)), (4, .pointer (some ⟨g4, 0, none⟩)), (6, .pointer (some ⟨g6, 0, none⟩)), (7, .int .i64 0), (8, .pointer (some ⟨g9, 0, none⟩)), (9, .int .i64 0), (12, .bool false), (13, .pointer (some ⟨g, 0, none⟩)), (14, .bool false), (15, .bool false), (16, .pointer (some ⟨g, 0, none⟩)), (17, .pointer (some ⟨g, 0, none⟩)), (18, .pointer (some ⟨g, 0, none⟩)), (19, .int .i64 kind), (20, .bool true), (21, .bool false), (22, .bool false), (24, .bool false), (25, .agg (t.d.cells t.ts.length).toArray), (26, .bool true), (27, .bool false), (28, .bool false), (29, .slice so ts.length ca), (30, .bool false), (31, .bool false)] ∧ Mg w w1 (.obj g9 (.cells (m9.d.cells m9.ts.length).toArray 38) :: .obj g6 (.cells #[.int .u64 0, .int .i64 0] 69) :: .obj g4 (.cells (t.d.cells t.ts.length).toArray 38) :: .obj g2 (.cells #[.pointer (some ⟨g, 0, none⟩)] 24) :: [])) → K14 a w1 := by
  clear H M
  rintro a w16 ⟨m9, hmt9, hm9, g9, H, M⟩
  refine hK14 _ _ (wsk fun K17 hK17 => wsk fun K18 hK18 => wrl (sdm H λa H↦?_))
  refine sdo (v := .bool false) H (qk rfl rfl (fun w => by kernel_rfl)) λa H↦?_
  refine qa (hK18 _ _ (wp_cond_false (H.ev rfl) ?_))
  refine wp_skip (hK17 _ _ (wsk fun K19 hK19 => wrl (sdo H (zl M TeB_isS_38 rfl 0 rfl (cs := (m9.d.cells m9.ts.length)) rfl rfl) λa H↦?_)))
  refine sct H (ef rfl rfl) (zpj hm9 (hT.below M.bel)) ?_
  rintro _ w20 ⟨rfl, hbh⟩
  replace hm9 := Dt.keep hbh _ hm9
  replace M := M.call hbh
  refine ⟨_, rfl, ?_⟩
  intro a H
  refine sda H λa H↦?_
  refine qa (hK19 _ _ (wsk fun K21 hK21 => wrl (sdo H (qr M TeB_is1_24 rfl 3 rfl rfl) λa H↦?_)))
  refine sdo H (jm rfl) λa H↦?_
  refine sdo (v := .pointer (some ⟨g, 1, none⟩)) H (qb TeB_fld_66_1 rfl rfl) λa H↦?_
  refine sdo H (uq M hB.obj TeB_is1_64 rfl rfl) λa H↦?_
  refine sdm H λa H↦?_
  obtain ⟨so9, ca9, es9, he9, hr9, hk9, hn9, hL9⟩ := zac hB M (xd m9.tr)
  refine sdo (v := .slice so9 es9.length ca9) H (hL9 rfl rfl) λa H↦?_
  refine sdo (v := .func (.func 51) #[] [.pointer (some ⟨g2, 0, none⟩), .pointer (some ⟨g9, 0, none⟩)].toArray) H (qqj rfl) λa H↦?_
  refine gcl H M (ef rfl rfl) (zee (cs := [.pointer (some ⟨g2, 0, none⟩), .pointer (some ⟨g9, 0, none⟩)]) (p := fun e => ux m9.tr (mk e.k.tr)) (hr9.below M.bel) (by omega) ⟨fun us w => by kernel_rfl, fun e w1 he hb => zzd hK (vd (M.obj 3 rfl) hb) (vd (vd hB.obj M.bel) hb) ((M.here 0 (cs := m9.d.cells m9.ts.length) rfl).below hb) (Dt.keep hb _ hm9) (Dt.keep hb _ (Dt.keep M.bel _ (hk9 e he).1)) (hk9 e he).2.1 (hk9 e he).2.2.1 ((hT.below M.bel).below hb)⟩) fun w22 hbi M a H => ?_
  refine sda H λa H↦?_
  refine qa (hK21 _ _ (wsk fun K23 hK23 => wrl ?_))
  iterate 2 refine sdm H λa H↦?_
  refine sdo (v := .agg #[.int .u64 (xd m9.tr), .int .i64 (qch (fun e => ux m9.tr (mk e.k.tr)) es9)]) H (zg rfl (fun w => by kernel_rfl)) λa H↦?_
  refine jc (us := [.int .u64 (xd m9.tr), .int .i64 (qch (fun e => ux m9.tr (mk e.k.tr)) es9)]) (L' := (.obj g9 (.cells (m9.d.cells m9.ts.length).toArray 38) :: .obj g6 (.cells #[.int .u64 (xd m9.tr), .int .i64 (qch (fun e => ux m9.tr (mk e.k.tr)) es9)] 69) :: .obj g4 (.cells (t.d.cells t.ts.length).toArray 38) :: .obj g2 (.cells #[.pointer (some ⟨g, 0, none⟩)] 24) :: [])) H M rfl rfl (ze rfl rfl rfl (by kernel_rfl) M 1 rfl rfl rfl) 1 rfl rfl rfl ?_
  intro w24 M
  refine sda H λa H↦?_
  refine qa (hK23 _ _ (wp_ret (hret _ _ (en2 H rfl (vq M TeB_isS_69 rfl 1 rfl (cs := [.int .u64 (xd m9.tr), .int .i64 (qch (fun e => ux m9.tr (mk e.k.tr)) es9)]) rfl rfl) (ql rfl) ?_))))
  exact ⟨by rw [he9, hmt9], M.bel⟩
 refine je (S := fun w1 => Mg w w1 (.obj g4 (.cells (t.d.cells t.ts.length).toArray 38) :: .obj g2 (.cells #[.pointer (some ⟨g, 0, none⟩)] 24) :: [])) (by kernel_rfl) ?_
 replace M := M.drew
 refine qe H 0 rfl rfl rfl rfl hP (M.sub (cn (cc (cc (List.nil_sublist _))))) (fun w1 M => qr M TeB_is1_24 rfl 1 rfl rfl) λa H↦?_
 refine qe H 1 rfl rfl rfl rfl hP (M.sub (cn (cc (cc (List.nil_sublist _))))) (fun w1 M => jm rfl) λa H↦?_
 refine qe (v := .pointer (some ⟨g, 0, none⟩)) H 2 rfl rfl rfl rfl hP (M.sub (cn (cc (cc (List.nil_sublist _))))) (fun w1 M => qb TeB_fld_66_0 rfl rfl) λa H↦?_
 refine qe H 3 rfl rfl rfl rfl hP (M.sub (cn (cc (cc (List.nil_sublist _))))) (fun w1 M => uq M hB.obj TeB_is1_3 rfl rfl) λa H↦?_
 refine qe H 4 rfl rfl rfl rfl hP (M.sub (cn (cc (cc (List.nil_sublist _))))) (fun w1 M => zl M TeB_isS_38 rfl 0 rfl (cs := (t.d.cells t.ts.length)) rfl rfl) λa H↦?_
 refine zk (rs := [5, 9]) (by kernel_rfl) (by simp) ⟨?_, ?_, trivial⟩
 ·
  have hM0_ := M
  refine qm H 5 rfl rfl rfl rfl (qg rfl rfl (fun w => by kernel_rfl)) (hK.run (Dt.keep M.bel _ ht) htb hok) ?_
  rintro _ w30 ⟨m25, rfl, ⟨hmr26, hmt27, hmo28⟩, hb29⟩
  replace M := M.call hb29
  refine ⟨_, rfl, (M.sub (cn (cc (cc (List.nil_sublist _))))), ?_⟩
  intro a H
  refine qe H 6 rfl rfl rfl rfl hP (M.sub (cn (cc (cc (List.nil_sublist _))))) (fun w1 M => qz rfl) λa H↦?_
  refine qe (v := .agg (m25.d.cells m25.ts.length).toArray) H 7 rfl rfl rfl rfl hP (M.sub (cn (cc (cc (List.nil_sublist _))))) (fun w1 M => qh (vs := [.agg (m25.d.cells m25.ts.length).toArray, .int .i64 0]) rfl rfl) λa H↦?_
  refine qe (v := .int .i64 0) H 8 rfl rfl rfl rfl hP (M.sub (cn (cc (cc (List.nil_sublist _))))) (fun w1 M => qh (vs := [.agg (m25.d.cells m25.ts.length).toArray, .int .i64 0]) rfl rfl) λa H↦?_
  refine qf (by kernel_rfl) (xr (vs := (qx.d.cells qx.ts.length)) (t := 38) H M 9 rfl rfl rfl rfl pg (qi (z := .agg (qx.d.cells qx.ts.length).toArray) (by kernel_rfl) rfl) (by decide) ?_)
  intro g31 w32 M hg33 hb34
  have hn9 := Dt.at_mono (q := (· ≠ g31)) (fun b hb => by intro e; omega) _ (Dt.at_lt _ hmr26)
  replace hmr26 := Dt.keep hb34 _ hmr26
  refine ⟨(M.sub (cn (cn (cc (cc (List.nil_sublist _)))))), ?_⟩
  intro a H
  refine qf (by kernel_rfl) (jd (us := (m25.d.cells m25.ts.length)) (L' := (.obj g31 (.cells (m25.d.cells m25.ts.length).toArray 38) :: .obj g6 (.cells #[.int .u64 0, .int .i64 0] 69) :: .obj g4 (.cells (t.d.cells t.ts.length).toArray 38) :: .obj g2 (.cells #[.pointer (some ⟨g, 0, none⟩)] 24) :: [])) H M 10 rfl rfl rfl (ze rfl rfl rfl (by kernel_rfl) M 0 rfl rfl rfl) 0 rfl rfl rfl ?_)
  intro w35 M hK36
  replace hmr26 := Dt.kept hK36 _ hmr26 hn9
  refine ⟨(M.sub (cn (cn (cc (cc (List.nil_sublist _)))))), ?_⟩
  refine qe H 11 rfl rfl rfl rfl hP (M.sub (cn (cn (cc (cc (List.nil_sublist _)))))) (fun w1 M => zh rfl) λa H↦?_
  refine qy (by kernel_rfl) ?_
  exact hJ15 _ _ ⟨m25, hmt27, hmr26, g31, H.keep _ (by repeat' constructor), M⟩
 ·
  refine xr (vs := (qx.d.cells qx.ts.length)) (t := 38) H M 9 rfl rfl rfl rfl pg (qi (z := .agg (qx.d.cells qx.ts.length).toArray) (by kernel_rfl) rfl) (by decide) ?_
  intro g37 w38 M hg39 hb40
  refine ⟨(M.sub (cn (cn (cc (cc (List.nil_sublist _)))))), ?_⟩
  intro a H
  have hM0_ := M
  refine qf (by kernel_rfl) (qm H 5 rfl rfl rfl rfl (qg rfl rfl (fun w => by kernel_rfl)) (hK.run (Dt.keep M.bel _ ht) htb hok) ?_)
  rintro _ w46 ⟨m41, rfl, ⟨hmr42, hmt43, hmo44⟩, hb45⟩
  have hn9 := qoe hM0_ 0 (vs := (qx.d.cells qx.ts.length)) rfl rfl ht hmo44 hb45 hmr42
  replace M := M.call hb45
  refine ⟨_, rfl, (M.sub (cn (cn (cc (cc (List.nil_sublist _)))))), ?_⟩
  intro a H
  refine qe H 6 rfl rfl rfl rfl hP (M.sub (cn (cn (cc (cc (List.nil_sublist _)))))) (fun w1 M => qz rfl) λa H↦?_
  refine qe (v := .agg (m41.d.cells m41.ts.length).toArray) H 7 rfl rfl rfl rfl hP (M.sub (cn (cn (cc (cc (List.nil_sublist _)))))) (fun w1 M => qh (vs := [.agg (m41.d.cells m41.ts.length).toArray, .int .i64 0]) rfl rfl) λa H↦?_
  refine qe (v := .int .i64 0) H 8 rfl rfl rfl rfl hP (M.sub (cn (cn (cc (cc (List.nil_sublist _)))))) (fun w1 M => qh (vs := [.agg (m41.d.cells m41.ts.length).toArray, .int .i64 0]) rfl rfl) λa H↦?_
  refine qf (by kernel_rfl) (jd (us := (m41.d.cells m41.ts.length)) (L' := (.obj g37 (.cells (m41.d.cells m41.ts.length).toArray 38) :: .obj g6 (.cells #[.int .u64 0, .int .i64 0] 69) :: .obj g4 (.cells (t.d.cells t.ts.length).toArray 38) :: .obj g2 (.cells #[.pointer (some ⟨g, 0, none⟩)] 24) :: [])) H M 10 rfl rfl rfl (ze rfl rfl rfl (by kernel_rfl) M 0 rfl rfl rfl) 0 rfl rfl rfl ?_)
  intro w47 M hK48
  replace hmr42 := Dt.kept hK48 _ hmr42 hn9
  refine ⟨(M.sub (cn (cn (cc (cc (List.nil_sublist _)))))), ?_⟩
  refine qe H 11 rfl rfl rfl rfl hP (M.sub (cn (cn (cc (cc (List.nil_sublist _)))))) (fun w1 M => zh rfl) λa H↦?_
  refine qy (by kernel_rfl) ?_
  exact hJ15 _ _ ⟨m41, hmt43, hmr42, g37, H.keep _ (by repeat' constructor), M⟩
theorem TeC_is1_3 : Is1 Tryz.prog 3 := ⟨⟨_, Tryz.underlying3, rfl⟩, by kernel_rfl⟩
theorem TeC_is1_64 : Is1 Tryz.prog 64 := ⟨⟨_, Tryz.underlying64, rfl⟩, by kernel_rfl⟩
theorem TeC_is1_67 : Is1 Tryz.prog 67 := ⟨⟨_, Tryz.underlying67, rfl⟩, by kernel_rfl⟩
theorem TeC_fld_66_1 : FieldAt Tryz.prog 66 1 1 := ⟨_, _, Tryz.underlying66, rfl, rfl, by kernel_rfl⟩
theorem TeC_fld_69_0 : FieldAt Tryz.prog 69 0 0 := ⟨_, _, Tryz.underlying69, rfl, rfl, by kernel_rfl⟩
theorem TeC_fld_69_1 : FieldAt Tryz.prog 69 1 1 := ⟨_, _, Tryz.underlying69, rfl, rfl, by kernel_rfl⟩
theorem TeC_fld_74_2 : FieldAt Tryz.prog 74 2 12 := ⟨_, _, Tryz.underlying74, rfl, rfl, by kernel_rfl⟩
theorem TeC_isS_38 : IsS Tryz.prog 38 11 := ⟨⟨_, Tryz.underlying38⟩, by kernel_rfl⟩
theorem TeC_isS_69 : IsS Tryz.prog 69 2 := ⟨⟨_, Tryz.underlying69⟩, by kernel_rfl⟩
theorem zqh {kind : Int} {mk : Tr → Tr} {ok : Tr → Bool} (hK : Marks kind mk ok) {w : World} {g m count last ck : Nat} {bs : List Bk} (hB : Tab w ok g kind m count last ck bs) {t : Dt} (ht : t.rd w) (htb : t.tr.bulk ≤ 4000000) (hT : Tabs8 w) (hs : zx zq t.tr = true) (hok : ok t.tr = true) (hat : qch (fun e => ux (mk t.tr) (mk e.k.tr)) (vu bs (xd (mk t.tr))) = -1) : Calls Tryz.prog 11 #[.pointer (some ⟨g, 0, none⟩), .agg (t.d.cells t.ts.length).toArray] w fun e w' => e = .returned (.tuple #[.agg (qx.d.cells qx.ts.length).toArray, .int .i64 7]) ∧ Below w.heap.size w w' := by
 have M : Mg w w ([]) := Mg.start w
 refine za (l := [(0, .pointer (some ⟨g, 0, none⟩)), (1, .agg (t.d.cells t.ts.length).toArray)]) Tryz.func11 rfl Tryz.ntmps11 rfl rfl ?_
 intro Q hret hnorm hP a A
 refine wsk fun K1 hK1 => wrl (jg (vs := (t.d.cells t.ts.length)) (t := 38) A M rfl rfl rfl pg (zb rfl rfl) (by decide) ?_)
 intro g2 w3 M a A
 refine jg (vs := (qx.d.cells qx.ts.length)) (t := 38) A M rfl rfl rfl pg (qi (z := .agg (qx.d.cells qx.ts.length).toArray) (by kernel_rfl) rfl) (by decide) ?_
 intro g4 w5 M a A
 refine sda A λa A↦?_
 refine qa (hK1 _ _ (wsk fun K6 hK6 => wrl (sdm A λa A↦?_)))
 refine sdo A (zl M TeC_isS_38 rfl 1 rfl (cs := (t.d.cells t.ts.length)) rfl rfl) λa A↦?_
 refine sct A (ef rfl rfl) (qwc hK (hB.below M.bel) (Dt.keep M.bel _ ht) htb (hT.below M.bel) (so := none) (ca := 0) (ts := []) (fun k => absurd rfl k) (fun t h => by cases h) (by decide) hs rfl hok) ?_
 rintro _ w8 ⟨he8, hb7⟩
 rw [hat] at he8
 subst he8
 replace M := M.call hb7
 refine ⟨_, rfl, ?_⟩
 intro a A
 refine sdm A λa A↦?_
 iterate 2 refine sdo A (qh (vs := [.agg #[.int .u64 (xd (mk t.tr)), .int .i64 (-1)], .int .i64 0]) rfl rfl) λa A↦?_
 refine jg (vs := [.int .u64 0, .int .i64 0]) (t := 69) A M rfl rfl rfl pg (qi (z := .agg #[.int .u64 0, .int .i64 0]) (by kernel_rfl) rfl) (by decide) ?_
 intro g9 w10 M a A
 refine jc (us := [.int .u64 (xd (mk t.tr)), .int .i64 (-1)]) (L' := (.obj g9 (.cells #[.int .u64 (xd (mk t.tr)), .int .i64 (-1)] 69) :: .obj g4 (.cells (qx.d.cells qx.ts.length).toArray 38) :: .obj g2 (.cells (t.d.cells t.ts.length).toArray 38) :: [])) A M rfl rfl (ze rfl rfl rfl (by kernel_rfl) M 0 rfl rfl rfl) 0 rfl rfl rfl ?_
 intro w11 M
 refine sda A λa A↦?_
 refine qa (hK6 _ _ (wsk fun K12 hK12 => wp_block (wsk fun K13 hK13 => wrl (sdm A λa A↦?_))))
 refine sdo (v := .bool false) A (qk rfl rfl (fun w => by kernel_rfl)) λa A↦?_
 refine sda A λa A↦?_
 refine qa (hK13 _ _ (wp_cond_false (A.ev rfl) ?_))
 refine wsk fun K14 hK14 => wrl (sdo A (zl M TeC_isS_69 rfl 0 rfl (cs := [.int .u64 (xd (mk t.tr)), .int .i64 (-1)]) rfl rfl) λa A↦?_)
 refine gcl A M (ef rfl rfl) (((show decide ((0 : Int) ≤ -1) = false from rfl) ▸ qkf)) fun w15 hbt M a A => ?_
 refine sdo (v := .bool true) A (zw rfl ji) λa A↦?_
 refine sda A λa A↦?_
 refine qa (hK14 _ _ (wp_cond_true (A.ev rfl) ?_))
 refine wsk fun K16 hK16 => wrl (sdo (v := .agg (qx.d.cells qx.ts.length).toArray) A (zg rfl (fun w => by kernel_rfl)) λa A↦?_)
 refine jc (us := (qx.d.cells qx.ts.length)) (L' := (.obj g9 (.cells #[.int .u64 (xd (mk t.tr)), .int .i64 (-1)] 69) :: .obj g4 (.cells (qx.d.cells qx.ts.length).toArray 38) :: .obj g2 (.cells (t.d.cells t.ts.length).toArray 38) :: [])) A M rfl rfl (ze rfl rfl rfl (by kernel_rfl) M 1 rfl rfl rfl) 1 rfl rfl rfl ?_
 intro w17 M
 refine sda A λa A↦?_
 refine qa (hK16 _ _ (wp_ret (hret _ _ (en2 A rfl (vq M TeC_isS_38 rfl 1 rfl (cs := [.int .i64 0, .int .i64 0, .bool false, .slice none 0 0, .slice none 0 0, .bool false, .slice none 0 0, .slice none 0 0, .string (⟨#[]⟩), .slice none 0 0, .slice none 0 0]) rfl rfl) (ql rfl) ?_))))
 exact ⟨rfl, M.bel⟩
theorem Here.part {w : World} {b o : Nat} {cs ds : List Value} (h : Here w b o cs) (j : Nat) (hd : ∀ i v, ds[i]? = some v → cs[j + i]? = some v) : Here w b (o + j) ds := ⟨h.1, fun i v hi => by rw [Nat.add_assoc]; exact h.2 _ v (hd i v hi)⟩
theorem Here.value {w : World} {b o p : Nat} {k v : Dt} (h : Here w b o (xq p k v)) : Here w b (o + 12) (v.d.cells v.ts.length) := h.part 12 fun i u hi => by
 have e : xq p k v = (.int .i64 (p : Int) :: k.d.cells k.ts.length) ++ v.d.cells v.ts.length := rfl
 rw [e, show 12 + i = (Value.int .i64 (p : Int) :: k.d.cells k.ts.length).length + i from rfl, List.getElem?_append_right (by omega), Nat.add_sub_cancel_left]
 exact hi
theorem Here.key {w : World} {b o p : Nat} {k v : Dt} (h : Here w b o (xq p k v)) : Here w b (o + 1) (k.d.cells k.ts.length) := h.part 1 fun i u hi => by
 have e : xq p k v = [.int .i64 (p : Int)] ++ (k.d.cells k.ts.length ++ v.d.cells v.ts.length) := rfl
 rw [e, show 1 + i = [Value.int .i64 (p : Int)].length + i from rfl, List.getElem?_append_right (by omega), Nat.add_sub_cancel_left, List.getElem?_append_left (List.getElem?_eq_some_iff.1 hi).1]
 exact hi
theorem zvd {kind : Int} {mk : Tr → Tr} {ok : Tr → Bool} (hK : Marks kind mk ok) {w : World} {g m count last ck : Nat} {bs : List Bk} (hB : Tab w ok g kind m count last ck bs) {t : Dt} (ht : t.rd w) (htb : t.tr.bulk ≤ 4000000) (hT : Tabs8 w) (hs : zx zq t.tr = true) (hok : ok t.tr = true) {i : Nat} (hat : qch (fun e => ux (mk t.tr) (mk e.k.tr)) (vu bs (xd (mk t.tr))) = ((i : Nat) : Int)) {e : Et} (hie : (vu bs (xd (mk t.tr)))[i]? = some e) : Calls Tryz.prog 11 #[.pointer (some ⟨g, 0, none⟩), .agg (t.d.cells t.ts.length).toArray] w fun r w' => ∃ v2 : Dt, r = .returned (.tuple #[.agg (v2.d.cells v2.ts.length).toArray, .int .i64 0]) ∧ (v2.rd w' ∧ v2.at_ (w.heap.size ≤ ·) ∧ v2.tr = e.v.tr) ∧ Below w.heap.size w w' := by
 have M : Mg w w ([]) := Mg.start w
 refine za (l := [(0, .pointer (some ⟨g, 0, none⟩)), (1, .agg (t.d.cells t.ts.length).toArray)]) Tryz.func11 rfl Tryz.ntmps11 rfl rfl ?_
 intro Q hret hnorm hP a A
 refine wsk fun K1 hK1 => wrl (jg (vs := (t.d.cells t.ts.length)) (t := 38) A M rfl rfl rfl pg (zb rfl rfl) (by decide) ?_)
 intro g2 w3 M a A
 refine jg (vs := (qx.d.cells qx.ts.length)) (t := 38) A M rfl rfl rfl pg (qi (z := .agg (qx.d.cells qx.ts.length).toArray) (by kernel_rfl) rfl) (by decide) ?_
 intro g4 w5 M a A
 refine sda A λa A↦?_
 refine qa (hK1 _ _ (wsk fun K6 hK6 => wrl (sdm A λa A↦?_)))
 refine sdo A (zl M TeC_isS_38 rfl 1 rfl (cs := (t.d.cells t.ts.length)) rfl rfl) λa A↦?_
 refine sct A (ef rfl rfl) (qwc hK (hB.below M.bel) (Dt.keep M.bel _ ht) htb (hT.below M.bel) (so := none) (ca := 0) (ts := []) (fun k => absurd rfl k) (fun t h => by cases h) (by decide) hs rfl hok) ?_
 rintro _ w8 ⟨he8, hb7⟩
 rw [hat] at he8
 subst he8
 replace M := M.call hb7
 refine ⟨_, rfl, ?_⟩
 intro a A
 refine sdm A λa A↦?_
 iterate 2 refine sdo A (qh (vs := [.agg #[.int .u64 (xd (mk t.tr)), .int .i64 (((i : Nat) : Int))], .int .i64 0]) rfl rfl) λa A↦?_
 refine jg (vs := [.int .u64 0, .int .i64 0]) (t := 69) A M rfl rfl rfl pg (qi (z := .agg #[.int .u64 0, .int .i64 0]) (by kernel_rfl) rfl) (by decide) ?_
 intro g9 w10 M a A
 refine jc (us := [.int .u64 (xd (mk t.tr)), .int .i64 (((i : Nat) : Int))]) (L' := (.obj g9 (.cells #[.int .u64 (xd (mk t.tr)), .int .i64 (((i : Nat) : Int))] 69) :: .obj g4 (.cells (qx.d.cells qx.ts.length).toArray 38) :: .obj g2 (.cells (t.d.cells t.ts.length).toArray 38) :: [])) A M rfl rfl (ze rfl rfl rfl (by kernel_rfl) M 0 rfl rfl rfl) 0 rfl rfl rfl ?_
 intro w11 M
 refine sda A λa A↦?_
 refine qa (hK6 _ _ (wsk fun K12 hK12 => wp_block (wsk fun K13 hK13 => wrl (sdm A λa A↦?_))))
 refine sdo (v := .bool false) A (qk rfl rfl (fun w => by kernel_rfl)) λa A↦?_
 refine sda A λa A↦?_
 refine qa (hK13 _ _ (wp_cond_false (A.ev rfl) ?_))
 refine wsk fun K14 hK14 => wrl (sdo A (zl M TeC_isS_69 rfl 0 rfl (cs := [.int .u64 (xd (mk t.tr)), .int .i64 (((i : Nat) : Int))]) rfl rfl) λa A↦?_)
 refine gcl A M (ef rfl rfl) (((show decide ((0 : Int) ≤ ((i : Nat) : Int)) = true from decide_eq_true (by omega)) ▸ qkf)) fun w15 hbt M a A => ?_
 refine sdo (v := .bool false) A (zw rfl ji) λa A↦?_
 refine sda A λa A↦?_
 refine qa (hK14 _ _ (wp_cond_false (A.ev rfl) ?_))
 refine wp_skip (hK12 _ _ (wsk fun K16 hK16 => je (S := fun w1 => Mg w w1 (.obj g9 (.cells #[.int .u64 (xd (mk t.tr)), .int .i64 (((i : Nat) : Int))] 69) :: [])) (by kernel_rfl) ?_))
 replace M := M.drew
 refine qe A 0 rfl rfl rfl rfl hP (M.sub (cc (cn (cn (List.nil_sublist _))))) (fun w1 M => qz rfl) λa A↦?_
 refine qe A 1 rfl rfl rfl rfl hP (M.sub (cc (cn (cn (List.nil_sublist _))))) (fun w1 M => jm rfl) λa A↦?_
 refine qe (v := .pointer (some ⟨g, 1, none⟩)) A 2 rfl rfl rfl rfl hP (M.sub (cc (cn (cn (List.nil_sublist _))))) (fun w1 M => qb TeC_fld_66_1 rfl rfl) λa A↦?_
 refine qe A 3 rfl rfl rfl rfl hP (M.sub (cc (cn (cn (List.nil_sublist _))))) (fun w1 M => uq M hB.obj TeC_is1_64 rfl rfl) λa A↦?_
 refine qe (v := .pointer (some ⟨g9, 0, none⟩)) A 4 rfl rfl rfl rfl hP (M.sub (cc (cn (cn (List.nil_sublist _))))) (fun w1 M => qb TeC_fld_69_0 rfl rfl) λa A↦?_
 refine qe A 5 rfl rfl rfl rfl hP (M.sub (cc (cn (cn (List.nil_sublist _))))) (fun w1 M => qr M TeC_is1_67 rfl 0 rfl rfl) λa A↦?_
 refine qe (v := .pointer (some ⟨g9, 1, none⟩)) A 7 rfl rfl rfl rfl hP (M.sub (cc (cn (cn (List.nil_sublist _))))) (fun w1 M => qb TeC_fld_69_1 rfl rfl) λa A↦?_
 refine qe A 8 rfl rfl rfl rfl hP (M.sub (cc (cn (cn (List.nil_sublist _))))) (fun w1 M => qr M TeC_is1_3 rfl 0 rfl rfl) λa A↦?_
 obtain ⟨so9, ca9, es9, he9, hr9, hk9, hn9, hL9⟩ := zac hB M (xd (mk t.tr))
 obtain ⟨e9, be, oe, ie, me, le, He⟩ := jae hr9 (i := i) (by rw [he9]; exact (List.getElem?_eq_some_iff.1 hie).1)
 obtain rfl : e9 = e := Option.some.inj (ie.symm.trans (he9 ▸ hie))
 have hev := hk9 _ me
 refine qf (by kernel_rfl) (yn (v := .slice so9 es9.length ca9) A 6 rfl rfl rfl rfl (hL9 rfl rfl) (M.sub (cc (cn (cn (List.nil_sublist _))))) ?_)
 intro a A
 refine qe (v := .pointer (some ⟨be, oe + i * 23, none⟩)) A 9 rfl rfl rfl rfl hP (M.sub (cc (cn (cn (List.nil_sublist _))))) (fun w1 M => jh (k := i) Tryz.underlying75 (by kernel_rfl) rfl rfl rfl le (by have := (List.getElem?_eq_some_iff.1 ie).1; omega)) ?_
 intro a A
 refine qe (v := .pointer (some ⟨be, oe + i * 23 + 12, none⟩)) A 10 rfl rfl rfl rfl hP (M.sub (cc (cn (cn (List.nil_sublist _))))) (fun w1 M => qb TeC_fld_74_2 rfl rfl) λa A↦?_
 refine qe A 11 rfl rfl rfl rfl hP (M.sub (cc (cn (cn (List.nil_sublist _))))) (fun w1 M => xg M He.value TeC_isS_38 rfl rfl) λa A↦?_
 have hz22 := M.bel.size
 refine qf (by kernel_rfl) (qm A 12 rfl rfl rfl rfl (qg rfl rfl (fun w => by kernel_rfl)) (kr e9.v (Dt.keep M.bel _ hev.2.2.2.1) (by omega)) ?_)
 rintro _ w23 ⟨c17, rfl, ⟨hcr18, hco20, hct19⟩, hb21⟩
 replace M : Mg w w23 (.obj g9 (.cells #[.int .u64 (xd (mk t.tr)), .int .i64 (((i : Nat) : Int))] 69) :: .obj g4 (.cells (qx.d.cells qx.ts.length).toArray 38) :: .obj g2 (.cells (t.d.cells t.ts.length).toArray 38) :: (made w15.drew w23 ++ [])) := M.freezeAt 3 (qt (by simp) (qt (by simp) (qt (by simp) (xf xp)))) hb21
 have hLc17 := kq hcr18 hco20
 replace hco20 := Dt.at_mono (fun b hb => Nat.le_trans hz22 hb) _ hco20
 refine ⟨_, rfl, (M.sub (cc (cn (cn (List.nil_sublist _))))), ?_⟩
 intro a A
 refine qf (by kernel_rfl) (qag (us := (c17.d.cells c17.ts.length)) (L' := (.obj g9 (.cells #[.int .u64 (xd (mk t.tr)), .int .i64 (((i : Nat) : Int))] 69) :: .obj g4 (.cells (c17.d.cells c17.ts.length).toArray 38) :: .obj g2 (.cells (t.d.cells t.ts.length).toArray 38) :: (made w15.drew w23 ++ []))) A M 13 rfl rfl rfl (ze rfl rfl rfl (by kernel_rfl) M 1 rfl rfl rfl) 1 rfl rfl rfl ?_)
 intro w24 M
 refine ⟨(M.sub (cc (cn (cn (List.nil_sublist _))))), ?_⟩
 refine qe A 14 rfl rfl rfl rfl hP (M.sub (cc (cn (cn (List.nil_sublist _))))) (fun w1 M => zh rfl) λa A↦?_
 refine qy (by kernel_rfl) ?_
 refine hK16 _ _ (wp_ret (hret _ _ (en2 A rfl (vq M TeC_isS_38 rfl 1 rfl (cs := [.int .i64 c17.d.k, .int .i64 c17.d.n, .bool c17.d.y.q.b1, .slice c17.d.y.o1 c17.d.y.q.t1.length c17.d.y.c1, .slice c17.d.y.o2 c17.d.y.q.q1.length c17.d.y.c2, .bool c17.d.y.q.b2, .slice c17.d.y.o3 c17.d.y.q.t2.length c17.d.y.c3, .slice c17.d.y.o4 c17.d.y.q.q2.length c17.d.y.c4, .string c17.d.s, .slice c17.d.ro c17.d.rl.length c17.d.rc, .slice c17.d.lo c17.ts.length c17.d.lc]) rfl rfl) (ql rfl) ?_)))
 exact ⟨c17, rfl, ⟨hLc17 _ _ ((M.dropn 3).sub (List.sublist_append_left _ _)), hco20, hct19⟩, M.bel⟩
theorem TeD_is1_3 : Is1 Tryz.prog 3 := ⟨⟨_, Tryz.underlying3, rfl⟩, by kernel_rfl⟩
theorem TeD_is1_64 : Is1 Tryz.prog 64 := ⟨⟨_, Tryz.underlying64, rfl⟩, by kernel_rfl⟩
theorem TeD_is1_67 : Is1 Tryz.prog 67 := ⟨⟨_, Tryz.underlying67, rfl⟩, by kernel_rfl⟩
theorem TeD_fld_66_1 : FieldAt Tryz.prog 66 1 1 := ⟨_, _, Tryz.underlying66, rfl, rfl, by kernel_rfl⟩
theorem TeD_fld_66_2 : FieldAt Tryz.prog 66 2 2 := ⟨_, _, Tryz.underlying66, rfl, rfl, by kernel_rfl⟩
theorem TeD_fld_66_3 : FieldAt Tryz.prog 66 3 3 := ⟨_, _, Tryz.underlying66, rfl, rfl, by kernel_rfl⟩
theorem TeD_fld_69_0 : FieldAt Tryz.prog 69 0 0 := ⟨_, _, Tryz.underlying69, rfl, rfl, by kernel_rfl⟩
theorem TeD_isS_38 : IsS Tryz.prog 38 11 := ⟨⟨_, Tryz.underlying38⟩, by kernel_rfl⟩
theorem TeD_isS_69 : IsS Tryz.prog 69 2 := ⟨⟨_, Tryz.underlying69⟩, by kernel_rfl⟩
theorem zve {w : World} {kind : Int} (hk : isK kind = true) : Calls Tryz.prog 8 #[.int .i64 kind] w fun e w' => ∃ g m, e = .returned (.tuple #[.pointer (some ⟨g, 0, none⟩), .int .i64 0]) ∧ Mg w w' [.obj g (.cells #[.int .i64 kind, .map (some m), .int .i64 0, .int .i64 0] 66), .obj m (xw [] 0)] := by
 have M : Mg w w ([]) := Mg.start w
 refine za (l := [(0, .int .i64 kind)]) Tryz.func8 rfl Tryz.ntmps8 rfl rfl ?_
 intro Q hret hnorm hP a A
 refine wsk fun K1 hK1 => wrl ?_
 iterate 2 refine sda A λa A↦?_
 refine qa (hK1 _ _ (wsk fun K2 hK2 => wsk fun K3 hK3 => wrl (sdm A λa A↦?_)))
 refine gcl A M (ef rfl rfl) ((hk ▸ qqb)) fun w4 hbk M a A => ?_
 refine sdo (v := .bool false) A (zw rfl ji) λa A↦?_
 refine qa (hK3 _ _ (wp_cond_false (A.ev rfl) ?_))
 refine wp_skip (hK2 _ _ (wsk fun K5 hK5 => wrl (sdm A λa A↦?_)))
 refine zjc A M rfl rfl rfl rfl ?_
 intro g6 w7 M a A
 refine sdo (v := .agg #[.int .i64 kind, .map (some g6), .int .i64 0, .int .i64 0]) A (zg rfl (fun w => by kernel_rfl)) λa A↦?_
 refine jg (vs := [.int .i64 kind, .map (some g6), .int .i64 0, .int .i64 0]) (t := 66) A M rfl rfl rfl pg (zb rfl rfl) (by decide) ?_
 intro g8 w9 M a A
 iterate 2 refine sda A λa A↦?_
 refine qa (hK5 _ _ (wp_ret (hret _ _ (en2 A rfl (ql rfl) (ql rfl) ?_))))
 replace M := M.b1
 replace M := M.b1
 exact ⟨_, _, rfl, M⟩
theorem qic (p : Nat) (k v : Dt) : (xq p k v).all Value.oneCell' = true := by
 unfold xq
 rw [List.all_cons, List.all_append]
 rw [show (k.d.cells k.ts.length).all Value.oneCell' = true from qjj k, show (v.d.cells v.ts.length).all Value.oneCell' = true from qjj v]
 rfl
set_option maxHeartbeats 1000000 in
theorem zvf {w0 w : World} {kind h : Int} {g m count last ck : Nat} {es : List En} {X : List Ck} (hX : xl X) (hc : count ≤ 1000000000) (hl : last ≤ 4611686018427387904) (hnew : atK h es = none) {t v : Dt} (ht : ∀ w9, Mg w0 w9 X → t.rd w9) (hv : ∀ w9, Mg w0 w9 X → v.rd w9) (htb : t.tr.bulk ≤ 4000000) (hvb : v.tr.bulk ≤ 4000000) (hM0 : Mg w0 w (.obj g (.cells #[.int .i64 kind, .map (some m), .int .i64 (((count : Nat) : Int)), .int .i64 (((last : Nat) : Int))] 66) :: .obj m (xw es ck) :: X)) : Calls Tryz.prog 29 #[.pointer (some ⟨g, 0, none⟩), .int .u64 h, .agg (t.d.cells t.ts.length).toArray, .agg (v.d.cells v.ts.length).toArray] w fun e w' => e = .returned (.tuple #[]) ∧ ∃ so8 ca8, ∃ k2 v2 : Dt, ∃ F : List Ck, (k2.tr = t.tr ∧ v2.tr = v.tr ∧ Lives F k2 ∧ Lives F v2 ∧ xl F) ∧ Mg w0 w' (.obj g (.cells #[.int .i64 kind, .map (some m), .int .i64 (((count + 1 : Nat) : Int)), .int .i64 (((last + 1 : Nat) : Int))] 66) :: .obj m (xw (es ++ [⟨h, .slice so8 1 ca8, ck⟩]) (ck + 1)) :: .row 74 23 (.slice so8 1 ca8) 1 (xq (last + 1) k2 v2) :: (F ++ X)) := by
 have M : Mg w0 w (.obj g (.cells #[.int .i64 kind, .map (some m), .int .i64 (((count : Nat) : Int)), .int .i64 (((last : Nat) : Int))] 66) :: .obj m (xw es ck) :: X) := hM0
 refine za (l := [(0, .pointer (some ⟨g, 0, none⟩)), (1, .int .u64 h), (2, .agg (t.d.cells t.ts.length).toArray), (3, .agg (v.d.cells v.ts.length).toArray)]) Tryz.func29 rfl Tryz.ntmps29 rfl rfl ?_
 intro Q hret hnorm hP a A
 refine wsk fun K1 hK1 => wrl (jg (vs := (t.d.cells t.ts.length)) (t := 38) A M rfl rfl rfl pg (zb rfl rfl) (by decide) ?_)
 intro g2 w3 M a A
 refine jg (vs := (v.d.cells v.ts.length)) (t := 38) A M rfl rfl rfl pg (zb rfl rfl) (by decide) ?_
 intro g4 w5 M a A
 refine qa (hK1 _ _ (wsk fun K6 hK6 => wrl (sdm A λa A↦?_)))
 refine sdo A (jm rfl) λa A↦?_
 refine sdo (v := .pointer (some ⟨g, 3, none⟩)) A (qb TeD_fld_66_3 rfl rfl) λa A↦?_
 refine sdo A (qr M TeD_is1_3 rfl 2 rfl rfl) λa A↦?_
 refine sdo (v := .int .i64 (((last + 1 : Nat) : Int))) A (qk rfl rfl (ar_add ((in_i64 (by omega) (by omega)).trans (by omega)))) λa A↦?_
 refine sdo A (jm rfl) λa A↦?_
 refine sdo (v := .pointer (some ⟨g, 3, none⟩)) A (qb TeD_fld_66_3 rfl rfl) λa A↦?_
 refine jc (us := [.int .i64 kind, .map (some m), .int .i64 (((count : Nat) : Int)), .int .i64 (((last + 1 : Nat) : Int))]) (L' := (.obj g4 (.cells (v.d.cells v.ts.length).toArray 38) :: .obj g2 (.cells (t.d.cells t.ts.length).toArray 38) :: .obj g (.cells #[.int .i64 kind, .map (some m), .int .i64 (((count : Nat) : Int)), .int .i64 (((last + 1 : Nat) : Int))] 66) :: .obj m (xw es ck) :: X)) A M rfl rfl (ze rfl rfl rfl (by kernel_rfl) M 2 rfl rfl rfl) 2 rfl rfl rfl ?_
 intro w7 M
 refine qa (hK6 _ _ (wsk fun K8 hK8 => wrl (sdm A λa A↦?_)))
 refine sdo A (jm rfl) λa A↦?_
 refine sdo (v := .pointer (some ⟨g, 2, none⟩)) A (qb TeD_fld_66_2 rfl rfl) λa A↦?_
 refine sdo A (qr M TeD_is1_3 rfl 2 rfl rfl) λa A↦?_
 refine sdo (v := .int .i64 (((count + 1 : Nat) : Int))) A (qk rfl rfl (ar_add ((in_i64 (by omega) (by omega)).trans (by omega)))) λa A↦?_
 refine sdo A (jm rfl) λa A↦?_
 refine sdo (v := .pointer (some ⟨g, 2, none⟩)) A (qb TeD_fld_66_2 rfl rfl) λa A↦?_
 refine jc (us := [.int .i64 kind, .map (some m), .int .i64 (((count + 1 : Nat) : Int)), .int .i64 (((last + 1 : Nat) : Int))]) (L' := (.obj g4 (.cells (v.d.cells v.ts.length).toArray 38) :: .obj g2 (.cells (t.d.cells t.ts.length).toArray 38) :: .obj g (.cells #[.int .i64 kind, .map (some m), .int .i64 (((count + 1 : Nat) : Int)), .int .i64 (((last + 1 : Nat) : Int))] 66) :: .obj m (xw es ck) :: X)) A M rfl rfl (ze rfl rfl rfl (by kernel_rfl) M 2 rfl rfl rfl) 2 rfl rfl rfl ?_
 intro w9 M
 refine qa (hK8 _ _ (je (S := fun w1 => Mg w0 w1 (.obj g4 (.cells (v.d.cells v.ts.length).toArray 38) :: .obj g2 (.cells (t.d.cells t.ts.length).toArray 38) :: .obj g (.cells #[.int .i64 kind, .map (some m), .int .i64 (((count + 1 : Nat) : Int)), .int .i64 (((last + 1 : Nat) : Int))] 66) :: [])) (by kernel_rfl) ?_))
 replace M := M.drew
 refine qe A 0 rfl rfl rfl rfl hP (M.sub (cc (cc (cc (cn (List.nil_sublist _)))))) (fun w1 M => qz rfl) λa A↦?_
 refine qe A 1 rfl rfl rfl rfl hP (M.sub (cc (cc (cc (cn (List.nil_sublist _)))))) (fun w1 M => jm rfl) λa A↦?_
 refine qe (v := .pointer (some ⟨g, 1, none⟩)) A 2 rfl rfl rfl rfl hP (M.sub (cc (cc (cc (cn (List.nil_sublist _)))))) (fun w1 M => qb TeD_fld_66_1 rfl rfl) λa A↦?_
 refine qe A 3 rfl rfl rfl rfl hP (M.sub (cc (cc (cc (cn (List.nil_sublist _)))))) (fun w1 M => qr M TeD_is1_64 rfl 2 rfl rfl) λa A↦?_
 refine qe A 4 rfl rfl rfl rfl hP (M.sub (cc (cc (cc (cn (List.nil_sublist _)))))) (fun w1 M => qz rfl) λa A↦?_
 refine qe A 5 rfl rfl rfl rfl hP (M.sub (cc (cc (cc (cn (List.nil_sublist _)))))) (fun w1 M => qz rfl) λa A↦?_
 refine qe A 6 rfl rfl rfl rfl hP (M.sub (cc (cc (cc (cn (List.nil_sublist _)))))) (fun w1 M => jm rfl) λa A↦?_
 refine qe (v := .pointer (some ⟨g, 1, none⟩)) A 7 rfl rfl rfl rfl hP (M.sub (cc (cc (cc (cn (List.nil_sublist _)))))) (fun w1 M => qb TeD_fld_66_1 rfl rfl) λa A↦?_
 refine qe A 8 rfl rfl rfl rfl hP (M.sub (cc (cc (cc (cn (List.nil_sublist _)))))) (fun w1 M => qr M TeD_is1_64 rfl 2 rfl rfl) λa A↦?_
 refine qe A 9 rfl rfl rfl rfl hP (M.sub (cc (cc (cc (cn (List.nil_sublist _)))))) (fun w1 M => qz rfl) λa A↦?_
 refine qe A 11 rfl rfl rfl rfl hP (M.sub (cc (cc (cc (cn (List.nil_sublist _)))))) (fun w1 M => qz rfl) λa A↦?_
 refine qe A 12 rfl rfl rfl rfl hP (M.sub (cc (cc (cc (cn (List.nil_sublist _)))))) (fun w1 M => jm rfl) λa A↦?_
 refine qe (v := .pointer (some ⟨g, 3, none⟩)) A 13 rfl rfl rfl rfl hP (M.sub (cc (cc (cc (cn (List.nil_sublist _)))))) (fun w1 M => qb TeD_fld_66_3 rfl rfl) λa A↦?_
 refine qe A 14 rfl rfl rfl rfl hP (M.sub (cc (cc (cc (cn (List.nil_sublist _)))))) (fun w1 M => qr M TeD_is1_3 rfl 2 rfl rfl) λa A↦?_
 refine qe A 15 rfl rfl rfl rfl hP (M.sub (cc (cc (cc (cn (List.nil_sublist _)))))) (fun w1 M => zl M TeD_isS_38 rfl 1 rfl (cs := (t.d.cells t.ts.length)) rfl rfl) λa A↦?_
 refine qe A 17 rfl rfl rfl rfl hP (M.sub (cc (cc (cc (cn (List.nil_sublist _)))))) (fun w1 M => zl M TeD_isS_38 rfl 0 rfl (cs := (v.d.cells v.ts.length)) rfl rfl) λa A↦?_
 refine zk (rs := [10, 16]) (by kernel_rfl) (by simp) ⟨?_, ?_, trivial⟩
 ·
  refine yn (v := .slice none 0 0) A 10 rfl rfl rfl rfl (qmf M Tryz.underlying64 Tryz.underlying67 (zv := .slice none 0 0) (by kernel_rfl) rfl rfl 3 rfl hnew rfl) (M.sub (cc (cc (cc (cn (List.nil_sublist _)))))) λa A↦?_
  have hz15 := M.bel.size
  refine qf (by kernel_rfl) (qm A 16 rfl rfl rfl rfl (qg rfl rfl (fun w => by kernel_rfl)) (kr t (ht _ ((M.dropn 4).sub (List.Sublist.refl _))) (by omega)) ?_)
  rintro _ w16 ⟨c10, rfl, ⟨hcr11, hco13, hct12⟩, hb14⟩
  replace M : Mg w0 w16 (.obj g4 (.cells (v.d.cells v.ts.length).toArray 38) :: .obj g2 (.cells (t.d.cells t.ts.length).toArray 38) :: .obj g (.cells #[.int .i64 kind, .map (some m), .int .i64 (((count + 1 : Nat) : Int)), .int .i64 (((last + 1 : Nat) : Int))] 66) :: .obj m (xw es ck) :: (made w9.drew w16 ++ X)) := M.freezeAt 4 (qt (by simp) (qt (by simp) (qt (by simp) (qt (by simp) hX)))) hb14
  have hLc10 := kq hcr11 hco13
  replace hco13 := Dt.at_mono (fun b hb => Nat.le_trans hz15 hb) _ hco13
  refine ⟨_, rfl, (M.sub (cc (cc (cc (cn (List.nil_sublist _)))))), ?_⟩
  intro a A
  have hz22 := M.bel.size
  refine qf (by kernel_rfl) (qm A 18 rfl rfl rfl rfl (qg rfl rfl (fun w => by kernel_rfl)) (kr v (hv _ ((M.dropn 4).sub (List.sublist_append_right _ _))) (by omega)) ?_)
  rintro _ w23 ⟨c17, rfl, ⟨hcr18, hco20, hct19⟩, hb21⟩
  replace M : Mg w0 w23 (.obj g4 (.cells (v.d.cells v.ts.length).toArray 38) :: .obj g2 (.cells (t.d.cells t.ts.length).toArray 38) :: .obj g (.cells #[.int .i64 kind, .map (some m), .int .i64 (((count + 1 : Nat) : Int)), .int .i64 (((last + 1 : Nat) : Int))] 66) :: .obj m (xw es ck) :: (made w16 w23 ++ (made w9.drew w16 ++ X))) := M.freezeAt 4 (qt (by simp) (qt (by simp) (qt (by simp) (qt (by simp) (jo ju hX))))) hb21
  have hLc17 := kq hcr18 hco20
  replace hco20 := Dt.at_mono (fun b hb => Nat.le_trans hz22 hb) _ hco20
  refine ⟨_, rfl, (M.sub (cc (cc (cc (cn (List.nil_sublist _)))))), ?_⟩
  intro a A
  refine qe (v := .agg #[.int .i64 (((last + 1 : Nat) : Int)), .int .i64 c10.d.k, .int .i64 c10.d.n, .bool c10.d.y.q.b1, .slice c10.d.y.o1 c10.d.y.q.t1.length c10.d.y.c1, .slice c10.d.y.o2 c10.d.y.q.q1.length c10.d.y.c2, .bool c10.d.y.q.b2, .slice c10.d.y.o3 c10.d.y.q.t2.length c10.d.y.c3, .slice c10.d.y.o4 c10.d.y.q.q2.length c10.d.y.c4, .string c10.d.s, .slice c10.d.ro c10.d.rl.length c10.d.rc, .slice c10.d.lo c10.ts.length c10.d.lc, .int .i64 c17.d.k, .int .i64 c17.d.n, .bool c17.d.y.q.b1, .slice c17.d.y.o1 c17.d.y.q.t1.length c17.d.y.c1, .slice c17.d.y.o2 c17.d.y.q.q1.length c17.d.y.c2, .bool c17.d.y.q.b2, .slice c17.d.y.o3 c17.d.y.q.t2.length c17.d.y.c3, .slice c17.d.y.o4 c17.d.y.q.q2.length c17.d.y.c4, .string c17.d.s, .slice c17.d.ro c17.d.rl.length c17.d.rc, .slice c17.d.lo c17.ts.length c17.d.lc]) A 19 rfl rfl rfl rfl hP (M.sub (cc (cc (cc (cn (List.nil_sublist _)))))) (fun w1 M => zg rfl (fun w => by kernel_rfl)) λa A↦?_
  refine qf (by kernel_rfl) (zfb (e := 74) (sz := 23) (m := 1) (vs := (xq (last + 1) c10 c17)) A M 20 rfl rfl rfl rfl (jf rfl (by kernel_rfl)) rfl rfl (.inl (by decide)) ?_)
  intro g24 w25 M
  refine ⟨(M.sub (cn (cc (cc (cc (cn (List.nil_sublist _))))))), ?_⟩
  intro a A
  replace M := M.nilRow (qt (by simp) (qt (by simp) (qt (by simp) (qt (by simp) (qt (by simp) (jo ju (jo ju hX))))))) 74 23
  refine qf (by kernel_rfl) (qgg (e := 74) (sz := 23) (k := 0) (q := 0) (m := 1) (xs := []) (news := (xq (last + 1) c10 c17)) (L' := fun v26 => (.row 74 23 (v26) (0 + 1) ([] ++ (xq (last + 1) c10 c17)) :: .row 74 23 (.slice (some ⟨g24, 0, none⟩) 1 1) 1 ((xq (last + 1) c10 c17)) :: .obj g4 (.cells (v.d.cells v.ts.length).toArray 38) :: .obj g2 (.cells (t.d.cells t.ts.length).toArray 38) :: .obj g (.cells #[.int .i64 kind, .map (some m), .int .i64 (((count + 1 : Nat) : Int)), .int .i64 (((last + 1 : Nat) : Int))] 66) :: .obj m (xw es ck) :: (made w16 w23 ++ (made w9.drew w16 ++ X)))) A 21 rfl rfl rfl rfl (qff (z := .agg #[.int .i64 0, .int .i64 0, .int .i64 0, .bool false, .slice none 0 0, .slice none 0 0, .bool false, .slice none 0 0, .slice none 0 0, .string (⟨#[]⟩), .slice none 0 0, .slice none 0 0, .int .i64 0, .int .i64 0, .bool false, .slice none 0 0, .slice none 0 0, .bool false, .slice none 0 0, .slice none 0 0, .string (⟨#[]⟩), .slice none 0 0, .slice none 0 0]) (sz := 23) (by_ := 392) Tryz.underlying75 (by kernel_rfl) rfl rfl rfl M 0 rfl rfl rfl rfl (qob (M.has 1 rfl)) (List.all_eq_true.1 (qic _ _ _)) (by omega)) (fun _ => rfl) ?_)
  intro v26 w27 M
  refine ⟨(M.sub (cn (cn (cc (cc (cc (cn (List.nil_sublist _)))))))), ?_⟩
  intro a A
  refine qf (by kernel_rfl) (qhj (L' := (.row 74 23 (v26) (0 + 1) ([] ++ (xq (last + 1) c10 c17)) :: .row 74 23 (.slice (some ⟨g24, 0, none⟩) 1 1) 1 ((xq (last + 1) c10 c17)) :: .obj g4 (.cells (v.d.cells v.ts.length).toArray 38) :: .obj g2 (.cells (t.d.cells t.ts.length).toArray 38) :: .obj g (.cells #[.int .i64 kind, .map (some m), .int .i64 (((count + 1 : Nat) : Int)), .int .i64 (((last + 1 : Nat) : Int))] 66) :: .obj m (xw (es ++ [⟨h, v26, ck⟩]) (ck + 1)) :: (made w16 w23 ++ (made w9.drew w16 ++ X)))) A M 22 rfl rfl rfl (qhi M Tryz.underlying64 Tryz.underlying67 rfl rfl rfl 5 rfl hnew) 5 rfl (qaa _ _) rfl ?_)
  intro w28 M
  refine ⟨(M.sub (cn (cn (cc (cc (cc (cn (List.nil_sublist _)))))))), ?_⟩
  refine qy (by kernel_rfl) ?_
  refine hnorm _ _ (qig (v := .tuple #[]) A rfl .nil rfl ?_)
  replace M := M.b5
  replace M := M.b5
  replace M := M.sub (cc (cc (cc (cn (cn (cn (.refl _)))))))
  obtain ⟨so8, ca8, rfl⟩ := uy (M.has 2 rfl)
  rw [Nat.zero_add, List.nil_append] at M
  rw [← List.append_assoc] at M
  exact ⟨rfl, so8, ca8, c10, c17, (made w16 w23 ++ made w9.drew w16), ⟨hct12, hct19, hLc10.app _, hLc17.front _, jo ju ju⟩, M⟩
 ·
  have hz34 := M.bel.size
  refine qm A 16 rfl rfl rfl rfl (qg rfl rfl (fun w => by kernel_rfl)) (kr t (ht _ ((M.dropn 4).sub (List.Sublist.refl _))) (by omega)) ?_
  rintro _ w35 ⟨c29, rfl, ⟨hcr30, hco32, hct31⟩, hb33⟩
  replace M : Mg w0 w35 (.obj g4 (.cells (v.d.cells v.ts.length).toArray 38) :: .obj g2 (.cells (t.d.cells t.ts.length).toArray 38) :: .obj g (.cells #[.int .i64 kind, .map (some m), .int .i64 (((count + 1 : Nat) : Int)), .int .i64 (((last + 1 : Nat) : Int))] 66) :: .obj m (xw es ck) :: (made w9.drew w35 ++ X)) := M.freezeAt 4 (qt (by simp) (qt (by simp) (qt (by simp) (qt (by simp) hX)))) hb33
  have hLc29 := kq hcr30 hco32
  replace hco32 := Dt.at_mono (fun b hb => Nat.le_trans hz34 hb) _ hco32
  refine ⟨_, rfl, (M.sub (cc (cc (cc (cn (List.nil_sublist _)))))), ?_⟩
  intro a A
  refine zk (rs := [10, 18]) (by kernel_rfl) (by simp) ⟨?_, ?_, trivial⟩
  ·
   refine yn (v := .slice none 0 0) A 10 rfl rfl rfl rfl (qmf M Tryz.underlying64 Tryz.underlying67 (zv := .slice none 0 0) (by kernel_rfl) rfl rfl 3 rfl hnew rfl) (M.sub (cc (cc (cc (cn (List.nil_sublist _)))))) λa A↦?_
   have hz41 := M.bel.size
   refine qf (by kernel_rfl) (qm A 18 rfl rfl rfl rfl (qg rfl rfl (fun w => by kernel_rfl)) (kr v (hv _ ((M.dropn 4).sub (List.sublist_append_right _ _))) (by omega)) ?_)
   rintro _ w42 ⟨c36, rfl, ⟨hcr37, hco39, hct38⟩, hb40⟩
   replace M : Mg w0 w42 (.obj g4 (.cells (v.d.cells v.ts.length).toArray 38) :: .obj g2 (.cells (t.d.cells t.ts.length).toArray 38) :: .obj g (.cells #[.int .i64 kind, .map (some m), .int .i64 (((count + 1 : Nat) : Int)), .int .i64 (((last + 1 : Nat) : Int))] 66) :: .obj m (xw es ck) :: (made w35 w42 ++ (made w9.drew w35 ++ X))) := M.freezeAt 4 (qt (by simp) (qt (by simp) (qt (by simp) (qt (by simp) (jo ju hX))))) hb40
   have hLc36 := kq hcr37 hco39
   replace hco39 := Dt.at_mono (fun b hb => Nat.le_trans hz41 hb) _ hco39
   refine ⟨_, rfl, (M.sub (cc (cc (cc (cn (List.nil_sublist _)))))), ?_⟩
   intro a A
   refine qe (v := .agg #[.int .i64 (((last + 1 : Nat) : Int)), .int .i64 c29.d.k, .int .i64 c29.d.n, .bool c29.d.y.q.b1, .slice c29.d.y.o1 c29.d.y.q.t1.length c29.d.y.c1, .slice c29.d.y.o2 c29.d.y.q.q1.length c29.d.y.c2, .bool c29.d.y.q.b2, .slice c29.d.y.o3 c29.d.y.q.t2.length c29.d.y.c3, .slice c29.d.y.o4 c29.d.y.q.q2.length c29.d.y.c4, .string c29.d.s, .slice c29.d.ro c29.d.rl.length c29.d.rc, .slice c29.d.lo c29.ts.length c29.d.lc, .int .i64 c36.d.k, .int .i64 c36.d.n, .bool c36.d.y.q.b1, .slice c36.d.y.o1 c36.d.y.q.t1.length c36.d.y.c1, .slice c36.d.y.o2 c36.d.y.q.q1.length c36.d.y.c2, .bool c36.d.y.q.b2, .slice c36.d.y.o3 c36.d.y.q.t2.length c36.d.y.c3, .slice c36.d.y.o4 c36.d.y.q.q2.length c36.d.y.c4, .string c36.d.s, .slice c36.d.ro c36.d.rl.length c36.d.rc, .slice c36.d.lo c36.ts.length c36.d.lc]) A 19 rfl rfl rfl rfl hP (M.sub (cc (cc (cc (cn (List.nil_sublist _)))))) (fun w1 M => zg rfl (fun w => by kernel_rfl)) λa A↦?_
   refine qf (by kernel_rfl) (zfb (e := 74) (sz := 23) (m := 1) (vs := (xq (last + 1) c29 c36)) A M 20 rfl rfl rfl rfl (jf rfl (by kernel_rfl)) rfl rfl (.inl (by decide)) ?_)
   intro g43 w44 M
   refine ⟨(M.sub (cn (cc (cc (cc (cn (List.nil_sublist _))))))), ?_⟩
   intro a A
   replace M := M.nilRow (qt (by simp) (qt (by simp) (qt (by simp) (qt (by simp) (qt (by simp) (jo ju (jo ju hX))))))) 74 23
   refine qf (by kernel_rfl) (qgg (e := 74) (sz := 23) (k := 0) (q := 0) (m := 1) (xs := []) (news := (xq (last + 1) c29 c36)) (L' := fun v45 => (.row 74 23 (v45) (0 + 1) ([] ++ (xq (last + 1) c29 c36)) :: .row 74 23 (.slice (some ⟨g43, 0, none⟩) 1 1) 1 ((xq (last + 1) c29 c36)) :: .obj g4 (.cells (v.d.cells v.ts.length).toArray 38) :: .obj g2 (.cells (t.d.cells t.ts.length).toArray 38) :: .obj g (.cells #[.int .i64 kind, .map (some m), .int .i64 (((count + 1 : Nat) : Int)), .int .i64 (((last + 1 : Nat) : Int))] 66) :: .obj m (xw es ck) :: (made w35 w42 ++ (made w9.drew w35 ++ X)))) A 21 rfl rfl rfl rfl (qff (z := .agg #[.int .i64 0, .int .i64 0, .int .i64 0, .bool false, .slice none 0 0, .slice none 0 0, .bool false, .slice none 0 0, .slice none 0 0, .string (⟨#[]⟩), .slice none 0 0, .slice none 0 0, .int .i64 0, .int .i64 0, .bool false, .slice none 0 0, .slice none 0 0, .bool false, .slice none 0 0, .slice none 0 0, .string (⟨#[]⟩), .slice none 0 0, .slice none 0 0]) (sz := 23) (by_ := 392) Tryz.underlying75 (by kernel_rfl) rfl rfl rfl M 0 rfl rfl rfl rfl (qob (M.has 1 rfl)) (List.all_eq_true.1 (qic _ _ _)) (by omega)) (fun _ => rfl) ?_)
   intro v45 w46 M
   refine ⟨(M.sub (cn (cn (cc (cc (cc (cn (List.nil_sublist _)))))))), ?_⟩
   intro a A
   refine qf (by kernel_rfl) (qhj (L' := (.row 74 23 (v45) (0 + 1) ([] ++ (xq (last + 1) c29 c36)) :: .row 74 23 (.slice (some ⟨g43, 0, none⟩) 1 1) 1 ((xq (last + 1) c29 c36)) :: .obj g4 (.cells (v.d.cells v.ts.length).toArray 38) :: .obj g2 (.cells (t.d.cells t.ts.length).toArray 38) :: .obj g (.cells #[.int .i64 kind, .map (some m), .int .i64 (((count + 1 : Nat) : Int)), .int .i64 (((last + 1 : Nat) : Int))] 66) :: .obj m (xw (es ++ [⟨h, v45, ck⟩]) (ck + 1)) :: (made w35 w42 ++ (made w9.drew w35 ++ X)))) A M 22 rfl rfl rfl (qhi M Tryz.underlying64 Tryz.underlying67 rfl rfl rfl 5 rfl hnew) 5 rfl (qaa _ _) rfl ?_)
   intro w47 M
   refine ⟨(M.sub (cn (cn (cc (cc (cc (cn (List.nil_sublist _)))))))), ?_⟩
   refine qy (by kernel_rfl) ?_
   refine hnorm _ _ (qig (v := .tuple #[]) A rfl .nil rfl ?_)
   replace M := M.b5
   replace M := M.b5
   replace M := M.sub (cc (cc (cc (cn (cn (cn (.refl _)))))))
   obtain ⟨so8, ca8, rfl⟩ := uy (M.has 2 rfl)
   rw [Nat.zero_add, List.nil_append] at M
   rw [← List.append_assoc] at M
   exact ⟨rfl, so8, ca8, c29, c36, (made w35 w42 ++ made w9.drew w35), ⟨hct31, hct38, hLc29.app _, hLc36.front _, jo ju ju⟩, M⟩
  ·
   have hz53 := M.bel.size
   refine qm A 18 rfl rfl rfl rfl (qg rfl rfl (fun w => by kernel_rfl)) (kr v (hv _ ((M.dropn 4).sub (List.sublist_append_right _ _))) (by omega)) ?_
   rintro _ w54 ⟨c48, rfl, ⟨hcr49, hco51, hct50⟩, hb52⟩
   replace M : Mg w0 w54 (.obj g4 (.cells (v.d.cells v.ts.length).toArray 38) :: .obj g2 (.cells (t.d.cells t.ts.length).toArray 38) :: .obj g (.cells #[.int .i64 kind, .map (some m), .int .i64 (((count + 1 : Nat) : Int)), .int .i64 (((last + 1 : Nat) : Int))] 66) :: .obj m (xw es ck) :: (made w35 w54 ++ (made w9.drew w35 ++ X))) := M.freezeAt 4 (qt (by simp) (qt (by simp) (qt (by simp) (qt (by simp) (jo ju hX))))) hb52
   have hLc48 := kq hcr49 hco51
   replace hco51 := Dt.at_mono (fun b hb => Nat.le_trans hz53 hb) _ hco51
   refine ⟨_, rfl, (M.sub (cc (cc (cc (cn (List.nil_sublist _)))))), ?_⟩
   intro a A
   refine qe (v := .agg #[.int .i64 (((last + 1 : Nat) : Int)), .int .i64 c29.d.k, .int .i64 c29.d.n, .bool c29.d.y.q.b1, .slice c29.d.y.o1 c29.d.y.q.t1.length c29.d.y.c1, .slice c29.d.y.o2 c29.d.y.q.q1.length c29.d.y.c2, .bool c29.d.y.q.b2, .slice c29.d.y.o3 c29.d.y.q.t2.length c29.d.y.c3, .slice c29.d.y.o4 c29.d.y.q.q2.length c29.d.y.c4, .string c29.d.s, .slice c29.d.ro c29.d.rl.length c29.d.rc, .slice c29.d.lo c29.ts.length c29.d.lc, .int .i64 c48.d.k, .int .i64 c48.d.n, .bool c48.d.y.q.b1, .slice c48.d.y.o1 c48.d.y.q.t1.length c48.d.y.c1, .slice c48.d.y.o2 c48.d.y.q.q1.length c48.d.y.c2, .bool c48.d.y.q.b2, .slice c48.d.y.o3 c48.d.y.q.t2.length c48.d.y.c3, .slice c48.d.y.o4 c48.d.y.q.q2.length c48.d.y.c4, .string c48.d.s, .slice c48.d.ro c48.d.rl.length c48.d.rc, .slice c48.d.lo c48.ts.length c48.d.lc]) A 19 rfl rfl rfl rfl hP (M.sub (cc (cc (cc (cn (List.nil_sublist _)))))) (fun w1 M => zg rfl (fun w => by kernel_rfl)) λa A↦?_
   refine zk (rs := [10, 20]) (by kernel_rfl) (by simp) ⟨?_, ?_, trivial⟩
   ·
    refine yn (v := .slice none 0 0) A 10 rfl rfl rfl rfl (qmf M Tryz.underlying64 Tryz.underlying67 (zv := .slice none 0 0) (by kernel_rfl) rfl rfl 3 rfl hnew rfl) (M.sub (cc (cc (cc (cn (List.nil_sublist _)))))) λa A↦?_
    refine qf (by kernel_rfl) (zfb (e := 74) (sz := 23) (m := 1) (vs := (xq (last + 1) c29 c48)) A M 20 rfl rfl rfl rfl (jf rfl (by kernel_rfl)) rfl rfl (.inl (by decide)) ?_)
    intro g55 w56 M
    refine ⟨(M.sub (cn (cc (cc (cc (cn (List.nil_sublist _))))))), ?_⟩
    intro a A
    replace M := M.nilRow (qt (by simp) (qt (by simp) (qt (by simp) (qt (by simp) (qt (by simp) (jo ju (jo ju hX))))))) 74 23
    refine qf (by kernel_rfl) (qgg (e := 74) (sz := 23) (k := 0) (q := 0) (m := 1) (xs := []) (news := (xq (last + 1) c29 c48)) (L' := fun v57 => (.row 74 23 (v57) (0 + 1) ([] ++ (xq (last + 1) c29 c48)) :: .row 74 23 (.slice (some ⟨g55, 0, none⟩) 1 1) 1 ((xq (last + 1) c29 c48)) :: .obj g4 (.cells (v.d.cells v.ts.length).toArray 38) :: .obj g2 (.cells (t.d.cells t.ts.length).toArray 38) :: .obj g (.cells #[.int .i64 kind, .map (some m), .int .i64 (((count + 1 : Nat) : Int)), .int .i64 (((last + 1 : Nat) : Int))] 66) :: .obj m (xw es ck) :: (made w35 w54 ++ (made w9.drew w35 ++ X)))) A 21 rfl rfl rfl rfl (qff (z := .agg #[.int .i64 0, .int .i64 0, .int .i64 0, .bool false, .slice none 0 0, .slice none 0 0, .bool false, .slice none 0 0, .slice none 0 0, .string (⟨#[]⟩), .slice none 0 0, .slice none 0 0, .int .i64 0, .int .i64 0, .bool false, .slice none 0 0, .slice none 0 0, .bool false, .slice none 0 0, .slice none 0 0, .string (⟨#[]⟩), .slice none 0 0, .slice none 0 0]) (sz := 23) (by_ := 392) Tryz.underlying75 (by kernel_rfl) rfl rfl rfl M 0 rfl rfl rfl rfl (qob (M.has 1 rfl)) (List.all_eq_true.1 (qic _ _ _)) (by omega)) (fun _ => rfl) ?_)
    intro v57 w58 M
    refine ⟨(M.sub (cn (cn (cc (cc (cc (cn (List.nil_sublist _)))))))), ?_⟩
    intro a A
    refine qf (by kernel_rfl) (qhj (L' := (.row 74 23 (v57) (0 + 1) ([] ++ (xq (last + 1) c29 c48)) :: .row 74 23 (.slice (some ⟨g55, 0, none⟩) 1 1) 1 ((xq (last + 1) c29 c48)) :: .obj g4 (.cells (v.d.cells v.ts.length).toArray 38) :: .obj g2 (.cells (t.d.cells t.ts.length).toArray 38) :: .obj g (.cells #[.int .i64 kind, .map (some m), .int .i64 (((count + 1 : Nat) : Int)), .int .i64 (((last + 1 : Nat) : Int))] 66) :: .obj m (xw (es ++ [⟨h, v57, ck⟩]) (ck + 1)) :: (made w35 w54 ++ (made w9.drew w35 ++ X)))) A M 22 rfl rfl rfl (qhi M Tryz.underlying64 Tryz.underlying67 rfl rfl rfl 5 rfl hnew) 5 rfl (qaa _ _) rfl ?_)
    intro w59 M
    refine ⟨(M.sub (cn (cn (cc (cc (cc (cn (List.nil_sublist _)))))))), ?_⟩
    refine qy (by kernel_rfl) ?_
    refine hnorm _ _ (qig (v := .tuple #[]) A rfl .nil rfl ?_)
    replace M := M.b5
    replace M := M.b5
    replace M := M.sub (cc (cc (cc (cn (cn (cn (.refl _)))))))
    obtain ⟨so8, ca8, rfl⟩ := uy (M.has 2 rfl)
    rw [Nat.zero_add, List.nil_append] at M
    rw [← List.append_assoc] at M
    exact ⟨rfl, so8, ca8, c29, c48, (made w35 w54 ++ made w9.drew w35), ⟨hct31, hct50, hLc29.app _, hLc48.front _, jo ju ju⟩, M⟩
   ·
    refine zfb (e := 74) (sz := 23) (m := 1) (vs := (xq (last + 1) c29 c48)) A M 20 rfl rfl rfl rfl (jf rfl (by kernel_rfl)) rfl rfl (.inl (by decide)) ?_
    intro g60 w61 M
    refine ⟨(M.sub (cn (cc (cc (cc (cn (List.nil_sublist _))))))), ?_⟩
    intro a A
    refine qf (by kernel_rfl) (yn (v := .slice none 0 0) A 10 rfl rfl rfl rfl (qmf M Tryz.underlying64 Tryz.underlying67 (zv := .slice none 0 0) (by kernel_rfl) rfl rfl 4 rfl hnew rfl) (M.sub (cn (cc (cc (cc (cn (List.nil_sublist _))))))) ?_)
    intro a A
    replace M := M.nilRow (qt (by simp) (qt (by simp) (qt (by simp) (qt (by simp) (qt (by simp) (jo ju (jo ju hX))))))) 74 23
    refine qf (by kernel_rfl) (qgg (e := 74) (sz := 23) (k := 0) (q := 0) (m := 1) (xs := []) (news := (xq (last + 1) c29 c48)) (L' := fun v62 => (.row 74 23 (v62) (0 + 1) ([] ++ (xq (last + 1) c29 c48)) :: .row 74 23 (.slice (some ⟨g60, 0, none⟩) 1 1) 1 ((xq (last + 1) c29 c48)) :: .obj g4 (.cells (v.d.cells v.ts.length).toArray 38) :: .obj g2 (.cells (t.d.cells t.ts.length).toArray 38) :: .obj g (.cells #[.int .i64 kind, .map (some m), .int .i64 (((count + 1 : Nat) : Int)), .int .i64 (((last + 1 : Nat) : Int))] 66) :: .obj m (xw es ck) :: (made w35 w54 ++ (made w9.drew w35 ++ X)))) A 21 rfl rfl rfl rfl (qff (z := .agg #[.int .i64 0, .int .i64 0, .int .i64 0, .bool false, .slice none 0 0, .slice none 0 0, .bool false, .slice none 0 0, .slice none 0 0, .string (⟨#[]⟩), .slice none 0 0, .slice none 0 0, .int .i64 0, .int .i64 0, .bool false, .slice none 0 0, .slice none 0 0, .bool false, .slice none 0 0, .slice none 0 0, .string (⟨#[]⟩), .slice none 0 0, .slice none 0 0]) (sz := 23) (by_ := 392) Tryz.underlying75 (by kernel_rfl) rfl rfl rfl M 0 rfl rfl rfl rfl (qob (M.has 1 rfl)) (List.all_eq_true.1 (qic _ _ _)) (by omega)) (fun _ => rfl) ?_)
    intro v62 w63 M
    refine ⟨(M.sub (cn (cn (cc (cc (cc (cn (List.nil_sublist _)))))))), ?_⟩
    intro a A
    refine qf (by kernel_rfl) (qhj (L' := (.row 74 23 (v62) (0 + 1) ([] ++ (xq (last + 1) c29 c48)) :: .row 74 23 (.slice (some ⟨g60, 0, none⟩) 1 1) 1 ((xq (last + 1) c29 c48)) :: .obj g4 (.cells (v.d.cells v.ts.length).toArray 38) :: .obj g2 (.cells (t.d.cells t.ts.length).toArray 38) :: .obj g (.cells #[.int .i64 kind, .map (some m), .int .i64 (((count + 1 : Nat) : Int)), .int .i64 (((last + 1 : Nat) : Int))] 66) :: .obj m (xw (es ++ [⟨h, v62, ck⟩]) (ck + 1)) :: (made w35 w54 ++ (made w9.drew w35 ++ X)))) A M 22 rfl rfl rfl (qhi M Tryz.underlying64 Tryz.underlying67 rfl rfl rfl 5 rfl hnew) 5 rfl (qaa _ _) rfl ?_)
    intro w64 M
    refine ⟨(M.sub (cn (cn (cc (cc (cc (cn (List.nil_sublist _)))))))), ?_⟩
    refine qy (by kernel_rfl) ?_
    refine hnorm _ _ (qig (v := .tuple #[]) A rfl .nil rfl ?_)
    replace M := M.b5
    replace M := M.b5
    replace M := M.sub (cc (cc (cc (cn (cn (cn (.refl _)))))))
    obtain ⟨so8, ca8, rfl⟩ := uy (M.has 2 rfl)
    rw [Nat.zero_add, List.nil_append] at M
    rw [← List.append_assoc] at M
    exact ⟨rfl, so8, ca8, c29, c48, (made w35 w54 ++ made w9.drew w35), ⟨hct31, hct50, hLc29.app _, hLc48.front _, jo ju ju⟩, M⟩
theorem zvg {kind : Int} {mk : Tr → Tr} {ok : Tr → Bool} (hK : Marks kind mk ok) {w0 w : World} {g m count last ck : Nat} {bs : List Bk} {X : List Ck}  (hX : xl X) (hT : Tabs8 w0) (hB : ∀ w9, Mg w0 w9 (.obj g (.cells #[.int .i64 kind, .map (some m), .int .i64 (((count : Nat) : Int)), .int .i64 (((last : Nat) : Int))] 66) :: .obj m (xw (bs.map Bk.en) ck) :: X) → Tab w9 ok g kind m count last ck bs) {t v : Dt} (ht : ∀ w9, Mg w0 w9 X → t.rd w9) (hv : ∀ w9, Mg w0 w9 X → v.rd w9) (htb : t.tr.bulk ≤ 4000000) (hvb : v.tr.bulk ≤ 4000000) (hM0 : Mg w0 w (.obj g (.cells #[.int .i64 kind, .map (some m), .int .i64 (((count : Nat) : Int)), .int .i64 (((last : Nat) : Int))] 66) :: .obj m (xw (bs.map Bk.en) ck) :: X)) (hs : zx zq t.tr = true) (hsv : zx zq v.tr = true) (hok : ok t.tr = true) (hat : qch (fun e => ux (mk t.tr) (mk e.k.tr)) (vu bs (xd (mk t.tr))) = -1) (hc : count < 4096) (hl : last ≤ 4611686018427387904) (hnew : atK (xd (mk t.tr)) (bs.map Bk.en) = none) : Calls Tryz.prog 9 #[.pointer (some ⟨g, 0, none⟩), .agg (t.d.cells t.ts.length).toArray, .agg (v.d.cells v.ts.length).toArray] w fun e w' => e = .returned (.int .i64 0) ∧ ∃ so8 ca8, ∃ k2 v2 : Dt, ∃ F : List Ck, (k2.tr = t.tr ∧ v2.tr = v.tr ∧ Lives F k2 ∧ Lives F v2 ∧ xl F) ∧ Mg w0 w' (.obj g (.cells #[.int .i64 kind, .map (some m), .int .i64 (((count + 1 : Nat) : Int)), .int .i64 (((last + 1 : Nat) : Int))] 66) :: .obj m (xw (bs.map Bk.en ++ [⟨xd (mk t.tr), .slice so8 1 ca8, ck⟩]) (ck + 1)) :: .row 74 23 (.slice so8 1 ca8) 1 (xq (last + 1) k2 v2) :: (F ++ X)) := by
 have M : Mg w0 w (.obj g (.cells #[.int .i64 kind, .map (some m), .int .i64 (((count : Nat) : Int)), .int .i64 (((last : Nat) : Int))] 66) :: .obj m (xw (bs.map Bk.en) ck) :: X) := hM0
 refine za (l := [(0, .pointer (some ⟨g, 0, none⟩)), (1, .agg (t.d.cells t.ts.length).toArray), (2, .agg (v.d.cells v.ts.length).toArray)]) Tryz.func9 rfl Tryz.ntmps9 rfl rfl ?_
 intro Q hret hnorm hP a A
 refine wsk fun K1 hK1 => wrl (jg (vs := (t.d.cells t.ts.length)) (t := 38) A M rfl rfl rfl pg (zb rfl rfl) (by decide) ?_)
 intro g2 w3 M a A
 refine jg (vs := (v.d.cells v.ts.length)) (t := 38) A M rfl rfl rfl pg (zb rfl rfl) (by decide) ?_
 intro g4 w5 M a A
 refine sda A λa A↦?_
 refine qa (hK1 _ _ (wsk fun K6 hK6 => wrl (sdm A λa A↦?_)))
 refine sdo A (zl M TeD_isS_38 rfl 1 rfl (cs := (t.d.cells t.ts.length)) rfl rfl) λa A↦?_
 refine sdo A (zl M TeD_isS_38 rfl 0 rfl (cs := (v.d.cells v.ts.length)) rfl rfl) λa A↦?_
 refine qnf (e := 38) (sz := 11) (m := 1) (vs := zy [v]) A M rfl rfl rfl (jf rfl (by kernel_rfl)) rfl rfl (.inl (by decide)) ?_
 intro g7 w8 M a A
 refine sct A (ef rfl rfl) (qwc hK (hB _ (M.dropn 3)) (ht _ (M.dropn 5)) htb (hT.below M.bel) (ts := [v]) (znc (ts := [v]) (M.has 0 rfl)).1 (fun u hu => by rw [List.mem_singleton.1 hu]; exact hv _ (M.dropn 5)) (by simp) hs (show ([v].any fun t => !zx zq t.tr) = false from by simp [hsv]) hok) ?_
 rintro _ w10 ⟨he8, hb9⟩
 rw [hat] at he8
 subst he8
 replace M := M.call hb9
 refine ⟨_, rfl, ?_⟩
 intro a A
 refine sdm A λa A↦?_
 iterate 2 refine sdo A (qh (vs := [.agg #[.int .u64 (xd (mk t.tr)), .int .i64 (-1)], .int .i64 0]) rfl rfl) λa A↦?_
 refine jg (vs := [.int .u64 0, .int .i64 0]) (t := 69) A M rfl rfl rfl pg (qi (z := .agg #[.int .u64 0, .int .i64 0]) (by kernel_rfl) rfl) (by decide) ?_
 intro g11 w12 M a A
 refine jc (us := [.int .u64 (xd (mk t.tr)), .int .i64 (-1)]) (L' := (.obj g11 (.cells #[.int .u64 (xd (mk t.tr)), .int .i64 (-1)] 69) :: .row 38 11 (.slice (some ⟨g7, 0, none⟩) 1 1) 1 (zy [v]) :: .obj g4 (.cells (v.d.cells v.ts.length).toArray 38) :: .obj g2 (.cells (t.d.cells t.ts.length).toArray 38) :: .obj g (.cells #[.int .i64 kind, .map (some m), .int .i64 (((count : Nat) : Int)), .int .i64 (((last : Nat) : Int))] 66) :: .obj m (xw (bs.map Bk.en) ck) :: X)) A M rfl rfl (ze rfl rfl rfl (by kernel_rfl) M 0 rfl rfl rfl) 0 rfl rfl rfl ?_
 intro w13 M
 refine sda A λa A↦?_
 refine qa (hK6 _ _ (wsk fun K14 hK14 => wp_block (wsk fun K15 hK15 => wrl (sdm A λa A↦?_))))
 refine sdo (v := .bool false) A (qk rfl rfl (fun w => by kernel_rfl)) λa A↦?_
 refine sda A λa A↦?_
 refine qa (hK15 _ _ (wp_cond_false (A.ev rfl) ?_))
 refine wsk fun K16 hK16 => wrl (sdo A (zl M TeD_isS_69 rfl 0 rfl (cs := [.int .u64 (xd (mk t.tr)), .int .i64 (-1)]) rfl rfl) λa A↦?_)
 refine gcl A M (ef rfl rfl) (((show decide ((0 : Int) ≤ -1) = false from rfl) ▸ qkf)) fun w17 hbt M a A => ?_
 refine sda A λa A↦?_
 refine qa (hK16 _ _ (wp_cond_false (A.ev rfl) ?_))
 refine wsk fun K18 hK18 => wrl (sdm A λa A↦?_)
 refine sdo A (jm rfl) λa A↦?_
 refine sdo (v := .pointer (some ⟨g, 2, none⟩)) A (qb TeD_fld_66_2 rfl rfl) λa A↦?_
 refine sdo A (qr M TeD_is1_3 rfl 4 rfl rfl) λa A↦?_
 refine sdo (v := .bool false) A (qk rfl rfl (fun w => (kl w).trans (by rw [show (decide (4096 ≤ ((count : Nat) : Int))) = false from (decide_eq_false (by omega))]))) λa A↦?_
 refine sda A λa A↦?_
 refine qa (hK18 _ _ (wp_cond_false (A.ev rfl) ?_))
 refine wrl (sdm A λa A↦?_)
 refine sdo (v := .pointer (some ⟨g11, 0, none⟩)) A (qb TeD_fld_69_0 rfl rfl) λa A↦?_
 refine sdo A (qr M TeD_is1_67 rfl 0 rfl rfl) λa A↦?_
 refine sdo A (zl M TeD_isS_38 rfl 3 rfl (cs := (t.d.cells t.ts.length)) rfl rfl) λa A↦?_
 refine sdo A (zl M TeD_isS_38 rfl 2 rfl (cs := (v.d.cells v.ts.length)) rfl rfl) λa A↦?_
 replace M := M.b5
 replace M := M.b5
 refine sct A (ef rfl rfl) (zvf (X := (.obj g11 (.cells #[.int .u64 (xd (mk t.tr)), .int .i64 (-1)] 69) :: .row 38 11 (.slice (some ⟨g7, 0, none⟩) 1 1) 1 (zy [v]) :: .obj g4 (.cells (v.d.cells v.ts.length).toArray 38) :: .obj g2 (.cells (t.d.cells t.ts.length).toArray 38) :: X)) (qt (by simp) (qt (by simp) (qt (by simp) (qt (by simp) hX)))) (by omega) hl hnew (fun w9 h9 => ht w9 (h9.dropn 4)) (fun w9 h9 => hv w9 (h9.dropn 4)) htb hvb M) ?_
 rintro _ w19 ⟨rfl, so8, ca8, k2, v2, F9, hF9, hM9⟩
 replace M : Mg w0 w19 (.obj g (.cells #[.int .i64 kind, .map (some m), .int .i64 (((count + 1 : Nat) : Int)), .int .i64 (((last + 1 : Nat) : Int))] 66) :: .obj m (xw (bs.map Bk.en ++ [⟨xd (mk t.tr), .slice so8 1 ca8, ck⟩]) (ck + 1)) :: .row 74 23 (.slice so8 1 ca8) 1 (xq (last + 1) k2 v2) :: (F9 ++ (.obj g11 (.cells #[.int .u64 (xd (mk t.tr)), .int .i64 (-1)] 69) :: .row 38 11 (.slice (some ⟨g7, 0, none⟩) 1 1) 1 (zy [v]) :: .obj g4 (.cells (v.d.cells v.ts.length).toArray 38) :: .obj g2 (.cells (t.d.cells t.ts.length).toArray 38) :: X))) := hM9
 refine ⟨_, rfl, ?_⟩
 intro a A
 refine qa (hK14 _ _ (wsk fun K20 hK20 => wrl (sda A λa A↦?_)))
 refine qa (hK20 _ _ (wp_ret (hret _ _ (en1 A rfl (ql rfl) ?_))))
 replace M : Mg w0 w19 (.obj g (.cells #[.int .i64 kind, .map (some m), .int .i64 (((count + 1 : Nat) : Int)), .int .i64 (((last + 1 : Nat) : Int))] 66) :: .obj m (xw (bs.map Bk.en ++ [⟨xd (mk t.tr), .slice so8 1 ca8, ck⟩]) (ck + 1)) :: .row 74 23 (.slice so8 1 ca8) 1 (xq (last + 1) k2 v2) :: (F9 ++ X)) := M.sub (.cons_cons _ (.cons_cons _ (.cons_cons _ ((List.Sublist.refl _).append (cn (cn (cn (cn (List.Sublist.refl _)))))))))
 exact ⟨rfl, so8, ca8, k2, v2, F9, hF9, M⟩
/-- Two sound and good trees are equal just if they are one. -/
theorem zqi {t u : Tr} (h1 : zx zq t = true) (h2 : zx zq u = true) (g1 : t.good) (g2 : u.good) : ux t u = true ↔ t = u := by
  unfold ux
  rw [h1, h2, Bool.and_self, Bool.true_and, decide_eq_true_eq]
  exact ⟨zig t g1 u g2, fun e => e ▸ zid t⟩
/-- A table's state. -/
structure TS where
  m : Nat
  count : Nat
  last : Nat
  ck : Nat
  bs : List Bk
  T : List Ck
def yi (bs : List Bk) : List Et := bs.flatMap Bk.es
/-- What is so of an entry. -/
structure EtOk (mk : Tr → Tr) (ok : Tr → Bool) (T : List Ck) (last : Nat) (h : Int) (e : Et) : Prop where
  lk : Lives T e.k
  lv : Lives T e.v
  bk : e.k.tr.bulk ≤ 4000000
  bv : e.v.tr.bulk ≤ 4000000
  ok : ok e.k.tr = true
  ms : zx zq (mk e.k.tr) = true
  mg : (mk e.k.tr).good
  hh : xd (mk e.k.tr) = h
  pl : e.p ≤ last
theorem EtOk.mono {mk : Tr → Tr} {ok : Tr → Bool} {T T' : List Ck} {last last' : Nat} {h : Int} {e : Et} (k : EtOk mk ok T last h e) (hs : T.Sublist T') (hl : last ≤ last') : EtOk mk ok T' last' h e := { k with lk := k.lk.sub hs, lv := k.lv.sub hs, pl := Nat.le_trans k.pl hl }
/-- What is so of a table. -/
structure TOk (mk : Tr → Tr) (ok : Tr → Bool) (s : TS) : Prop where
  nb : xl s.T
  ent : ∀ x ∈ s.bs, ∀ e ∈ x.es, EtOk mk ok s.T s.last x.h e
  ne : ∀ x ∈ s.bs, x.es ≠ []
  hd : s.bs.Pairwise fun x y => x.h ≠ y.h
  sd : s.bs.Pairwise fun x y => x.b ≠ y.b
  sl : ∀ x ∈ s.bs, x.b < s.ck
  md : (yi s.bs).Pairwise fun a b => mk a.k.tr ≠ mk b.k.tr
  pd : (yi s.bs).Pairwise fun a b => a.p ≠ b.p
  cn : s.count = (yi s.bs).length
theorem qqd {bs : List Bk} {e : Et} : e ∈ yi bs ↔ ∃ x ∈ bs, e ∈ x.es := List.mem_flatMap
theorem zad (A B : List Bk) (x : Bk) : yi (A ++ x :: B) = yi A ++ (x.es ++ yi B) := by unfold yi; rw [List.flatMap_append, List.flatMap_cons]
theorem zqj {bs : List Bk} {x : Bk} (h : x ∈ bs) : x.es.length ≤ (yi bs).length := by
  obtain ⟨A, B, rfl⟩ := List.append_of_mem h
  rw [zad, List.length_append, List.length_append]; omega
theorem TOk.len {mk : Tr → Tr} {ok : Tr → Bool} {s : TS} (h : TOk mk ok s) {x : Bk} (hx : x ∈ s.bs) : x.es.length ≤ s.count := by rw [h.cn]; exact zqj hx
/-- The question that is asked of entries. -/
def isM (mk : Tr → Tr) (μ : Tr) (e : Et) : Bool := ux μ (mk e.k.tr)
theorem qwd {mk : Tr → Tr} {ok : Tr → Bool} {T : List Ck} {last : Nat} {h : Int} {e : Et} (k : EtOk mk ok T last h e) {μ : Tr} (h1 : zx zq μ = true) (h2 : μ.good) : isM mk μ e = true ↔ μ = mk e.k.tr := zqi h1 k.ms h2 k.mg
/-- A mark that is there. -/
theorem zra {mk : Tr → Tr} {ok : Tr → Bool} {s : TS} (h : TOk mk ok s) {μ : Tr} (h1 : zx zq μ = true) (h2 : μ.good) {e : Et} (he : e ∈ yi s.bs) (hm : mk e.k.tr = μ) :
    ∃ A x B, ∃ i : Nat, s.bs = A ++ x :: B ∧ x.h = xd μ ∧ (∀ y ∈ A, y.h ≠ x.h) ∧ x.es[i]? = some e ∧ vu s.bs (xd μ) = x.es ∧ qch (fun e => ux μ (mk e.k.tr)) x.es = ((i : Nat) : Int) := by
  obtain ⟨x, hx, hex⟩ := qqd.1 he
  obtain ⟨A, B, hs⟩ := List.append_of_mem hx
  have hk := h.ent x hx e hex
  have hh : x.h = xd μ := by rw [← hm, hk.hh]
  have hA : ∀ y ∈ A, y.h ≠ x.h := by
    have := h.hd
    rw [hs, List.pairwise_append] at this
    exact fun y hy => this.2.2 y hy x List.mem_cons_self
  obtain ⟨i, hi⟩ := List.mem_iff_getElem?.1 hex
  refine ⟨A, x, B, i, hs, hh, hA, hi, ?_, ?_⟩
  · have hf : s.bs.find? (fun y => decide (y.h = xd μ)) = some x := by
      rw [hs, List.find?_append, List.find?_eq_none.2 (fun y hy => by rw [← hh]; simpa using hA y hy)]
      simp [hh]
    unfold vu; rw [hf]
  · refine qyj (fun j u hj hu => ?_) hi ?_
    · have hu1 := List.mem_of_getElem? hu
      have := qwd (h.ent x hx u hu1) h1 h2
      unfold isM at this
      refine Bool.eq_false_iff.2 fun e0 => ?_
      have e1 := this.1 e0
      have hp : x.es.Pairwise fun a b => mk a.k.tr ≠ mk b.k.tr := by
        have := h.md
        rw [hs, zad, List.pairwise_append, List.pairwise_append] at this
        exact this.2.1.1
      rw [List.pairwise_iff_getElem] at hp
      obtain ⟨a1, a2⟩ := List.getElem?_eq_some_iff.1 hu
      obtain ⟨b1, b2⟩ := List.getElem?_eq_some_iff.1 hi
      have := hp j i a1 b1 hj
      rw [a2, b2] at this
      exact this (by rw [← e1, hm])
    · have := qwd hk h1 h2
      unfold isM at this
      exact this.2 hm.symm
/-- A mark that is not: the hash has no entries .. -/
theorem zkg {s : TS} {μ : Tr} (hf : s.bs.find? (fun y => decide (y.h = xd μ)) = none) (p : Et → Bool) : qch p (vu s.bs (xd μ)) = -1 ∧ atK (xd μ) (s.bs.map Bk.en) = none := by
  refine ⟨by unfold vu; rw [hf]; rfl, by rw [qmg, hf]; rfl⟩
/-- .. or others. -/
theorem zkh {mk : Tr → Tr} {ok : Tr → Bool} {s : TS} (h : TOk mk ok s) {μ : Tr} (h1 : zx zq μ = true) (h2 : μ.good) (hn : ∀ e ∈ yi s.bs, mk e.k.tr ≠ μ) {x : Bk} (hf : s.bs.find? (fun y => decide (y.h = xd μ)) = some x) :
    ∃ A B, s.bs = A ++ x :: B ∧ x.h = xd μ ∧ (∀ y ∈ A, y.h ≠ x.h) ∧ vu s.bs (xd μ) = x.es ∧ qch (fun e => ux μ (mk e.k.tr)) x.es = -1 := by
  obtain ⟨A, B, hs, hh, hA⟩ := zoa hf
  have hx := List.mem_of_find?_eq_some hf
  refine ⟨A, B, hs, hh, fun y hy => by rw [hh]; exact hA y hy, by unfold vu; rw [hf], qse fun j u hj hu => ?_⟩
  have hu1 := List.mem_of_getElem? hu
  have := qwd (h.ent x hx u hu1) h1 h2
  unfold isM at this
  exact Bool.eq_false_iff.2 fun e0 => hn u (qqd.2 ⟨x, hx, hu1⟩) (this.1 e0).symm
open Classical
def Et.kv (e : Et) : Tr × Tr := (e.k.tr, e.v.tr)
/-- A table's entries hold these pairs, in this order. -/
def Holds (es : List Et) (A : List (Tr × Tr)) : Prop := ∃ L : List Et, L.Perm es ∧ L.Pairwise (fun a b => a.p < b.p) ∧ A = L.map Et.kv
theorem Holds.perm {es es' : List Et} {A : List (Tr × Tr)} (h : Holds es A) (hp : es.Perm es') : Holds es' A := by
  obtain ⟨L, h1, h2, h3⟩ := h
  exact ⟨L, h1.trans hp, h2, h3⟩
theorem Holds.len {es : List Et} {A : List (Tr × Tr)} (h : Holds es A) : A.length = es.length := by
  obtain ⟨L, h1, h2, rfl⟩ := h
  rw [List.length_map, h1.length_eq]
theorem Holds.nil : Holds [] [] := ⟨[], .refl _, .nil, rfl⟩
theorem Holds.mem {es : List Et} {A : List (Tr × Tr)} (h : Holds es A) {a : Tr × Tr} : a ∈ A ↔ ∃ e ∈ es, e.kv = a := by
  obtain ⟨L, h1, h2, rfl⟩ := h
  rw [List.mem_map]
  exact ⟨fun ⟨e, he, h⟩ => ⟨e, h1.mem_iff.1 he, h⟩, fun ⟨e, he, h⟩ => ⟨e, h1.mem_iff.2 he, h⟩⟩
theorem zki {es : List Et} {A : List (Tr × Tr)} (h : Holds es A) {n : Et} (hn : ∀ e ∈ es, e.p < n.p) : Holds (es ++ [n]) (A ++ [n.kv]) := by
  obtain ⟨L, h1, h2, rfl⟩ := h
  refine ⟨L ++ [n], h1.append_right _, List.pairwise_append.2 ⟨h2, by simp, fun a ha b hb => ?_⟩, by simp⟩
  rw [List.mem_singleton.1 hb]
  exact hn a (h1.mem_iff.1 ha)
section
variable {mk : Tr → Tr} {P Q : List Et} {e : Et} (hp : (P ++ e :: Q).Pairwise fun a b => a.p ≠ b.p) (hm : (P ++ e :: Q).Pairwise fun a b => mk a.k.tr ≠ mk b.k.tr)
end
theorem zha {α β : Type} {f : α → β} {l l' : List α} {n : α} (h : l.Pairwise fun a b => f a ≠ f b) (hn : ∀ a ∈ l, f a ≠ f n) (hp : l'.Perm (l ++ [n])) : l'.Pairwise fun a b => f a ≠ f b := by
  refine (hp.pairwise_iff (fun h => h.symm)).2 (List.pairwise_append.2 ⟨h, by simp, fun a ha b hb => ?_⟩)
  rw [List.mem_singleton.1 hb]; exact hn a ha
/-- A pair's value is set. -/
noncomputable def zze (mk : Tr → Tr) (t v : Tr) (A : List (Tr × Tr)) : List (Tr × Tr) := if ∃ a ∈ A, mk a.1 = mk t then A.map fun a => if mk a.1 = mk t then (a.1, v) else a else A ++ [(t, v)]
section
variable {mk : Tr → Tr} {ok : Tr → Bool} {s : TS} (h : TOk mk ok s) {A B : List Bk} {xh : Int} {so so' : Option Addr} {ca ca' xb : Nat} {xes : List Et} (hs : s.bs = A ++ ⟨xh, so, ca, xes, xb⟩ :: B) {F : List Ck} (hF : xl F)
/-- The state behind a value that is changed. -/
def TS.hit (s : TS) (A B : List Bk) (xh : Int) (so : Option Addr) (ca xb : Nat) (xes : List Et) (F : List Ck) : TS := { s with bs := A ++ ⟨xh, so, ca, xes, xb⟩ :: B, T := F ++ s.T }
/-- The state behind a key that has come. -/
def TS.came (s : TS) (bs : List Bk) (ck : Nat) (F : List Ck) : TS := ⟨s.m, s.count + 1, s.last + 1, ck, bs, F ++ s.T⟩
include h in
theorem zrb {d : Et} (hd : d ∈ yi s.bs) : d.p < s.last + 1 := by
  obtain ⟨x, hx, he⟩ := qqd.1 hd
  have := (h.ent x hx d he).pl; omega
/-- Buckets to which an entry has come. -/
structure CameOk (mk : Tr → Tr) (ok : Tr → Bool) (s : TS) (bs : List Bk) (ck : Nat) (z : Int) (n : Et) : Prop where
  pm : (yi bs).Perm (yi s.bs ++ [n])
  en : ∀ y ∈ bs, ∀ d ∈ y.es, (d = n ∧ y.h = z) ∨ EtOk mk ok s.T s.last y.h d
  ne : ∀ y ∈ bs, y.es ≠ []
  hd : bs.Pairwise fun x y => x.h ≠ y.h
  sd : bs.Pairwise fun x y => x.b ≠ y.b
  sl : ∀ y ∈ bs, y.b < ck
include h hF in
theorem zrc {bs : List Bk} {ck : Nat} {k2 v2 t v : Dt} (hk : k2.tr = t.tr) (hv : v2.tr = v.tr) (htb : t.tr.bulk ≤ 4000000) (hvb : v.tr.bulk ≤ 4000000) (hLk : Lives F k2) (hLv : Lives F v2) (hok : ok t.tr = true) (hms : zx zq (mk t.tr) = true) (hmg : (mk t.tr).good) (hn : ∀ e ∈ yi s.bs, mk e.k.tr ≠ mk t.tr) (hC : CameOk mk ok s bs ck (xd (mk t.tr)) ⟨s.last + 1, k2, v2⟩) :
    TOk mk ok (s.came bs ck F) ∧ ∀ A0, Holds (yi s.bs) A0 → Holds (yi (s.came bs ck F).bs) (zze mk t.tr v.tr A0) := by
  have hsub : s.T.Sublist (F ++ s.T) := List.sublist_append_right _ _
  refine ⟨⟨jo hF h.nb, fun y hy d hd => ?_, hC.ne, hC.hd, hC.sd, hC.sl, ?_, ?_, ?_⟩, fun A0 hA0 => ?_⟩
  · rcases hC.en y hy d hd with ⟨rfl, hy2⟩ | k
    · exact ⟨hLk.front _, hLv.front _, by show k2.tr.bulk ≤ _; rw [hk]; exact htb, by show v2.tr.bulk ≤ _; rw [hv]; exact hvb, by show ok k2.tr = _; rw [hk]; exact hok, by show zx zq (mk k2.tr) = _; rw [hk]; exact hms, by show (mk k2.tr).good; rw [hk]; exact hmg, by show xd (mk k2.tr) = _; rw [hk]; exact hy2.symm, Nat.le_refl _⟩
    · exact k.mono hsub (Nat.le_succ _)
  · exact zha (f := fun a : Et => mk a.k.tr) h.md (fun a ha => by show mk a.k.tr ≠ mk k2.tr; rw [hk]; exact hn a ha) hC.pm
  · exact zha (f := Et.p) h.pd (fun a ha => by have := zrb h ha; show a.p ≠ s.last + 1; omega) hC.pm
  · show s.count + 1 = (yi bs).length
    rw [hC.pm.length_eq, h.cn]; simp
  · have := (zki hA0 (n := ⟨s.last + 1, k2, v2⟩) (fun e he => zrb h he)).perm hC.pm.symm
    unfold zze
    rw [if_neg (fun ⟨a, ha, hm⟩ => by obtain ⟨e, he, rfl⟩ := hA0.mem.1 ha; exact hn e he hm)]
    rw [← hk, ← hv]; exact this
include h in
/-- .. with a hash that is new .. -/
theorem zrd {k2 v2 : Dt} {z : Int} (so8 : Option Addr) (ca8 : Nat) (hf : s.bs.find? (fun y => decide (y.h = z)) = none) :
    CameOk mk ok s (s.bs ++ [⟨z, so8, ca8, [⟨s.last + 1, k2, v2⟩], s.ck⟩]) (s.ck + 1) z ⟨s.last + 1, k2, v2⟩ := by
  have hz : ∀ y ∈ s.bs, y.h ≠ z := fun y hy e => by have := List.find?_eq_none.1 hf y hy; simp [e] at this
  refine ⟨by simp [yi], fun y hy d hd => ?_, fun y hy => ?_, ?_, ?_, fun y hy => ?_⟩
  · rcases List.mem_append.1 hy with k | k
    · exact .inr (h.ent y k d hd)
    · rw [List.mem_singleton.1 k] at hd ⊢; exact .inl ⟨List.mem_singleton.1 hd, rfl⟩
  · rcases List.mem_append.1 hy with k | k
    · exact h.ne y k
    · rw [List.mem_singleton.1 k]; simp
  · exact List.pairwise_append.2 ⟨h.hd, by simp, fun a ha b hb => by rw [List.mem_singleton.1 hb]; exact hz a ha⟩
  · exact List.pairwise_append.2 ⟨h.sd, by simp, fun a ha b hb => by rw [List.mem_singleton.1 hb]; have := h.sl a ha; show a.b ≠ s.ck; omega⟩
  · rcases List.mem_append.1 hy with k | k
    · have := h.sl y k; omega
    · rw [List.mem_singleton.1 k]; exact Nat.lt_succ_self _
end
/-- A table's memory. -/
def TS.P (s : TS) (g : Nat) (kind : Int) : List Ck := .obj g (.cells #[.int .i64 kind, .map (some s.m), .int .i64 ((s.count : Nat) : Int), .int .i64 ((s.last : Nat) : Int)] 66) :: .obj s.m (xw (s.bs.map Bk.en) s.ck) :: (s.bs.map (Bk.row 74) ++ s.T)
theorem zae (bs : List Bk) : xl (bs.map (Bk.row 74)) := fun c hc b xs e => by
 obtain ⟨x, _, rfl⟩ := List.mem_map.1 hc
 cases e
theorem zre {mk : Tr → Tr} {ok : Tr → Bool} {s : TS} (h : TOk mk ok s) (hc : s.count ≤ 1000000) {w0 w : World} {g : Nat} {kind : Int} (M : Mg w0 w (s.P g kind)) : Tab w ok g kind s.m s.count s.last s.ck s.bs := by
 have hT : Mg w0 w s.T := M.sub (cn (cn (List.sublist_append_right _ _)))
 refine ⟨M.obj 0 rfl, M.obj 1 rfl, fun x hx => ?_, fun x hx e he => ?_, fun x hx => Nat.le_trans (h.len hx) hc⟩
 ·
  have : (x.row 74).holds w0.heap.size w := M.all _ (List.mem_cons_of_mem _ (List.mem_cons_of_mem _ (List.mem_append_left _ (List.mem_map_of_mem hx))))
  exact qob (B := w0.heap.size) (e := 74) (sz := 23) this
 ·
  have k := h.ent x hx e he
  exact ⟨k.lk _ _ hT, k.bk, k.ok, k.lv _ _ hT, k.bv⟩
/-- A new table. -/
def TS.zero (m : Nat) : TS := ⟨m, 0, 0, 0, [], []⟩
theorem zrf (mk : Tr → Tr) (ok : Tr → Bool) (m : Nat) : TOk mk ok (TS.zero m) := ⟨(fun c hc => by cases hc), (fun x hx => by cases hx), (fun x hx => by cases hx), .nil, .nil, (fun x hx => by cases hx), .nil, .nil, rfl⟩
section
variable {kind : Int} {mk : Tr → Tr} {ok : Tr → Bool} (hK : Marks kind mk ok) {w0 w : World} {g : Nat} {s : TS} (h : TOk mk ok s) {Y : List Ck}
theorem P_new (s : TS) (g : Nat) (kind : Int) (Y : List Ck) : (Y ++ s.P g kind).Perm (.obj g (.cells #[.int .i64 kind, .map (some s.m), .int .i64 ((s.count : Nat) : Int), .int .i64 ((s.last : Nat) : Int)] 66) :: .obj s.m (xw (s.bs.map Bk.en) s.ck) :: (s.bs.map (Bk.row 74) ++ s.T ++ Y)) := List.perm_append_comm
theorem P_split {A B : List Bk} {x : Bk} (hs : s.bs = A ++ x :: B) (g : Nat) (kind : Int) (Y : List Ck) : (Y ++ s.P g kind).Perm (.obj g (.cells #[.int .i64 kind, .map (some s.m), .int .i64 ((s.count : Nat) : Int), .int .i64 ((s.last : Nat) : Int)] 66) :: .obj s.m (xw (s.bs.map Bk.en) s.ck) :: x.row 74 :: ((A ++ B).map (Bk.row 74) ++ s.T ++ Y)) := by
 refine (P_new s g kind Y).trans (.cons _ (.cons _ ?_))
 rw [hs, List.map_append, List.map_cons, List.map_append, ← List.cons_append, ← List.cons_append]
 exact (List.perm_middle.append_right _).append_right _
/-- The same, with other buckets and more that ul. -/
theorem P_back {A B : List Bk} {x : Bk} {s' : TS} {F : List Ck} (hb : s'.bs = A ++ x :: B) (hT : s'.T = F ++ s.T) (g : Nat) (kind : Int) (Y : List Ck) : (.obj g (.cells #[.int .i64 kind, .map (some s'.m), .int .i64 ((s'.count : Nat) : Int), .int .i64 ((s'.last : Nat) : Int)] 66) :: .obj s'.m (xw (s'.bs.map Bk.en) s'.ck) :: x.row 74 :: (F ++ ((A ++ B).map (Bk.row 74) ++ s.T ++ Y))).Perm (Y ++ s'.P g kind) := by
 refine List.Perm.trans (.cons _ (.cons _ (.cons _ ?_))) (P_split hb g kind Y).symm
 rw [hT, ← List.append_assoc, ← List.append_assoc, ← List.append_assoc]
 exact (List.perm_append_comm.append_right _).append_right _
include h in
theorem jai {bs : List Bk} (hY : xl Y) : xl (bs.map (Bk.row 74) ++ s.T ++ Y) := jo (jo (zae _) h.nb) hY
include hK in
/-- A key comes to an empty table. -/
theorem qwe {m : Nat} (hY : xl Y) (hT : Tabs8 w0) {t v : Dt} (ht : ∀ w9, Mg w0 w9 Y → t.rd w9) (hv : ∀ w9, Mg w0 w9 Y → v.rd w9) (htb : t.tr.bulk ≤ 4000000) (hvb : v.tr.bulk ≤ 4000000) (hs : zx zq t.tr = true) (hsv : zx zq v.tr = true) (hok : ok t.tr = true) (hms : zx zq (mk t.tr) = true) (hmg : (mk t.tr).good) (M : Mg w0 w (Y ++ (TS.zero m).P g kind)) :
  Calls Tryz.prog 9 #[.pointer (some ⟨g, 0, none⟩), .agg (t.d.cells t.ts.length).toArray, .agg (v.d.cells v.ts.length).toArray] w fun r w' => ∃ s', r = .returned (.int .i64 0) ∧ (TOk mk ok s' ∧ s'.count ≤ 4096 ∧ Holds (yi s'.bs) [(t.tr, v.tr)]) ∧ Mg w0 w' (Y ++ s'.P g kind) := by
 have h := zrf mk ok m
 have hup : ∀ {bs : List Bk} {d : Dt}, (∀ w9, Mg w0 w9 Y → d.rd w9) → ∀ w9, Mg w0 w9 (bs.map (Bk.row 74) ++ (TS.zero m).T ++ Y) → d.rd w9 := fun k w9 h9 => k w9 (h9.sub (List.sublist_append_right _ _))
 have hp := P_new (TS.zero m) g kind Y
 refine (zvg hK (jai h hY) hT (fun w9 h9 => zre h (by show (0 : Nat) ≤ _; omega) ((h9.perm hp.symm).sub (List.sublist_append_right _ _))) (hup ht) (hup hv) htb hvb (M.perm hp) hs hsv hok rfl (by show (0 : Nat) < _; omega) (by show (0 : Nat) ≤ _; omega) rfl).mono ?_
 rintro r w' ⟨rfl, so8, ca8, k2, v2, F, ⟨h1, h2, h3, h4, h5⟩, hM3⟩
 obtain ⟨a1, a2⟩ := zrc h h5 h1 h2 htb hvb h3 h4 hok hms hmg (fun e he => by cases he) (zrd h so8 ca8 (z := xd (mk t.tr)) rfl)
 have a3 := a2 [] Holds.nil
 rw [show zze mk t.tr v.tr [] = [(t.tr, v.tr)] from if_neg (fun ⟨a, ha, _⟩ => by cases ha)] at a3
 refine ⟨(TS.zero m).came ((TS.zero m).bs ++ [⟨xd (mk t.tr), so8, ca8, [⟨(TS.zero m).last + 1, k2, v2⟩], (TS.zero m).ck⟩]) ((TS.zero m).ck + 1) F, rfl, ⟨a1, by show (1 : Nat) ≤ _; omega, a3⟩, ?_⟩
 refine Mg.perm ?_ (P_back (s := TS.zero m) (s' := (TS.zero m).came ((TS.zero m).bs ++ [⟨xd (mk t.tr), so8, ca8, [⟨(TS.zero m).last + 1, k2, v2⟩], (TS.zero m).ck⟩]) ((TS.zero m).ck + 1) F) (A := (TS.zero m).bs) (B := []) rfl rfl g kind Y)
 rw [List.append_nil]
 simp only [TS.came, List.map_append, List.map_cons, List.map_nil, Bk.row, Bk.en, znj, Et.c]
 exact hM3
include hK h in
theorem qqe (hT : Tabs8 w) {t : Dt} (ht : t.rd w) (htb : t.tr.bulk ≤ 4000000) (hs : zx zq t.tr = true) (hok : ok t.tr = true) (hms : zx zq (mk t.tr) = true) (hmg : (mk t.tr).good) (hc : s.count ≤ 4096) (M : Mg w0 w (Y ++ s.P g kind)) :
  Calls Tryz.prog 11 #[.pointer (some ⟨g, 0, none⟩), .agg (t.d.cells t.ts.length).toArray] w fun r w' => (∃ e ∈ yi s.bs, mk e.k.tr = mk t.tr ∧ ∃ v2 : Dt, r = .returned (.tuple #[.agg (v2.d.cells v2.ts.length).toArray, .int .i64 0]) ∧ (v2.rd w' ∧ v2.at_ (w.heap.size ≤ ·) ∧ v2.tr = e.v.tr) ∧ Below w.heap.size w w') ∨ (r = .returned (.tuple #[.agg (qx.d.cells qx.ts.length).toArray, .int .i64 7]) ∧ (∀ e ∈ yi s.bs, mk e.k.tr ≠ mk t.tr) ∧ Below w.heap.size w w') := by
 have hB := zre h (by omega) (M.sub (List.sublist_append_right _ _))
 by_cases hit : ∃ e ∈ yi s.bs, mk e.k.tr = mk t.tr
 ·
  obtain ⟨e, he, hme⟩ := hit
  obtain ⟨A, x, B, i, hs2, hh, H, hi, hbu, hix⟩ := zra h hms hmg he hme
  refine (zvd hK hB ht htb hT hs hok (by rw [hbu]; exact hix) (by rw [hbu]; exact hi)).mono ?_
  rintro r w' ⟨v2, h1, h2, h3⟩
  exact .inl ⟨e, he, hme, v2, h1, h2, h3⟩
 ·
  have hn : ∀ e ∈ yi s.bs, mk e.k.tr ≠ mk t.tr := fun e he hm => hit ⟨e, he, hm⟩
  have hat : qch (fun e => ux (mk t.tr) (mk e.k.tr)) (vu s.bs (xd (mk t.tr))) = -1 := by
   cases hf : s.bs.find? (fun y => decide (y.h = xd (mk t.tr))) with
   | none => exact (zkg hf _).1
   | some x =>
    obtain ⟨A, B, hs2, hh, H, hbu, hix⟩ := zkh h hms hmg hn hf
    rw [hbu]; exact hix
  refine (zqh hK hB ht htb hT hs hok hat).mono ?_
  rintro r w' ⟨h1, h2⟩
  exact .inr ⟨h1, hn, h2⟩
end
theorem zef {w : World} {kind : Int} (hk : isK kind = true) : Calls Tryz.prog 8 #[.int .i64 kind] w fun e w' => ∃ g m, e = .returned (.tuple #[.pointer (some ⟨g, 0, none⟩), .int .i64 0]) ∧ Mg w w' ((TS.zero m).P g kind) := zve hk
theorem TeF_is1_3 : Is1 Tryz.prog 3 := ⟨⟨_, Tryz.underlying3, rfl⟩, by kernel_rfl⟩
theorem TeF_fld_38_0 : FieldAt Tryz.prog 38 0 0 := ⟨_, _, Tryz.underlying38, rfl, rfl, by kernel_rfl⟩
def zi (s : ByteArray) : Dt := .mk ⟨5, 0, ⟨Q6.zero, none, 0, none, 0, none, 0, none, 0⟩, s, none, 0, [], none, 0⟩ []
def qtc : Dt := .mk ⟨2, 0, ⟨Q6.zero, none, 0, none, 0, none, 0, none, 0⟩, ⟨#[]⟩, none, 0, [], none, 0⟩ []
def qab (s : ByteArray) : Tr := .mk 5 0 Q6.zero s [] []
theorem xk (s : ByteArray) : (zi s).tr = qab s := by unfold zi qab; rw [Dt.tr_mk]; rfl
theorem qed (w : World) {s : ByteArray} (h : s.size ≤ 9223372036854775807) : (zi s).rd w :=
 Dt.rd_iff.2 ⟨⟨⟨Sc.none w, Sc.none w, Sc.none w, Sc.none w⟩, qka, ⟨fun h => absurd rfl h⟩, Nat.le_refl _, by show (0 : Nat) ≤ _; omega, by show (-9223372036854775808 : Int) ≤ 5; omega, by show (5 : Int) ≤ 9223372036854775807; omega, by show (-9223372036854775808 : Int) ≤ 0; omega, by show (0 : Int) ≤ 9223372036854775807; omega, h⟩, Nat.le_refl _, by show (0 : Nat) ≤ _; omega, fun h => absurd rfl h, fun t h => by cases h⟩
theorem zrg (w : World) : qtc.rd w := zud w 2 (by decide) (by decide)
theorem qda {s : ByteArray} (h : zx zq (qab s) = true) : (qab s).good := by
 have h1 := qsc h
 unfold qab at h1 ⊢
 rw [qbh, Bool.and_eq_true] at h1
 refine qhf.2 ⟨qfd (k := 5) (n := 0) (q := Q6.zero) (s := s) (mr := 0) (ml := 0) h1.1, (fun e => by cases e), (fun t ht => by cases ht)⟩
theorem zzf : zx zq (qab ⟨#[65, 98]⟩) = true := by decide +kernel
theorem zzg : zx zq (qab ⟨#[97, 66]⟩) = true := by decide +kernel
theorem zzh : zx zq qtc.tr = true := by decide +kernel
theorem zrh : qqa (qab ⟨#[65, 98]⟩) = qab ⟨#[97, 98]⟩ := by
 have e : vw ⟨#[65, 98]⟩ = ⟨#[97, 98]⟩ := by unfold vw; rw [show C.fold (ByteArray.mk #[65, 98]).data.toList = [97, 98] from by decide +kernel]
 unfold qqa; show Tr.mk 5 0 Q6.zero (vw ⟨#[65, 98]⟩) [] [] = _; rw [e]; rfl
theorem zri : qqa (qab ⟨#[97, 66]⟩) = qab ⟨#[97, 98]⟩ := by
 have e : vw ⟨#[97, 66]⟩ = ⟨#[97, 98]⟩ := by unfold vw; rw [show C.fold (ByteArray.mk #[97, 66]).data.toList = [97, 98] from by decide +kernel]
 unfold qqa; show Tr.mk 5 0 Q6.zero (vw ⟨#[97, 66]⟩) [] [] = _; rw [e]; rfl
theorem qwf : zx zq (qab ⟨#[97, 98]⟩) = true := by decide +kernel
theorem zkj {w : World} (hT : Tabs8 w) : Calls Tryz.prog 7 #[] w fun e w' => e = .returned (.bool true) ∧ Below w.heap.size w w' := by
 have M : Mg w w ([]) := Mg.start w
 refine za (l := []) Tryz.func7 rfl Tryz.ntmps7 rfl rfl ?_
 intro Q hret hnorm hP a A
 refine wsk fun K1 hK1 => wrl (sda A λa A↦?_)
 refine qa (hK1 _ _ (wsk fun K2 hK2 => wrl (sct A (ef rfl rfl) (zef (kind := 2) rfl) ?_)))
 rintro _ w3 ⟨g, m, rfl, hM9⟩
 replace M : Mg w w3 (((TS.zero m).P g 2)) := hM9
 refine ⟨_, rfl, ?_⟩
 intro a A
 refine sdm A λa A↦?_
 iterate 2 refine sdo A (qh (vs := [.pointer (some ⟨g, 0, none⟩), .int .i64 0]) rfl rfl) λa A↦?_
 iterate 2 refine sda A λa A↦?_
 refine qa (hK2 _ _ (wsk fun K4 hK4 => wsk fun K5 hK5 => wrl (sdm A λa A↦?_)))
 refine sdo (v := .bool false) A (qk rfl rfl (fun w => by kernel_rfl)) λa A↦?_
 iterate 2 refine sdm A λa A↦?_
 refine sdo (v := .bool false) A (qk rfl rfl (qia Tryz.underlying24)) λa A↦?_
 refine sdk (v := .bool false) A λa A↦?_
 iterate 2 refine sdm A λa A↦?_
 refine sdo (v := .agg ((zi ⟨#[65, 98]⟩).d.cells (zi ⟨#[65, 98]⟩).ts.length).toArray) A (zg rfl (fun w => by kernel_rfl)) λa A↦?_
 refine sdo (v := .agg (qtc.d.cells qtc.ts.length).toArray) A (zg rfl (fun w => by kernel_rfl)) λa A↦?_
 refine sct A (ef rfl rfl) (qwe qqc (m := m) (Y := []) (g := g) (fun c hc => by cases hc) hT (t := zi ⟨#[65, 98]⟩) (v := qtc) (fun w9 _ => qed _ (by decide)) (fun w9 _ => zrg _) (by decide +kernel) (by decide +kernel) (by rw [xk]; exact zzf) zzh (by rw [xk]; rfl) (by rw [xk, zrh]; exact qwf) (by rw [xk, zrh]; exact qda qwf) M) ?_
 rintro _ w6 ⟨s9, rfl, ⟨hs9, hc9, hH⟩, hM9⟩
 replace M : Mg w w6 ((s9.P g 2)) := hM9
 refine ⟨_, rfl, ?_⟩
 intro a A
 refine sdo (v := .bool false) A (qk rfl rfl (fun w => by kernel_rfl)) λa A↦?_
 refine sdk (v := .bool false) A λa A↦?_
 refine qa (hK5 _ _ (wp_cond_false (A.ev rfl) ?_))
 refine wp_skip (hK4 _ _ (wsk fun K7 hK7 => wrl (sdm A λa A↦?_)))
 refine sdo (v := .agg ((zi ⟨#[97, 66]⟩).d.cells (zi ⟨#[97, 66]⟩).ts.length).toArray) A (zg rfl (fun w => by kernel_rfl)) λa A↦?_
 refine sct A (ef rfl rfl) (qqe qqc hs9 (Y := []) (g := g) (hT.below M.bel) (t := zi ⟨#[97, 66]⟩) (qed _ (by decide)) (by decide +kernel) (by rw [xk]; exact zzg) (by rw [xk]; rfl) (by rw [xk, zri]; exact qwf) (by rw [xk, zri]; exact qda qwf) hc9 M) ?_
 rintro _ w8 (⟨e9, he9, hm9, r9, rfl, ⟨hr9, -, ht9⟩, hb9⟩ | ⟨-, hn9, -⟩)
 rotate_left
 ·
  obtain ⟨e9, he9, hk9⟩ := hH.mem.1 (List.mem_singleton.2 rfl); exact absurd (by rw [show e9.k.tr = (zi ⟨#[65, 98]⟩).tr from congrArg Prod.fst hk9, xk, xk, zrh, zri]) (hn9 e9 he9)
 have hk9 : r9.d.k = 2 := by
  have h7 := hH.mem.2 ⟨e9, he9, rfl⟩
  have h8 := congrArg Prod.snd (List.mem_singleton.1 h7)
  rw [← zyc, ht9, show e9.v.tr = qtc.tr from h8]; rfl
 replace M := M.call hb9
 refine ⟨_, rfl, ?_⟩
 intro a A
 refine sdm A λa A↦?_
 iterate 2 refine sdo A (qh (vs := [.agg (r9.d.cells r9.ts.length).toArray, .int .i64 0]) rfl rfl) λa A↦?_
 refine jg (vs := (qx.d.cells qx.ts.length)) (t := 38) A M rfl rfl rfl pg (qi (z := .agg (qx.d.cells qx.ts.length).toArray) (by kernel_rfl) rfl) (by decide) ?_
 intro g9 w10 M a A
 refine jc (us := (r9.d.cells r9.ts.length)) (L' := (.obj g9 (.cells (r9.d.cells r9.ts.length).toArray 38) :: (s9.P g 2))) A M rfl rfl (ze rfl rfl rfl (by kernel_rfl) M 0 rfl rfl rfl) 0 rfl rfl rfl ?_
 intro w11 M
 refine sda A λa A↦?_
 refine qa (hK7 _ _ (wsk fun K12 hK12 => wrl (sdm A λa A↦?_)))
 refine sdo (v := .bool true) A (qk rfl rfl (fun w => by kernel_rfl)) λa A↦?_
 refine sdm A λa A↦?_
 refine sdo (v := .pointer (some ⟨g9, 0, none⟩)) A (qb TeF_fld_38_0 rfl rfl) λa A↦?_
 refine sdo A (qr M TeF_is1_3 rfl 0 rfl rfl) λa A↦?_
 refine sdo (v := .bool true) A (qk rfl rfl (fun w => (qp w).trans (by rw [show ((r9.d.k == 2)) = true from (beq_iff_eq.2 hk9)]))) λa A↦?_
 refine sdk (v := .bool true) A λa A↦?_
 refine sda A λa A↦?_
 refine qa (hK12 _ _ (wp_ret (hret _ _ (en1 A rfl (ql rfl) ?_))))
 exact ⟨rfl, M.bel⟩
theorem uf (n : Int) : Q6.rat (mkRat n 1) 0 = qs n := by
  rw [zhj]; unfold qs rb; rfl
theorem qid {n : Int} (h : n.natAbs ≤ 18446744073709551616) : (words n.natAbs).length ≤ 512 := Nat.le_trans (words_mono h) (by decide +kernel)
theorem qbd {n : Int} (h : n.natAbs ≤ 18446744073709551616) : jx (mkRat n 1) := by
  rw [Rat.mkRat_one]
  exact ⟨qid h, by show (words 1).length ≤ 512; decide +kernel⟩
theorem qbf : jx 0 := by
  have := qbd (n := 0) (by decide)
  rwa [Rat.zero_mkRat] at this
/-- The rest by 10. -/
theorem zrj {m : Int} (h : m.natAbs ≤ 4611686018427387904) : zma (mkRat (zxd (mkRat m 1) (mkRat 10 1)) 1) 0 = (qs (m / 10), 0) ∧ zma (zhh (mkRat m 1) (mkRat 10 1)) 0 = (qs (m % 10), 0) := by
  have hne : (mkRat 10 1 : Rat) ≠ 0 := by rw [Rat.mkRat_one]; decide
  have e1 := ztg (u := mkRat m 1) hne
  have e2 := zxe (u := mkRat m 1) (x := mkRat 10 1)
  have e3 := zxf (u := mkRat m 1) hne
  generalize hq : zxd (mkRat m 1) (mkRat 10 1) = k at e1
  generalize hr : zhh (mkRat m 1) (mkRat 10 1) = r at e1 e2 e3
  have e4 : r = ((m - k * 10 : Int) : Rat) := by
    rw [Rat.mkRat_one, Rat.mkRat_one, Rat.mkRat_one] at e1
    rw [Rat.intCast_sub, Rat.intCast_mul, ← e1]
    rw [Rat.add_comm, Rat.sub_eq_add_neg, Rat.add_assoc, Rat.add_neg_cancel, Rat.add_zero]
  have e5 : (0 : Int) ≤ m - k * 10 := by
    rw [e4] at e2
    exact Rat.intCast_nonneg.1 e2
  have e6 : m - k * 10 < 10 := by
    rcases e3 with e3 | e3
    · rw [e4, Rat.mkRat_one] at e3
      exact Rat.intCast_lt_intCast.1 e3
    · rw [e4, Rat.mkRat_one, ← Rat.intCast_neg] at e3
      have := Rat.intCast_lt_intCast.1 e3
      omega
  have e7 : k = m / 10 := by omega
  have e8 : m - k * 10 = m % 10 := by omega
  have e9 : r = mkRat (m % 10) 1 := by rw [e4, e8, Rat.mkRat_one]
  rw [e9, e7]
  have f1 := qbd (n := m / 10) (by omega)
  have f2 := qbd (n := m % 10) (by omega)
  unfold zma
  rw [if_pos ⟨f1, qbf⟩, if_pos ⟨f2, qbf⟩, uf, uf]
  exact ⟨rfl, rfl⟩
def qfj (n : Int) : Tr := .mk 3 0 (qs n) ⟨#[]⟩ [] []
theorem zsa {a b : Int} (h : qs a = qs b) : a = b := by
  rw [← uf, ← uf] at h
  have := congrArg reQ h
  rw [ku, ku, Rat.mkRat_one, Rat.mkRat_one] at this
  exact Rat.intCast_inj.1 this
theorem zaf {a b : Int} (h : qfj a = qfj b) : a = b := by unfold qfj at h; injection h with _ _ h; exact zsa h
theorem ki {n : Int} (h : n.natAbs ≤ 18446744073709551616) : zx zq (qfj n) = true := by
  have h1 : xn (qs n) = true := by
    unfold qs
    refine qgj (qid h) ?_
    by_cases k : n < 0
    · rw [decide_eq_true k]; show 1 ≤ _; omega
    · rw [decide_eq_false k]; exact Nat.zero_le _
  unfold zx qfj
  simp [xe, qbg, qbh, qij, zq, jt, vt, qcd, h1]
theorem qqf {n : Int} (h : n.natAbs ≤ 18446744073709551616) : (qfj n).good := by
  have h1 := qsc (ki h)
  unfold qfj at h1 ⊢
  rw [qbh, Bool.and_eq_true] at h1
  exact qhf.2 ⟨qfd (k := 3) (n := 0) (q := qs n) (s := ⟨#[]⟩) (mr := 0) (ml := 0) h1.1, fun _ => ⟨mkRat n 1, 0, (uf n).symm, qbd h, qbf⟩, (fun t ht => by cases ht)⟩
def zhb (t : Tr) : Prop := ∃ m : Int, m.natAbs ≤ 4611686018427387904 ∧ t = qfj m
noncomputable def ok3 (t : Tr) : Bool := decide (zhb t)
noncomputable def mk3 (t : Tr) : Tr := if h : zhb t then qfj (Classical.choose h % 10) else t
theorem zzi {t : Tr} (h : ok3 t = true) : zhb t := of_decide_eq_true h
theorem qwg {m : Int} (h : m.natAbs ≤ 4611686018427387904) : ok3 (qfj m) = true := decide_eq_true ⟨m, h, rfl⟩
theorem km {m : Int} (h : m.natAbs ≤ 4611686018427387904) : mk3 (qfj m) = qfj (m % 10) := by
  have k : zhb (qfj m) := ⟨m, h, rfl⟩
  unfold mk3
  rw [dif_pos k]
  have := zaf (Classical.choose_spec k).2
  rw [← this]
theorem qie {n : Int} (h : n.natAbs ≤ 18446744073709551616) : LenQ (qs n) := by
  rw [← uf]; exact uw (qbd h) qbf
/-! ### All that is there, as pieces -/
/-- What is no block of these pieces. -/
noncomputable def others (w0 w : World) (L : List Ck) : List Ck := (froz w w0.heap.size (w.heap.size - w0.heap.size)).filter fun c => decide (∀ d ∈ L, ∀ b, c.at_ = some b → d.at_ ≠ some b)
theorem zeg {w0 w : World} {L : List Ck} : xl (others w0 w L) := fun c hc => qyg c (List.mem_filter.1 hc).1
theorem Mg.fill {w0 w : World} {L : List Ck} (hM : Mg w0 w L) (hnb : xl L) : Mg w0 w (others w0 w L ++ L) := by
  refine ⟨hM.bel, fun c hc => ?_, List.pairwise_append.2 ⟨(qdi _ _).filter _, hM.dis, fun c hc d hd => ?_⟩⟩
  · rcases List.mem_append.1 hc with h | h
    · obtain ⟨b, o, rfl, h3, h4⟩ := ya (List.mem_filter.1 h).1
      exact ⟨h3, h4⟩
    · exact hM.all c h
  · have h5 := of_decide_eq_true (List.mem_filter.1 hc).2
    obtain ⟨b, o, rfl, h3, h4⟩ := ya (List.mem_filter.1 hc).1
    have h6 := h5 d hd b rfl
    cases d with
    | obj g' o' => exact fun e => h6 (by rw [e]; rfl)
    | row e' sz' v' n' xs' => exact h6
    | bld b' bs' => exact absurd rfl (hnb _ hd b' bs')
/-- A datum that lies in no block of these pieces stands by the others. -/
theorem qlf {w0 w : World} {L : List Ck} (hM : Mg w0 w L) {t : Dt} (ht : t.rd w) (ha : t.at_ fun b => ∀ d ∈ L, d.at_ ≠ some b) : ∀ w9, Mg w0 w9 (others w0 w L) → t.rd w9 := fun w9 h9 => by
  refine Dt.seen (p := fun b => ∀ d ∈ L, d.at_ ≠ some b) (fun b i v hb hc => ?_) t ht ha
  have hlt := cell_lt hc
  by_cases h0 : b < w0.heap.size
  · have e : w9.heap[b]? = w.heap[b]? := (h9.bel.block b h0).trans (hM.bel.block b h0).symm
    unfold World.cell? at hc ⊢
    simp only at hc ⊢
    rw [e]; exact hc
  · have h2 : w.heap[b]? = some (w.heap[b]'hlt) := Array.getElem?_eq_getElem hlt
    have h3 : Ck.obj b (w.heap[b]'hlt) ∈ others w0 w L := List.mem_filter.2 ⟨qoc (by omega) (by simp only at *; omega) h2, decide_eq_true fun d hd b' e => by cases e; exact hb d hd⟩
    have h4 := (h9.all _ h3).2
    unfold World.cell? at hc ⊢
    simp only at hc ⊢
    rw [h4, ← h2]; exact hc
/-- No words lie there. -/
def qac (w : World) (c : Ck) : Prop := ∀ b, c.at_ = some b → ∀ i z, w.cell? ⟨b, i, none⟩ ≠ some (.int .u32 z)
theorem yv {w0 w : World} {L : List Ck} (hM : Mg w0 w L) (k : Nat) {g : Nat} {vs : List Value} {t : TypeId} (hk : L[k]? = some (.obj g (.cells vs.toArray t))) (hw : vs.all qza = true) : qac w (.obj g (.cells vs.toArray t)) := fun b e i z hc => by
  cases e
  rw [cell_of_row w g _ vs.toArray t (0, 0) (hM.obj k hk)] at hc
  have h5 : Value.int .u32 z ∈ vs := List.mem_of_getElem? (i := i) (by simpa using hc)
  have := List.all_eq_true.1 hw _ h5
  cases this
theorem qwh {w0 w : World} {L : List Ck} (hM : Mg w0 w L) (k : Nat) {g : Nat} {es : List En} {ck : Nat} (hk : L[k]? = some (.obj g (xw es ck))) : qac w (.obj g (xw es ck)) := fun b e i z hc => by
  cases e
  have := hM.obj k hk
  unfold World.cell? at hc
  simp only at hc
  rw [this] at hc
  cases hc
theorem qtd {w : World} {L : List Ck} (h : ∀ d ∈ L, qac w d) {t : Dt} (ht : t.rd w) (h1 : t.d.rl = []) (h2 : t.ts = []) : t.at_ fun b => ∀ d ∈ L, d.at_ ≠ some b := by
  have key : ∀ {so : Option Addr} {l : List Nat}, Rd w so l → In (fun b => ∀ d ∈ L, d.at_ ≠ some b) so l := fun hr hne b o e d hd hb => by
    obtain ⟨b', off, k1, k2, k3⟩ := hr.pos hne
    rw [k1] at e; cases e
    exact h d hd _ hb _ _ (k3 0 (List.length_pos_iff.2 hne))
  cases t with
  | mk d ts =>
    simp only [Dt.d, Dt.ts] at h1 h2
    subst h2
    rw [Dt.rd_iff] at ht
    rw [Dt.at_iff]
    exact ⟨⟨key ht.1.num.s1.rd, key ht.1.num.s2.rd, key ht.1.num.s3.rd, key ht.1.num.s4.rd, fun hne => absurd h1 hne⟩, fun hne => absurd rfl hne, fun t ht => by cases ht⟩
end Go.Proofs.YtjlpecapebhgjaaGreatDoor.G
