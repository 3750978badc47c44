/- Walks of numbers over one bottom. Walks of sums, differences, products and quotients. Walks of Add, Sub, Mul, Div. Walks of the text of minus three halves, and of the fixed fact. Walks of the law of the field. Walks of the document's products and inverses. The document's -a - 1, and shifts of numbers. Walks of the document's -a - 1, and of shifts. How long numbers are in bits, and their opposites less one. Walks of the document's shifts, of lengths, of opposites less one, and of questions of sameness. How many bits of a number are 1. Walks of how many bits are 1. Rows of bits put together word by word. Walks of rows of bits put together. Numbers put together bit by bit. Walks of numbers put together bit by bit, and of Not. The fixed fact on bits. Walks of the fixed fact, and of sameness by the document. Walks of the document's Mul and Div, and the law on products. Walks of the document's Add, Sub and order. Walks of the document's Cmp. Walks of the document's Same. Walks of the document's Int. What each operation on whole numbers of the machine answers, for any kind and any numbers: the answer is named, and told by an equation. A number as an int of the machine, where it is one. Walks of Small: a number as an int of the machine. Walks of the document's Small. Walks of the order and the quotients of real numbers. Walks of Cmp and of the quotients. The document's Small and Int of any number, and the walk of the law of sums. Quotient and rest of real numbers. The greatest whole number not above a rational one; quotients and rests of rational numbers by it. -/
import Derived.Test.YthlkbnhbmfmchaaGreatPexactw11a
import Derived.Test.YthlkbnhbmfmchaaGreatShiftRef2
import Derived.Test.YthlkbnhbmfmchaaGreatNatQ
import Derived.Test.YthlkbnhbmfmchaaGreatBits
import Derived.Test.YthlkbnhbmfmchaaGreatNatA
import Derived.Laws.Entries
import Derived.WalkKit
namespace Go.Proofs.YthlkbnhbmfmchaaGreat
open Go.RowKit
set_option linter.unusedVariables false
set_option linter.unusedSimpArgs false
set_option maxRecDepth 100000
theorem ExJ_is1_22 : Is1 Tryz.prog 22 := ⟨⟨_, Tryz.underlying22, rfl⟩, by kernel_rfl⟩
theorem ExJ_fld_26_0 : FieldAt Tryz.prog 26 0 0 := ⟨_, _, Tryz.underlying26, rfl, rfl, by kernel_rfl⟩
theorem ExJ_fld_26_1 : FieldAt Tryz.prog 26 1 3 := ⟨_, _, Tryz.underlying26, rfl, rfl, by kernel_rfl⟩
theorem ExJ_fld_55_0 : FieldAt Tryz.prog 55 0 0 := ⟨_, _, Tryz.underlying55, rfl, rfl, by kernel_rfl⟩
theorem ExJ_fld_55_1 : FieldAt Tryz.prog 55 1 2 := ⟨_, _, Tryz.underlying55, rfl, rfl, by kernel_rfl⟩
theorem ExJ_fld_55_2 : FieldAt Tryz.prog 55 2 4 := ⟨_, _, Tryz.underlying55, rfl, rfl, by kernel_rfl⟩
theorem ExJ_isS_24 : IsS Tryz.prog 24 3 := ⟨⟨_, Tryz.underlying24⟩, by kernel_rfl⟩
theorem ExJ_isS_26 : IsS Tryz.prog 26 6 := ⟨⟨_, Tryz.underlying26⟩, by kernel_rfl⟩
theorem ExJ_isS_53 : IsS Tryz.prog 53 2 := ⟨⟨_, Tryz.underlying53⟩, by kernel_rfl⟩
theorem ExJ_isS_55 : IsS Tryz.prog 55 5 := ⟨⟨_, Tryz.underlying55⟩, by kernel_rfl⟩
theorem fitsB_any {w : World} {b : Bool} {n m : Nat} {o1 o2 : Option Addr} {c1 c2 : Nat} (h1 : Sc w o1 c1 (words n)) (h2 : Sc w o2 c2 (words m)) (l1 : (words n).length ≤ 9223372036854775807) (l2 : (words m).length ≤ 9223372036854775807) {r : Bool} (hr : (decide ((words n).length ≤ 512) && decide ((words m).length ≤ 512)) = r) :
    Calls Tryz.prog 109 #[.agg #[.bool b, .slice o1 (words n).length c1, .slice o2 (words m).length c2]] w fun e w' => e = .returned (.bool r) ∧ Below w.heap.size w w' := by
  subst hr
  rw [← sound_len, ← sound_len]
  exact fits_any c1 c2 h1.rd h2.rd l1 l2
theorem setQ_pos {x y : Int} {d : Nat} (h1 : (decide ((words (rt x d)).length ≤ 512) && decide ((words (rq x d)).length ≤ 512)) = true) (h2 : (decide ((words (rt y d)).length ≤ 512) && decide ((words (rq y d)).length ≤ 512)) = true) : setQ x y d = (⟨rb x, words (rt x d), words (rq x d), rb y, words (rt y d), words (rq y d)⟩, 0) := by
  simp only [Bool.and_eq_true, decide_eq_true_eq] at h1 h2
  unfold setQ
  rw [if_pos ⟨h1.1, h1.2, h2.1, h2.2⟩]
theorem setQ_neg1 {x y : Int} {d : Nat} (h1 : (decide ((words (rt x d)).length ≤ 512) && decide ((words (rq x d)).length ≤ 512)) = false) : setQ x y d = (Q6.zero, 4) := by
  unfold setQ
  rw [if_neg]
  rintro ⟨a, b, _⟩
  rw [decide_eq_true a, decide_eq_true b] at h1
  cases h1
theorem setQ_neg2 {x y : Int} {d : Nat} (h1 : (decide ((words (rt y d)).length ≤ 512) && decide ((words (rq y d)).length ≤ 512)) = false) : setQ x y d = (Q6.zero, 4) := by
  unfold setQ
  rw [if_neg]
  rintro ⟨_, _, a, b⟩
  rw [decide_eq_true a, decide_eq_true b] at h1
  cases h1
theorem zsettle_any {w : World} {x y : Int} {d : Nat} {a1 a2 a3 : Option Addr} {ac1 ac2 ac3 : Nat} (ha1 : Sc w a1 ac1 (words x.natAbs)) (ha2 : Sc w a2 ac2 (words y.natAbs)) (ha3 : Sc w a3 ac3 (words d)) (l1 : (words x.natAbs).length ≤ 50000) (l2 : (words y.natAbs).length ≤ 50000) (l3 : (words d).length ≤ 50000) (hd : d ≠ 0) : Calls Tryz.prog 63 #[.agg #[.bool (rb x), .slice a1 (words x.natAbs).length ac1, .bool (rb y), .slice a2 (words y.natAbs).length ac2, .slice a3 (words d).length ac3]] w (AnsN w (setQ x y d)) := by
 have hS : St w w [] [(a3, words d), (a2, words y.natAbs), (a1, words x.natAbs)] [] := (((St.start w).addR ha1.rd).addR ha2.rd).addR ha3.rd
 refine walk_of (l := [(0, .agg #[.bool ((rb x)), .slice a1 ((words x.natAbs).length) ac1, .bool ((rb y)), .slice a2 ((words y.natAbs).length) ac2, .slice a3 ((words d).length) ac3])]) Tryz.func63 rfl Tryz.ntmps63 rfl rfl ?_
 intro Q hret hnorm hP a hA
 refine wp_seq_k (fun K1 hK1 => ?_)
 refine wp_region_lit ?_
 refine seq_new hA hS rfl rfl rfl (fun g => .pointer (some ⟨g, 0, none⟩)) (d_box rfl rfl) rfl ?_
 intro g2 w3 hS a hA
 refine seq_new (vs := [.bool false, .slice none 0 0, .slice none 0 0, .bool false, .slice none 0 0, .slice none 0 0]) (t := 26) hA hS rfl rfl rfl (fun g => .pointer (some ⟨g, 0, none⟩)) (d_alloc (z := .agg #[.bool false, .slice none 0 0, .slice none 0 0, .bool false, .slice none 0 0, .slice none 0 0]) (by kernel_rfl) rfl) rfl ?_
 intro g4 w5 hS a hA
 refine seq_do hA rfl rfl rfl (d_assign rfl) ?_
 intro a hA
 refine seq_end ?_
 refine hK1 _ _ ?_
 refine wp_seq_k (fun K6 hK6 => ?_)
 have hJ37 : ∀ a w1, (∃ (J20g : Nat) (J21 : Option Addr) (J22 : Nat) (J23 : Option Addr) (J24 : Nat) (J25 : Option Addr) (J26 : Nat) (J27 : Option Addr) (J28 : Nat), Sl a 28 [(0, .agg #[.bool ((rb x)), .slice a1 ((words x.natAbs).length) ac1, .bool ((rb y)), .slice a2 ((words y.natAbs).length) ac2, .slice a3 ((words d).length) ac3]), (2, .pointer (some ⟨g4, 0, none⟩)), (3, .int .i64 0), (4, .pointer (some ⟨J20g, 0, none⟩))] ∧ St w w1 [(J20g, [.bool ((rb x)), .slice J21 ((words (rt x d)).length) J22, .slice J23 ((words (rq x d)).length) J24, .bool ((rb y)), .slice J25 ((words (rt y d)).length) J26, .slice J27 ((words (rq y d)).length) J28]), (g4, [.bool false, .slice none 0 0, .slice none 0 0, .bool false, .slice none 0 0, .slice none 0 0]), (g2, [.bool ((rb x)), .slice a1 ((words x.natAbs).length) ac1, .bool ((rb y)), .slice a2 ((words y.natAbs).length) ac2, .slice a3 ((words d).length) ac3])] [(J27, words (rq y d)), (J25, words (rt y d)), (J23, words (rq x d)), (J21, words (rt x d)), (a3, words d), (a2, words y.natAbs), (a1, words x.natAbs)] [] ∧ (J27 = none → J28 = 0) ∧ (words (rq y d) : List Nat).length ≤ J28 ∧ (J25 = none → J26 = 0) ∧ (words (rt y d) : List Nat).length ≤ J26 ∧ (J23 = none → J24 = 0) ∧ (words (rq x d) : List Nat).length ≤ J24 ∧ (J21 = none → J22 = 0) ∧ (words (rt x d) : List Nat).length ≤ J22) → K6 a w1 := by
   clear hA hS
   rintro a w38 ⟨J20g, J21, J22, J23, J24, J25, J26, J27, J28, hA, hS, hn29, hc30, hn31, hc32, hn33, hc34, hn35, hc36⟩
   refine hK6 _ _ ?_
   refine wp_seq_k (fun K39 hK39 => ?_)
   refine wp_seq_k (fun K40 hK40 => ?_)
   refine wp_region_lit ?_
   refine seq_do (v := .pointer (some ⟨J20g, 0, none⟩)) hA rfl rfl rfl (d_field ExJ_fld_26_0 rfl rfl) ?_
   intro a hA
   refine seq_do hA rfl rfl rfl (d_loadS hS ExJ_isS_24 rfl 0 rfl (cs := [.bool ((rb x)), .slice J21 ((words (rt x d)).length) J22, .slice J23 ((words (rq x d)).length) J24]) rfl rfl) ?_
   intro a hA
   rcases Bool.eq_false_or_eq_true ((decide ((words (rt x d)).length ≤ 512) && decide ((words (rq x d)).length ≤ 512))) with hb41 | hb41
   · refine seq_call hA rfl rfl rfl (enters_func  rfl rfl (fun w => by kernel_rfl)) (fitsB_any ⟨(hS.rd 3 rfl), hn35, hc36⟩ ⟨(hS.rd 2 rfl), hn33, hc34⟩ (by have h9 := div_len (g := Nat.gcd x.natAbs d) l1; unfold rt; omega) (by have h9 := div_len (g := Nat.gcd x.natAbs d) l3; unfold rq; omega) hb41) ?_
     rintro _ w43 ⟨rfl, hb42⟩
     replace hS := hS.call hb42
     refine ⟨_, rfl, ?_⟩
     intro a hA
     refine seq_do (v := .bool false) hA rfl rfl rfl (d_un rfl un_not) ?_
     intro a hA
     refine seq_do hA rfl rfl rfl (d_move rfl) ?_
     intro a hA
     refine seq_do (v := .pointer (some ⟨J20g, 3, none⟩)) hA rfl rfl rfl (d_field ExJ_fld_26_1 rfl rfl) ?_
     intro a hA
     refine seq_do hA rfl rfl rfl (d_loadS hS ExJ_isS_24 rfl 0 rfl (cs := [.bool ((rb y)), .slice J25 ((words (rt y d)).length) J26, .slice J27 ((words (rq y d)).length) J28]) rfl rfl) ?_
     intro a hA
     rcases Bool.eq_false_or_eq_true ((decide ((words (rt y d)).length ≤ 512) && decide ((words (rq y d)).length ≤ 512))) with hb44 | hb44
     · refine seq_call hA rfl rfl rfl (enters_func  rfl rfl (fun w => by kernel_rfl)) (fitsB_any ⟨(hS.rd 1 rfl), hn31, hc32⟩ ⟨(hS.rd 0 rfl), hn29, hc30⟩ (by have h9 := div_len (g := Nat.gcd y.natAbs d) l2; unfold rt; omega) (by have h9 := div_len (g := Nat.gcd y.natAbs d) l3; unfold rq; omega) hb44) ?_
       rintro _ w46 ⟨rfl, hb45⟩
       replace hS := hS.call hb45
       refine ⟨_, rfl, ?_⟩
       intro a hA
       refine seq_do (v := .bool false) hA rfl rfl rfl (d_un rfl un_not) ?_
       intro a hA
       refine seq_do (v := .bool false) hA rfl rfl rfl (d_pick rfl rfl rfl rfl) ?_
       intro a hA
       refine seq_end ?_
       refine hK40 _ _ ?_
       refine wp_cond_false (hA.ev rfl) ?_
       refine wp_skip ?_
       refine hK39 _ _ ?_
       refine wp_seq_k (fun K47 hK47 => ?_)
       refine wp_region_lit ?_
       refine seq_do hA rfl rfl rfl (d_loadS hS ExJ_isS_26 rfl 0 rfl (cs := [.bool ((rb x)), .slice J21 ((words (rt x d)).length) J22, .slice J23 ((words (rq x d)).length) J24, .bool ((rb y)), .slice J25 ((words (rt y d)).length) J26, .slice J27 ((words (rq y d)).length) J28]) rfl rfl) ?_
       intro a hA
       refine seq_store (us := [.bool ((rb x)), .slice J21 ((words (rt x d)).length) J22, .slice J23 ((words (rq x d)).length) J24, .bool ((rb y)), .slice J25 ((words (rt y d)).length) J26, .slice J27 ((words (rq y d)).length) J28]) hA hS rfl rfl (sets_store rfl rfl rfl (by kernel_rfl) hS 1 rfl rfl rfl) 1 rfl rfl rfl rfl ?_
       intro w48 hS
       refine seq_do hA rfl rfl rfl (d_assign rfl) ?_
       intro a hA
       refine seq_end ?_
       refine hK47 _ _ ?_
       refine wp_ret ?_
       refine hret _ _ ?_
       refine ends (v := .tuple #[.agg #[.bool ((rb x)), .slice J21 ((words (rt x d)).length) J22, .slice J23 ((words (rq x d)).length) J24, .bool ((rb y)), .slice J25 ((words (rt y d)).length) J26, .slice J27 ((words (rq y d)).length) J28], .int .i64 0]) hA rfl (.cons (res_cell hS ExJ_isS_26 rfl 1 rfl (cs := [.bool ((rb x)), .slice J21 ((words (rt x d)).length) J22, .slice J23 ((words (rq x d)).length) J24, .bool ((rb y)), .slice J25 ((words (rt y d)).length) J26, .slice J27 ((words (rq y d)).length) J28]) rfl rfl) (.cons (res_tmp rfl) .nil)) rfl ?_
       rw [setQ_pos hb41 hb44]
       exact ⟨J21, J22, J23, J24, J25, J26, J27, J28, rfl, ⟨⟨(hS.rd 3 rfl), hn35, hc36⟩, ⟨(hS.rd 2 rfl), hn33, hc34⟩, ⟨(hS.rd 1 rfl), hn31, hc32⟩, ⟨(hS.rd 0 rfl), hn29, hc30⟩⟩, hS.bel⟩
     · refine seq_call hA rfl rfl rfl (enters_func  rfl rfl (fun w => by kernel_rfl)) (fitsB_any ⟨(hS.rd 1 rfl), hn31, hc32⟩ ⟨(hS.rd 0 rfl), hn29, hc30⟩ (by have h9 := div_len (g := Nat.gcd y.natAbs d) l2; unfold rt; omega) (by have h9 := div_len (g := Nat.gcd y.natAbs d) l3; unfold rq; omega) hb44) ?_
       rintro _ w50 ⟨rfl, hb49⟩
       replace hS := hS.call hb49
       refine ⟨_, rfl, ?_⟩
       intro a hA
       refine seq_do (v := .bool true) hA rfl rfl rfl (d_un rfl un_not) ?_
       intro a hA
       refine seq_do (v := .bool true) hA rfl rfl rfl (d_pick rfl rfl rfl rfl) ?_
       intro a hA
       refine seq_end ?_
       refine hK40 _ _ ?_
       refine wp_cond_true (hA.ev rfl) ?_
       refine wp_seq_k (fun K51 hK51 => ?_)
       refine wp_region_lit ?_
       refine seq_do (v := .agg #[.bool false, .slice none 0 0, .slice none 0 0, .bool false, .slice none 0 0, .slice none 0 0]) hA rfl rfl rfl (d_build rfl (fun w => by kernel_rfl)) ?_
       intro a hA
       refine seq_store (us := [.bool false, .slice none 0 0, .slice none 0 0, .bool false, .slice none 0 0, .slice none 0 0]) hA hS rfl rfl (sets_store rfl rfl rfl (by kernel_rfl) hS 1 rfl rfl rfl) 1 rfl rfl rfl rfl ?_
       intro w52 hS
       refine seq_do hA rfl rfl rfl (d_assign rfl) ?_
       intro a hA
       refine seq_end ?_
       refine hK51 _ _ ?_
       refine wp_ret ?_
       refine hret _ _ ?_
       refine ends (v := .tuple #[.agg #[.bool false, .slice none 0 0, .slice none 0 0, .bool false, .slice none 0 0, .slice none 0 0], .int .i64 4]) hA rfl (.cons (res_cell hS ExJ_isS_26 rfl 1 rfl (cs := [.bool false, .slice none 0 0, .slice none 0 0, .bool false, .slice none 0 0, .slice none 0 0]) rfl rfl) (.cons (res_tmp rfl) .nil)) rfl ?_
       rw [setQ_neg2 hb44]
       exact ⟨none, 0, none, 0, none, 0, none, 0, rfl, ⟨(Sc.none _), (Sc.none _), (Sc.none _), (Sc.none _)⟩, hS.bel⟩
   · refine seq_call hA rfl rfl rfl (enters_func  rfl rfl (fun w => by kernel_rfl)) (fitsB_any ⟨(hS.rd 3 rfl), hn35, hc36⟩ ⟨(hS.rd 2 rfl), hn33, hc34⟩ (by have h9 := div_len (g := Nat.gcd x.natAbs d) l1; unfold rt; omega) (by have h9 := div_len (g := Nat.gcd x.natAbs d) l3; unfold rq; omega) hb41) ?_
     rintro _ w54 ⟨rfl, hb53⟩
     replace hS := hS.call hb53
     refine ⟨_, rfl, ?_⟩
     intro a hA
     refine seq_do (v := .bool true) hA rfl rfl rfl (d_un rfl un_not) ?_
     intro a hA
     refine seq_do hA rfl rfl rfl (d_move rfl) ?_
     intro a hA
     refine seq_skip hA rfl rfl rfl ?_
     intro a hA
     refine seq_skip hA rfl rfl rfl ?_
     intro a hA
     refine seq_skip hA rfl rfl rfl ?_
     intro a hA
     refine seq_skip hA rfl rfl rfl ?_
     intro a hA
     refine seq_do (v := .bool true) hA rfl rfl rfl (d_pick rfl rfl rfl rfl) ?_
     intro a hA
     refine seq_end ?_
     refine hK40 _ _ ?_
     refine wp_cond_true (hA.ev rfl) ?_
     refine wp_seq_k (fun K55 hK55 => ?_)
     refine wp_region_lit ?_
     refine seq_do (v := .agg #[.bool false, .slice none 0 0, .slice none 0 0, .bool false, .slice none 0 0, .slice none 0 0]) hA rfl rfl rfl (d_build rfl (fun w => by kernel_rfl)) ?_
     intro a hA
     refine seq_store (us := [.bool false, .slice none 0 0, .slice none 0 0, .bool false, .slice none 0 0, .slice none 0 0]) hA hS rfl rfl (sets_store rfl rfl rfl (by kernel_rfl) hS 1 rfl rfl rfl) 1 rfl rfl rfl rfl ?_
     intro w56 hS
     refine seq_do hA rfl rfl rfl (d_assign rfl) ?_
     intro a hA
     refine seq_end ?_
     refine hK55 _ _ ?_
     refine wp_ret ?_
     refine hret _ _ ?_
     refine ends (v := .tuple #[.agg #[.bool false, .slice none 0 0, .slice none 0 0, .bool false, .slice none 0 0, .slice none 0 0], .int .i64 4]) hA rfl (.cons (res_cell hS ExJ_isS_26 rfl 1 rfl (cs := [.bool false, .slice none 0 0, .slice none 0 0, .bool false, .slice none 0 0, .slice none 0 0]) rfl rfl) (.cons (res_tmp rfl) .nil)) rfl ?_
     rw [setQ_neg1 hb41]
     exact ⟨none, 0, none, 0, none, 0, none, 0, rfl, ⟨(Sc.none _), (Sc.none _), (Sc.none _), (Sc.none _)⟩, hS.bel⟩
 refine wp_draw (S := fun w1 => St w w1 [(g4, [.bool false, .slice none 0 0, .slice none 0 0, .bool false, .slice none 0 0, .slice none 0 0]), (g2, [.bool ((rb x)), .slice a1 ((words x.natAbs).length) ac1, .bool ((rb y)), .slice a2 ((words y.natAbs).length) ac2, .slice a3 ((words d).length) ac3])] [(a3, words d), (a2, words y.natAbs), (a1, words x.natAbs)] []) (by kernel_rfl) ?_
 replace hS := hS.drew
 refine any_tk (v := .pointer (some ⟨g2, 0, none⟩)) hA 0 rfl rfl rfl rfl hP hS (fun w1 hS => d_field ExJ_fld_55_0 rfl rfl) ?_
 intro a hA
 refine any_tk hA 1 rfl rfl rfl rfl hP hS (fun w1 hS => d_loadS hS ExJ_isS_53 rfl 1 rfl (cs := [.bool ((rb x)), .slice a1 ((words x.natAbs).length) ac1]) rfl rfl) ?_
 intro a hA
 refine any_tk (v := .pointer (some ⟨g2, 4, none⟩)) hA 2 rfl rfl rfl rfl hP hS (fun w1 hS => d_field ExJ_fld_55_2 rfl rfl) ?_
 intro a hA
 refine any_tk hA 3 rfl rfl rfl rfl hP hS (fun w1 hS => d_load1 hS ExJ_is1_22 rfl 1 rfl rfl) ?_
 intro a hA
 refine any_tk (v := .pointer (some ⟨g2, 2, none⟩)) hA 5 rfl rfl rfl rfl hP hS (fun w1 hS => d_field ExJ_fld_55_1 rfl rfl) ?_
 intro a hA
 refine any_tk hA 6 rfl rfl rfl rfl hP hS (fun w1 hS => d_loadS hS ExJ_isS_53 rfl 1 rfl (cs := [.bool ((rb y)), .slice a2 ((words y.natAbs).length) ac2]) rfl rfl) ?_
 intro a hA
 refine any_tk (v := .pointer (some ⟨g2, 4, none⟩)) hA 7 rfl rfl rfl rfl hP hS (fun w1 hS => d_field ExJ_fld_55_2 rfl rfl) ?_
 intro a hA
 refine any_tk hA 8 rfl rfl rfl rfl hP hS (fun w1 hS => d_load1 hS ExJ_is1_22 rfl 1 rfl rfl) ?_
 intro a hA
 refine any_many (rs := [4, 11]) (by kernel_rfl) (by simp) ⟨?_, ?_, trivial⟩
 · refine op_call hA 4 rfl rfl rfl rfl (enters_func  rfl rfl (fun w => by kernel_rfl)) (zlowest_any ⟨(hS.rd 2 rfl), ha1.nil, ha1.cap⟩ ⟨(hS.rd 0 rfl), ha3.nil, ha3.cap⟩ l1 l3 hd) ?_
   rintro _ w61 ⟨f57_1, f57_c1, f57_2, f57_c2, rfl, hs58, hs59, hb60⟩
   replace hS := hS.call hb60
   replace hS := hS.addR hs58.rd
   replace hS := hS.addR hs59.rd
   refine ⟨_, rfl, (hS.partD (.refl _) 2 rfl (.refl _)), ?_⟩
   intro a hA
   refine any_many (rs := [9, 11]) (by kernel_rfl) (by simp) ⟨?_, ?_, trivial⟩
   · refine op_call hA 9 rfl rfl rfl rfl (enters_func  rfl rfl (fun w => by kernel_rfl)) (zlowest_any ⟨(hS.rd 3 rfl), ha2.nil, ha2.cap⟩ ⟨(hS.rd 2 rfl), ha3.nil, ha3.cap⟩ l2 l3 hd) ?_
     rintro _ w66 ⟨f62_1, f62_c1, f62_2, f62_c2, rfl, hs63, hs64, hb65⟩
     replace hS := hS.call hb65
     replace hS := hS.addR hs63.rd
     replace hS := hS.addR hs64.rd
     refine ⟨_, rfl, (hS.partD (.refl _) 4 rfl (.refl _)), ?_⟩
     intro a hA
     refine any_tk (v := .agg #[.bool ((rb x)), .slice f57_1 ((words (rt x d)).length) f57_c1, .slice f57_2 ((words (rq x d)).length) f57_c2, .bool ((rb y)), .slice f62_1 ((words (rt y d)).length) f62_c1, .slice f62_2 ((words (rq y d)).length) f62_c2]) hA 10 rfl rfl rfl rfl hP (hS.partD (.refl _) 4 rfl (.refl _)) (fun w1 hS => d_build rfl (fun w => by kernel_rfl)) ?_
     intro a hA
     refine any_one (by kernel_rfl) (op_new (vs := [.bool false, .slice none 0 0, .slice none 0 0, .bool false, .slice none 0 0, .slice none 0 0]) (t := 26) hA hS 11 rfl rfl rfl rfl (fun g => .pointer (some ⟨g, 0, none⟩)) (d_alloc (z := .agg #[.bool false, .slice none 0 0, .slice none 0 0, .bool false, .slice none 0 0, .slice none 0 0]) (by kernel_rfl) rfl) rfl ?_)
     intro g67 w68 hS
     refine ⟨(hS.partD (.cons _ (.cons_cons _ (.cons_cons _ .slnil))) 4 rfl (.refl _)), ?_⟩
     intro a hA
     refine any_one (by kernel_rfl) (op_store (us := [.bool ((rb x)), .slice f57_1 ((words (rt x d)).length) f57_c1, .slice f57_2 ((words (rq x d)).length) f57_c2, .bool ((rb y)), .slice f62_1 ((words (rt y d)).length) f62_c1, .slice f62_2 ((words (rq y d)).length) f62_c2]) hA hS 12 rfl rfl rfl (sets_store rfl rfl rfl (by kernel_rfl) hS 0 rfl rfl rfl) 0 rfl rfl rfl rfl ?_)
     intro w69 hS
     refine ⟨(hS.partD (.cons _ (.cons_cons _ (.cons_cons _ .slnil))) 4 rfl (.refl _)), ?_⟩
     refine any_end (by kernel_rfl) ?_
     refine hJ37 _ _ ⟨g67, f57_1, f57_c1, f57_2, f57_c2, f62_1, f62_c1, f62_2, f62_c2, hA.keep _ ⟨rfl, rfl, rfl, rfl, trivial⟩, (St.pickRL hS ⟨⟨0, rfl⟩, ⟨⟨1, rfl⟩, ⟨⟨2, rfl⟩, ⟨⟨3, rfl⟩, ⟨⟨4, rfl⟩, ⟨⟨5, rfl⟩, ⟨⟨6, rfl⟩, trivial⟩⟩⟩⟩⟩⟩⟩ [0, 1, 2] rfl (by decide)), hs64.nil, hs64.cap, hs63.nil, hs63.cap, hs59.nil, hs59.cap, hs58.nil, hs58.cap⟩
   · refine op_new (vs := [.bool false, .slice none 0 0, .slice none 0 0, .bool false, .slice none 0 0, .slice none 0 0]) (t := 26) hA hS 11 rfl rfl rfl rfl (fun g => .pointer (some ⟨g, 0, none⟩)) (d_alloc (z := .agg #[.bool false, .slice none 0 0, .slice none 0 0, .bool false, .slice none 0 0, .slice none 0 0]) (by kernel_rfl) rfl) rfl ?_
     intro g70 w71 hS
     refine ⟨(hS.partD (.cons _ (.cons_cons _ (.cons_cons _ .slnil))) 2 rfl (.refl _)), ?_⟩
     intro a hA
     refine any_one (by kernel_rfl) (op_call hA 9 rfl rfl rfl rfl (enters_func  rfl rfl (fun w => by kernel_rfl)) (zlowest_any ⟨(hS.rd 3 rfl), ha2.nil, ha2.cap⟩ ⟨(hS.rd 2 rfl), ha3.nil, ha3.cap⟩ l2 l3 hd) ?_)
     rintro _ w76 ⟨f72_1, f72_c1, f72_2, f72_c2, rfl, hs73, hs74, hb75⟩
     replace hS := hS.call hb75
     replace hS := hS.addR hs73.rd
     replace hS := hS.addR hs74.rd
     refine ⟨_, rfl, (hS.partD (.cons _ (.cons_cons _ (.cons_cons _ .slnil))) 4 rfl (.refl _)), ?_⟩
     intro a hA
     refine any_tk (v := .agg #[.bool ((rb x)), .slice f57_1 ((words (rt x d)).length) f57_c1, .slice f57_2 ((words (rq x d)).length) f57_c2, .bool ((rb y)), .slice f72_1 ((words (rt y d)).length) f72_c1, .slice f72_2 ((words (rq y d)).length) f72_c2]) hA 10 rfl rfl rfl rfl hP (hS.partD (.cons _ (.cons_cons _ (.cons_cons _ .slnil))) 4 rfl (.refl _)) (fun w1 hS => d_build rfl (fun w => by kernel_rfl)) ?_
     intro a hA
     refine any_one (by kernel_rfl) (op_store (us := [.bool ((rb x)), .slice f57_1 ((words (rt x d)).length) f57_c1, .slice f57_2 ((words (rq x d)).length) f57_c2, .bool ((rb y)), .slice f72_1 ((words (rt y d)).length) f72_c1, .slice f72_2 ((words (rq y d)).length) f72_c2]) hA hS 12 rfl rfl rfl (sets_store rfl rfl rfl (by kernel_rfl) hS 0 rfl rfl rfl) 0 rfl rfl rfl rfl ?_)
     intro w77 hS
     refine ⟨(hS.partD (.cons _ (.cons_cons _ (.cons_cons _ .slnil))) 4 rfl (.refl _)), ?_⟩
     refine any_end (by kernel_rfl) ?_
     refine hJ37 _ _ ⟨g70, f57_1, f57_c1, f57_2, f57_c2, f72_1, f72_c1, f72_2, f72_c2, hA.keep _ ⟨rfl, rfl, rfl, rfl, trivial⟩, (St.pickRL hS ⟨⟨0, rfl⟩, ⟨⟨1, rfl⟩, ⟨⟨2, rfl⟩, ⟨⟨3, rfl⟩, ⟨⟨4, rfl⟩, ⟨⟨5, rfl⟩, ⟨⟨6, rfl⟩, trivial⟩⟩⟩⟩⟩⟩⟩ [0, 1, 2] rfl (by decide)), hs74.nil, hs74.cap, hs73.nil, hs73.cap, hs59.nil, hs59.cap, hs58.nil, hs58.cap⟩
 · refine op_new (vs := [.bool false, .slice none 0 0, .slice none 0 0, .bool false, .slice none 0 0, .slice none 0 0]) (t := 26) hA hS 11 rfl rfl rfl rfl (fun g => .pointer (some ⟨g, 0, none⟩)) (d_alloc (z := .agg #[.bool false, .slice none 0 0, .slice none 0 0, .bool false, .slice none 0 0, .slice none 0 0]) (by kernel_rfl) rfl) rfl ?_
   intro g78 w79 hS
   refine ⟨(hS.partD (.cons _ (.cons_cons _ (.cons_cons _ .slnil))) 0 rfl (.refl _)), ?_⟩
   intro a hA
   refine any_one (by kernel_rfl) (op_call hA 4 rfl rfl rfl rfl (enters_func  rfl rfl (fun w => by kernel_rfl)) (zlowest_any ⟨(hS.rd 2 rfl), ha1.nil, ha1.cap⟩ ⟨(hS.rd 0 rfl), ha3.nil, ha3.cap⟩ l1 l3 hd) ?_)
   rintro _ w84 ⟨f80_1, f80_c1, f80_2, f80_c2, rfl, hs81, hs82, hb83⟩
   replace hS := hS.call hb83
   replace hS := hS.addR hs81.rd
   replace hS := hS.addR hs82.rd
   refine ⟨_, rfl, (hS.partD (.cons _ (.cons_cons _ (.cons_cons _ .slnil))) 2 rfl (.refl _)), ?_⟩
   intro a hA
   refine any_one (by kernel_rfl) (op_call hA 9 rfl rfl rfl rfl (enters_func  rfl rfl (fun w => by kernel_rfl)) (zlowest_any ⟨(hS.rd 3 rfl), ha2.nil, ha2.cap⟩ ⟨(hS.rd 2 rfl), ha3.nil, ha3.cap⟩ l2 l3 hd) ?_)
   rintro _ w89 ⟨f85_1, f85_c1, f85_2, f85_c2, rfl, hs86, hs87, hb88⟩
   replace hS := hS.call hb88
   replace hS := hS.addR hs86.rd
   replace hS := hS.addR hs87.rd
   refine ⟨_, rfl, (hS.partD (.cons _ (.cons_cons _ (.cons_cons _ .slnil))) 4 rfl (.refl _)), ?_⟩
   intro a hA
   refine any_tk (v := .agg #[.bool ((rb x)), .slice f80_1 ((words (rt x d)).length) f80_c1, .slice f80_2 ((words (rq x d)).length) f80_c2, .bool ((rb y)), .slice f85_1 ((words (rt y d)).length) f85_c1, .slice f85_2 ((words (rq y d)).length) f85_c2]) hA 10 rfl rfl rfl rfl hP (hS.partD (.cons _ (.cons_cons _ (.cons_cons _ .slnil))) 4 rfl (.refl _)) (fun w1 hS => d_build rfl (fun w => by kernel_rfl)) ?_
   intro a hA
   refine any_one (by kernel_rfl) (op_store (us := [.bool ((rb x)), .slice f80_1 ((words (rt x d)).length) f80_c1, .slice f80_2 ((words (rq x d)).length) f80_c2, .bool ((rb y)), .slice f85_1 ((words (rt y d)).length) f85_c1, .slice f85_2 ((words (rq y d)).length) f85_c2]) hA hS 12 rfl rfl rfl (sets_store rfl rfl rfl (by kernel_rfl) hS 0 rfl rfl rfl) 0 rfl rfl rfl rfl ?_)
   intro w90 hS
   refine ⟨(hS.partD (.cons _ (.cons_cons _ (.cons_cons _ .slnil))) 4 rfl (.refl _)), ?_⟩
   refine any_end (by kernel_rfl) ?_
   refine hJ37 _ _ ⟨g78, f80_1, f80_c1, f80_2, f80_c2, f85_1, f85_c1, f85_2, f85_c2, hA.keep _ ⟨rfl, rfl, rfl, rfl, trivial⟩, (St.pickRL hS ⟨⟨0, rfl⟩, ⟨⟨1, rfl⟩, ⟨⟨2, rfl⟩, ⟨⟨3, rfl⟩, ⟨⟨4, rfl⟩, ⟨⟨5, rfl⟩, ⟨⟨6, rfl⟩, trivial⟩⟩⟩⟩⟩⟩⟩ [0, 1, 2] rfl (by decide)), hs87.nil, hs87.cap, hs86.nil, hs86.cap, hs82.nil, hs82.cap, hs81.nil, hs81.cap⟩
theorem zproduct_any {w : World} {x1 y1 x2 y2 : Int} {d1 d2 : Nat} {a1 a2 a3 : Option Addr} {ac1 ac2 ac3 : Nat} (ha1 : Sc w a1 ac1 (words x1.natAbs)) (ha2 : Sc w a2 ac2 (words y1.natAbs)) (ha3 : Sc w a3 ac3 (words d1)) {u1 u2 u3 : Option Addr} {uc1 uc2 uc3 : Nat} (hu1 : Sc w u1 uc1 (words x2.natAbs)) (hu2 : Sc w u2 uc2 (words y2.natAbs)) (hu3 : Sc w u3 uc3 (words d2)) (la1 : (words x1.natAbs).length ≤ 10000) (la2 : (words y1.natAbs).length ≤ 10000) (la3 : (words d1).length ≤ 10000) (lu1 : (words x2.natAbs).length ≤ 10000) (lu2 : (words y2.natAbs).length ≤ 10000) (lu3 : (words d2).length ≤ 10000) : Calls Tryz.prog 100 #[.agg #[.bool (rb x1), .slice a1 (words x1.natAbs).length ac1, .bool (rb y1), .slice a2 (words y1.natAbs).length ac2, .slice a3 (words d1).length ac3], .agg #[.bool (rb x2), .slice u1 (words x2.natAbs).length uc1, .bool (rb y2), .slice u2 (words y2.natAbs).length uc2, .slice u3 (words d2).length uc3]] w (AnsR w (x1 * x2 + -(y1 * y2)) (x1 * y2 + y1 * x2) (d1 * d2)) := by
 have k1 := abs_mul_len la1 lu1
 have k2 := abs_mul_len la2 lu2
 have k3 := abs_mul_len la1 lu2
 have k4 := abs_mul_len la2 lu1
 have k5 : (words (-(y1 * y2)).natAbs).length ≤ 10000 + 10000 := by rw [Int.natAbs_neg]; exact k2
 have hS : St w w [] [(u3, words d2), (u2, words y2.natAbs), (u1, words x2.natAbs), (a3, words d1), (a2, words y1.natAbs), (a1, words x1.natAbs)] [] := ((((((St.start w).addR ha1.rd).addR ha2.rd).addR ha3.rd).addR hu1.rd).addR hu2.rd).addR hu3.rd
 refine walk_of (l := [(0, .agg #[.bool ((rb x1)), .slice a1 ((words x1.natAbs).length) ac1, .bool ((rb y1)), .slice a2 ((words y1.natAbs).length) ac2, .slice a3 ((words d1).length) ac3]), (1, .agg #[.bool ((rb x2)), .slice u1 ((words x2.natAbs).length) uc1, .bool ((rb y2)), .slice u2 ((words y2.natAbs).length) uc2, .slice u3 ((words d2).length) uc3])]) Tryz.func100 rfl Tryz.ntmps100 rfl rfl ?_
 intro Q hret hnorm hP a hA
 refine wp_seq_k (fun K1 hK1 => ?_)
 refine wp_region_lit ?_
 refine seq_new hA hS rfl rfl rfl (fun g => .pointer (some ⟨g, 0, none⟩)) (d_box rfl rfl) rfl ?_
 intro g2 w3 hS a hA
 refine seq_new hA hS rfl rfl rfl (fun g => .pointer (some ⟨g, 0, none⟩)) (d_box rfl rfl) rfl ?_
 intro g4 w5 hS a hA
 refine seq_new (vs := [.bool false, .slice none 0 0, .bool false, .slice none 0 0, .slice none 0 0]) (t := 55) hA hS rfl rfl rfl (fun g => .pointer (some ⟨g, 0, none⟩)) (d_alloc (z := .agg #[.bool false, .slice none 0 0, .bool false, .slice none 0 0, .slice none 0 0]) (by kernel_rfl) rfl) rfl ?_
 intro g6 w7 hS a hA
 refine seq_end ?_
 refine hK1 _ _ ?_
 refine wp_seq_k (fun K8 hK8 => ?_)
 refine wp_draw (S := fun w1 => St w w1 [(g4, [.bool ((rb x2)), .slice u1 ((words x2.natAbs).length) uc1, .bool ((rb y2)), .slice u2 ((words y2.natAbs).length) uc2, .slice u3 ((words d2).length) uc3]), (g2, [.bool ((rb x1)), .slice a1 ((words x1.natAbs).length) ac1, .bool ((rb y1)), .slice a2 ((words y1.natAbs).length) ac2, .slice a3 ((words d1).length) ac3])] [(u3, words d2), (u2, words y2.natAbs), (u1, words x2.natAbs), (a3, words d1), (a2, words y1.natAbs), (a1, words x1.natAbs)] []) (by kernel_rfl) ?_
 replace hS := hS.drew
 refine any_tk (v := .pointer (some ⟨g2, 0, none⟩)) hA 0 rfl rfl rfl rfl hP (hS.partD (.cons _ (.cons_cons _ (.cons_cons _ .slnil))) 0 rfl (.refl _)) (fun w1 hS => d_field ExJ_fld_55_0 rfl rfl) ?_
 intro a hA
 refine any_tk hA 1 rfl rfl rfl rfl hP (hS.partD (.cons _ (.cons_cons _ (.cons_cons _ .slnil))) 0 rfl (.refl _)) (fun w1 hS => d_loadS hS ExJ_isS_53 rfl 1 rfl (cs := [.bool ((rb x1)), .slice a1 ((words x1.natAbs).length) ac1]) rfl rfl) ?_
 intro a hA
 refine any_tk (v := .pointer (some ⟨g4, 0, none⟩)) hA 2 rfl rfl rfl rfl hP (hS.partD (.cons _ (.cons_cons _ (.cons_cons _ .slnil))) 0 rfl (.refl _)) (fun w1 hS => d_field ExJ_fld_55_0 rfl rfl) ?_
 intro a hA
 refine any_tk hA 3 rfl rfl rfl rfl hP (hS.partD (.cons _ (.cons_cons _ (.cons_cons _ .slnil))) 0 rfl (.refl _)) (fun w1 hS => d_loadS hS ExJ_isS_53 rfl 0 rfl (cs := [.bool ((rb x2)), .slice u1 ((words x2.natAbs).length) uc1]) rfl rfl) ?_
 intro a hA
 refine any_tk (v := .pointer (some ⟨g2, 2, none⟩)) hA 5 rfl rfl rfl rfl hP (hS.partD (.cons _ (.cons_cons _ (.cons_cons _ .slnil))) 0 rfl (.refl _)) (fun w1 hS => d_field ExJ_fld_55_1 rfl rfl) ?_
 intro a hA
 refine any_tk hA 6 rfl rfl rfl rfl hP (hS.partD (.cons _ (.cons_cons _ (.cons_cons _ .slnil))) 0 rfl (.refl _)) (fun w1 hS => d_loadS hS ExJ_isS_53 rfl 1 rfl (cs := [.bool ((rb y1)), .slice a2 ((words y1.natAbs).length) ac2]) rfl rfl) ?_
 intro a hA
 refine any_tk (v := .pointer (some ⟨g4, 2, none⟩)) hA 7 rfl rfl rfl rfl hP (hS.partD (.cons _ (.cons_cons _ (.cons_cons _ .slnil))) 0 rfl (.refl _)) (fun w1 hS => d_field ExJ_fld_55_1 rfl rfl) ?_
 intro a hA
 refine any_tk hA 8 rfl rfl rfl rfl hP (hS.partD (.cons _ (.cons_cons _ (.cons_cons _ .slnil))) 0 rfl (.refl _)) (fun w1 hS => d_loadS hS ExJ_isS_53 rfl 0 rfl (cs := [.bool ((rb y2)), .slice u2 ((words y2.natAbs).length) uc2]) rfl rfl) ?_
 intro a hA
 refine any_tk (v := .pointer (some ⟨g2, 0, none⟩)) hA 12 rfl rfl rfl rfl hP (hS.partD (.cons _ (.cons_cons _ (.cons_cons _ .slnil))) 0 rfl (.refl _)) (fun w1 hS => d_field ExJ_fld_55_0 rfl rfl) ?_
 intro a hA
 refine any_tk hA 13 rfl rfl rfl rfl hP (hS.partD (.cons _ (.cons_cons _ (.cons_cons _ .slnil))) 0 rfl (.refl _)) (fun w1 hS => d_loadS hS ExJ_isS_53 rfl 1 rfl (cs := [.bool ((rb x1)), .slice a1 ((words x1.natAbs).length) ac1]) rfl rfl) ?_
 intro a hA
 refine any_tk (v := .pointer (some ⟨g4, 2, none⟩)) hA 14 rfl rfl rfl rfl hP (hS.partD (.cons _ (.cons_cons _ (.cons_cons _ .slnil))) 0 rfl (.refl _)) (fun w1 hS => d_field ExJ_fld_55_1 rfl rfl) ?_
 intro a hA
 refine any_tk hA 15 rfl rfl rfl rfl hP (hS.partD (.cons _ (.cons_cons _ (.cons_cons _ .slnil))) 0 rfl (.refl _)) (fun w1 hS => d_loadS hS ExJ_isS_53 rfl 0 rfl (cs := [.bool ((rb y2)), .slice u2 ((words y2.natAbs).length) uc2]) rfl rfl) ?_
 intro a hA
 refine any_tk (v := .pointer (some ⟨g2, 2, none⟩)) hA 17 rfl rfl rfl rfl hP (hS.partD (.cons _ (.cons_cons _ (.cons_cons _ .slnil))) 0 rfl (.refl _)) (fun w1 hS => d_field ExJ_fld_55_1 rfl rfl) ?_
 intro a hA
 refine any_tk hA 18 rfl rfl rfl rfl hP (hS.partD (.cons _ (.cons_cons _ (.cons_cons _ .slnil))) 0 rfl (.refl _)) (fun w1 hS => d_loadS hS ExJ_isS_53 rfl 1 rfl (cs := [.bool ((rb y1)), .slice a2 ((words y1.natAbs).length) ac2]) rfl rfl) ?_
 intro a hA
 refine any_tk (v := .pointer (some ⟨g4, 0, none⟩)) hA 19 rfl rfl rfl rfl hP (hS.partD (.cons _ (.cons_cons _ (.cons_cons _ .slnil))) 0 rfl (.refl _)) (fun w1 hS => d_field ExJ_fld_55_0 rfl rfl) ?_
 intro a hA
 refine any_tk hA 20 rfl rfl rfl rfl hP (hS.partD (.cons _ (.cons_cons _ (.cons_cons _ .slnil))) 0 rfl (.refl _)) (fun w1 hS => d_loadS hS ExJ_isS_53 rfl 0 rfl (cs := [.bool ((rb x2)), .slice u1 ((words x2.natAbs).length) uc1]) rfl rfl) ?_
 intro a hA
 refine any_tk (v := .pointer (some ⟨g2, 4, none⟩)) hA 23 rfl rfl rfl rfl hP (hS.partD (.cons _ (.cons_cons _ (.cons_cons _ .slnil))) 0 rfl (.refl _)) (fun w1 hS => d_field ExJ_fld_55_2 rfl rfl) ?_
 intro a hA
 refine any_tk hA 24 rfl rfl rfl rfl hP (hS.partD (.cons _ (.cons_cons _ (.cons_cons _ .slnil))) 0 rfl (.refl _)) (fun w1 hS => d_load1 hS ExJ_is1_22 rfl 1 rfl rfl) ?_
 intro a hA
 refine any_tk (v := .pointer (some ⟨g4, 4, none⟩)) hA 25 rfl rfl rfl rfl hP (hS.partD (.cons _ (.cons_cons _ (.cons_cons _ .slnil))) 0 rfl (.refl _)) (fun w1 hS => d_field ExJ_fld_55_2 rfl rfl) ?_
 intro a hA
 refine any_tk hA 26 rfl rfl rfl rfl hP (hS.partD (.cons _ (.cons_cons _ (.cons_cons _ .slnil))) 0 rfl (.refl _)) (fun w1 hS => d_load1 hS ExJ_is1_22 rfl 0 rfl rfl) ?_
 intro a hA
 refine any_one (by kernel_rfl) (op_call hA 4 rfl rfl rfl rfl (enters_func  rfl rfl (fun w => by kernel_rfl)) (ztimes_any ⟨(hS.rd 5 rfl), ha1.nil, ha1.cap⟩ ⟨(hS.rd 2 rfl), hu1.nil, hu1.cap⟩ (by omega) (by omega)) ?_)
 rintro _ w13 ⟨zo9, zc10, rfl, hs11, hb12⟩
 replace hS := hS.call hb12
 replace hS := hS.addR hs11.rd
 refine ⟨_, rfl, (hS.partD (.cons _ (.cons_cons _ (.cons_cons _ .slnil))) 1 rfl (.refl _)), ?_⟩
 intro a hA
 refine any_one (by kernel_rfl) (op_call hA 9 rfl rfl rfl rfl (enters_func  rfl rfl (fun w => by kernel_rfl)) (ztimes_any ⟨(hS.rd 5 rfl), ha2.nil, ha2.cap⟩ ⟨(hS.rd 2 rfl), hu2.nil, hu2.cap⟩ (by omega) (by omega)) ?_)
 rintro _ w18 ⟨zo14, zc15, rfl, hs16, hb17⟩
 replace hS := hS.call hb17
 replace hS := hS.addR hs16.rd
 refine ⟨_, rfl, (hS.partD (.cons _ (.cons_cons _ (.cons_cons _ .slnil))) 2 rfl (.refl _)), ?_⟩
 intro a hA
 refine any_one (by kernel_rfl) (op_call hA 10 rfl rfl rfl rfl (enters_func  rfl rfl (fun w => by kernel_rfl)) (zopp_any ⟨(hS.rd 0 rfl), hs16.nil, hs16.cap⟩) ?_)
 rintro _ w23 ⟨zo19, zc20, rfl, hs21, hb22⟩
 replace hS := hS.call hb22
 replace hS := hS.addR hs21.rd
 refine ⟨_, rfl, (hS.partD (.cons _ (.cons_cons _ (.cons_cons _ .slnil))) 3 rfl (.refl _)), ?_⟩
 intro a hA
 refine any_one (by kernel_rfl) (op_call hA 11 rfl rfl rfl rfl (enters_func  rfl rfl (fun w => by kernel_rfl)) (zplus_any ⟨(hS.rd 2 rfl), hs11.nil, hs11.cap⟩ ⟨(hS.rd 0 rfl), hs21.nil, hs21.cap⟩ (by omega) (by omega)) ?_)
 rintro _ w28 ⟨zo24, zc25, rfl, hs26, hb27⟩
 replace hS := hS.call hb27
 replace hS := hS.addR hs26.rd
 refine ⟨_, rfl, (hS.partD (.cons _ (.cons_cons _ (.cons_cons _ .slnil))) 4 rfl (.refl _)), ?_⟩
 intro a hA
 refine any_one (by kernel_rfl) (op_call hA 16 rfl rfl rfl rfl (enters_func  rfl rfl (fun w => by kernel_rfl)) (ztimes_any ⟨(hS.rd 9 rfl), ha1.nil, ha1.cap⟩ ⟨(hS.rd 5 rfl), hu2.nil, hu2.cap⟩ (by omega) (by omega)) ?_)
 rintro _ w33 ⟨zo29, zc30, rfl, hs31, hb32⟩
 replace hS := hS.call hb32
 replace hS := hS.addR hs31.rd
 refine ⟨_, rfl, (hS.partD (.cons _ (.cons_cons _ (.cons_cons _ .slnil))) 5 rfl (.refl _)), ?_⟩
 intro a hA
 refine any_one (by kernel_rfl) (op_call hA 21 rfl rfl rfl rfl (enters_func  rfl rfl (fun w => by kernel_rfl)) (ztimes_any ⟨(hS.rd 9 rfl), ha2.nil, ha2.cap⟩ ⟨(hS.rd 7 rfl), hu1.nil, hu1.cap⟩ (by omega) (by omega)) ?_)
 rintro _ w38 ⟨zo34, zc35, rfl, hs36, hb37⟩
 replace hS := hS.call hb37
 replace hS := hS.addR hs36.rd
 refine ⟨_, rfl, (hS.partD (.cons _ (.cons_cons _ (.cons_cons _ .slnil))) 6 rfl (.refl _)), ?_⟩
 intro a hA
 refine any_one (by kernel_rfl) (op_call hA 22 rfl rfl rfl rfl (enters_func  rfl rfl (fun w => by kernel_rfl)) (zplus_any ⟨(hS.rd 1 rfl), hs31.nil, hs31.cap⟩ ⟨(hS.rd 0 rfl), hs36.nil, hs36.cap⟩ (by omega) (by omega)) ?_)
 rintro _ w43 ⟨zo39, zc40, rfl, hs41, hb42⟩
 replace hS := hS.call hb42
 replace hS := hS.addR hs41.rd
 refine ⟨_, rfl, (hS.partD (.cons _ (.cons_cons _ (.cons_cons _ .slnil))) 7 rfl (.refl _)), ?_⟩
 intro a hA
 refine any_one (by kernel_rfl) (op_call hA 27 rfl rfl rfl rfl (enters_func  rfl rfl (fun w => by kernel_rfl)) (product_any _ _ (hS.rd 10 rfl) (hS.rd 7 rfl) (by omega) (by omega)) ?_)
 rintro _ w48 ⟨ro44, rc45, rfl, ho46, hb47⟩
 replace hS := hS.call hb47
 replace hS := hS.addR ho46.rd
 refine ⟨_, rfl, (hS.partD (.cons _ (.cons_cons _ (.cons_cons _ .slnil))) 8 rfl (.refl _)), ?_⟩
 intro a hA
 refine any_tk (v := .agg #[.bool ((rb (x1 * x2 + (-(y1 * y2))))), .slice zo24 ((words (x1 * x2 + (-(y1 * y2))).natAbs).length) zc25, .bool ((rb (x1 * y2 + (y1 * x2)))), .slice zo39 ((words (x1 * y2 + (y1 * x2)).natAbs).length) zc40, .slice ro44 ((words (d1 * d2)).length) rc45]) hA 28 rfl rfl rfl rfl hP (hS.partD (.cons _ (.cons_cons _ (.cons_cons _ .slnil))) 8 rfl (.refl _)) (fun w1 hS => d_build rfl (fun w => by kernel_rfl)) ?_
 intro a hA
 refine any_one (by kernel_rfl) (op_store (us := [.bool ((rb (x1 * x2 + (-(y1 * y2))))), .slice zo24 ((words (x1 * x2 + (-(y1 * y2))).natAbs).length) zc25, .bool ((rb (x1 * y2 + (y1 * x2)))), .slice zo39 ((words (x1 * y2 + (y1 * x2)).natAbs).length) zc40, .slice ro44 ((words (d1 * d2)).length) rc45]) hA hS 29 rfl rfl rfl (sets_store rfl rfl rfl (by kernel_rfl) hS 0 rfl rfl rfl) 0 rfl rfl rfl rfl ?_)
 intro w49 hS
 refine ⟨(hS.partD (.cons _ (.cons_cons _ (.cons_cons _ .slnil))) 8 rfl (.refl _)), ?_⟩
 refine any_end (by kernel_rfl) ?_
 refine hK8 _ _ ?_
 refine wp_ret ?_
 refine hret _ _ ?_
 refine ends (v := .agg #[.bool ((rb (x1 * x2 + (-(y1 * y2))))), .slice zo24 ((words (x1 * x2 + (-(y1 * y2))).natAbs).length) zc25, .bool ((rb (x1 * y2 + (y1 * x2)))), .slice zo39 ((words (x1 * y2 + (y1 * x2)).natAbs).length) zc40, .slice ro44 ((words (d1 * d2)).length) rc45]) hA rfl (.cons (res_cell hS ExJ_isS_55 rfl 0 rfl (cs := [.bool ((rb (x1 * x2 + (-(y1 * y2))))), .slice zo24 ((words (x1 * x2 + (-(y1 * y2))).natAbs).length) zc25, .bool ((rb (x1 * y2 + (y1 * x2)))), .slice zo39 ((words (x1 * y2 + (y1 * x2)).natAbs).length) zc40, .slice ro44 ((words (d1 * d2)).length) rc45]) rfl rfl) .nil) rfl ?_
 exact ⟨zo24, zc25, zo39, zc40, ro44, rc45, rfl, ⟨(hS.rd 4 rfl), hs26.nil, hs26.cap⟩, ⟨(hS.rd 1 rfl), hs41.nil, hs41.cap⟩, ⟨(hS.rd 0 rfl), ho46.nocap, ho46.caps⟩, hS.bel⟩
end Go.Proofs.YthlkbnhbmfmchaaGreat
namespace Go.Proofs.YthlkbnhbmfmchaaGreat
open Go.RowKit
set_option linter.unusedVariables false
set_option linter.unusedSimpArgs false
set_option maxRecDepth 100000
theorem ExK_is1_22 : Is1 Tryz.prog 22 := ⟨⟨_, Tryz.underlying22, rfl⟩, by kernel_rfl⟩
theorem ExK_is1_4 : Is1 Tryz.prog 4 := ⟨⟨_, Tryz.underlying4, rfl⟩, by kernel_rfl⟩
theorem ExK_fld_24_0 : FieldAt Tryz.prog 24 0 0 := ⟨_, _, Tryz.underlying24, rfl, rfl, by kernel_rfl⟩
theorem ExK_fld_24_1 : FieldAt Tryz.prog 24 1 1 := ⟨_, _, Tryz.underlying24, rfl, rfl, by kernel_rfl⟩
theorem ExK_fld_24_2 : FieldAt Tryz.prog 24 2 2 := ⟨_, _, Tryz.underlying24, rfl, rfl, by kernel_rfl⟩
theorem ExK_fld_26_0 : FieldAt Tryz.prog 26 0 0 := ⟨_, _, Tryz.underlying26, rfl, rfl, by kernel_rfl⟩
theorem ExK_fld_26_1 : FieldAt Tryz.prog 26 1 3 := ⟨_, _, Tryz.underlying26, rfl, rfl, by kernel_rfl⟩
theorem ExK_fld_53_0 : FieldAt Tryz.prog 53 0 0 := ⟨_, _, Tryz.underlying53, rfl, rfl, by kernel_rfl⟩
theorem ExK_fld_53_1 : FieldAt Tryz.prog 53 1 1 := ⟨_, _, Tryz.underlying53, rfl, rfl, by kernel_rfl⟩
theorem ExK_fld_55_0 : FieldAt Tryz.prog 55 0 0 := ⟨_, _, Tryz.underlying55, rfl, rfl, by kernel_rfl⟩
theorem ExK_fld_55_1 : FieldAt Tryz.prog 55 1 2 := ⟨_, _, Tryz.underlying55, rfl, rfl, by kernel_rfl⟩
theorem ExK_fld_55_2 : FieldAt Tryz.prog 55 2 4 := ⟨_, _, Tryz.underlying55, rfl, rfl, by kernel_rfl⟩
theorem ExK_isS_53 : IsS Tryz.prog 53 2 := ⟨⟨_, Tryz.underlying53⟩, by kernel_rfl⟩
theorem ExK_isS_55 : IsS Tryz.prog 55 5 := ⟨⟨_, Tryz.underlying55⟩, by kernel_rfl⟩
theorem zspread_any {w : World} {u v : Rat} {a1 a2 a3 a4 : Option Addr} {ac1 ac2 ac3 ac4 : Nat} (ha : Nm w (Q6.rat u v) a1 ac1 a2 ac2 a3 ac3 a4 ac4) (hu : fitR u) (hv : fitR v) : Calls Tryz.prog 43 #[numV (Q6.rat u v) a1 ac1 a2 ac2 a3 ac3 a4 ac4] w (AnsR w (spX u v) (spY u v) (spD u v)) := by
 have k1 : (words u.num.natAbs).length ≤ 512 := hu.1
 have k2 : (words u.den).length ≤ 512 := hu.2
 have k3 : (words v.num.natAbs).length ≤ 512 := hv.1
 have k4 : (words v.den).length ≤ 512 := hv.2
 have k5 : (words (v.den / spG u v)).length ≤ 512 := div_len hv.2
 have k6 : (words (u.den / spG u v)).length ≤ 512 := div_len hu.2
 have k7 : (words (spG u v)).length ≤ 512 := gcd_len v.den_nz hv.2
 have hS : St w w [] [(a4, words v.den), (a3, words v.num.natAbs), (a2, words u.den), (a1, words u.num.natAbs)] [] := ((((St.start w).addR ha.s1.rd).addR ha.s2.rd).addR ha.s3.rd).addR ha.s4.rd
 refine walk_of (l := [(0, .agg #[.bool (rb u.num), .slice a1 ((words u.num.natAbs).length) ac1, .slice a2 ((words u.den).length) ac2, .bool (rb v.num), .slice a3 ((words v.num.natAbs).length) ac3, .slice a4 ((words v.den).length) ac4])]) Tryz.func43 rfl Tryz.ntmps43 rfl rfl ?_
 intro Q hret hnorm hP a hA
 refine wp_seq_k (fun K1 hK1 => ?_)
 refine wp_region_lit ?_
 refine seq_new hA hS rfl rfl rfl (fun g => .pointer (some ⟨g, 0, none⟩)) (d_box rfl rfl) rfl ?_
 intro g2 w3 hS a hA
 refine seq_new (vs := [.bool false, .slice none 0 0, .bool false, .slice none 0 0, .slice none 0 0]) (t := 55) hA hS rfl rfl rfl (fun g => .pointer (some ⟨g, 0, none⟩)) (d_alloc (z := .agg #[.bool false, .slice none 0 0, .bool false, .slice none 0 0, .slice none 0 0]) (by kernel_rfl) rfl) rfl ?_
 intro g4 w5 hS a hA
 refine seq_end ?_
 refine hK1 _ _ ?_
 refine wp_seq_k (fun K6 hK6 => ?_)
 refine wp_region_lit ?_
 refine seq_do (v := .pointer (some ⟨g2, 0, none⟩)) hA rfl rfl rfl (d_field ExK_fld_26_0 rfl rfl) ?_
 intro a hA
 refine seq_do (v := .pointer (some ⟨g2, 2, none⟩)) hA rfl rfl rfl (d_field ExK_fld_24_2 rfl rfl) ?_
 intro a hA
 refine seq_do hA rfl rfl rfl (d_load1 hS ExK_is1_22 rfl 1 rfl rfl) ?_
 intro a hA
 refine seq_do (v := .pointer (some ⟨g2, 3, none⟩)) hA rfl rfl rfl (d_field ExK_fld_26_1 rfl rfl) ?_
 intro a hA
 refine seq_do (v := .pointer (some ⟨g2, 5, none⟩)) hA rfl rfl rfl (d_field ExK_fld_24_2 rfl rfl) ?_
 intro a hA
 refine seq_do hA rfl rfl rfl (d_load1 hS ExK_is1_22 rfl 1 rfl rfl) ?_
 intro a hA
 refine seq_call hA rfl rfl rfl (enters_func  rfl rfl (fun w => by kernel_rfl)) (divisor_any _ _ (hS.rd 2 rfl) (hS.rd 0 rfl) (by omega) (by omega) ha.s2.nil ha.s4.nil) ?_
 rintro _ w11 ⟨ro7, rc8, rfl, ho9, hb10⟩
 replace hS := hS.call hb10
 replace hS := hS.addR ho9.rd
 refine ⟨_, rfl, ?_⟩
 intro a hA
 refine seq_do hA rfl rfl rfl (d_assign rfl) ?_
 intro a hA
 refine seq_end ?_
 refine hK6 _ _ ?_
 refine wp_seq_k (fun K12 hK12 => ?_)
 refine wp_region_lit ?_
 refine seq_do (v := .pointer (some ⟨g2, 3, none⟩)) hA rfl rfl rfl (d_field ExK_fld_26_1 rfl rfl) ?_
 intro a hA
 refine seq_do (v := .pointer (some ⟨g2, 5, none⟩)) hA rfl rfl rfl (d_field ExK_fld_24_2 rfl rfl) ?_
 intro a hA
 refine seq_do hA rfl rfl rfl (d_load1 hS ExK_is1_22 rfl 1 rfl rfl) ?_
 intro a hA
 refine seq_do hA rfl rfl rfl (d_move rfl) ?_
 intro a hA
 refine seq_call hA rfl rfl rfl (enters_func  rfl rfl (fun w => by kernel_rfl)) (divide_any _ _ (hS.rd 1 rfl) (hS.rd 0 rfl) (by omega) (Nat.le_trans (gcd_len v.den_nz hv.2) (by decide)) ha.s4.nil (Nat.ne_of_gt (spG_pos u v))) ?_
 rintro _ w20 ⟨ro13, rc14, uo15, uc16, rfl, ho17, hp18, hb19⟩
 replace hS := hS.call hb19
 replace hS := hS.addR ho17.rd
 replace hS := hS.addR hp18.rd
 refine ⟨_, rfl, ?_⟩
 intro a hA
 refine seq_do hA rfl rfl rfl (d_move rfl) ?_
 intro a hA
 refine seq_do (v := .slice ro13 ((words (v.den / spG u v)).length) rc14) hA rfl rfl rfl (d_extract (vs := [.slice ro13 ((words (v.den / spG u v)).length) rc14, .slice uo15 ((words (v.den % spG u v)).length) uc16]) rfl rfl) ?_
 intro a hA
 refine seq_do (v := .slice uo15 ((words (v.den % spG u v)).length) uc16) hA rfl rfl rfl (d_extract (vs := [.slice ro13 ((words (v.den / spG u v)).length) rc14, .slice uo15 ((words (v.den % spG u v)).length) uc16]) rfl rfl) ?_
 intro a hA
 refine seq_do hA rfl rfl rfl (d_assign rfl) ?_
 intro a hA
 refine seq_do hA rfl rfl rfl (d_assign rfl) ?_
 intro a hA
 refine seq_end ?_
 refine hK12 _ _ ?_
 refine wp_seq_k (fun K21 hK21 => ?_)
 refine wp_region_lit ?_
 refine seq_do (v := .pointer (some ⟨g2, 0, none⟩)) hA rfl rfl rfl (d_field ExK_fld_26_0 rfl rfl) ?_
 intro a hA
 refine seq_do (v := .pointer (some ⟨g2, 2, none⟩)) hA rfl rfl rfl (d_field ExK_fld_24_2 rfl rfl) ?_
 intro a hA
 refine seq_do hA rfl rfl rfl (d_load1 hS ExK_is1_22 rfl 1 rfl rfl) ?_
 intro a hA
 refine seq_do hA rfl rfl rfl (d_move rfl) ?_
 intro a hA
 refine seq_call hA rfl rfl rfl (enters_func  rfl rfl (fun w => by kernel_rfl)) (divide_any _ _ (hS.rd 5 rfl) (hS.rd 2 rfl) (by omega) (Nat.le_trans (gcd_len v.den_nz hv.2) (by decide)) ha.s2.nil (Nat.ne_of_gt (spG_pos u v))) ?_
 rintro _ w29 ⟨ro22, rc23, uo24, uc25, rfl, ho26, hp27, hb28⟩
 replace hS := hS.call hb28
 replace hS := hS.addR ho26.rd
 replace hS := hS.addR hp27.rd
 refine ⟨_, rfl, ?_⟩
 intro a hA
 refine seq_do hA rfl rfl rfl (d_move rfl) ?_
 intro a hA
 refine seq_do (v := .slice ro22 ((words (u.den / spG u v)).length) rc23) hA rfl rfl rfl (d_extract (vs := [.slice ro22 ((words (u.den / spG u v)).length) rc23, .slice uo24 ((words (u.den % spG u v)).length) uc25]) rfl rfl) ?_
 intro a hA
 refine seq_do (v := .slice uo24 ((words (u.den % spG u v)).length) uc25) hA rfl rfl rfl (d_extract (vs := [.slice ro22 ((words (u.den / spG u v)).length) rc23, .slice uo24 ((words (u.den % spG u v)).length) uc25]) rfl rfl) ?_
 intro a hA
 refine seq_do hA rfl rfl rfl (d_assign rfl) ?_
 intro a hA
 refine seq_do hA rfl rfl rfl (d_assign rfl) ?_
 intro a hA
 refine seq_end ?_
 refine hK21 _ _ ?_
 refine wp_seq_k (fun K30 hK30 => ?_)
 refine wp_draw (S := fun w1 => St w w1 [(g2, [.bool (rb u.num), .slice a1 ((words u.num.natAbs).length) ac1, .slice a2 ((words u.den).length) ac2, .bool (rb v.num), .slice a3 ((words v.num.natAbs).length) ac3, .slice a4 ((words v.den).length) ac4])] [(uo24, words (u.den % spG u v)), (ro22, words (u.den / spG u v)), (uo15, words (v.den % spG u v)), (ro13, words (v.den / spG u v)), (ro7, words (spG u v)), (a4, words v.den), (a3, words v.num.natAbs), (a2, words u.den), (a1, words u.num.natAbs)] []) (by kernel_rfl) ?_
 replace hS := hS.drew
 refine any_tk (v := .pointer (some ⟨g2, 0, none⟩)) hA 0 rfl rfl rfl rfl hP (hS.partD (.cons _ (.cons_cons _ .slnil)) 0 rfl (.refl _)) (fun w1 hS => d_field ExK_fld_26_0 rfl rfl) ?_
 intro a hA
 refine any_tk (v := .pointer (some ⟨g2, 0, none⟩)) hA 1 rfl rfl rfl rfl hP (hS.partD (.cons _ (.cons_cons _ .slnil)) 0 rfl (.refl _)) (fun w1 hS => d_field ExK_fld_24_0 rfl rfl) ?_
 intro a hA
 refine any_tk hA 2 rfl rfl rfl rfl hP (hS.partD (.cons _ (.cons_cons _ .slnil)) 0 rfl (.refl _)) (fun w1 hS => d_load1 hS ExK_is1_4 rfl 0 rfl rfl) ?_
 intro a hA
 refine any_tk (v := .pointer (some ⟨g2, 0, none⟩)) hA 3 rfl rfl rfl rfl hP (hS.partD (.cons _ (.cons_cons _ .slnil)) 0 rfl (.refl _)) (fun w1 hS => d_field ExK_fld_26_0 rfl rfl) ?_
 intro a hA
 refine any_tk (v := .pointer (some ⟨g2, 1, none⟩)) hA 4 rfl rfl rfl rfl hP (hS.partD (.cons _ (.cons_cons _ .slnil)) 0 rfl (.refl _)) (fun w1 hS => d_field ExK_fld_24_1 rfl rfl) ?_
 intro a hA
 refine any_tk hA 5 rfl rfl rfl rfl hP (hS.partD (.cons _ (.cons_cons _ .slnil)) 0 rfl (.refl _)) (fun w1 hS => d_load1 hS ExK_is1_22 rfl 0 rfl rfl) ?_
 intro a hA
 refine any_tk hA 7 rfl rfl rfl rfl hP (hS.partD (.cons _ (.cons_cons _ .slnil)) 0 rfl (.refl _)) (fun w1 hS => d_move rfl) ?_
 intro a hA
 refine any_tk (v := .pointer (some ⟨g2, 3, none⟩)) hA 9 rfl rfl rfl rfl hP (hS.partD (.cons _ (.cons_cons _ .slnil)) 0 rfl (.refl _)) (fun w1 hS => d_field ExK_fld_26_1 rfl rfl) ?_
 intro a hA
 refine any_tk (v := .pointer (some ⟨g2, 3, none⟩)) hA 10 rfl rfl rfl rfl hP (hS.partD (.cons _ (.cons_cons _ .slnil)) 0 rfl (.refl _)) (fun w1 hS => d_field ExK_fld_24_0 rfl rfl) ?_
 intro a hA
 refine any_tk hA 11 rfl rfl rfl rfl hP (hS.partD (.cons _ (.cons_cons _ .slnil)) 0 rfl (.refl _)) (fun w1 hS => d_load1 hS ExK_is1_4 rfl 0 rfl rfl) ?_
 intro a hA
 refine any_tk (v := .pointer (some ⟨g2, 3, none⟩)) hA 12 rfl rfl rfl rfl hP (hS.partD (.cons _ (.cons_cons _ .slnil)) 0 rfl (.refl _)) (fun w1 hS => d_field ExK_fld_26_1 rfl rfl) ?_
 intro a hA
 refine any_tk (v := .pointer (some ⟨g2, 4, none⟩)) hA 13 rfl rfl rfl rfl hP (hS.partD (.cons _ (.cons_cons _ .slnil)) 0 rfl (.refl _)) (fun w1 hS => d_field ExK_fld_24_1 rfl rfl) ?_
 intro a hA
 refine any_tk hA 14 rfl rfl rfl rfl hP (hS.partD (.cons _ (.cons_cons _ .slnil)) 0 rfl (.refl _)) (fun w1 hS => d_load1 hS ExK_is1_22 rfl 0 rfl rfl) ?_
 intro a hA
 refine any_tk hA 16 rfl rfl rfl rfl hP (hS.partD (.cons _ (.cons_cons _ .slnil)) 0 rfl (.refl _)) (fun w1 hS => d_move rfl) ?_
 intro a hA
 refine any_tk (v := .pointer (some ⟨g2, 0, none⟩)) hA 18 rfl rfl rfl rfl hP (hS.partD (.cons _ (.cons_cons _ .slnil)) 0 rfl (.refl _)) (fun w1 hS => d_field ExK_fld_26_0 rfl rfl) ?_
 intro a hA
 refine any_tk (v := .pointer (some ⟨g2, 2, none⟩)) hA 19 rfl rfl rfl rfl hP (hS.partD (.cons _ (.cons_cons _ .slnil)) 0 rfl (.refl _)) (fun w1 hS => d_field ExK_fld_24_2 rfl rfl) ?_
 intro a hA
 refine any_tk hA 20 rfl rfl rfl rfl hP (hS.partD (.cons _ (.cons_cons _ .slnil)) 0 rfl (.refl _)) (fun w1 hS => d_load1 hS ExK_is1_22 rfl 0 rfl rfl) ?_
 intro a hA
 refine any_tk hA 21 rfl rfl rfl rfl hP (hS.partD (.cons _ (.cons_cons _ .slnil)) 0 rfl (.refl _)) (fun w1 hS => d_move rfl) ?_
 intro a hA
 refine any_one (by kernel_rfl) (op_call hA 6 rfl rfl rfl rfl (enters_func  rfl rfl (fun w => by kernel_rfl)) (zsigned_any (b := rb u.num) (n := u.num.natAbs) (z := u.num) ⟨(hS.rd 8 rfl), ha.s1.nil, ha.s1.cap⟩ (sgn_rb u.num)) ?_)
 rintro _ w35 ⟨zo31, zc32, rfl, hs33, hb34⟩
 replace hS := hS.call hb34
 replace hS := hS.addR hs33.rd
 refine ⟨_, rfl, (hS.partD (.cons _ (.cons_cons _ .slnil)) 1 rfl (.refl _)), ?_⟩
 intro a hA
 refine any_one (by kernel_rfl) (op_call hA 8 rfl rfl rfl rfl (enters_func  rfl rfl (fun w => by kernel_rfl)) (zscaled_any ⟨(hS.rd 0 rfl), hs33.nil, hs33.cap⟩ ⟨(hS.rd 4 rfl), ho17.nocap, ho17.caps⟩ (by omega) (by omega)) ?_)
 rintro _ w40 ⟨zo36, zc37, rfl, hs38, hb39⟩
 replace hS := hS.call hb39
 replace hS := hS.addR hs38.rd
 refine ⟨_, rfl, (hS.partD (.cons _ (.cons_cons _ .slnil)) 2 rfl (.refl _)), ?_⟩
 intro a hA
 refine any_one (by kernel_rfl) (op_call hA 15 rfl rfl rfl rfl (enters_func  rfl rfl (fun w => by kernel_rfl)) (zsigned_any (b := rb v.num) (n := v.num.natAbs) (z := v.num) ⟨(hS.rd 8 rfl), ha.s3.nil, ha.s3.cap⟩ (sgn_rb v.num)) ?_)
 rintro _ w45 ⟨zo41, zc42, rfl, hs43, hb44⟩
 replace hS := hS.call hb44
 replace hS := hS.addR hs43.rd
 refine ⟨_, rfl, (hS.partD (.cons _ (.cons_cons _ .slnil)) 3 rfl (.refl _)), ?_⟩
 intro a hA
 refine any_one (by kernel_rfl) (op_call hA 17 rfl rfl rfl rfl (enters_func  rfl rfl (fun w => by kernel_rfl)) (zscaled_any ⟨(hS.rd 0 rfl), hs43.nil, hs43.cap⟩ ⟨(hS.rd 4 rfl), ho26.nocap, ho26.caps⟩ (by omega) (by omega)) ?_)
 rintro _ w50 ⟨zo46, zc47, rfl, hs48, hb49⟩
 replace hS := hS.call hb49
 replace hS := hS.addR hs48.rd
 refine ⟨_, rfl, (hS.partD (.cons _ (.cons_cons _ .slnil)) 4 rfl (.refl _)), ?_⟩
 intro a hA
 refine any_one (by kernel_rfl) (op_call hA 22 rfl rfl rfl rfl (enters_func  rfl rfl (fun w => by kernel_rfl)) (product_any _ _ (hS.rd 11 rfl) (hS.rd 7 rfl) (by omega) (by omega)) ?_)
 rintro _ w55 ⟨ro51, rc52, rfl, ho53, hb54⟩
 replace hS := hS.call hb54
 replace hS := hS.addR ho53.rd
 refine ⟨_, rfl, (hS.partD (.cons _ (.cons_cons _ .slnil)) 5 rfl (.refl _)), ?_⟩
 intro a hA
 refine any_tk (v := .agg #[.bool ((rb (u.num * ((v.den / spG u v : Nat) : Int)))), .slice zo36 ((words (u.num * ((v.den / spG u v : Nat) : Int)).natAbs).length) zc37, .bool ((rb (v.num * ((u.den / spG u v : Nat) : Int)))), .slice zo46 ((words (v.num * ((u.den / spG u v : Nat) : Int)).natAbs).length) zc47, .slice ro51 ((words (u.den * (v.den / spG u v))).length) rc52]) hA 23 rfl rfl rfl rfl hP (hS.partD (.cons _ (.cons_cons _ .slnil)) 5 rfl (.refl _)) (fun w1 hS => d_build rfl (fun w => by kernel_rfl)) ?_
 intro a hA
 refine any_one (by kernel_rfl) (op_store (us := [.bool ((rb (u.num * ((v.den / spG u v : Nat) : Int)))), .slice zo36 ((words (u.num * ((v.den / spG u v : Nat) : Int)).natAbs).length) zc37, .bool ((rb (v.num * ((u.den / spG u v : Nat) : Int)))), .slice zo46 ((words (v.num * ((u.den / spG u v : Nat) : Int)).natAbs).length) zc47, .slice ro51 ((words (u.den * (v.den / spG u v))).length) rc52]) hA hS 24 rfl rfl rfl (sets_store rfl rfl rfl (by kernel_rfl) hS 0 rfl rfl rfl) 0 rfl rfl rfl rfl ?_)
 intro w56 hS
 refine ⟨(hS.partD (.cons _ (.cons_cons _ .slnil)) 5 rfl (.refl _)), ?_⟩
 refine any_end (by kernel_rfl) ?_
 refine hK30 _ _ ?_
 refine wp_ret ?_
 refine hret _ _ ?_
 refine ends (v := .agg #[.bool ((rb (u.num * ((v.den / spG u v : Nat) : Int)))), .slice zo36 ((words (u.num * ((v.den / spG u v : Nat) : Int)).natAbs).length) zc37, .bool ((rb (v.num * ((u.den / spG u v : Nat) : Int)))), .slice zo46 ((words (v.num * ((u.den / spG u v : Nat) : Int)).natAbs).length) zc47, .slice ro51 ((words (u.den * (v.den / spG u v))).length) rc52]) hA rfl (.cons (res_cell hS ExK_isS_55 rfl 0 rfl (cs := [.bool ((rb (u.num * ((v.den / spG u v : Nat) : Int)))), .slice zo36 ((words (u.num * ((v.den / spG u v : Nat) : Int)).natAbs).length) zc37, .bool ((rb (v.num * ((u.den / spG u v : Nat) : Int)))), .slice zo46 ((words (v.num * ((u.den / spG u v : Nat) : Int)).natAbs).length) zc47, .slice ro51 ((words (u.den * (v.den / spG u v))).length) rc52]) rfl rfl) .nil) rfl ?_
 exact ⟨zo36, zc37, zo46, zc47, ro51, rc52, rfl, ⟨(hS.rd 3 rfl), hs38.nil, hs38.cap⟩, ⟨(hS.rd 1 rfl), hs48.nil, hs48.cap⟩, ⟨(hS.rd 0 rfl), ho53.nocap, ho53.caps⟩, hS.bel⟩
theorem zinv0_any {w : World} {x y : Int} {d : Nat} {a1 a2 a3 : Option Addr} {ac1 ac2 ac3 : Nat} (ha1 : Sc w a1 ac1 (words x.natAbs)) (ha2 : Sc w a2 ac2 (words y.natAbs)) (ha3 : Sc w a3 ac3 (words d)) (la1 : (words x.natAbs).length ≤ 10000) (la2 : (words y.natAbs).length ≤ 10000) (la3 : (words d).length ≤ 10000) (hy : y = 0) : Calls Tryz.prog 72 #[.agg #[.bool (rb x), .slice a1 (words x.natAbs).length ac1, .bool (rb y), .slice a2 (words y.natAbs).length ac2, .slice a3 (words d).length ac3]] w (AnsR w (ivX x y d) (ivY x y d) (ivD x y)) := by
 have k0 : (words y.natAbs).length = 0 := by rw [hy, Int.natAbs_zero, words_zero]; rfl
 have hS : St w w [] [(a3, words d), (a2, words y.natAbs), (a1, words x.natAbs)] [] := (((St.start w).addR ha1.rd).addR ha2.rd).addR ha3.rd
 refine walk_of (l := [(0, .agg #[.bool ((rb x)), .slice a1 ((words x.natAbs).length) ac1, .bool ((rb y)), .slice a2 ((words y.natAbs).length) ac2, .slice a3 ((words d).length) ac3])]) Tryz.func72 rfl Tryz.ntmps72 rfl rfl ?_
 intro Q hret hnorm hP a hA
 refine wp_seq_k (fun K1 hK1 => ?_)
 refine wp_region_lit ?_
 refine seq_new hA hS rfl rfl rfl (fun g => .pointer (some ⟨g, 0, none⟩)) (d_box rfl rfl) rfl ?_
 intro g2 w3 hS a hA
 refine seq_new (vs := [.bool false, .slice none 0 0, .bool false, .slice none 0 0, .slice none 0 0]) (t := 55) hA hS rfl rfl rfl (fun g => .pointer (some ⟨g, 0, none⟩)) (d_alloc (z := .agg #[.bool false, .slice none 0 0, .bool false, .slice none 0 0, .slice none 0 0]) (by kernel_rfl) rfl) rfl ?_
 intro g4 w5 hS a hA
 refine seq_end ?_
 refine hK1 _ _ ?_
 refine wp_seq_k (fun K6 hK6 => ?_)
 refine wp_seq_k (fun K7 hK7 => ?_)
 refine wp_region_lit ?_
 refine seq_do (v := .pointer (some ⟨g2, 2, none⟩)) hA rfl rfl rfl (d_field ExK_fld_55_1 rfl rfl) ?_
 intro a hA
 refine seq_do (v := .pointer (some ⟨g2, 3, none⟩)) hA rfl rfl rfl (d_field ExK_fld_53_1 rfl rfl) ?_
 intro a hA
 refine seq_do hA rfl rfl rfl (d_load1 hS ExK_is1_22 rfl 1 rfl rfl) ?_
 intro a hA
 refine seq_do (v := .int .i64 ((((words y.natAbs).length : Nat) : Int))) hA rfl rfl rfl (d_len Tryz.underlying22 rfl) ?_
 intro a hA
 refine seq_do (v := .bool true) hA rfl rfl rfl (d_bin rfl rfl (fun w => (bin_eql w).trans (by rw [show (((((words y.natAbs).length : Nat) : Int) == 0)) = true from (by simp only [k0]; rfl)]))) ?_
 intro a hA
 refine seq_end ?_
 refine hK7 _ _ ?_
 refine wp_cond_true (hA.ev rfl) ?_
 refine wp_seq_k (fun K8 hK8 => ?_)
 refine wp_draw (S := fun w1 => St w w1 [(g2, [.bool ((rb x)), .slice a1 ((words x.natAbs).length) ac1, .bool ((rb y)), .slice a2 ((words y.natAbs).length) ac2, .slice a3 ((words d).length) ac3])] [(a3, words d), (a2, words y.natAbs), (a1, words x.natAbs)] []) (by kernel_rfl) ?_
 replace hS := hS.drew
 refine any_tk (v := .pointer (some ⟨g2, 0, none⟩)) hA 0 rfl rfl rfl rfl hP (hS.partD (.cons _ (.cons_cons _ .slnil)) 0 rfl (.refl _)) (fun w1 hS => d_field ExK_fld_55_0 rfl rfl) ?_
 intro a hA
 refine any_tk (v := .pointer (some ⟨g2, 0, none⟩)) hA 1 rfl rfl rfl rfl hP (hS.partD (.cons _ (.cons_cons _ .slnil)) 0 rfl (.refl _)) (fun w1 hS => d_field ExK_fld_53_0 rfl rfl) ?_
 intro a hA
 refine any_tk hA 2 rfl rfl rfl rfl hP (hS.partD (.cons _ (.cons_cons _ .slnil)) 0 rfl (.refl _)) (fun w1 hS => d_load1 hS ExK_is1_4 rfl 0 rfl rfl) ?_
 intro a hA
 refine any_tk (v := .pointer (some ⟨g2, 4, none⟩)) hA 3 rfl rfl rfl rfl hP (hS.partD (.cons _ (.cons_cons _ .slnil)) 0 rfl (.refl _)) (fun w1 hS => d_field ExK_fld_55_2 rfl rfl) ?_
 intro a hA
 refine any_tk hA 4 rfl rfl rfl rfl hP (hS.partD (.cons _ (.cons_cons _ .slnil)) 0 rfl (.refl _)) (fun w1 hS => d_load1 hS ExK_is1_22 rfl 0 rfl rfl) ?_
 intro a hA
 refine any_tk (v := .pointer (some ⟨g2, 0, none⟩)) hA 6 rfl rfl rfl rfl hP (hS.partD (.cons _ (.cons_cons _ .slnil)) 0 rfl (.refl _)) (fun w1 hS => d_field ExK_fld_55_0 rfl rfl) ?_
 intro a hA
 refine any_tk (v := .pointer (some ⟨g2, 1, none⟩)) hA 7 rfl rfl rfl rfl hP (hS.partD (.cons _ (.cons_cons _ .slnil)) 0 rfl (.refl _)) (fun w1 hS => d_field ExK_fld_53_1 rfl rfl) ?_
 intro a hA
 refine any_tk hA 8 rfl rfl rfl rfl hP (hS.partD (.cons _ (.cons_cons _ .slnil)) 0 rfl (.refl _)) (fun w1 hS => d_load1 hS ExK_is1_22 rfl 0 rfl rfl) ?_
 intro a hA
 refine any_one (by kernel_rfl) (op_call hA 5 rfl rfl rfl rfl (enters_func  rfl rfl (fun w => by kernel_rfl)) (zsigned_any (b := rb x) (n := d) (z := sgn (rb x) d) ⟨(hS.rd 0 rfl), ha3.nil, ha3.cap⟩ rfl) ?_)
 rintro _ w13 ⟨zo9, zc10, rfl, hs11, hb12⟩
 replace hS := hS.call hb12
 replace hS := hS.addR hs11.rd
 refine ⟨_, rfl, (hS.partD (.cons _ (.cons_cons _ .slnil)) 1 rfl (.refl _)), ?_⟩
 intro a hA
 refine any_tk (v := .agg #[.bool ((rb (sgn (rb x) d))), .slice zo9 ((words (sgn (rb x) d).natAbs).length) zc10, .bool false, .slice none 0 0, .slice a1 ((words x.natAbs).length) ac1]) hA 9 rfl rfl rfl rfl hP (hS.partD (.cons _ (.cons_cons _ .slnil)) 1 rfl (.refl _)) (fun w1 hS => d_build rfl (fun w => by kernel_rfl)) ?_
 intro a hA
 refine any_one (by kernel_rfl) (op_store (us := [.bool ((rb (sgn (rb x) d))), .slice zo9 ((words (sgn (rb x) d).natAbs).length) zc10, .bool false, .slice none 0 0, .slice a1 ((words x.natAbs).length) ac1]) hA hS 10 rfl rfl rfl (sets_store rfl rfl rfl (by kernel_rfl) hS 0 rfl rfl rfl) 0 rfl rfl rfl rfl ?_)
 intro w14 hS
 refine ⟨(hS.partD (.cons _ (.cons_cons _ .slnil)) 1 rfl (.refl _)), ?_⟩
 refine any_end (by kernel_rfl) ?_
 refine hK8 _ _ ?_
 refine wp_ret ?_
 refine hret _ _ ?_
 refine ends (v := .agg #[.bool ((rb (sgn (rb x) d))), .slice zo9 ((words (sgn (rb x) d).natAbs).length) zc10, .bool false, .slice none 0 0, .slice a1 ((words x.natAbs).length) ac1]) hA rfl (.cons (res_cell hS ExK_isS_55 rfl 0 rfl (cs := [.bool ((rb (sgn (rb x) d))), .slice zo9 ((words (sgn (rb x) d).natAbs).length) zc10, .bool false, .slice none 0 0, .slice a1 ((words x.natAbs).length) ac1]) rfl rfl) .nil) rfl ?_
 rw [show ivX x y d = sgn (rb x) d from if_pos hy, show ivY x y d = 0 from if_pos hy, show ivD x y = x.natAbs from if_pos hy]
 exact ⟨zo9, zc10, none, 0, a1, ac1, by rw [show words (Int.natAbs 0) = [] from words_zero]; rfl, ⟨(hS.rd 0 rfl), hs11.nil, hs11.cap⟩, by rw [show words (Int.natAbs 0) = [] from words_zero]; exact Sc.none _, ⟨(hS.rd 3 rfl), ha1.nil, ha1.cap⟩, hS.bel⟩
theorem zinv1_any {w : World} {x y : Int} {d : Nat} {a1 a2 a3 : Option Addr} {ac1 ac2 ac3 : Nat} (ha1 : Sc w a1 ac1 (words x.natAbs)) (ha2 : Sc w a2 ac2 (words y.natAbs)) (ha3 : Sc w a3 ac3 (words d)) (la1 : (words x.natAbs).length ≤ 10000) (la2 : (words y.natAbs).length ≤ 10000) (la3 : (words d).length ≤ 10000) (hy : y ≠ 0) : Calls Tryz.prog 72 #[.agg #[.bool (rb x), .slice a1 (words x.natAbs).length ac1, .bool (rb y), .slice a2 (words y.natAbs).length ac2, .slice a3 (words d).length ac3]] w (AnsR w (ivX x y d) (ivY x y d) (ivD x y)) := by
 have k0 : (words y.natAbs).length ≠ 0 := by have := (words_len_pos (x := y.natAbs)).2 (by omega); omega
 have k1 := abs_mul_len la1 la1
 have k2 := abs_mul_len la2 la2
 have k3 : (words (-y).natAbs).length ≤ 10000 := by rw [Int.natAbs_neg]; exact la2
 have hS : St w w [] [(a3, words d), (a2, words y.natAbs), (a1, words x.natAbs)] [] := (((St.start w).addR ha1.rd).addR ha2.rd).addR ha3.rd
 refine walk_of (l := [(0, .agg #[.bool ((rb x)), .slice a1 ((words x.natAbs).length) ac1, .bool ((rb y)), .slice a2 ((words y.natAbs).length) ac2, .slice a3 ((words d).length) ac3])]) Tryz.func72 rfl Tryz.ntmps72 rfl rfl ?_
 intro Q hret hnorm hP a hA
 refine wp_seq_k (fun K1 hK1 => ?_)
 refine wp_region_lit ?_
 refine seq_new hA hS rfl rfl rfl (fun g => .pointer (some ⟨g, 0, none⟩)) (d_box rfl rfl) rfl ?_
 intro g2 w3 hS a hA
 refine seq_new (vs := [.bool false, .slice none 0 0, .bool false, .slice none 0 0, .slice none 0 0]) (t := 55) hA hS rfl rfl rfl (fun g => .pointer (some ⟨g, 0, none⟩)) (d_alloc (z := .agg #[.bool false, .slice none 0 0, .bool false, .slice none 0 0, .slice none 0 0]) (by kernel_rfl) rfl) rfl ?_
 intro g4 w5 hS a hA
 refine seq_end ?_
 refine hK1 _ _ ?_
 refine wp_seq_k (fun K6 hK6 => ?_)
 refine wp_seq_k (fun K7 hK7 => ?_)
 refine wp_region_lit ?_
 refine seq_do (v := .pointer (some ⟨g2, 2, none⟩)) hA rfl rfl rfl (d_field ExK_fld_55_1 rfl rfl) ?_
 intro a hA
 refine seq_do (v := .pointer (some ⟨g2, 3, none⟩)) hA rfl rfl rfl (d_field ExK_fld_53_1 rfl rfl) ?_
 intro a hA
 refine seq_do hA rfl rfl rfl (d_load1 hS ExK_is1_22 rfl 1 rfl rfl) ?_
 intro a hA
 refine seq_do (v := .int .i64 ((((words y.natAbs).length : Nat) : Int))) hA rfl rfl rfl (d_len Tryz.underlying22 rfl) ?_
 intro a hA
 refine seq_do (v := .bool false) hA rfl rfl rfl (d_bin rfl rfl (fun w => (bin_eql w).trans (by rw [show (((((words y.natAbs).length : Nat) : Int) == 0)) = false from (by simpa using k0)]))) ?_
 intro a hA
 refine seq_end ?_
 refine hK7 _ _ ?_
 refine wp_cond_false (hA.ev rfl) ?_
 refine wp_skip ?_
 refine hK6 _ _ ?_
 refine wp_seq_k (fun K8 hK8 => ?_)
 have hJ32 : ∀ a w1, (∃ (J27g : Nat) (J28 : Option Addr) (J29 : Nat), Sl a 44 [(0, .agg #[.bool ((rb x)), .slice a1 ((words x.natAbs).length) ac1, .bool ((rb y)), .slice a2 ((words y.natAbs).length) ac2, .slice a3 ((words d).length) ac3]), (1, .pointer (some ⟨g2, 0, none⟩)), (2, .pointer (some ⟨g4, 0, none⟩)), (3, .pointer (some ⟨J27g, 0, none⟩)), (4, .pointer (some ⟨g2, 2, none⟩)), (5, .pointer (some ⟨g2, 3, none⟩)), (6, .slice a2 ((words y.natAbs).length) ac2), (7, .int .i64 ((((words y.natAbs).length : Nat) : Int))), (8, .bool false)] ∧ St w w1 [(J27g, [.bool ((rb (x * x + (y * y)))), .slice J28 ((words (x * x + (y * y)).natAbs).length) J29]), (g4, [.bool false, .slice none 0 0, .bool false, .slice none 0 0, .slice none 0 0]), (g2, [.bool ((rb x)), .slice a1 ((words x.natAbs).length) ac1, .bool ((rb y)), .slice a2 ((words y.natAbs).length) ac2, .slice a3 ((words d).length) ac3])] [(J28, words (x * x + (y * y)).natAbs), (a3, words d), (a2, words y.natAbs), (a1, words x.natAbs)] [] ∧ (J28 = none → J29 = 0) ∧ (words (x * x + (y * y)).natAbs : List Nat).length ≤ J29) → K8 a w1 := by
   clear hA hS
   rintro a w33 ⟨J27g, J28, J29, hA, hS, hn30, hc31⟩
   refine hK8 _ _ ?_
   refine wp_seq_k (fun K34 hK34 => ?_)
   refine wp_draw (S := fun w1 => St w w1 [(J27g, [.bool ((rb (x * x + (y * y)))), .slice J28 ((words (x * x + (y * y)).natAbs).length) J29]), (g2, [.bool ((rb x)), .slice a1 ((words x.natAbs).length) ac1, .bool ((rb y)), .slice a2 ((words y.natAbs).length) ac2, .slice a3 ((words d).length) ac3])] [(J28, words (x * x + (y * y)).natAbs), (a3, words d), (a2, words y.natAbs), (a1, words x.natAbs)] []) (by kernel_rfl) ?_
   replace hS := hS.drew
   refine any_tk (v := .pointer (some ⟨g2, 0, none⟩)) hA 0 rfl rfl rfl rfl hP (hS.partD (.cons_cons _ (.cons _ (.cons_cons _ .slnil))) 0 rfl (.refl _)) (fun w1 hS => d_field ExK_fld_55_0 rfl rfl) ?_
   intro a hA
   refine any_tk hA 1 rfl rfl rfl rfl hP (hS.partD (.cons_cons _ (.cons _ (.cons_cons _ .slnil))) 0 rfl (.refl _)) (fun w1 hS => d_loadS hS ExK_isS_53 rfl 1 rfl (cs := [.bool ((rb x)), .slice a1 ((words x.natAbs).length) ac1]) rfl rfl) ?_
   intro a hA
   refine any_tk (v := .pointer (some ⟨g2, 4, none⟩)) hA 2 rfl rfl rfl rfl hP (hS.partD (.cons_cons _ (.cons _ (.cons_cons _ .slnil))) 0 rfl (.refl _)) (fun w1 hS => d_field ExK_fld_55_2 rfl rfl) ?_
   intro a hA
   refine any_tk hA 3 rfl rfl rfl rfl hP (hS.partD (.cons_cons _ (.cons _ (.cons_cons _ .slnil))) 0 rfl (.refl _)) (fun w1 hS => d_load1 hS ExK_is1_22 rfl 1 rfl rfl) ?_
   intro a hA
   refine any_tk (v := .pointer (some ⟨g2, 2, none⟩)) hA 5 rfl rfl rfl rfl hP (hS.partD (.cons_cons _ (.cons _ (.cons_cons _ .slnil))) 0 rfl (.refl _)) (fun w1 hS => d_field ExK_fld_55_1 rfl rfl) ?_
   intro a hA
   refine any_tk hA 6 rfl rfl rfl rfl hP (hS.partD (.cons_cons _ (.cons _ (.cons_cons _ .slnil))) 0 rfl (.refl _)) (fun w1 hS => d_loadS hS ExK_isS_53 rfl 1 rfl (cs := [.bool ((rb y)), .slice a2 ((words y.natAbs).length) ac2]) rfl rfl) ?_
   intro a hA
   refine any_tk (v := .pointer (some ⟨g2, 4, none⟩)) hA 8 rfl rfl rfl rfl hP (hS.partD (.cons_cons _ (.cons _ (.cons_cons _ .slnil))) 0 rfl (.refl _)) (fun w1 hS => d_field ExK_fld_55_2 rfl rfl) ?_
   intro a hA
   refine any_tk hA 9 rfl rfl rfl rfl hP (hS.partD (.cons_cons _ (.cons _ (.cons_cons _ .slnil))) 0 rfl (.refl _)) (fun w1 hS => d_load1 hS ExK_is1_22 rfl 1 rfl rfl) ?_
   intro a hA
   refine any_tk (v := .pointer (some ⟨J27g, 1, none⟩)) hA 11 rfl rfl rfl rfl hP (hS.partD (.cons_cons _ (.cons _ (.cons_cons _ .slnil))) 0 rfl (.refl _)) (fun w1 hS => d_field ExK_fld_53_1 rfl rfl) ?_
   intro a hA
   refine any_tk hA 12 rfl rfl rfl rfl hP (hS.partD (.cons_cons _ (.cons _ (.cons_cons _ .slnil))) 0 rfl (.refl _)) (fun w1 hS => d_load1 hS ExK_is1_22 rfl 0 rfl rfl) ?_
   intro a hA
   refine any_one (by kernel_rfl) (op_call hA 4 rfl rfl rfl rfl (enters_func  rfl rfl (fun w => by kernel_rfl)) (zscaled_any ⟨(hS.rd 3 rfl), ha1.nil, ha1.cap⟩ ⟨(hS.rd 1 rfl), ha3.nil, ha3.cap⟩ (by omega) (by omega)) ?_)
   rintro _ w39 ⟨zo35, zc36, rfl, hs37, hb38⟩
   replace hS := hS.call hb38
   replace hS := hS.addR hs37.rd
   refine ⟨_, rfl, (hS.partD (.cons_cons _ (.cons _ (.cons_cons _ .slnil))) 1 rfl (.refl _)), ?_⟩
   intro a hA
   refine any_one (by kernel_rfl) (op_call hA 7 rfl rfl rfl rfl (enters_func  rfl rfl (fun w => by kernel_rfl)) (zopp_any ⟨(hS.rd 3 rfl), ha2.nil, ha2.cap⟩) ?_)
   rintro _ w44 ⟨zo40, zc41, rfl, hs42, hb43⟩
   replace hS := hS.call hb43
   replace hS := hS.addR hs42.rd
   refine ⟨_, rfl, (hS.partD (.cons_cons _ (.cons _ (.cons_cons _ .slnil))) 2 rfl (.refl _)), ?_⟩
   intro a hA
   refine any_one (by kernel_rfl) (op_call hA 10 rfl rfl rfl rfl (enters_func  rfl rfl (fun w => by kernel_rfl)) (zscaled_any ⟨(hS.rd 0 rfl), hs42.nil, hs42.cap⟩ ⟨(hS.rd 3 rfl), ha3.nil, ha3.cap⟩ (by omega) (by omega)) ?_)
   rintro _ w49 ⟨zo45, zc46, rfl, hs47, hb48⟩
   replace hS := hS.call hb48
   replace hS := hS.addR hs47.rd
   refine ⟨_, rfl, (hS.partD (.cons_cons _ (.cons _ (.cons_cons _ .slnil))) 3 rfl (.refl _)), ?_⟩
   intro a hA
   refine any_tk (v := .agg #[.bool ((rb (x * ((d : Nat) : Int)))), .slice zo35 ((words (x * ((d : Nat) : Int)).natAbs).length) zc36, .bool ((rb ((-y) * ((d : Nat) : Int)))), .slice zo45 ((words ((-y) * ((d : Nat) : Int)).natAbs).length) zc46, .slice J28 ((words (x * x + (y * y)).natAbs).length) J29]) hA 13 rfl rfl rfl rfl hP (hS.partD (.cons_cons _ (.cons _ (.cons_cons _ .slnil))) 3 rfl (.refl _)) (fun w1 hS => d_build rfl (fun w => by kernel_rfl)) ?_
   intro a hA
   refine any_one (by kernel_rfl) (op_store (us := [.bool ((rb (x * ((d : Nat) : Int)))), .slice zo35 ((words (x * ((d : Nat) : Int)).natAbs).length) zc36, .bool ((rb ((-y) * ((d : Nat) : Int)))), .slice zo45 ((words ((-y) * ((d : Nat) : Int)).natAbs).length) zc46, .slice J28 ((words (x * x + (y * y)).natAbs).length) J29]) hA hS 14 rfl rfl rfl (sets_store rfl rfl rfl (by kernel_rfl) hS 1 rfl rfl rfl) 1 rfl rfl rfl rfl ?_)
   intro w50 hS
   refine ⟨(hS.partD (.cons_cons _ (.cons _ (.cons_cons _ .slnil))) 3 rfl (.refl _)), ?_⟩
   refine any_end (by kernel_rfl) ?_
   refine hK34 _ _ ?_
   refine wp_ret ?_
   refine hret _ _ ?_
   refine ends (v := .agg #[.bool ((rb (x * ((d : Nat) : Int)))), .slice zo35 ((words (x * ((d : Nat) : Int)).natAbs).length) zc36, .bool ((rb ((-y) * ((d : Nat) : Int)))), .slice zo45 ((words ((-y) * ((d : Nat) : Int)).natAbs).length) zc46, .slice J28 ((words (x * x + (y * y)).natAbs).length) J29]) hA rfl (.cons (res_cell hS ExK_isS_55 rfl 1 rfl (cs := [.bool ((rb (x * ((d : Nat) : Int)))), .slice zo35 ((words (x * ((d : Nat) : Int)).natAbs).length) zc36, .bool ((rb ((-y) * ((d : Nat) : Int)))), .slice zo45 ((words ((-y) * ((d : Nat) : Int)).natAbs).length) zc46, .slice J28 ((words (x * x + (y * y)).natAbs).length) J29]) rfl rfl) .nil) rfl ?_
   rw [show ivX x y d = x * ((d : Nat) : Int) from if_neg hy, show ivY x y d = -y * ((d : Nat) : Int) from if_neg hy, show ivD x y = (x * x + y * y).natAbs from if_neg hy]
   exact ⟨zo35, zc36, zo45, zc46, J28, J29, rfl, ⟨(hS.rd 2 rfl), hs37.nil, hs37.cap⟩, ⟨(hS.rd 0 rfl), hs47.nil, hs47.cap⟩, ⟨(hS.rd 3 rfl), hn30, hc31⟩, hS.bel⟩
 refine wp_draw (S := fun w1 => St w w1 [(g4, [.bool false, .slice none 0 0, .bool false, .slice none 0 0, .slice none 0 0]), (g2, [.bool ((rb x)), .slice a1 ((words x.natAbs).length) ac1, .bool ((rb y)), .slice a2 ((words y.natAbs).length) ac2, .slice a3 ((words d).length) ac3])] [(a3, words d), (a2, words y.natAbs), (a1, words x.natAbs)] []) (by kernel_rfl) ?_
 replace hS := hS.drew
 refine any_tk (v := .pointer (some ⟨g2, 0, none⟩)) hA 0 rfl rfl rfl rfl hP hS (fun w1 hS => d_field ExK_fld_55_0 rfl rfl) ?_
 intro a hA
 refine any_tk hA 1 rfl rfl rfl rfl hP hS (fun w1 hS => d_loadS hS ExK_isS_53 rfl 1 rfl (cs := [.bool ((rb x)), .slice a1 ((words x.natAbs).length) ac1]) rfl rfl) ?_
 intro a hA
 refine any_tk (v := .pointer (some ⟨g2, 0, none⟩)) hA 2 rfl rfl rfl rfl hP hS (fun w1 hS => d_field ExK_fld_55_0 rfl rfl) ?_
 intro a hA
 refine any_tk hA 3 rfl rfl rfl rfl hP hS (fun w1 hS => d_loadS hS ExK_isS_53 rfl 1 rfl (cs := [.bool ((rb x)), .slice a1 ((words x.natAbs).length) ac1]) rfl rfl) ?_
 intro a hA
 refine any_tk (v := .pointer (some ⟨g2, 2, none⟩)) hA 5 rfl rfl rfl rfl hP hS (fun w1 hS => d_field ExK_fld_55_1 rfl rfl) ?_
 intro a hA
 refine any_tk hA 6 rfl rfl rfl rfl hP hS (fun w1 hS => d_loadS hS ExK_isS_53 rfl 1 rfl (cs := [.bool ((rb y)), .slice a2 ((words y.natAbs).length) ac2]) rfl rfl) ?_
 intro a hA
 refine any_tk (v := .pointer (some ⟨g2, 2, none⟩)) hA 7 rfl rfl rfl rfl hP hS (fun w1 hS => d_field ExK_fld_55_1 rfl rfl) ?_
 intro a hA
 refine any_tk hA 8 rfl rfl rfl rfl hP hS (fun w1 hS => d_loadS hS ExK_isS_53 rfl 1 rfl (cs := [.bool ((rb y)), .slice a2 ((words y.natAbs).length) ac2]) rfl rfl) ?_
 intro a hA
 refine any_many (rs := [4, 11]) (by kernel_rfl) (by simp) ⟨?_, ?_, trivial⟩
 · refine op_call hA 4 rfl rfl rfl rfl (enters_func  rfl rfl (fun w => by kernel_rfl)) (ztimes_any ⟨(hS.rd 2 rfl), ha1.nil, ha1.cap⟩ ⟨(hS.rd 2 rfl), ha1.nil, ha1.cap⟩ (by omega) (by omega)) ?_
   rintro _ w55 ⟨zo51, zc52, rfl, hs53, hb54⟩
   replace hS := hS.call hb54
   replace hS := hS.addR hs53.rd
   refine ⟨_, rfl, (hS.partD (.refl _) 1 rfl (.refl _)), ?_⟩
   intro a hA
   refine any_many (rs := [9, 11]) (by kernel_rfl) (by simp) ⟨?_, ?_, trivial⟩
   · refine op_call hA 9 rfl rfl rfl rfl (enters_func  rfl rfl (fun w => by kernel_rfl)) (ztimes_any ⟨(hS.rd 2 rfl), ha2.nil, ha2.cap⟩ ⟨(hS.rd 2 rfl), ha2.nil, ha2.cap⟩ (by omega) (by omega)) ?_
     rintro _ w60 ⟨zo56, zc57, rfl, hs58, hb59⟩
     replace hS := hS.call hb59
     replace hS := hS.addR hs58.rd
     refine ⟨_, rfl, (hS.partD (.refl _) 2 rfl (.refl _)), ?_⟩
     intro a hA
     refine any_many (rs := [10, 11]) (by kernel_rfl) (by simp) ⟨?_, ?_, trivial⟩
     · refine op_call hA 10 rfl rfl rfl rfl (enters_func  rfl rfl (fun w => by kernel_rfl)) (zplus_any ⟨(hS.rd 1 rfl), hs53.nil, hs53.cap⟩ ⟨(hS.rd 0 rfl), hs58.nil, hs58.cap⟩ (by omega) (by omega)) ?_
       rintro _ w65 ⟨zo61, zc62, rfl, hs63, hb64⟩
       replace hS := hS.call hb64
       replace hS := hS.addR hs63.rd
       refine ⟨_, rfl, (hS.partD (.refl _) 3 rfl (.refl _)), ?_⟩
       intro a hA
       refine any_one (by kernel_rfl) (op_new (vs := [.bool false, .slice none 0 0]) (t := 53) hA hS 11 rfl rfl rfl rfl (fun g => .pointer (some ⟨g, 0, none⟩)) (d_alloc (z := .agg #[.bool false, .slice none 0 0]) (by kernel_rfl) rfl) rfl ?_)
       intro g66 w67 hS
       refine ⟨(hS.partD (.cons _ (.cons_cons _ (.cons_cons _ .slnil))) 3 rfl (.refl _)), ?_⟩
       intro a hA
       refine any_one (by kernel_rfl) (op_store (us := [.bool ((rb (x * x + (y * y)))), .slice zo61 ((words (x * x + (y * y)).natAbs).length) zc62]) hA hS 12 rfl rfl rfl (sets_store rfl rfl rfl (by kernel_rfl) hS 0 rfl rfl rfl) 0 rfl rfl rfl rfl ?_)
       intro w68 hS
       refine ⟨(hS.partD (.cons _ (.cons_cons _ (.cons_cons _ .slnil))) 3 rfl (.refl _)), ?_⟩
       refine any_end (by kernel_rfl) ?_
       refine hJ32 _ _ ⟨g66, zo61, zc62, hA.keep _ ⟨rfl, rfl, rfl, rfl, rfl, rfl, rfl, rfl, rfl, trivial⟩, (St.pickRL hS ⟨⟨0, rfl⟩, ⟨⟨3, rfl⟩, ⟨⟨4, rfl⟩, ⟨⟨5, rfl⟩, trivial⟩⟩⟩⟩ [0, 1, 2] rfl (by decide)), hs63.nil, hs63.cap⟩
     · refine op_new (vs := [.bool false, .slice none 0 0]) (t := 53) hA hS 11 rfl rfl rfl rfl (fun g => .pointer (some ⟨g, 0, none⟩)) (d_alloc (z := .agg #[.bool false, .slice none 0 0]) (by kernel_rfl) rfl) rfl ?_
       intro g69 w70 hS
       refine ⟨(hS.partD (.cons _ (.cons_cons _ (.cons_cons _ .slnil))) 2 rfl (.refl _)), ?_⟩
       intro a hA
       refine any_one (by kernel_rfl) (op_call hA 10 rfl rfl rfl rfl (enters_func  rfl rfl (fun w => by kernel_rfl)) (zplus_any ⟨(hS.rd 1 rfl), hs53.nil, hs53.cap⟩ ⟨(hS.rd 0 rfl), hs58.nil, hs58.cap⟩ (by omega) (by omega)) ?_)
       rintro _ w75 ⟨zo71, zc72, rfl, hs73, hb74⟩
       replace hS := hS.call hb74
       replace hS := hS.addR hs73.rd
       refine ⟨_, rfl, (hS.partD (.cons _ (.cons_cons _ (.cons_cons _ .slnil))) 3 rfl (.refl _)), ?_⟩
       intro a hA
       refine any_one (by kernel_rfl) (op_store (us := [.bool ((rb (x * x + (y * y)))), .slice zo71 ((words (x * x + (y * y)).natAbs).length) zc72]) hA hS 12 rfl rfl rfl (sets_store rfl rfl rfl (by kernel_rfl) hS 0 rfl rfl rfl) 0 rfl rfl rfl rfl ?_)
       intro w76 hS
       refine ⟨(hS.partD (.cons _ (.cons_cons _ (.cons_cons _ .slnil))) 3 rfl (.refl _)), ?_⟩
       refine any_end (by kernel_rfl) ?_
       refine hJ32 _ _ ⟨g69, zo71, zc72, hA.keep _ ⟨rfl, rfl, rfl, rfl, rfl, rfl, rfl, rfl, rfl, trivial⟩, (St.pickRL hS ⟨⟨0, rfl⟩, ⟨⟨3, rfl⟩, ⟨⟨4, rfl⟩, ⟨⟨5, rfl⟩, trivial⟩⟩⟩⟩ [0, 1, 2] rfl (by decide)), hs73.nil, hs73.cap⟩
   · refine op_new (vs := [.bool false, .slice none 0 0]) (t := 53) hA hS 11 rfl rfl rfl rfl (fun g => .pointer (some ⟨g, 0, none⟩)) (d_alloc (z := .agg #[.bool false, .slice none 0 0]) (by kernel_rfl) rfl) rfl ?_
     intro g77 w78 hS
     refine ⟨(hS.partD (.cons _ (.cons_cons _ (.cons_cons _ .slnil))) 1 rfl (.refl _)), ?_⟩
     intro a hA
     refine any_one (by kernel_rfl) (op_call hA 9 rfl rfl rfl rfl (enters_func  rfl rfl (fun w => by kernel_rfl)) (ztimes_any ⟨(hS.rd 2 rfl), ha2.nil, ha2.cap⟩ ⟨(hS.rd 2 rfl), ha2.nil, ha2.cap⟩ (by omega) (by omega)) ?_)
     rintro _ w83 ⟨zo79, zc80, rfl, hs81, hb82⟩
     replace hS := hS.call hb82
     replace hS := hS.addR hs81.rd
     refine ⟨_, rfl, (hS.partD (.cons _ (.cons_cons _ (.cons_cons _ .slnil))) 2 rfl (.refl _)), ?_⟩
     intro a hA
     refine any_one (by kernel_rfl) (op_call hA 10 rfl rfl rfl rfl (enters_func  rfl rfl (fun w => by kernel_rfl)) (zplus_any ⟨(hS.rd 1 rfl), hs53.nil, hs53.cap⟩ ⟨(hS.rd 0 rfl), hs81.nil, hs81.cap⟩ (by omega) (by omega)) ?_)
     rintro _ w88 ⟨zo84, zc85, rfl, hs86, hb87⟩
     replace hS := hS.call hb87
     replace hS := hS.addR hs86.rd
     refine ⟨_, rfl, (hS.partD (.cons _ (.cons_cons _ (.cons_cons _ .slnil))) 3 rfl (.refl _)), ?_⟩
     intro a hA
     refine any_one (by kernel_rfl) (op_store (us := [.bool ((rb (x * x + (y * y)))), .slice zo84 ((words (x * x + (y * y)).natAbs).length) zc85]) hA hS 12 rfl rfl rfl (sets_store rfl rfl rfl (by kernel_rfl) hS 0 rfl rfl rfl) 0 rfl rfl rfl rfl ?_)
     intro w89 hS
     refine ⟨(hS.partD (.cons _ (.cons_cons _ (.cons_cons _ .slnil))) 3 rfl (.refl _)), ?_⟩
     refine any_end (by kernel_rfl) ?_
     refine hJ32 _ _ ⟨g77, zo84, zc85, hA.keep _ ⟨rfl, rfl, rfl, rfl, rfl, rfl, rfl, rfl, rfl, trivial⟩, (St.pickRL hS ⟨⟨0, rfl⟩, ⟨⟨3, rfl⟩, ⟨⟨4, rfl⟩, ⟨⟨5, rfl⟩, trivial⟩⟩⟩⟩ [0, 1, 2] rfl (by decide)), hs86.nil, hs86.cap⟩
 · refine op_new (vs := [.bool false, .slice none 0 0]) (t := 53) hA hS 11 rfl rfl rfl rfl (fun g => .pointer (some ⟨g, 0, none⟩)) (d_alloc (z := .agg #[.bool false, .slice none 0 0]) (by kernel_rfl) rfl) rfl ?_
   intro g90 w91 hS
   refine ⟨(hS.partD (.cons _ (.cons_cons _ (.cons_cons _ .slnil))) 0 rfl (.refl _)), ?_⟩
   intro a hA
   refine any_one (by kernel_rfl) (op_call hA 4 rfl rfl rfl rfl (enters_func  rfl rfl (fun w => by kernel_rfl)) (ztimes_any ⟨(hS.rd 2 rfl), ha1.nil, ha1.cap⟩ ⟨(hS.rd 2 rfl), ha1.nil, ha1.cap⟩ (by omega) (by omega)) ?_)
   rintro _ w96 ⟨zo92, zc93, rfl, hs94, hb95⟩
   replace hS := hS.call hb95
   replace hS := hS.addR hs94.rd
   refine ⟨_, rfl, (hS.partD (.cons _ (.cons_cons _ (.cons_cons _ .slnil))) 1 rfl (.refl _)), ?_⟩
   intro a hA
   refine any_one (by kernel_rfl) (op_call hA 9 rfl rfl rfl rfl (enters_func  rfl rfl (fun w => by kernel_rfl)) (ztimes_any ⟨(hS.rd 2 rfl), ha2.nil, ha2.cap⟩ ⟨(hS.rd 2 rfl), ha2.nil, ha2.cap⟩ (by omega) (by omega)) ?_)
   rintro _ w101 ⟨zo97, zc98, rfl, hs99, hb100⟩
   replace hS := hS.call hb100
   replace hS := hS.addR hs99.rd
   refine ⟨_, rfl, (hS.partD (.cons _ (.cons_cons _ (.cons_cons _ .slnil))) 2 rfl (.refl _)), ?_⟩
   intro a hA
   refine any_one (by kernel_rfl) (op_call hA 10 rfl rfl rfl rfl (enters_func  rfl rfl (fun w => by kernel_rfl)) (zplus_any ⟨(hS.rd 1 rfl), hs94.nil, hs94.cap⟩ ⟨(hS.rd 0 rfl), hs99.nil, hs99.cap⟩ (by omega) (by omega)) ?_)
   rintro _ w106 ⟨zo102, zc103, rfl, hs104, hb105⟩
   replace hS := hS.call hb105
   replace hS := hS.addR hs104.rd
   refine ⟨_, rfl, (hS.partD (.cons _ (.cons_cons _ (.cons_cons _ .slnil))) 3 rfl (.refl _)), ?_⟩
   intro a hA
   refine any_one (by kernel_rfl) (op_store (us := [.bool ((rb (x * x + (y * y)))), .slice zo102 ((words (x * x + (y * y)).natAbs).length) zc103]) hA hS 12 rfl rfl rfl (sets_store rfl rfl rfl (by kernel_rfl) hS 0 rfl rfl rfl) 0 rfl rfl rfl rfl ?_)
   intro w107 hS
   refine ⟨(hS.partD (.cons _ (.cons_cons _ (.cons_cons _ .slnil))) 3 rfl (.refl _)), ?_⟩
   refine any_end (by kernel_rfl) ?_
   refine hJ32 _ _ ⟨g90, zo102, zc103, hA.keep _ ⟨rfl, rfl, rfl, rfl, rfl, rfl, rfl, rfl, rfl, trivial⟩, (St.pickRL hS ⟨⟨0, rfl⟩, ⟨⟨3, rfl⟩, ⟨⟨4, rfl⟩, ⟨⟨5, rfl⟩, trivial⟩⟩⟩⟩ [0, 1, 2] rfl (by decide)), hs104.nil, hs104.cap⟩
theorem zinv_any {w : World} {x y : Int} {d : Nat} {a1 a2 a3 : Option Addr} {ac1 ac2 ac3 : Nat} (ha1 : Sc w a1 ac1 (words x.natAbs)) (ha2 : Sc w a2 ac2 (words y.natAbs)) (ha3 : Sc w a3 ac3 (words d)) (la1 : (words x.natAbs).length ≤ 10000) (la2 : (words y.natAbs).length ≤ 10000) (la3 : (words d).length ≤ 10000) : Calls Tryz.prog 72 #[.agg #[.bool (rb x), .slice a1 (words x.natAbs).length ac1, .bool (rb y), .slice a2 (words y.natAbs).length ac2, .slice a3 (words d).length ac3]] w (AnsR w (ivX x y d) (ivY x y d) (ivD x y)) := by
  by_cases hy : y = 0
  · exact zinv0_any ha1 ha2 ha3 la1 la2 la3 hy
  · exact zinv1_any ha1 ha2 ha3 la1 la2 la3 hy
theorem zsettle_as {w : World} {x y : Int} {d : Nat} {a1 a2 a3 : Option Addr} {ac1 ac2 ac3 : Nat} (ha1 : Sc w a1 ac1 (words x.natAbs)) (ha2 : Sc w a2 ac2 (words y.natAbs)) (ha3 : Sc w a3 ac3 (words d)) {r : Q6 × Int} (h : setQ x y d = r) (l1 : (words x.natAbs).length ≤ 50000) (l2 : (words y.natAbs).length ≤ 50000) (l3 : (words d).length ≤ 50000) (hd : d ≠ 0) : Calls Tryz.prog 63 #[.agg #[.bool (rb x), .slice a1 (words x.natAbs).length ac1, .bool (rb y), .slice a2 (words y.natAbs).length ac2, .slice a3 (words d).length ac3]] w (AnsN w r) := h ▸ zsettle_any ha1 ha2 ha3 l1 l2 l3 hd
end Go.Proofs.YthlkbnhbmfmchaaGreat
namespace Go.Proofs.YthlkbnhbmfmchaaGreat
open Go.RowKit
set_option linter.unusedVariables false
set_option linter.unusedSimpArgs false
set_option maxRecDepth 100000
theorem ExL_isS_26 : IsS Tryz.prog 26 6 := ⟨⟨_, Tryz.underlying26⟩, by kernel_rfl⟩
theorem neg_len {x : Int} {k : Nat} (h : (words x.natAbs).length ≤ k) : (words (-x).natAbs).length ≤ k := by rw [Int.natAbs_neg]; exact h
theorem divE1_any {w : World} {p q : Q6} {a1 a2 a3 a4 : Option Addr} {ac1 ac2 ac3 ac4 : Nat} (ha : Nm w p a1 ac1 a2 ac2 a3 ac3 a4 ac4) (hl : LenQ p) {u1 u2 u3 u4 : Option Addr} {uc1 uc2 uc3 uc4 : Nat} (hb : Nm w q u1 uc1 u2 uc2 u3 uc3 u4 uc4) (hm : LenQ q) (h1 : soundQ p = false) : Calls Tryz.prog 54 #[numV p a1 ac1 a2 ac2 a3 ac3 a4 ac4, numV q u1 uc1 u2 uc2 u3 uc3 u4 uc4] w (AnsN w (Q6.zero, 2)) := by
 have hS : St w w [] [(u4, q.q2), (u3, q.t2), (u2, q.q1), (u1, q.t1), (a4, p.q2), (a3, p.t2), (a2, p.q1), (a1, p.t1)] [] := ((((((((St.start w).addR ha.s1.rd).addR ha.s2.rd).addR ha.s3.rd).addR ha.s4.rd).addR hb.s1.rd).addR hb.s2.rd).addR hb.s3.rd).addR hb.s4.rd
 refine walk_of (l := [(0, .agg #[.bool p.b1, .slice a1 p.t1.length ac1, .slice a2 p.q1.length ac2, .bool p.b2, .slice a3 p.t2.length ac3, .slice a4 p.q2.length ac4]), (1, .agg #[.bool q.b1, .slice u1 q.t1.length uc1, .slice u2 q.q1.length uc2, .bool q.b2, .slice u3 q.t2.length uc3, .slice u4 q.q2.length uc4])]) Tryz.func54 rfl Tryz.ntmps54 rfl rfl ?_
 intro Q hret hnorm hP a hA
 refine wp_seq_k (fun K1 hK1 => ?_)
 refine wp_region_lit ?_
 refine seq_new hA hS rfl rfl rfl (fun g => .pointer (some ⟨g, 0, none⟩)) (d_box rfl rfl) rfl ?_
 intro g2 w3 hS a hA
 refine seq_new hA hS rfl rfl rfl (fun g => .pointer (some ⟨g, 0, none⟩)) (d_box rfl rfl) rfl ?_
 intro g4 w5 hS a hA
 refine seq_new (vs := [.bool false, .slice none 0 0, .slice none 0 0, .bool false, .slice none 0 0, .slice none 0 0]) (t := 26) hA hS rfl rfl rfl (fun g => .pointer (some ⟨g, 0, none⟩)) (d_alloc (z := .agg #[.bool false, .slice none 0 0, .slice none 0 0, .bool false, .slice none 0 0, .slice none 0 0]) (by kernel_rfl) rfl) rfl ?_
 intro g6 w7 hS a hA
 refine seq_do hA rfl rfl rfl (d_assign rfl) ?_
 intro a hA
 refine seq_end ?_
 refine hK1 _ _ ?_
 refine wp_seq_k (fun K8 hK8 => ?_)
 refine wp_seq_k (fun K9 hK9 => ?_)
 refine wp_region_lit ?_
 refine seq_do hA rfl rfl rfl (d_loadS hS ExL_isS_26 rfl 2 rfl (cs := [.bool p.b1, .slice a1 p.t1.length ac1, .slice a2 p.q1.length ac2, .bool p.b2, .slice a3 p.t2.length ac3, .slice a4 p.q2.length ac4]) rfl rfl) ?_
 intro a hA
 refine seq_call hA rfl rfl rfl (enters_func  rfl rfl (fun w => by kernel_rfl)) (soundQ_any (show Nm _ p a1 ac1 a2 ac2 a3 ac3 a4 ac4 from ⟨⟨(hS.rd 7 rfl), ha.s1.nil, ha.s1.cap⟩, ⟨(hS.rd 6 rfl), ha.s2.nil, ha.s2.cap⟩, ⟨(hS.rd 5 rfl), ha.s3.nil, ha.s3.cap⟩, ⟨(hS.rd 4 rfl), ha.s4.nil, ha.s4.cap⟩⟩) hl h1) ?_
 rintro _ w11 ⟨rfl, hb10⟩
 replace hS := hS.call hb10
 refine ⟨_, rfl, ?_⟩
 intro a hA
 refine seq_do (v := .bool true) hA rfl rfl rfl (d_un rfl un_not) ?_
 intro a hA
 refine seq_do hA rfl rfl rfl (d_move rfl) ?_
 intro a hA
 refine seq_skip hA rfl rfl rfl ?_
 intro a hA
 refine seq_skip hA rfl rfl rfl ?_
 intro a hA
 refine seq_skip hA rfl rfl rfl ?_
 intro a hA
 refine seq_do (v := .bool true) hA rfl rfl rfl (d_pick rfl rfl rfl rfl) ?_
 intro a hA
 refine seq_end ?_
 refine hK9 _ _ ?_
 refine wp_cond_true (hA.ev rfl) ?_
 refine wp_seq_k (fun K12 hK12 => ?_)
 refine wp_region_lit ?_
 refine seq_do (v := .agg #[.bool false, .slice none 0 0, .slice none 0 0, .bool false, .slice none 0 0, .slice none 0 0]) hA rfl rfl rfl (d_build rfl (fun w => by kernel_rfl)) ?_
 intro a hA
 refine seq_store (us := [.bool false, .slice none 0 0, .slice none 0 0, .bool false, .slice none 0 0, .slice none 0 0]) hA hS rfl rfl (sets_store rfl rfl rfl (by kernel_rfl) hS 0 rfl rfl rfl) 0 rfl rfl rfl rfl ?_
 intro w13 hS
 refine seq_do hA rfl rfl rfl (d_assign rfl) ?_
 intro a hA
 refine seq_end ?_
 refine hK12 _ _ ?_
 refine wp_ret ?_
 refine hret _ _ ?_
 refine ends (v := .tuple #[.agg #[.bool false, .slice none 0 0, .slice none 0 0, .bool false, .slice none 0 0, .slice none 0 0], .int .i64 2]) hA rfl (.cons (res_cell hS ExL_isS_26 rfl 0 rfl (cs := [.bool false, .slice none 0 0, .slice none 0 0, .bool false, .slice none 0 0, .slice none 0 0]) rfl rfl) (.cons (res_tmp rfl) .nil)) rfl ?_
 exact ⟨none, 0, none, 0, none, 0, none, 0, rfl, ⟨(Sc.none _), (Sc.none _), (Sc.none _), (Sc.none _)⟩, hS.bel⟩
theorem divE2_any {w : World} {p q : Q6} {a1 a2 a3 a4 : Option Addr} {ac1 ac2 ac3 ac4 : Nat} (ha : Nm w p a1 ac1 a2 ac2 a3 ac3 a4 ac4) (hl : LenQ p) {u1 u2 u3 u4 : Option Addr} {uc1 uc2 uc3 uc4 : Nat} (hb : Nm w q u1 uc1 u2 uc2 u3 uc3 u4 uc4) (hm : LenQ q) (h1 : soundQ p = true) (h2 : soundQ q = false) : Calls Tryz.prog 54 #[numV p a1 ac1 a2 ac2 a3 ac3 a4 ac4, numV q u1 uc1 u2 uc2 u3 uc3 u4 uc4] w (AnsN w (Q6.zero, 2)) := by
 have hS : St w w [] [(u4, q.q2), (u3, q.t2), (u2, q.q1), (u1, q.t1), (a4, p.q2), (a3, p.t2), (a2, p.q1), (a1, p.t1)] [] := ((((((((St.start w).addR ha.s1.rd).addR ha.s2.rd).addR ha.s3.rd).addR ha.s4.rd).addR hb.s1.rd).addR hb.s2.rd).addR hb.s3.rd).addR hb.s4.rd
 refine walk_of (l := [(0, .agg #[.bool p.b1, .slice a1 p.t1.length ac1, .slice a2 p.q1.length ac2, .bool p.b2, .slice a3 p.t2.length ac3, .slice a4 p.q2.length ac4]), (1, .agg #[.bool q.b1, .slice u1 q.t1.length uc1, .slice u2 q.q1.length uc2, .bool q.b2, .slice u3 q.t2.length uc3, .slice u4 q.q2.length uc4])]) Tryz.func54 rfl Tryz.ntmps54 rfl rfl ?_
 intro Q hret hnorm hP a hA
 refine wp_seq_k (fun K1 hK1 => ?_)
 refine wp_region_lit ?_
 refine seq_new hA hS rfl rfl rfl (fun g => .pointer (some ⟨g, 0, none⟩)) (d_box rfl rfl) rfl ?_
 intro g2 w3 hS a hA
 refine seq_new hA hS rfl rfl rfl (fun g => .pointer (some ⟨g, 0, none⟩)) (d_box rfl rfl) rfl ?_
 intro g4 w5 hS a hA
 refine seq_new (vs := [.bool false, .slice none 0 0, .slice none 0 0, .bool false, .slice none 0 0, .slice none 0 0]) (t := 26) hA hS rfl rfl rfl (fun g => .pointer (some ⟨g, 0, none⟩)) (d_alloc (z := .agg #[.bool false, .slice none 0 0, .slice none 0 0, .bool false, .slice none 0 0, .slice none 0 0]) (by kernel_rfl) rfl) rfl ?_
 intro g6 w7 hS a hA
 refine seq_do hA rfl rfl rfl (d_assign rfl) ?_
 intro a hA
 refine seq_end ?_
 refine hK1 _ _ ?_
 refine wp_seq_k (fun K8 hK8 => ?_)
 refine wp_seq_k (fun K9 hK9 => ?_)
 refine wp_region_lit ?_
 refine seq_do hA rfl rfl rfl (d_loadS hS ExL_isS_26 rfl 2 rfl (cs := [.bool p.b1, .slice a1 p.t1.length ac1, .slice a2 p.q1.length ac2, .bool p.b2, .slice a3 p.t2.length ac3, .slice a4 p.q2.length ac4]) rfl rfl) ?_
 intro a hA
 refine seq_call hA rfl rfl rfl (enters_func  rfl rfl (fun w => by kernel_rfl)) (soundQ_any (show Nm _ p a1 ac1 a2 ac2 a3 ac3 a4 ac4 from ⟨⟨(hS.rd 7 rfl), ha.s1.nil, ha.s1.cap⟩, ⟨(hS.rd 6 rfl), ha.s2.nil, ha.s2.cap⟩, ⟨(hS.rd 5 rfl), ha.s3.nil, ha.s3.cap⟩, ⟨(hS.rd 4 rfl), ha.s4.nil, ha.s4.cap⟩⟩) hl h1) ?_
 rintro _ w11 ⟨rfl, hb10⟩
 replace hS := hS.call hb10
 refine ⟨_, rfl, ?_⟩
 intro a hA
 refine seq_do (v := .bool false) hA rfl rfl rfl (d_un rfl un_not) ?_
 intro a hA
 refine seq_do hA rfl rfl rfl (d_move rfl) ?_
 intro a hA
 refine seq_do hA rfl rfl rfl (d_loadS hS ExL_isS_26 rfl 1 rfl (cs := [.bool q.b1, .slice u1 q.t1.length uc1, .slice u2 q.q1.length uc2, .bool q.b2, .slice u3 q.t2.length uc3, .slice u4 q.q2.length uc4]) rfl rfl) ?_
 intro a hA
 refine seq_call hA rfl rfl rfl (enters_func  rfl rfl (fun w => by kernel_rfl)) (soundQ_any (show Nm _ q u1 uc1 u2 uc2 u3 uc3 u4 uc4 from ⟨⟨(hS.rd 3 rfl), hb.s1.nil, hb.s1.cap⟩, ⟨(hS.rd 2 rfl), hb.s2.nil, hb.s2.cap⟩, ⟨(hS.rd 1 rfl), hb.s3.nil, hb.s3.cap⟩, ⟨(hS.rd 0 rfl), hb.s4.nil, hb.s4.cap⟩⟩) hm h2) ?_
 rintro _ w13 ⟨rfl, hb12⟩
 replace hS := hS.call hb12
 refine ⟨_, rfl, ?_⟩
 intro a hA
 refine seq_do (v := .bool true) hA rfl rfl rfl (d_un rfl un_not) ?_
 intro a hA
 refine seq_do (v := .bool true) hA rfl rfl rfl (d_pick rfl rfl rfl rfl) ?_
 intro a hA
 refine seq_end ?_
 refine hK9 _ _ ?_
 refine wp_cond_true (hA.ev rfl) ?_
 refine wp_seq_k (fun K14 hK14 => ?_)
 refine wp_region_lit ?_
 refine seq_do (v := .agg #[.bool false, .slice none 0 0, .slice none 0 0, .bool false, .slice none 0 0, .slice none 0 0]) hA rfl rfl rfl (d_build rfl (fun w => by kernel_rfl)) ?_
 intro a hA
 refine seq_store (us := [.bool false, .slice none 0 0, .slice none 0 0, .bool false, .slice none 0 0, .slice none 0 0]) hA hS rfl rfl (sets_store rfl rfl rfl (by kernel_rfl) hS 0 rfl rfl rfl) 0 rfl rfl rfl rfl ?_
 intro w15 hS
 refine seq_do hA rfl rfl rfl (d_assign rfl) ?_
 intro a hA
 refine seq_end ?_
 refine hK14 _ _ ?_
 refine wp_ret ?_
 refine hret _ _ ?_
 refine ends (v := .tuple #[.agg #[.bool false, .slice none 0 0, .slice none 0 0, .bool false, .slice none 0 0, .slice none 0 0], .int .i64 2]) hA rfl (.cons (res_cell hS ExL_isS_26 rfl 0 rfl (cs := [.bool false, .slice none 0 0, .slice none 0 0, .bool false, .slice none 0 0, .slice none 0 0]) rfl rfl) (.cons (res_tmp rfl) .nil)) rfl ?_
 exact ⟨none, 0, none, 0, none, 0, none, 0, rfl, ⟨(Sc.none _), (Sc.none _), (Sc.none _), (Sc.none _)⟩, hS.bel⟩
theorem divZ_any {w : World} {u v x y : Rat} {a1 a2 a3 a4 : Option Addr} {ac1 ac2 ac3 ac4 : Nat} (ha : Nm w (Q6.rat u v) a1 ac1 a2 ac2 a3 ac3 a4 ac4) {u1 u2 u3 u4 : Option Addr} {uc1 uc2 uc3 uc4 : Nat} (hb : Nm w (Q6.rat x y) u1 uc1 u2 uc2 u3 uc3 u4 uc4) (hu : fitR u) (hv : fitR v) (hx : fitR x) (hy : fitR y) (hz : x = 0 ∧ y = 0) : Calls Tryz.prog 54 #[numV (Q6.rat u v) a1 ac1 a2 ac2 a3 ac3 a4 ac4, numV (Q6.rat x y) u1 uc1 u2 uc2 u3 uc3 u4 uc4] w (AnsN w (Q6.zero, 3)) := by
 have k1 : (words x.num.natAbs).length ≤ 512 := hx.1
 have k2 : (words y.num.natAbs).length ≤ 512 := hy.1
 have hS : St w w [] [(u4, words y.den), (u3, words y.num.natAbs), (u2, words x.den), (u1, words x.num.natAbs), (a4, words v.den), (a3, words v.num.natAbs), (a2, words u.den), (a1, words u.num.natAbs)] [] := ((((((((St.start w).addR ha.s1.rd).addR ha.s2.rd).addR ha.s3.rd).addR ha.s4.rd).addR hb.s1.rd).addR hb.s2.rd).addR hb.s3.rd).addR hb.s4.rd
 refine walk_of (l := [(0, .agg #[.bool (rb u.num), .slice a1 ((words u.num.natAbs).length) ac1, .slice a2 ((words u.den).length) ac2, .bool (rb v.num), .slice a3 ((words v.num.natAbs).length) ac3, .slice a4 ((words v.den).length) ac4]), (1, .agg #[.bool (rb x.num), .slice u1 ((words x.num.natAbs).length) uc1, .slice u2 ((words x.den).length) uc2, .bool (rb y.num), .slice u3 ((words y.num.natAbs).length) uc3, .slice u4 ((words y.den).length) uc4])]) Tryz.func54 rfl Tryz.ntmps54 rfl rfl ?_
 intro Q hret hnorm hP a hA
 refine wp_seq_k (fun K1 hK1 => ?_)
 refine wp_region_lit ?_
 refine seq_new hA hS rfl rfl rfl (fun g => .pointer (some ⟨g, 0, none⟩)) (d_box rfl rfl) rfl ?_
 intro g2 w3 hS a hA
 refine seq_new hA hS rfl rfl rfl (fun g => .pointer (some ⟨g, 0, none⟩)) (d_box rfl rfl) rfl ?_
 intro g4 w5 hS a hA
 refine seq_new (vs := [.bool false, .slice none 0 0, .slice none 0 0, .bool false, .slice none 0 0, .slice none 0 0]) (t := 26) hA hS rfl rfl rfl (fun g => .pointer (some ⟨g, 0, none⟩)) (d_alloc (z := .agg #[.bool false, .slice none 0 0, .slice none 0 0, .bool false, .slice none 0 0, .slice none 0 0]) (by kernel_rfl) rfl) rfl ?_
 intro g6 w7 hS a hA
 refine seq_do hA rfl rfl rfl (d_assign rfl) ?_
 intro a hA
 refine seq_end ?_
 refine hK1 _ _ ?_
 refine wp_seq_k (fun K8 hK8 => ?_)
 refine wp_seq_k (fun K9 hK9 => ?_)
 refine wp_region_lit ?_
 refine seq_do hA rfl rfl rfl (d_loadS hS ExL_isS_26 rfl 2 rfl (cs := [.bool (rb u.num), .slice a1 ((words u.num.natAbs).length) ac1, .slice a2 ((words u.den).length) ac2, .bool (rb v.num), .slice a3 ((words v.num.natAbs).length) ac3, .slice a4 ((words v.den).length) ac4]) rfl rfl) ?_
 intro a hA
 refine seq_call hA rfl rfl rfl (enters_func  rfl rfl (fun w => by kernel_rfl)) (soundQ_any (show Nm _ (Q6.rat u v) a1 ac1 a2 ac2 a3 ac3 a4 ac4 from ⟨⟨(hS.rd 7 rfl), ha.s1.nil, ha.s1.cap⟩, ⟨(hS.rd 6 rfl), ha.s2.nil, ha.s2.cap⟩, ⟨(hS.rd 5 rfl), ha.s3.nil, ha.s3.cap⟩, ⟨(hS.rd 4 rfl), ha.s4.nil, ha.s4.cap⟩⟩) (lenQ_rat hu hv) (soundQ_rat hu hv)) ?_
 rintro _ w11 ⟨rfl, hb10⟩
 replace hS := hS.call hb10
 refine ⟨_, rfl, ?_⟩
 intro a hA
 refine seq_do (v := .bool false) hA rfl rfl rfl (d_un rfl un_not) ?_
 intro a hA
 refine seq_do hA rfl rfl rfl (d_move rfl) ?_
 intro a hA
 refine seq_do hA rfl rfl rfl (d_loadS hS ExL_isS_26 rfl 1 rfl (cs := [.bool (rb x.num), .slice u1 ((words x.num.natAbs).length) uc1, .slice u2 ((words x.den).length) uc2, .bool (rb y.num), .slice u3 ((words y.num.natAbs).length) uc3, .slice u4 ((words y.den).length) uc4]) rfl rfl) ?_
 intro a hA
 refine seq_call hA rfl rfl rfl (enters_func  rfl rfl (fun w => by kernel_rfl)) (soundQ_any (show Nm _ (Q6.rat x y) u1 uc1 u2 uc2 u3 uc3 u4 uc4 from ⟨⟨(hS.rd 3 rfl), hb.s1.nil, hb.s1.cap⟩, ⟨(hS.rd 2 rfl), hb.s2.nil, hb.s2.cap⟩, ⟨(hS.rd 1 rfl), hb.s3.nil, hb.s3.cap⟩, ⟨(hS.rd 0 rfl), hb.s4.nil, hb.s4.cap⟩⟩) (lenQ_rat hx hy) (soundQ_rat hx hy)) ?_
 rintro _ w13 ⟨rfl, hb12⟩
 replace hS := hS.call hb12
 refine ⟨_, rfl, ?_⟩
 intro a hA
 refine seq_do (v := .bool false) hA rfl rfl rfl (d_un rfl un_not) ?_
 intro a hA
 refine seq_do (v := .bool false) hA rfl rfl rfl (d_pick rfl rfl rfl rfl) ?_
 intro a hA
 refine seq_end ?_
 refine hK9 _ _ ?_
 refine wp_cond_false (hA.ev rfl) ?_
 refine wp_skip ?_
 refine hK8 _ _ ?_
 refine wp_seq_k (fun K14 hK14 => ?_)
 refine wp_seq_k (fun K15 hK15 => ?_)
 refine wp_region_lit ?_
 refine seq_do hA rfl rfl rfl (d_loadS hS ExL_isS_26 rfl 1 rfl (cs := [.bool (rb x.num), .slice u1 ((words x.num.natAbs).length) uc1, .slice u2 ((words x.den).length) uc2, .bool (rb y.num), .slice u3 ((words y.num.natAbs).length) uc3, .slice u4 ((words y.den).length) uc4]) rfl rfl) ?_
 intro a hA
 refine seq_call hA rfl rfl rfl (enters_func  rfl rfl (fun w => by kernel_rfl)) ((show Calls Tryz.prog 66 #[.agg #[.bool (rb x.num), .slice u1 ((words x.num.natAbs).length) uc1, .slice u2 ((words x.den).length) uc2, .bool (rb y.num), .slice u3 ((words y.num.natAbs).length) uc3, .slice u4 ((words y.den).length) uc4]] _ (fun e w' => e = .returned (.bool true) ∧ _) from (((zero_rat x y).trans (decide_eq_true hz)) ▸ isZero_any (by omega) (by omega)))) ?_
 rintro _ w17 ⟨rfl, hb16⟩
 replace hS := hS.call hb16
 refine ⟨_, rfl, ?_⟩
 intro a hA
 refine seq_end ?_
 refine hK15 _ _ ?_
 refine wp_cond_true (hA.ev rfl) ?_
 refine wp_seq_k (fun K18 hK18 => ?_)
 refine wp_region_lit ?_
 refine seq_do (v := .agg #[.bool false, .slice none 0 0, .slice none 0 0, .bool false, .slice none 0 0, .slice none 0 0]) hA rfl rfl rfl (d_build rfl (fun w => by kernel_rfl)) ?_
 intro a hA
 refine seq_store (us := [.bool false, .slice none 0 0, .slice none 0 0, .bool false, .slice none 0 0, .slice none 0 0]) hA hS rfl rfl (sets_store rfl rfl rfl (by kernel_rfl) hS 0 rfl rfl rfl) 0 rfl rfl rfl rfl ?_
 intro w19 hS
 refine seq_do hA rfl rfl rfl (d_assign rfl) ?_
 intro a hA
 refine seq_end ?_
 refine hK18 _ _ ?_
 refine wp_ret ?_
 refine hret _ _ ?_
 refine ends (v := .tuple #[.agg #[.bool false, .slice none 0 0, .slice none 0 0, .bool false, .slice none 0 0, .slice none 0 0], .int .i64 3]) hA rfl (.cons (res_cell hS ExL_isS_26 rfl 0 rfl (cs := [.bool false, .slice none 0 0, .slice none 0 0, .bool false, .slice none 0 0, .slice none 0 0]) rfl rfl) (.cons (res_tmp rfl) .nil)) rfl ?_
 exact ⟨none, 0, none, 0, none, 0, none, 0, rfl, ⟨(Sc.none _), (Sc.none _), (Sc.none _), (Sc.none _)⟩, hS.bel⟩
theorem divN_any {w : World} {u v x y : Rat} {a1 a2 a3 a4 : Option Addr} {ac1 ac2 ac3 ac4 : Nat} (ha : Nm w (Q6.rat u v) a1 ac1 a2 ac2 a3 ac3 a4 ac4) {u1 u2 u3 u4 : Option Addr} {uc1 uc2 uc3 uc4 : Nat} (hb : Nm w (Q6.rat x y) u1 uc1 u2 uc2 u3 uc3 u4 uc4) (hu : fitR u) (hv : fitR v) (hx : fitR x) (hy : fitR y) (hz : ¬ (x = 0 ∧ y = 0)) : Calls Tryz.prog 54 #[numV (Q6.rat u v) a1 ac1 a2 ac2 a3 ac3 a4 ac4, numV (Q6.rat x y) u1 uc1 u2 uc2 u3 uc3 u4 uc4] w (AnsN w (ratS ((u * x + v * y) / (x * x + y * y)) ((v * x - u * y) / (x * x + y * y)))) := by
 have k1 : (words x.num.natAbs).length ≤ 512 := hx.1
 have k2 : (words y.num.natAbs).length ≤ 512 := hy.1
 have m1 := spX_len hu hv
 have m2 := spY_len hu hv
 have m3 := spD_len hu hv
 have m4 := spX_len hx hy
 have m5 := spY_len hx hy
 have m6 := spD_len hx hy
 have n1 := ivX_len (y := spY x y) m4 m6
 have n2 := ivY_len (x := spX x y) m5 m6
 have n3 := ivD_len m4 m5
 have hS : St w w [] [(u4, words y.den), (u3, words y.num.natAbs), (u2, words x.den), (u1, words x.num.natAbs), (a4, words v.den), (a3, words v.num.natAbs), (a2, words u.den), (a1, words u.num.natAbs)] [] := ((((((((St.start w).addR ha.s1.rd).addR ha.s2.rd).addR ha.s3.rd).addR ha.s4.rd).addR hb.s1.rd).addR hb.s2.rd).addR hb.s3.rd).addR hb.s4.rd
 refine walk_of (l := [(0, .agg #[.bool (rb u.num), .slice a1 ((words u.num.natAbs).length) ac1, .slice a2 ((words u.den).length) ac2, .bool (rb v.num), .slice a3 ((words v.num.natAbs).length) ac3, .slice a4 ((words v.den).length) ac4]), (1, .agg #[.bool (rb x.num), .slice u1 ((words x.num.natAbs).length) uc1, .slice u2 ((words x.den).length) uc2, .bool (rb y.num), .slice u3 ((words y.num.natAbs).length) uc3, .slice u4 ((words y.den).length) uc4])]) Tryz.func54 rfl Tryz.ntmps54 rfl rfl ?_
 intro Q hret hnorm hP a hA
 refine wp_seq_k (fun K1 hK1 => ?_)
 refine wp_region_lit ?_
 refine seq_new hA hS rfl rfl rfl (fun g => .pointer (some ⟨g, 0, none⟩)) (d_box rfl rfl) rfl ?_
 intro g2 w3 hS a hA
 refine seq_new hA hS rfl rfl rfl (fun g => .pointer (some ⟨g, 0, none⟩)) (d_box rfl rfl) rfl ?_
 intro g4 w5 hS a hA
 refine seq_new (vs := [.bool false, .slice none 0 0, .slice none 0 0, .bool false, .slice none 0 0, .slice none 0 0]) (t := 26) hA hS rfl rfl rfl (fun g => .pointer (some ⟨g, 0, none⟩)) (d_alloc (z := .agg #[.bool false, .slice none 0 0, .slice none 0 0, .bool false, .slice none 0 0, .slice none 0 0]) (by kernel_rfl) rfl) rfl ?_
 intro g6 w7 hS a hA
 refine seq_do hA rfl rfl rfl (d_assign rfl) ?_
 intro a hA
 refine seq_end ?_
 refine hK1 _ _ ?_
 refine wp_seq_k (fun K8 hK8 => ?_)
 refine wp_seq_k (fun K9 hK9 => ?_)
 refine wp_region_lit ?_
 refine seq_do hA rfl rfl rfl (d_loadS hS ExL_isS_26 rfl 2 rfl (cs := [.bool (rb u.num), .slice a1 ((words u.num.natAbs).length) ac1, .slice a2 ((words u.den).length) ac2, .bool (rb v.num), .slice a3 ((words v.num.natAbs).length) ac3, .slice a4 ((words v.den).length) ac4]) rfl rfl) ?_
 intro a hA
 refine seq_call hA rfl rfl rfl (enters_func  rfl rfl (fun w => by kernel_rfl)) (soundQ_any (show Nm _ (Q6.rat u v) a1 ac1 a2 ac2 a3 ac3 a4 ac4 from ⟨⟨(hS.rd 7 rfl), ha.s1.nil, ha.s1.cap⟩, ⟨(hS.rd 6 rfl), ha.s2.nil, ha.s2.cap⟩, ⟨(hS.rd 5 rfl), ha.s3.nil, ha.s3.cap⟩, ⟨(hS.rd 4 rfl), ha.s4.nil, ha.s4.cap⟩⟩) (lenQ_rat hu hv) (soundQ_rat hu hv)) ?_
 rintro _ w11 ⟨rfl, hb10⟩
 replace hS := hS.call hb10
 refine ⟨_, rfl, ?_⟩
 intro a hA
 refine seq_do (v := .bool false) hA rfl rfl rfl (d_un rfl un_not) ?_
 intro a hA
 refine seq_do hA rfl rfl rfl (d_move rfl) ?_
 intro a hA
 refine seq_do hA rfl rfl rfl (d_loadS hS ExL_isS_26 rfl 1 rfl (cs := [.bool (rb x.num), .slice u1 ((words x.num.natAbs).length) uc1, .slice u2 ((words x.den).length) uc2, .bool (rb y.num), .slice u3 ((words y.num.natAbs).length) uc3, .slice u4 ((words y.den).length) uc4]) rfl rfl) ?_
 intro a hA
 refine seq_call hA rfl rfl rfl (enters_func  rfl rfl (fun w => by kernel_rfl)) (soundQ_any (show Nm _ (Q6.rat x y) u1 uc1 u2 uc2 u3 uc3 u4 uc4 from ⟨⟨(hS.rd 3 rfl), hb.s1.nil, hb.s1.cap⟩, ⟨(hS.rd 2 rfl), hb.s2.nil, hb.s2.cap⟩, ⟨(hS.rd 1 rfl), hb.s3.nil, hb.s3.cap⟩, ⟨(hS.rd 0 rfl), hb.s4.nil, hb.s4.cap⟩⟩) (lenQ_rat hx hy) (soundQ_rat hx hy)) ?_
 rintro _ w13 ⟨rfl, hb12⟩
 replace hS := hS.call hb12
 refine ⟨_, rfl, ?_⟩
 intro a hA
 refine seq_do (v := .bool false) hA rfl rfl rfl (d_un rfl un_not) ?_
 intro a hA
 refine seq_do (v := .bool false) hA rfl rfl rfl (d_pick rfl rfl rfl rfl) ?_
 intro a hA
 refine seq_end ?_
 refine hK9 _ _ ?_
 refine wp_cond_false (hA.ev rfl) ?_
 refine wp_skip ?_
 refine hK8 _ _ ?_
 refine wp_seq_k (fun K14 hK14 => ?_)
 refine wp_seq_k (fun K15 hK15 => ?_)
 refine wp_region_lit ?_
 refine seq_do hA rfl rfl rfl (d_loadS hS ExL_isS_26 rfl 1 rfl (cs := [.bool (rb x.num), .slice u1 ((words x.num.natAbs).length) uc1, .slice u2 ((words x.den).length) uc2, .bool (rb y.num), .slice u3 ((words y.num.natAbs).length) uc3, .slice u4 ((words y.den).length) uc4]) rfl rfl) ?_
 intro a hA
 refine seq_call hA rfl rfl rfl (enters_func  rfl rfl (fun w => by kernel_rfl)) ((show Calls Tryz.prog 66 #[.agg #[.bool (rb x.num), .slice u1 ((words x.num.natAbs).length) uc1, .slice u2 ((words x.den).length) uc2, .bool (rb y.num), .slice u3 ((words y.num.natAbs).length) uc3, .slice u4 ((words y.den).length) uc4]] _ (fun e w' => e = .returned (.bool false) ∧ _) from (((zero_rat x y).trans (decide_eq_false hz)) ▸ isZero_any (by omega) (by omega)))) ?_
 rintro _ w17 ⟨rfl, hb16⟩
 replace hS := hS.call hb16
 refine ⟨_, rfl, ?_⟩
 intro a hA
 refine seq_end ?_
 refine hK15 _ _ ?_
 refine wp_cond_false (hA.ev rfl) ?_
 refine wp_skip ?_
 refine hK14 _ _ ?_
 refine wp_seq_k (fun K18 hK18 => ?_)
 refine wp_draw (S := fun w1 => St w w1 [(g4, [.bool (rb x.num), .slice u1 ((words x.num.natAbs).length) uc1, .slice u2 ((words x.den).length) uc2, .bool (rb y.num), .slice u3 ((words y.num.natAbs).length) uc3, .slice u4 ((words y.den).length) uc4]), (g2, [.bool (rb u.num), .slice a1 ((words u.num.natAbs).length) ac1, .slice a2 ((words u.den).length) ac2, .bool (rb v.num), .slice a3 ((words v.num.natAbs).length) ac3, .slice a4 ((words v.den).length) ac4])] [(u4, words y.den), (u3, words y.num.natAbs), (u2, words x.den), (u1, words x.num.natAbs), (a4, words v.den), (a3, words v.num.natAbs), (a2, words u.den), (a1, words u.num.natAbs)] []) (by kernel_rfl) ?_
 replace hS := hS.drew
 refine any_tk hA 0 rfl rfl rfl rfl hP (hS.partD (.cons _ (.cons_cons _ (.cons_cons _ .slnil))) 0 rfl (.refl _)) (fun w1 hS => d_loadS hS ExL_isS_26 rfl 1 rfl (cs := [.bool (rb u.num), .slice a1 ((words u.num.natAbs).length) ac1, .slice a2 ((words u.den).length) ac2, .bool (rb v.num), .slice a3 ((words v.num.natAbs).length) ac3, .slice a4 ((words v.den).length) ac4]) rfl rfl) ?_
 intro a hA
 refine any_tk hA 2 rfl rfl rfl rfl hP (hS.partD (.cons _ (.cons_cons _ (.cons_cons _ .slnil))) 0 rfl (.refl _)) (fun w1 hS => d_loadS hS ExL_isS_26 rfl 0 rfl (cs := [.bool (rb x.num), .slice u1 ((words x.num.natAbs).length) uc1, .slice u2 ((words x.den).length) uc2, .bool (rb y.num), .slice u3 ((words y.num.natAbs).length) uc3, .slice u4 ((words y.den).length) uc4]) rfl rfl) ?_
 intro a hA
 refine any_one (by kernel_rfl) (op_call hA 1 rfl rfl rfl rfl (enters_func  rfl rfl (fun w => by kernel_rfl)) (zspread_any (show Nm _ (Q6.rat u v) a1 ac1 a2 ac2 a3 ac3 a4 ac4 from ⟨⟨(hS.rd 7 rfl), ha.s1.nil, ha.s1.cap⟩, ⟨(hS.rd 6 rfl), ha.s2.nil, ha.s2.cap⟩, ⟨(hS.rd 5 rfl), ha.s3.nil, ha.s3.cap⟩, ⟨(hS.rd 4 rfl), ha.s4.nil, ha.s4.cap⟩⟩) hu hv) ?_)
 rintro _ w24 ⟨p19_1, p19_c1, p19_2, p19_c2, p19_3, p19_c3, rfl, hs20, hs21, hs22, hb23⟩
 replace hS := hS.call hb23
 replace hS := hS.addR hs20.rd
 replace hS := hS.addR hs21.rd
 replace hS := hS.addR hs22.rd
 refine ⟨_, rfl, (hS.partD (.cons _ (.cons_cons _ (.cons_cons _ .slnil))) 3 rfl (.refl _)), ?_⟩
 intro a hA
 refine any_one (by kernel_rfl) (op_call hA 3 rfl rfl rfl rfl (enters_func  rfl rfl (fun w => by kernel_rfl)) (zspread_any (show Nm _ (Q6.rat x y) u1 uc1 u2 uc2 u3 uc3 u4 uc4 from ⟨⟨(hS.rd 6 rfl), hb.s1.nil, hb.s1.cap⟩, ⟨(hS.rd 5 rfl), hb.s2.nil, hb.s2.cap⟩, ⟨(hS.rd 4 rfl), hb.s3.nil, hb.s3.cap⟩, ⟨(hS.rd 3 rfl), hb.s4.nil, hb.s4.cap⟩⟩) hx hy) ?_)
 rintro _ w30 ⟨p25_1, p25_c1, p25_2, p25_c2, p25_3, p25_c3, rfl, hs26, hs27, hs28, hb29⟩
 replace hS := hS.call hb29
 replace hS := hS.addR hs26.rd
 replace hS := hS.addR hs27.rd
 replace hS := hS.addR hs28.rd
 refine ⟨_, rfl, (hS.partD (.cons _ (.cons_cons _ (.cons_cons _ .slnil))) 6 rfl (.refl _)), ?_⟩
 intro a hA
 refine any_one (by kernel_rfl) (op_call hA 4 rfl rfl rfl rfl (enters_func  rfl rfl (fun w => by kernel_rfl)) (zinv_any ⟨(hS.rd 2 rfl), hs26.nil, hs26.cap⟩ ⟨(hS.rd 1 rfl), hs27.nil, hs27.cap⟩ ⟨(hS.rd 0 rfl), hs28.nil, hs28.cap⟩ (by omega) (by omega) (by omega)) ?_)
 rintro _ w36 ⟨p31_1, p31_c1, p31_2, p31_c2, p31_3, p31_c3, rfl, hs32, hs33, hs34, hb35⟩
 replace hS := hS.call hb35
 replace hS := hS.addR hs32.rd
 replace hS := hS.addR hs33.rd
 replace hS := hS.addR hs34.rd
 refine ⟨_, rfl, (hS.partD (.cons _ (.cons_cons _ (.cons_cons _ .slnil))) 9 rfl (.refl _)), ?_⟩
 intro a hA
 refine any_one (by kernel_rfl) (op_call hA 5 rfl rfl rfl rfl (enters_func  rfl rfl (fun w => by kernel_rfl)) (zproduct_any ⟨(hS.rd 8 rfl), hs20.nil, hs20.cap⟩ ⟨(hS.rd 7 rfl), hs21.nil, hs21.cap⟩ ⟨(hS.rd 6 rfl), hs22.nil, hs22.cap⟩ ⟨(hS.rd 2 rfl), hs32.nil, hs32.cap⟩ ⟨(hS.rd 1 rfl), hs33.nil, hs33.cap⟩ ⟨(hS.rd 0 rfl), hs34.nil, hs34.cap⟩ (by omega) (by omega) (by omega) (by omega) (by omega) (by omega)) ?_)
 rintro _ w42 ⟨p37_1, p37_c1, p37_2, p37_c2, p37_3, p37_c3, rfl, hs38, hs39, hs40, hb41⟩
 replace hS := hS.call hb41
 replace hS := hS.addR hs38.rd
 replace hS := hS.addR hs39.rd
 replace hS := hS.addR hs40.rd
 refine ⟨_, rfl, (hS.partD (.cons _ (.cons_cons _ (.cons_cons _ .slnil))) 12 rfl (.refl _)), ?_⟩
 intro a hA
 refine any_one (by kernel_rfl) (op_call hA 6 rfl rfl rfl rfl (enters_func  rfl rfl (fun w => by kernel_rfl)) (zsettle_as ⟨(hS.rd 2 rfl), hs38.nil, hs38.cap⟩ ⟨(hS.rd 1 rfl), hs39.nil, hs39.cap⟩ ⟨(hS.rd 0 rfl), hs40.nil, hs40.cap⟩ (set_div (spD_ne u v) (spD_ne x y) (spX_mk u v) (spY_mk u v) (spX_mk x y) (spY_mk x y) (sp_ne hz)) (Nat.le_trans (abs_add_len (Nat.le_trans (abs_mul_len m1 n1) (by decide : _ ≤ 4096)) (Nat.le_trans (neg_len (abs_mul_len m2 n2)) (by decide : _ ≤ 4096))) (by decide)) (Nat.le_trans (abs_add_len (Nat.le_trans (abs_mul_len m1 n2) (by decide : _ ≤ 4096)) (Nat.le_trans (abs_mul_len m2 n1) (by decide : _ ≤ 4096))) (by decide)) (Nat.le_trans (words_mul_length m3 n3) (by decide)) (Nat.mul_ne_zero (spD_ne u v) (ivD_ne (sp_ne hz)))) ?_)
 rintro _ w46 ⟨p43_1, p43_c1, p43_2, p43_c2, p43_3, p43_c3, p43_4, p43_c4, rfl, hn44, hb45⟩
 replace hS := hS.call hb45
 replace hS := hS.addR hn44.s1.rd
 replace hS := hS.addR hn44.s2.rd
 replace hS := hS.addR hn44.s3.rd
 replace hS := hS.addR hn44.s4.rd
 refine ⟨_, rfl, (hS.partD (.cons _ (.cons_cons _ (.cons_cons _ .slnil))) 16 rfl (.refl _)), ?_⟩
 intro a hA
 refine any_tk (v := .agg #[.bool ((ratS ((u * x + v * y) / (x * x + y * y)) ((v * x - u * y) / (x * x + y * y))).1.b1), .slice p43_1 (((ratS ((u * x + v * y) / (x * x + y * y)) ((v * x - u * y) / (x * x + y * y))).1.t1).length) p43_c1, .slice p43_2 (((ratS ((u * x + v * y) / (x * x + y * y)) ((v * x - u * y) / (x * x + y * y))).1.q1).length) p43_c2, .bool ((ratS ((u * x + v * y) / (x * x + y * y)) ((v * x - u * y) / (x * x + y * y))).1.b2), .slice p43_3 (((ratS ((u * x + v * y) / (x * x + y * y)) ((v * x - u * y) / (x * x + y * y))).1.t2).length) p43_c3, .slice p43_4 (((ratS ((u * x + v * y) / (x * x + y * y)) ((v * x - u * y) / (x * x + y * y))).1.q2).length) p43_c4]) hA 7 rfl rfl rfl rfl hP (hS.partD (.cons _ (.cons_cons _ (.cons_cons _ .slnil))) 16 rfl (.refl _)) (fun w1 hS => d_extract (vs := [.agg #[.bool ((ratS ((u * x + v * y) / (x * x + y * y)) ((v * x - u * y) / (x * x + y * y))).1.b1), .slice p43_1 (((ratS ((u * x + v * y) / (x * x + y * y)) ((v * x - u * y) / (x * x + y * y))).1.t1).length) p43_c1, .slice p43_2 (((ratS ((u * x + v * y) / (x * x + y * y)) ((v * x - u * y) / (x * x + y * y))).1.q1).length) p43_c2, .bool ((ratS ((u * x + v * y) / (x * x + y * y)) ((v * x - u * y) / (x * x + y * y))).1.b2), .slice p43_3 (((ratS ((u * x + v * y) / (x * x + y * y)) ((v * x - u * y) / (x * x + y * y))).1.t2).length) p43_c3, .slice p43_4 (((ratS ((u * x + v * y) / (x * x + y * y)) ((v * x - u * y) / (x * x + y * y))).1.q2).length) p43_c4], .int .i64 ((ratS ((u * x + v * y) / (x * x + y * y)) ((v * x - u * y) / (x * x + y * y))).2)]) rfl rfl) ?_
 intro a hA
 refine any_tk (v := .int .i64 ((ratS ((u * x + v * y) / (x * x + y * y)) ((v * x - u * y) / (x * x + y * y))).2)) hA 8 rfl rfl rfl rfl hP (hS.partD (.cons _ (.cons_cons _ (.cons_cons _ .slnil))) 16 rfl (.refl _)) (fun w1 hS => d_extract (vs := [.agg #[.bool ((ratS ((u * x + v * y) / (x * x + y * y)) ((v * x - u * y) / (x * x + y * y))).1.b1), .slice p43_1 (((ratS ((u * x + v * y) / (x * x + y * y)) ((v * x - u * y) / (x * x + y * y))).1.t1).length) p43_c1, .slice p43_2 (((ratS ((u * x + v * y) / (x * x + y * y)) ((v * x - u * y) / (x * x + y * y))).1.q1).length) p43_c2, .bool ((ratS ((u * x + v * y) / (x * x + y * y)) ((v * x - u * y) / (x * x + y * y))).1.b2), .slice p43_3 (((ratS ((u * x + v * y) / (x * x + y * y)) ((v * x - u * y) / (x * x + y * y))).1.t2).length) p43_c3, .slice p43_4 (((ratS ((u * x + v * y) / (x * x + y * y)) ((v * x - u * y) / (x * x + y * y))).1.q2).length) p43_c4], .int .i64 ((ratS ((u * x + v * y) / (x * x + y * y)) ((v * x - u * y) / (x * x + y * y))).2)]) rfl rfl) ?_
 intro a hA
 refine any_one (by kernel_rfl) (op_store (us := [.bool ((ratS ((u * x + v * y) / (x * x + y * y)) ((v * x - u * y) / (x * x + y * y))).1.b1), .slice p43_1 (((ratS ((u * x + v * y) / (x * x + y * y)) ((v * x - u * y) / (x * x + y * y))).1.t1).length) p43_c1, .slice p43_2 (((ratS ((u * x + v * y) / (x * x + y * y)) ((v * x - u * y) / (x * x + y * y))).1.q1).length) p43_c2, .bool ((ratS ((u * x + v * y) / (x * x + y * y)) ((v * x - u * y) / (x * x + y * y))).1.b2), .slice p43_3 (((ratS ((u * x + v * y) / (x * x + y * y)) ((v * x - u * y) / (x * x + y * y))).1.t2).length) p43_c3, .slice p43_4 (((ratS ((u * x + v * y) / (x * x + y * y)) ((v * x - u * y) / (x * x + y * y))).1.q2).length) p43_c4]) hA hS 9 rfl rfl rfl (sets_store rfl rfl rfl (by kernel_rfl) hS 0 rfl rfl rfl) 0 rfl rfl rfl rfl ?_)
 intro w47 hS
 refine ⟨(hS.partD (.cons _ (.cons_cons _ (.cons_cons _ .slnil))) 16 rfl (.refl _)), ?_⟩
 refine any_tk hA 10 rfl rfl rfl rfl hP (hS.partD (.cons _ (.cons_cons _ (.cons_cons _ .slnil))) 16 rfl (.refl _)) (fun w1 hS => d_assign rfl) ?_
 intro a hA
 refine any_end (by kernel_rfl) ?_
 refine hK18 _ _ ?_
 refine wp_ret ?_
 refine hret _ _ ?_
 refine ends (v := .tuple #[.agg #[.bool ((ratS ((u * x + v * y) / (x * x + y * y)) ((v * x - u * y) / (x * x + y * y))).1.b1), .slice p43_1 (((ratS ((u * x + v * y) / (x * x + y * y)) ((v * x - u * y) / (x * x + y * y))).1.t1).length) p43_c1, .slice p43_2 (((ratS ((u * x + v * y) / (x * x + y * y)) ((v * x - u * y) / (x * x + y * y))).1.q1).length) p43_c2, .bool ((ratS ((u * x + v * y) / (x * x + y * y)) ((v * x - u * y) / (x * x + y * y))).1.b2), .slice p43_3 (((ratS ((u * x + v * y) / (x * x + y * y)) ((v * x - u * y) / (x * x + y * y))).1.t2).length) p43_c3, .slice p43_4 (((ratS ((u * x + v * y) / (x * x + y * y)) ((v * x - u * y) / (x * x + y * y))).1.q2).length) p43_c4], .int .i64 ((ratS ((u * x + v * y) / (x * x + y * y)) ((v * x - u * y) / (x * x + y * y))).2)]) hA rfl (.cons (res_cell hS ExL_isS_26 rfl 0 rfl (cs := [.bool ((ratS ((u * x + v * y) / (x * x + y * y)) ((v * x - u * y) / (x * x + y * y))).1.b1), .slice p43_1 (((ratS ((u * x + v * y) / (x * x + y * y)) ((v * x - u * y) / (x * x + y * y))).1.t1).length) p43_c1, .slice p43_2 (((ratS ((u * x + v * y) / (x * x + y * y)) ((v * x - u * y) / (x * x + y * y))).1.q1).length) p43_c2, .bool ((ratS ((u * x + v * y) / (x * x + y * y)) ((v * x - u * y) / (x * x + y * y))).1.b2), .slice p43_3 (((ratS ((u * x + v * y) / (x * x + y * y)) ((v * x - u * y) / (x * x + y * y))).1.t2).length) p43_c3, .slice p43_4 (((ratS ((u * x + v * y) / (x * x + y * y)) ((v * x - u * y) / (x * x + y * y))).1.q2).length) p43_c4]) rfl rfl) (.cons (res_tmp rfl) .nil)) rfl ?_
 exact ⟨p43_1, p43_c1, p43_2, p43_c2, p43_3, p43_c3, p43_4, p43_c4, rfl, ⟨⟨(hS.rd 3 rfl), hn44.s1.nil, hn44.s1.cap⟩, ⟨(hS.rd 2 rfl), hn44.s2.nil, hn44.s2.cap⟩, ⟨(hS.rd 1 rfl), hn44.s3.nil, hn44.s3.cap⟩, ⟨(hS.rd 0 rfl), hn44.s4.nil, hn44.s4.cap⟩⟩, hS.bel⟩
theorem divQ_any {w : World} {p q : Q6} {a1 a2 a3 a4 : Option Addr} {ac1 ac2 ac3 ac4 : Nat} (ha : Nm w p a1 ac1 a2 ac2 a3 ac3 a4 ac4) (hl : LenQ p) {u1 u2 u3 u4 : Option Addr} {uc1 uc2 uc3 uc4 : Nat} (hb : Nm w q u1 uc1 u2 uc2 u3 uc3 u4 uc4) (hm : LenQ q) : Calls Tryz.prog 54 #[numV p a1 ac1 a2 ac2 a3 ac3 a4 ac4, numV q u1 uc1 u2 uc2 u3 uc3 u4 uc4] w (AnsN w (divQ p q)) := by
  rcases sound_cases ha with h1 | ⟨u, v, rfl, hu, hv⟩
  · rw [show divQ p q = (Q6.zero, 2) from if_neg (fun k => by rw [h1] at k; cases k.1)]
    exact divE1_any ha hl hb hm h1
  · rcases sound_cases hb with h2 | ⟨x, y, rfl, hx, hy⟩
    · rw [show divQ _ q = (Q6.zero, 2) from if_neg (fun k => by rw [h2] at k; cases k.2)]
      exact divE2_any ha hl hb hm (soundQ_rat hu hv) h2
    · by_cases hz : x = 0 ∧ y = 0
      · rw [divQ_zero hu hv hx hy hz]
        exact divZ_any ha hb hu hv hx hy hz
      · rw [divQ_rat hu hv hx hy hz]
        exact divN_any ha hb hu hv hx hy hz
end Go.Proofs.YthlkbnhbmfmchaaGreat
namespace Go.Proofs.YthlkbnhbmfmchaaGreat
open Go.RowKit
set_option linter.unusedVariables false
set_option linter.unusedSimpArgs false
set_option maxRecDepth 100000
theorem ExM_is1_22 : Is1 Tryz.prog 22 := ⟨⟨_, Tryz.underlying22, rfl⟩, by kernel_rfl⟩
theorem ExM_is1_4 : Is1 Tryz.prog 4 := ⟨⟨_, Tryz.underlying4, rfl⟩, by kernel_rfl⟩
theorem ExM_fld_24_0 : FieldAt Tryz.prog 24 0 0 := ⟨_, _, Tryz.underlying24, rfl, rfl, by kernel_rfl⟩
theorem ExM_fld_24_1 : FieldAt Tryz.prog 24 1 1 := ⟨_, _, Tryz.underlying24, rfl, rfl, by kernel_rfl⟩
theorem ExM_fld_24_2 : FieldAt Tryz.prog 24 2 2 := ⟨_, _, Tryz.underlying24, rfl, rfl, by kernel_rfl⟩
theorem ExM_fld_26_0 : FieldAt Tryz.prog 26 0 0 := ⟨_, _, Tryz.underlying26, rfl, rfl, by kernel_rfl⟩
theorem ExM_isS_24 : IsS Tryz.prog 24 3 := ⟨⟨_, Tryz.underlying24⟩, by kernel_rfl⟩
theorem ExM_isS_26 : IsS Tryz.prog 26 6 := ⟨⟨_, Tryz.underlying26⟩, by kernel_rfl⟩
theorem size32_any {w : World} {a1 a2 : Option Addr} {ac1 ac2 : Nat} (ha1 : Sc w a1 ac1 [3]) (ha2 : Sc w a2 ac2 [2]) : Calls Tryz.prog 113 #[.agg #[.bool true, .slice a1 1 ac1, .slice a2 1 ac2], .int .i64 10] w fun e w' => e = .returned (.string ⟨#[51, 47, 50]⟩) ∧ Below w.heap.size w w' := by
 have hS : St w w [] [(a2, [2]), (a1, [3])] [] := ((St.start w).addR ha1.rd).addR ha2.rd
 refine walk_of (l := [(0, .agg #[.bool true, .slice a1 1 ac1, .slice a2 1 ac2]), (1, .int .i64 10)]) Tryz.func113 rfl Tryz.ntmps113 rfl rfl ?_
 intro Q hret hnorm hP a hA
 refine wp_seq_k (fun K1 hK1 => ?_)
 refine wp_region_lit ?_
 refine seq_new hA hS rfl rfl rfl (fun g => .pointer (some ⟨g, 0, none⟩)) (d_box rfl rfl) rfl ?_
 intro g2 w3 hS a hA
 refine seq_do hA rfl rfl rfl (d_assign rfl) ?_
 intro a hA
 refine seq_end ?_
 refine hK1 _ _ ?_
 refine wp_seq_k (fun K4 hK4 => ?_)
 refine wp_region_lit ?_
 refine seq_do (v := .pointer (some ⟨g2, 1, none⟩)) hA rfl rfl rfl (d_field ExM_fld_24_1 rfl rfl) ?_
 intro a hA
 refine seq_do hA rfl rfl rfl (d_load1 hS ExM_is1_22 rfl 0 rfl rfl) ?_
 intro a hA
 refine seq_do hA rfl rfl rfl (d_move rfl) ?_
 intro a hA
 refine seq_call hA rfl rfl rfl (enters_func  rfl rfl (fun w => by kernel_rfl)) ((by have h := text_any (a := [3]) ac1 10 (hS.rd 1 rfl) (by decide) (by decide) (by decide); rw [textS_digit (by decide) (by decide)] at h; exact h)) ?_
 rintro _ w6 ⟨rfl, hb5⟩
 replace hS := hS.call hb5
 refine ⟨_, rfl, ?_⟩
 intro a hA
 refine seq_do hA rfl rfl rfl (d_move rfl) ?_
 intro a hA
 refine seq_do (v := .string (⟨#[51]⟩)) hA rfl rfl rfl (d_extract (vs := [.string (⟨#[51]⟩), .int .i64 0]) rfl rfl) ?_
 intro a hA
 refine seq_do (v := .int .i64 0) hA rfl rfl rfl (d_extract (vs := [.string (⟨#[51]⟩), .int .i64 0]) rfl rfl) ?_
 intro a hA
 refine seq_do hA rfl rfl rfl (d_assign rfl) ?_
 intro a hA
 refine seq_do hA rfl rfl rfl (d_assign rfl) ?_
 intro a hA
 refine seq_end ?_
 refine hK4 _ _ ?_
 refine wp_seq_k (fun K7 hK7 => ?_)
 refine wp_seq_k (fun K8 hK8 => ?_)
 refine wp_region_lit ?_
 refine seq_do (v := .pointer (some ⟨g2, 2, none⟩)) hA rfl rfl rfl (d_field ExM_fld_24_2 rfl rfl) ?_
 intro a hA
 refine seq_do hA rfl rfl rfl (d_load1 hS ExM_is1_22 rfl 0 rfl rfl) ?_
 intro a hA
 refine seq_call hA rfl rfl rfl (enters_func  rfl rfl (fun w => by kernel_rfl)) (isOneQ_any _ (hS.rd 0 rfl) (by decide) (show decide ([2] = [1]) = false from by decide)) ?_
 rintro _ w10 ⟨rfl, hb9⟩
 replace hb9 := below_eq hb9
 replace hS := hS.call hb9
 refine ⟨_, rfl, ?_⟩
 intro a hA
 refine seq_end ?_
 refine hK8 _ _ ?_
 refine wp_cond_false (hA.ev rfl) ?_
 refine wp_skip ?_
 refine hK7 _ _ ?_
 refine wp_seq_k (fun K11 hK11 => ?_)
 refine wp_region_lit ?_
 refine seq_do (v := .pointer (some ⟨g2, 2, none⟩)) hA rfl rfl rfl (d_field ExM_fld_24_2 rfl rfl) ?_
 intro a hA
 refine seq_do hA rfl rfl rfl (d_load1 hS ExM_is1_22 rfl 0 rfl rfl) ?_
 intro a hA
 refine seq_do hA rfl rfl rfl (d_move rfl) ?_
 intro a hA
 refine seq_call hA rfl rfl rfl (enters_func  rfl rfl (fun w => by kernel_rfl)) ((by have h := text_any (a := [2]) ac2 10 (hS.rd 0 rfl) (by decide) (by decide) (by decide); rw [textS_digit (by decide) (by decide)] at h; exact h)) ?_
 rintro _ w13 ⟨rfl, hb12⟩
 replace hS := hS.call hb12
 refine ⟨_, rfl, ?_⟩
 intro a hA
 refine seq_do hA rfl rfl rfl (d_move rfl) ?_
 intro a hA
 refine seq_do (v := .string (⟨#[50]⟩)) hA rfl rfl rfl (d_extract (vs := [.string (⟨#[50]⟩), .int .i64 0]) rfl rfl) ?_
 intro a hA
 refine seq_do (v := .int .i64 0) hA rfl rfl rfl (d_extract (vs := [.string (⟨#[50]⟩), .int .i64 0]) rfl rfl) ?_
 intro a hA
 refine seq_do hA rfl rfl rfl (d_assign rfl) ?_
 intro a hA
 refine seq_do hA rfl rfl rfl (d_assign rfl) ?_
 intro a hA
 refine seq_end ?_
 refine hK11 _ _ ?_
 refine wp_seq_k (fun K14 hK14 => ?_)
 refine wp_region_lit ?_
 refine seq_do hA rfl rfl rfl (d_move rfl) ?_
 intro a hA
 refine seq_do (v := .string (⟨#[51, 47]⟩)) hA rfl rfl rfl (d_bin rfl rfl (fun w => by kernel_rfl)) ?_
 intro a hA
 refine seq_do hA rfl rfl rfl (d_move rfl) ?_
 intro a hA
 refine seq_do (v := .string (⟨#[51, 47, 50]⟩)) hA rfl rfl rfl (d_bin rfl rfl (fun w => by kernel_rfl)) ?_
 intro a hA
 refine seq_do hA rfl rfl rfl (d_assign rfl) ?_
 intro a hA
 refine seq_end ?_
 refine hK14 _ _ ?_
 refine wp_ret ?_
 refine hret _ _ ?_
 refine ends (v := .string (⟨#[51, 47, 50]⟩)) hA rfl (.cons (res_tmp rfl) .nil) rfl ?_
 exact ⟨rfl, hS.bel⟩
theorem real32_any {w : World} {a1 a2 : Option Addr} {ac1 ac2 : Nat} (ha1 : Sc w a1 ac1 [3]) (ha2 : Sc w a2 ac2 [2]) : Calls Tryz.prog 77 #[.agg #[.bool true, .slice a1 1 ac1, .slice a2 1 ac2], .int .i64 10] w fun e w' => e = .returned (.string ⟨#[45, 51, 47, 50]⟩) ∧ Below w.heap.size w w' := by
 have hS : St w w [] [(a2, [2]), (a1, [3])] [] := ((St.start w).addR ha1.rd).addR ha2.rd
 refine walk_of (l := [(0, .agg #[.bool true, .slice a1 1 ac1, .slice a2 1 ac2]), (1, .int .i64 10)]) Tryz.func77 rfl Tryz.ntmps77 rfl rfl ?_
 intro Q hret hnorm hP a hA
 refine wp_seq_k (fun K1 hK1 => ?_)
 refine wp_region_lit ?_
 refine seq_new hA hS rfl rfl rfl (fun g => .pointer (some ⟨g, 0, none⟩)) (d_box rfl rfl) rfl ?_
 intro g2 w3 hS a hA
 refine seq_do hA rfl rfl rfl (d_assign rfl) ?_
 intro a hA
 refine seq_end ?_
 refine hK1 _ _ ?_
 refine wp_seq_k (fun K4 hK4 => ?_)
 refine wp_seq_k (fun K5 hK5 => ?_)
 refine wp_region_lit ?_
 refine seq_do (v := .pointer (some ⟨g2, 0, none⟩)) hA rfl rfl rfl (d_field ExM_fld_24_0 rfl rfl) ?_
 intro a hA
 refine seq_do hA rfl rfl rfl (d_load1 hS ExM_is1_4 rfl 0 rfl rfl) ?_
 intro a hA
 refine seq_end ?_
 refine hK5 _ _ ?_
 refine wp_cond_true (hA.ev rfl) ?_
 refine wp_seq_k (fun K6 hK6 => ?_)
 refine wp_region_lit ?_
 refine seq_do hA rfl rfl rfl (d_loadS hS ExM_isS_24 rfl 0 rfl (cs := [.bool true, .slice a1 1 ac1, .slice a2 1 ac2]) rfl rfl) ?_
 intro a hA
 refine seq_do hA rfl rfl rfl (d_move rfl) ?_
 intro a hA
 refine seq_call hA rfl rfl rfl (enters_func  rfl rfl (fun w => by kernel_rfl)) (size32_any ⟨(hS.rd 1 rfl), ha1.nil, ha1.cap⟩ ⟨(hS.rd 0 rfl), ha2.nil, ha2.cap⟩) ?_
 rintro _ w8 ⟨rfl, hb7⟩
 replace hS := hS.call hb7
 refine ⟨_, rfl, ?_⟩
 intro a hA
 refine seq_do (v := .string (⟨#[45, 51, 47, 50]⟩)) hA rfl rfl rfl (d_bin rfl rfl (fun w => by kernel_rfl)) ?_
 intro a hA
 refine seq_do hA rfl rfl rfl (d_assign rfl) ?_
 intro a hA
 refine seq_end ?_
 refine hK6 _ _ ?_
 refine wp_ret ?_
 refine hret _ _ ?_
 refine ends (v := .string (⟨#[45, 51, 47, 50]⟩)) hA rfl (.cons (res_tmp rfl) .nil) rfl ?_
 exact ⟨rfl, hS.bel⟩
theorem radix10_any {w : World} : Calls Tryz.prog 76 #[.int .i64 10] w fun e w' => e = .returned (.bool true) ∧ Below w.heap.size w w' := by
 have hS : St w w [] [] [] := St.start w
 refine walk_of (l := [(0, .int .i64 10)]) Tryz.func76 rfl Tryz.ntmps76 rfl rfl ?_
 intro Q hret hnorm hP a hA
 refine wp_seq_k (fun K1 hK1 => ?_)
 refine wp_region_lit ?_
 refine seq_do hA rfl rfl rfl (d_assign rfl) ?_
 intro a hA
 refine seq_end ?_
 refine hK1 _ _ ?_
 refine wp_seq_k (fun K2 hK2 => ?_)
 refine wp_seq_k (fun K3 hK3 => ?_)
 refine wp_region_lit ?_
 refine seq_do hA rfl rfl rfl (d_move rfl) ?_
 intro a hA
 refine seq_end ?_
 refine hK3 _ _ ?_
 refine wp_block ?_
 refine wp_seq_k (fun K4 hK4 => ?_)
 refine wp_seq_k (fun K5 hK5 => ?_)
 refine wp_region_lit ?_
 refine seq_do (v := .bool false) hA rfl rfl rfl (d_bin rfl rfl (fun w => by kernel_rfl)) ?_
 intro a hA
 refine seq_do hA rfl rfl rfl (d_assign rfl) ?_
 intro a hA
 refine seq_end ?_
 refine hK5 _ _ ?_
 refine wp_cond_false (hA.ev rfl) ?_
 refine wp_seq_k (fun K6 hK6 => ?_)
 refine wp_region_lit ?_
 refine seq_do (v := .bool false) hA rfl rfl rfl (d_bin rfl rfl (fun w => by kernel_rfl)) ?_
 intro a hA
 refine seq_do hA rfl rfl rfl (d_assign rfl) ?_
 intro a hA
 refine seq_end ?_
 refine hK6 _ _ ?_
 refine wp_cond_false (hA.ev rfl) ?_
 refine wp_seq_k (fun K7 hK7 => ?_)
 refine wp_region_lit ?_
 refine seq_do (v := .bool true) hA rfl rfl rfl (d_bin rfl rfl (fun w => by kernel_rfl)) ?_
 intro a hA
 refine seq_do hA rfl rfl rfl (d_assign rfl) ?_
 intro a hA
 refine seq_end ?_
 refine hK7 _ _ ?_
 refine wp_cond_true (hA.ev rfl) ?_
 refine wp_skip ?_
 refine hK4 _ _ ?_
 refine wp_cond_true (hA.ev rfl) ?_
 refine wp_seq_k (fun K8 hK8 => ?_)
 refine wp_region_lit ?_
 refine seq_do hA rfl rfl rfl (d_assign rfl) ?_
 intro a hA
 refine seq_end ?_
 refine hK8 _ _ ?_
 refine wp_ret ?_
 refine hret _ _ ?_
 refine ends (v := .bool true) hA rfl (.cons (res_tmp rfl) .nil) rfl ?_
 exact ⟨rfl, hS.bel⟩
theorem text32_any {w : World} {a1 a2 a3 a4 : Option Addr} {ac1 ac2 ac3 ac4 : Nat} (ha : Nm w Q6.half a1 ac1 a2 ac2 a3 ac3 a4 ac4) : Calls Tryz.prog 32 #[numV Q6.half a1 ac1 a2 ac2 a3 ac3 a4 ac4, .int .i64 10] w fun e w' => e = .returned (.tuple #[.string ⟨#[45, 51, 47, 50]⟩, .int .i64 0]) ∧ Below w.heap.size w w' := by
 have hS : St w w [] [(a4, [1]), (a3, []), (a2, [2]), (a1, [3])] [] := ((((St.start w).addR ha.s1.rd).addR ha.s2.rd).addR ha.s3.rd).addR ha.s4.rd
 refine walk_of (l := [(0, .agg #[.bool true, .slice a1 1 ac1, .slice a2 1 ac2, .bool false, .slice a3 0 ac3, .slice a4 1 ac4]), (1, .int .i64 10)]) Tryz.func32 rfl Tryz.ntmps32 rfl rfl ?_
 intro Q hret hnorm hP a hA
 refine wp_seq_k (fun K1 hK1 => ?_)
 refine wp_region_lit ?_
 refine seq_new hA hS rfl rfl rfl (fun g => .pointer (some ⟨g, 0, none⟩)) (d_box rfl rfl) rfl ?_
 intro g2 w3 hS a hA
 refine seq_do hA rfl rfl rfl (d_assign rfl) ?_
 intro a hA
 refine seq_do hA rfl rfl rfl (d_assign rfl) ?_
 intro a hA
 refine seq_end ?_
 refine hK1 _ _ ?_
 refine wp_seq_k (fun K4 hK4 => ?_)
 refine wp_seq_k (fun K5 hK5 => ?_)
 refine wp_region_lit ?_
 refine seq_do hA rfl rfl rfl (d_loadS hS ExM_isS_26 rfl 0 rfl (cs := [.bool true, .slice a1 1 ac1, .slice a2 1 ac2, .bool false, .slice a3 0 ac3, .slice a4 1 ac4]) rfl rfl) ?_
 intro a hA
 refine seq_call hA rfl rfl rfl (enters_func  rfl rfl (fun w => by kernel_rfl)) (soundQ_any (show Nm _ Q6.half a1 ac1 a2 ac2 a3 ac3 a4 ac4 from ⟨⟨(hS.rd 3 rfl), ha.s1.nil, ha.s1.cap⟩, ⟨(hS.rd 2 rfl), ha.s2.nil, ha.s2.cap⟩, ⟨(hS.rd 1 rfl), ha.s3.nil, ha.s3.cap⟩, ⟨(hS.rd 0 rfl), ha.s4.nil, ha.s4.cap⟩⟩) lenQ_half sound_half) ?_
 rintro _ w7 ⟨rfl, hb6⟩
 replace hS := hS.call hb6
 refine ⟨_, rfl, ?_⟩
 intro a hA
 refine seq_do (v := .bool false) hA rfl rfl rfl (d_un rfl un_not) ?_
 intro a hA
 refine seq_end ?_
 refine hK5 _ _ ?_
 refine wp_cond_false (hA.ev rfl) ?_
 refine wp_skip ?_
 refine hK4 _ _ ?_
 refine wp_seq_k (fun K8 hK8 => ?_)
 refine wp_seq_k (fun K9 hK9 => ?_)
 refine wp_region_lit ?_
 refine seq_do hA rfl rfl rfl (d_move rfl) ?_
 intro a hA
 refine seq_call hA rfl rfl rfl (enters_func  rfl rfl (fun w => by kernel_rfl)) (radix10_any) ?_
 rintro _ w11 ⟨rfl, hb10⟩
 replace hS := hS.call hb10
 refine ⟨_, rfl, ?_⟩
 intro a hA
 refine seq_do (v := .bool false) hA rfl rfl rfl (d_un rfl un_not) ?_
 intro a hA
 refine seq_end ?_
 refine hK9 _ _ ?_
 refine wp_cond_false (hA.ev rfl) ?_
 refine wp_skip ?_
 refine hK8 _ _ ?_
 refine wp_seq_k (fun K12 hK12 => ?_)
 refine wp_seq_k (fun K13 hK13 => ?_)
 refine wp_region_lit ?_
 refine seq_do hA rfl rfl rfl (d_loadS hS ExM_isS_26 rfl 0 rfl (cs := [.bool true, .slice a1 1 ac1, .slice a2 1 ac2, .bool false, .slice a3 0 ac3, .slice a4 1 ac4]) rfl rfl) ?_
 intro a hA
 refine seq_call hA rfl rfl rfl (enters_func  rfl rfl (fun w => by kernel_rfl)) (isRealQ_any (q := Q6.half) lenQ_half (show decide (Q6.half.t2.length = 0) = true from rfl)) ?_
 rintro _ w15 ⟨rfl, hb14⟩
 replace hS := hS.call hb14
 refine ⟨_, rfl, ?_⟩
 intro a hA
 refine seq_end ?_
 refine hK13 _ _ ?_
 refine wp_cond_true (hA.ev rfl) ?_
 refine wp_seq_k (fun K16 hK16 => ?_)
 refine wp_region_lit ?_
 refine seq_do (v := .pointer (some ⟨g2, 0, none⟩)) hA rfl rfl rfl (d_field ExM_fld_26_0 rfl rfl) ?_
 intro a hA
 refine seq_do hA rfl rfl rfl (d_loadS hS ExM_isS_24 rfl 0 rfl (cs := [.bool true, .slice a1 1 ac1, .slice a2 1 ac2]) rfl rfl) ?_
 intro a hA
 refine seq_do hA rfl rfl rfl (d_move rfl) ?_
 intro a hA
 refine seq_call hA rfl rfl rfl (enters_func  rfl rfl (fun w => by kernel_rfl)) (real32_any ⟨(hS.rd 3 rfl), ha.s1.nil, ha.s1.cap⟩ ⟨(hS.rd 2 rfl), ha.s2.nil, ha.s2.cap⟩) ?_
 rintro _ w18 ⟨rfl, hb17⟩
 replace hS := hS.call hb17
 refine ⟨_, rfl, ?_⟩
 intro a hA
 refine seq_do hA rfl rfl rfl (d_assign rfl) ?_
 intro a hA
 refine seq_do hA rfl rfl rfl (d_assign rfl) ?_
 intro a hA
 refine seq_end ?_
 refine hK16 _ _ ?_
 refine wp_ret ?_
 refine hret _ _ ?_
 refine ends (v := .tuple #[.string (⟨#[45, 51, 47, 50]⟩), .int .i64 0]) hA rfl (.cons (res_tmp rfl) (.cons (res_tmp rfl) .nil)) rfl ?_
 exact ⟨rfl, hS.bel⟩
theorem awake3_any {w : World} : Calls Tryz.prog 16 #[] w fun e w' => e = .returned (.bool true) ∧ Below w.heap.size w w' := by
 have hS : St w w [] [] [] := St.start w
 refine walk_of (l := []) Tryz.func16 rfl Tryz.ntmps16 rfl rfl ?_
 intro Q hret hnorm hP a hA
 refine wp_seq_k (fun K1 hK1 => ?_)
 refine wp_region_lit ?_
 refine seq_do hA rfl rfl rfl (d_assign rfl) ?_
 intro a hA
 refine seq_end ?_
 refine hK1 _ _ ?_
 refine wp_seq_k (fun K2 hK2 => ?_)
 refine wp_region_lit ?_
 refine seq_call hA rfl rfl rfl (enters_func  rfl rfl (fun w => by kernel_rfl)) ((show Calls Tryz.prog 24 #[.int .i64 (6)] _ (AnsV _ (Q6.whole false 6)) from intP_any (k := 6) (by decide))) ?_
 rintro _ w6 ⟨p3_1, p3_c1, p3_2, p3_c2, p3_3, p3_c3, p3_4, p3_c4, rfl, hn4, hb5⟩
 replace hS := hS.call hb5
 replace hS := hS.addR hn4.s1.rd
 replace hS := hS.addR hn4.s2.rd
 replace hS := hS.addR hn4.s3.rd
 replace hS := hS.addR hn4.s4.rd
 refine ⟨_, rfl, ?_⟩
 intro a hA
 refine seq_call hA rfl rfl rfl (enters_func  rfl rfl (fun w => by kernel_rfl)) ((show Calls Tryz.prog 24 #[.int .i64 (-4)] _ (AnsV _ (Q6.whole true 4)) from intN_any (k := 4) (by decide) (by decide))) ?_
 rintro _ w10 ⟨p7_1, p7_c1, p7_2, p7_c2, p7_3, p7_c3, p7_4, p7_c4, rfl, hn8, hb9⟩
 replace hS := hS.call hb9
 replace hS := hS.addR hn8.s1.rd
 replace hS := hS.addR hn8.s2.rd
 replace hS := hS.addR hn8.s3.rd
 replace hS := hS.addR hn8.s4.rd
 refine ⟨_, rfl, ?_⟩
 intro a hA
 refine seq_call hA rfl rfl rfl (enters_func  rfl rfl (fun w => by kernel_rfl)) ((awake_div ▸ divQ_any (p := Q6.whole false 6) (q := Q6.whole true 4) (show Nm _ _ p3_1 p3_c1 p3_2 p3_c2 p3_3 p3_c3 p3_4 p3_c4 from ⟨⟨(hS.rd 7 rfl), hn4.s1.nil, hn4.s1.cap⟩, ⟨(hS.rd 6 rfl), hn4.s2.nil, hn4.s2.cap⟩, ⟨(hS.rd 5 rfl), hn4.s3.nil, hn4.s3.cap⟩, ⟨(hS.rd 4 rfl), hn4.s4.nil, hn4.s4.cap⟩⟩) (lenQ_whole six_len) (show Nm _ _ p7_1 p7_c1 p7_2 p7_c2 p7_3 p7_c3 p7_4 p7_c4 from ⟨⟨(hS.rd 3 rfl), hn8.s1.nil, hn8.s1.cap⟩, ⟨(hS.rd 2 rfl), hn8.s2.nil, hn8.s2.cap⟩, ⟨(hS.rd 1 rfl), hn8.s3.nil, hn8.s3.cap⟩, ⟨(hS.rd 0 rfl), hn8.s4.nil, hn8.s4.cap⟩⟩) (lenQ_whole four_len))) ?_
 rintro _ w14 ⟨p11_1, p11_c1, p11_2, p11_c2, p11_3, p11_c3, p11_4, p11_c4, rfl, hn12, hb13⟩
 replace hS := hS.call hb13
 replace hS := hS.addR hn12.s1.rd
 replace hS := hS.addR hn12.s2.rd
 replace hS := hS.addR hn12.s3.rd
 replace hS := hS.addR hn12.s4.rd
 refine ⟨_, rfl, ?_⟩
 intro a hA
 refine seq_do hA rfl rfl rfl (d_move rfl) ?_
 intro a hA
 refine seq_do (v := .agg #[.bool true, .slice p11_1 1 p11_c1, .slice p11_2 1 p11_c2, .bool false, .slice p11_3 0 p11_c3, .slice p11_4 1 p11_c4]) hA rfl rfl rfl (d_extract (vs := [.agg #[.bool true, .slice p11_1 1 p11_c1, .slice p11_2 1 p11_c2, .bool false, .slice p11_3 0 p11_c3, .slice p11_4 1 p11_c4], .int .i64 0]) rfl rfl) ?_
 intro a hA
 refine seq_do (v := .int .i64 0) hA rfl rfl rfl (d_extract (vs := [.agg #[.bool true, .slice p11_1 1 p11_c1, .slice p11_2 1 p11_c2, .bool false, .slice p11_3 0 p11_c3, .slice p11_4 1 p11_c4], .int .i64 0]) rfl rfl) ?_
 intro a hA
 refine seq_new (vs := [.bool false, .slice none 0 0, .slice none 0 0, .bool false, .slice none 0 0, .slice none 0 0]) (t := 26) hA hS rfl rfl rfl (fun g => .pointer (some ⟨g, 0, none⟩)) (d_alloc (z := .agg #[.bool false, .slice none 0 0, .slice none 0 0, .bool false, .slice none 0 0, .slice none 0 0]) (by kernel_rfl) rfl) rfl ?_
 intro g15 w16 hS a hA
 refine seq_store (us := [.bool true, .slice p11_1 1 p11_c1, .slice p11_2 1 p11_c2, .bool false, .slice p11_3 0 p11_c3, .slice p11_4 1 p11_c4]) hA hS rfl rfl (sets_store rfl rfl rfl (by kernel_rfl) hS 0 rfl rfl rfl) 0 rfl rfl rfl rfl ?_
 intro w17 hS
 refine seq_do hA rfl rfl rfl (d_assign rfl) ?_
 intro a hA
 refine seq_end ?_
 refine hK2 _ _ ?_
 refine wp_seq_k (fun K18 hK18 => ?_)
 refine wp_region_lit ?_
 refine seq_do hA rfl rfl rfl (d_loadS hS ExM_isS_26 rfl 0 rfl (cs := [.bool true, .slice p11_1 1 p11_c1, .slice p11_2 1 p11_c2, .bool false, .slice p11_3 0 p11_c3, .slice p11_4 1 p11_c4]) rfl rfl) ?_
 intro a hA
 refine seq_call hA rfl rfl rfl (enters_func  rfl rfl (fun w => by kernel_rfl)) (text32_any (show Nm _ Q6.half p11_1 p11_c1 p11_2 p11_c2 p11_3 p11_c3 p11_4 p11_c4 from ⟨⟨(hS.rd 3 rfl), hn12.s1.nil, hn12.s1.cap⟩, ⟨(hS.rd 2 rfl), hn12.s2.nil, hn12.s2.cap⟩, ⟨(hS.rd 1 rfl), hn12.s3.nil, hn12.s3.cap⟩, ⟨(hS.rd 0 rfl), hn12.s4.nil, hn12.s4.cap⟩⟩)) ?_
 rintro _ w20 ⟨rfl, hb19⟩
 replace hS := hS.call hb19
 refine ⟨_, rfl, ?_⟩
 intro a hA
 refine seq_do hA rfl rfl rfl (d_move rfl) ?_
 intro a hA
 refine seq_do (v := .string (⟨#[45, 51, 47, 50]⟩)) hA rfl rfl rfl (d_extract (vs := [.string (⟨#[45, 51, 47, 50]⟩), .int .i64 0]) rfl rfl) ?_
 intro a hA
 refine seq_do (v := .int .i64 0) hA rfl rfl rfl (d_extract (vs := [.string (⟨#[45, 51, 47, 50]⟩), .int .i64 0]) rfl rfl) ?_
 intro a hA
 refine seq_do hA rfl rfl rfl (d_assign rfl) ?_
 intro a hA
 refine seq_do hA rfl rfl rfl (d_assign rfl) ?_
 intro a hA
 refine seq_end ?_
 refine hK18 _ _ ?_
 refine wp_seq_k (fun K21 hK21 => ?_)
 refine wp_region_lit ?_
 refine seq_do hA rfl rfl rfl (d_move rfl) ?_
 intro a hA
 refine seq_do (v := .bool true) hA rfl rfl rfl (d_bin rfl rfl (fun w => by kernel_rfl)) ?_
 intro a hA
 refine seq_do hA rfl rfl rfl (d_move rfl) ?_
 intro a hA
 refine seq_do hA rfl rfl rfl (d_move rfl) ?_
 intro a hA
 refine seq_do (v := .bool true) hA rfl rfl rfl (d_bin rfl rfl (fun w => by kernel_rfl)) ?_
 intro a hA
 refine seq_do (v := .bool true) hA rfl rfl rfl (d_pick rfl rfl rfl rfl) ?_
 intro a hA
 refine seq_do hA rfl rfl rfl (d_move rfl) ?_
 intro a hA
 refine seq_do hA rfl rfl rfl (d_move rfl) ?_
 intro a hA
 refine seq_do (v := .bool true) hA rfl rfl rfl (d_bin rfl rfl (fun w => by kernel_rfl)) ?_
 intro a hA
 refine seq_do (v := .bool true) hA rfl rfl rfl (d_pick rfl rfl rfl rfl) ?_
 intro a hA
 refine seq_do hA rfl rfl rfl (d_assign rfl) ?_
 intro a hA
 refine seq_end ?_
 refine hK21 _ _ ?_
 refine wp_ret ?_
 refine hret _ _ ?_
 refine ends (v := .bool true) hA rfl (.cons (res_tmp rfl) .nil) rfl ?_
 exact ⟨rfl, hS.bel⟩
end Go.Proofs.YthlkbnhbmfmchaaGreat
namespace Go.Proofs.YthlkbnhbmfmchaaGreat
open Go.RowKit
set_option linter.unusedVariables false
set_option linter.unusedSimpArgs false
set_option maxRecDepth 100000

end Go.Proofs.YthlkbnhbmfmchaaGreat
namespace Go.Proofs.YthlkbnhbmfmchaaGreat
open Go.RowKit
set_option linter.unusedVariables false
set_option linter.unusedSimpArgs false
set_option maxRecDepth 100000
theorem RfA_is1_22 : Is1 Tryz.prog 22 := ⟨⟨_, Tryz.underlying22, rfl⟩, by kernel_rfl⟩
theorem RfA_is1_4 : Is1 Tryz.prog 4 := ⟨⟨_, Tryz.underlying4, rfl⟩, by kernel_rfl⟩
theorem RfA_fld_24_0 : FieldAt Tryz.prog 24 0 0 := ⟨_, _, Tryz.underlying24, rfl, rfl, by kernel_rfl⟩
theorem RfA_fld_24_1 : FieldAt Tryz.prog 24 1 1 := ⟨_, _, Tryz.underlying24, rfl, rfl, by kernel_rfl⟩
theorem RfA_fld_24_2 : FieldAt Tryz.prog 24 2 2 := ⟨_, _, Tryz.underlying24, rfl, rfl, by kernel_rfl⟩
theorem RfA_fld_26_0 : FieldAt Tryz.prog 26 0 0 := ⟨_, _, Tryz.underlying26, rfl, rfl, by kernel_rfl⟩
theorem RfA_fld_26_1 : FieldAt Tryz.prog 26 1 3 := ⟨_, _, Tryz.underlying26, rfl, rfl, by kernel_rfl⟩
theorem RfA_isS_24 : IsS Tryz.prog 24 3 := ⟨⟨_, Tryz.underlying24⟩, by kernel_rfl⟩
theorem RfA_isS_26 : IsS Tryz.prog 26 6 := ⟨⟨_, Tryz.underlying26⟩, by kernel_rfl⟩
theorem prod_mk {u v r : Rat} (hr : u * v = r) : mkRat (sgn (!(rb u.num == rb v.num)) (u.num.natAbs * v.num.natAbs)) (u.den * v.den) = r := by rw [zs_times, mul_mk, hr]
theorem rprodR_any {w : World} {u v : Rat} {a1 a2 : Option Addr} {ac1 ac2 : Nat} (ha1 : Sc w a1 ac1 (words u.num.natAbs)) (ha2 : Sc w a2 ac2 (words u.den)) {u1 u2 : Option Addr} {uc1 uc2 : Nat} (hu1 : Sc w u1 uc1 (words v.num.natAbs)) (hu2 : Sc w u2 uc2 (words v.den)) (l1 : LenR 4000 u) (l2 : LenR 4000 v) {r : Rat} (hr : u * v = r) : Calls Tryz.prog 69 #[.agg #[.bool (rb u.num), .slice a1 (words u.num.natAbs).length ac1, .slice a2 (words u.den).length ac2], .agg #[.bool (rb v.num), .slice u1 (words v.num.natAbs).length uc1, .slice u2 (words v.den).length uc2]] w (AnsFR w r) := by
 have k1 := l1.1
 have k2 := l1.2
 have k3 := l2.1
 have k4 := l2.2
 have k5 := words_mul_length k1 k3
 have k6 := words_mul_length k2 k4
 have hS : St w w [] [(u2, words v.den), (u1, words v.num.natAbs), (a2, words u.den), (a1, words u.num.natAbs)] [] := ((((St.start w).addR ha1.rd).addR ha2.rd).addR hu1.rd).addR hu2.rd
 refine walk_of (l := [(0, .agg #[.bool ((rb u.num)), .slice a1 ((words u.num.natAbs).length) ac1, .slice a2 ((words u.den).length) ac2]), (1, .agg #[.bool ((rb v.num)), .slice u1 ((words v.num.natAbs).length) uc1, .slice u2 ((words v.den).length) uc2])]) Tryz.func69 rfl Tryz.ntmps69 rfl rfl ?_
 intro Q hret hnorm hP a hA
 refine wp_seq_k (fun K1 hK1 => ?_)
 refine wp_region_lit ?_
 refine seq_new hA hS rfl rfl rfl (fun g => .pointer (some ⟨g, 0, none⟩)) (d_box rfl rfl) rfl ?_
 intro g2 w3 hS a hA
 refine seq_new hA hS rfl rfl rfl (fun g => .pointer (some ⟨g, 0, none⟩)) (d_box rfl rfl) rfl ?_
 intro g4 w5 hS a hA
 refine seq_new (vs := [.bool false, .slice none 0 0, .slice none 0 0]) (t := 24) hA hS rfl rfl rfl (fun g => .pointer (some ⟨g, 0, none⟩)) (d_alloc (z := .agg #[.bool false, .slice none 0 0, .slice none 0 0]) (by kernel_rfl) rfl) rfl ?_
 intro g6 w7 hS a hA
 refine seq_end ?_
 refine hK1 _ _ ?_
 refine wp_seq_k (fun K8 hK8 => ?_)
 refine wp_draw (S := fun w1 => St w w1 [(g4, [.bool ((rb v.num)), .slice u1 ((words v.num.natAbs).length) uc1, .slice u2 ((words v.den).length) uc2]), (g2, [.bool ((rb u.num)), .slice a1 ((words u.num.natAbs).length) ac1, .slice a2 ((words u.den).length) ac2])] [(u2, words v.den), (u1, words v.num.natAbs), (a2, words u.den), (a1, words u.num.natAbs)] []) (by kernel_rfl) ?_
 replace hS := hS.drew
 refine any_tk (v := .pointer (some ⟨g2, 0, none⟩)) hA 0 rfl rfl rfl rfl hP (hS.partD (.cons _ (.cons_cons _ (.cons_cons _ .slnil))) 0 rfl (.refl _)) (fun w1 hS => d_field RfA_fld_24_0 rfl rfl) ?_
 intro a hA
 refine any_tk hA 1 rfl rfl rfl rfl hP (hS.partD (.cons _ (.cons_cons _ (.cons_cons _ .slnil))) 0 rfl (.refl _)) (fun w1 hS => d_load1 hS RfA_is1_4 rfl 1 rfl rfl) ?_
 intro a hA
 refine any_tk (v := .pointer (some ⟨g4, 0, none⟩)) hA 2 rfl rfl rfl rfl hP (hS.partD (.cons _ (.cons_cons _ (.cons_cons _ .slnil))) 0 rfl (.refl _)) (fun w1 hS => d_field RfA_fld_24_0 rfl rfl) ?_
 intro a hA
 refine any_tk hA 3 rfl rfl rfl rfl hP (hS.partD (.cons _ (.cons_cons _ (.cons_cons _ .slnil))) 0 rfl (.refl _)) (fun w1 hS => d_load1 hS RfA_is1_4 rfl 0 rfl rfl) ?_
 intro a hA
 refine any_tk (v := .bool (!((rb u.num) == (rb v.num)))) hA 4 rfl rfl rfl rfl hP (hS.partD (.cons _ (.cons_cons _ (.cons_cons _ .slnil))) 0 rfl (.refl _)) (fun w1 hS => d_bin rfl rfl (bin_neqB Tryz.underlying4)) ?_
 intro a hA
 refine any_tk (v := .pointer (some ⟨g2, 1, none⟩)) hA 5 rfl rfl rfl rfl hP (hS.partD (.cons _ (.cons_cons _ (.cons_cons _ .slnil))) 0 rfl (.refl _)) (fun w1 hS => d_field RfA_fld_24_1 rfl rfl) ?_
 intro a hA
 refine any_tk hA 6 rfl rfl rfl rfl hP (hS.partD (.cons _ (.cons_cons _ (.cons_cons _ .slnil))) 0 rfl (.refl _)) (fun w1 hS => d_load1 hS RfA_is1_22 rfl 1 rfl rfl) ?_
 intro a hA
 refine any_tk (v := .pointer (some ⟨g4, 1, none⟩)) hA 7 rfl rfl rfl rfl hP (hS.partD (.cons _ (.cons_cons _ (.cons_cons _ .slnil))) 0 rfl (.refl _)) (fun w1 hS => d_field RfA_fld_24_1 rfl rfl) ?_
 intro a hA
 refine any_tk hA 8 rfl rfl rfl rfl hP (hS.partD (.cons _ (.cons_cons _ (.cons_cons _ .slnil))) 0 rfl (.refl _)) (fun w1 hS => d_load1 hS RfA_is1_22 rfl 0 rfl rfl) ?_
 intro a hA
 refine any_tk (v := .pointer (some ⟨g2, 2, none⟩)) hA 10 rfl rfl rfl rfl hP (hS.partD (.cons _ (.cons_cons _ (.cons_cons _ .slnil))) 0 rfl (.refl _)) (fun w1 hS => d_field RfA_fld_24_2 rfl rfl) ?_
 intro a hA
 refine any_tk hA 11 rfl rfl rfl rfl hP (hS.partD (.cons _ (.cons_cons _ (.cons_cons _ .slnil))) 0 rfl (.refl _)) (fun w1 hS => d_load1 hS RfA_is1_22 rfl 1 rfl rfl) ?_
 intro a hA
 refine any_tk (v := .pointer (some ⟨g4, 2, none⟩)) hA 12 rfl rfl rfl rfl hP (hS.partD (.cons _ (.cons_cons _ (.cons_cons _ .slnil))) 0 rfl (.refl _)) (fun w1 hS => d_field RfA_fld_24_2 rfl rfl) ?_
 intro a hA
 refine any_tk hA 13 rfl rfl rfl rfl hP (hS.partD (.cons _ (.cons_cons _ (.cons_cons _ .slnil))) 0 rfl (.refl _)) (fun w1 hS => d_load1 hS RfA_is1_22 rfl 0 rfl rfl) ?_
 intro a hA
 refine any_one (by kernel_rfl) (op_call hA 9 rfl rfl rfl rfl (enters_func  rfl rfl (fun w => by kernel_rfl)) (rtimes_any _ _ (hS.rd 3 rfl) (hS.rd 1 rfl) (by omega) (by omega)) ?_)
 rintro _ w13 ⟨ro9, rc10, rfl, ho11, hb12⟩
 replace hS := hS.call hb12
 replace hS := hS.addR ho11.rd
 refine ⟨_, rfl, (hS.partD (.cons _ (.cons_cons _ (.cons_cons _ .slnil))) 1 rfl (.refl _)), ?_⟩
 intro a hA
 refine any_one (by kernel_rfl) (op_call hA 14 rfl rfl rfl rfl (enters_func  rfl rfl (fun w => by kernel_rfl)) (rtimes_any _ _ (hS.rd 3 rfl) (hS.rd 1 rfl) (by omega) (by omega)) ?_)
 rintro _ w18 ⟨ro14, rc15, rfl, ho16, hb17⟩
 replace hS := hS.call hb17
 replace hS := hS.addR ho16.rd
 refine ⟨_, rfl, (hS.partD (.cons _ (.cons_cons _ (.cons_cons _ .slnil))) 2 rfl (.refl _)), ?_⟩
 intro a hA
 refine any_one (by kernel_rfl) (op_call hA 15 rfl rfl rfl rfl (enters_func  rfl rfl (fun w => by kernel_rfl)) (rratR_any (!(rb u.num == rb v.num)) ⟨(hS.rd 1 rfl), ho11.nocap, ho11.caps⟩ ⟨(hS.rd 0 rfl), ho16.nocap, ho16.caps⟩ (by omega) (by omega) (Nat.mul_ne_zero u.den_nz v.den_nz) (prod_mk hr)) ?_)
 rintro _ w23 ⟨f19_1, f19_c1, f19_2, f19_c2, rfl, hs20, hs21, hb22⟩
 replace hS := hS.call hb22
 replace hS := hS.addR hs20.rd
 replace hS := hS.addR hs21.rd
 refine ⟨_, rfl, (hS.partD (.cons _ (.cons_cons _ (.cons_cons _ .slnil))) 4 rfl (.refl _)), ?_⟩
 intro a hA
 refine any_one (by kernel_rfl) (op_store (us := [.bool ((rb r.num)), .slice f19_1 ((words r.num.natAbs).length) f19_c1, .slice f19_2 ((words r.den).length) f19_c2]) hA hS 16 rfl rfl rfl (sets_store rfl rfl rfl (by kernel_rfl) hS 0 rfl rfl rfl) 0 rfl rfl rfl rfl ?_)
 intro w24 hS
 refine ⟨(hS.partD (.cons _ (.cons_cons _ (.cons_cons _ .slnil))) 4 rfl (.refl _)), ?_⟩
 refine any_end (by kernel_rfl) ?_
 refine hK8 _ _ ?_
 refine wp_ret ?_
 refine hret _ _ ?_
 refine ends (v := .agg #[.bool ((rb r.num)), .slice f19_1 ((words r.num.natAbs).length) f19_c1, .slice f19_2 ((words r.den).length) f19_c2]) hA rfl (.cons (res_cell hS RfA_isS_24 rfl 0 rfl (cs := [.bool ((rb r.num)), .slice f19_1 ((words r.num.natAbs).length) f19_c1, .slice f19_2 ((words r.den).length) f19_c2]) rfl rfl) .nil) rfl ?_
 exact ⟨f19_1, f19_c1, f19_2, f19_c2, rfl, ⟨(hS.rd 1 rfl), hs20.nil, hs20.cap⟩, ⟨(hS.rd 0 rfl), hs21.nil, hs21.cap⟩, hS.bel⟩
theorem rlarge_any {w : World} {u v : Rat} {a1 a2 a3 a4 : Option Addr} {ac1 ac2 ac3 ac4 : Nat} (ha : Nm w (Q6.rat u v) a1 ac1 a2 ac2 a3 ac3 a4 ac4) (LR_u : LenR 9000 u) (LR_v : LenR 9000 v) {r : Bool} (hr : decide (¬ (fitR u ∧ fitR v)) = r) : Calls Tryz.prog 70 #[numV (Q6.rat u v) a1 ac1 a2 ac2 a3 ac3 a4 ac4] w fun e w' => e = .returned (.bool r) ∧ Below w.heap.size w w' := by
 have k1 := LR_u.1
 have k2 := LR_u.2
 have k3 := LR_v.1
 have k4 := LR_v.2
 have hS : St w w [] [(a4, words v.den), (a3, words v.num.natAbs), (a2, words u.den), (a1, words u.num.natAbs)] [] := ((((St.start w).addR ha.s1.rd).addR ha.s2.rd).addR ha.s3.rd).addR ha.s4.rd
 refine walk_of (l := [(0, .agg #[.bool (rb u.num), .slice a1 ((words u.num.natAbs).length) ac1, .slice a2 ((words u.den).length) ac2, .bool (rb v.num), .slice a3 ((words v.num.natAbs).length) ac3, .slice a4 ((words v.den).length) ac4])]) Tryz.func70 rfl Tryz.ntmps70 rfl rfl ?_
 intro Q hret hnorm hP a hA
 refine wp_seq_k (fun K1 hK1 => ?_)
 refine wp_region_lit ?_
 refine seq_new hA hS rfl rfl rfl (fun g => .pointer (some ⟨g, 0, none⟩)) (d_box rfl rfl) rfl ?_
 intro g2 w3 hS a hA
 refine seq_do hA rfl rfl rfl (d_assign rfl) ?_
 intro a hA
 refine seq_end ?_
 refine hK1 _ _ ?_
 refine wp_seq_k (fun K4 hK4 => ?_)
 refine wp_region_lit ?_
 refine seq_do (v := .pointer (some ⟨g2, 0, none⟩)) hA rfl rfl rfl (d_field RfA_fld_26_0 rfl rfl) ?_
 intro a hA
 refine seq_do (v := .pointer (some ⟨g2, 1, none⟩)) hA rfl rfl rfl (d_field RfA_fld_24_1 rfl rfl) ?_
 intro a hA
 refine seq_do hA rfl rfl rfl (d_load1 hS RfA_is1_22 rfl 0 rfl rfl) ?_
 intro a hA
 refine seq_do (v := .int .i64 ((((words u.num.natAbs).length : Nat) : Int))) hA rfl rfl rfl (d_len Tryz.underlying22 rfl) ?_
 intro a hA
 rcases Bool.eq_false_or_eq_true (decide (512 < (((words u.num.natAbs).length : Nat) : Int))) with hb5 | hb5
 · have hb5' := of_decide_eq_true hb5
   refine seq_do (v := .bool true) hA rfl rfl rfl (d_bin rfl rfl (fun w => (bin_gtr w).trans (by rw [hb5]))) ?_
   intro a hA
   refine seq_do hA rfl rfl rfl (d_move rfl) ?_
   intro a hA
   refine seq_skip hA rfl rfl rfl ?_
   intro a hA
   refine seq_skip hA rfl rfl rfl ?_
   intro a hA
   refine seq_skip hA rfl rfl rfl ?_
   intro a hA
   refine seq_skip hA rfl rfl rfl ?_
   intro a hA
   refine seq_skip hA rfl rfl rfl ?_
   intro a hA
   refine seq_do (v := .bool true) hA rfl rfl rfl (d_pick rfl rfl rfl rfl) ?_
   intro a hA
   refine seq_do hA rfl rfl rfl (d_move rfl) ?_
   intro a hA
   refine seq_skip hA rfl rfl rfl ?_
   intro a hA
   refine seq_skip hA rfl rfl rfl ?_
   intro a hA
   refine seq_skip hA rfl rfl rfl ?_
   intro a hA
   refine seq_skip hA rfl rfl rfl ?_
   intro a hA
   refine seq_skip hA rfl rfl rfl ?_
   intro a hA
   refine seq_do (v := .bool true) hA rfl rfl rfl (d_pick rfl rfl rfl rfl) ?_
   intro a hA
   refine seq_do hA rfl rfl rfl (d_move rfl) ?_
   intro a hA
   refine seq_skip hA rfl rfl rfl ?_
   intro a hA
   refine seq_skip hA rfl rfl rfl ?_
   intro a hA
   refine seq_skip hA rfl rfl rfl ?_
   intro a hA
   refine seq_skip hA rfl rfl rfl ?_
   intro a hA
   refine seq_skip hA rfl rfl rfl ?_
   intro a hA
   refine seq_do (v := .bool true) hA rfl rfl rfl (d_pick rfl rfl rfl rfl) ?_
   intro a hA
   refine seq_do hA rfl rfl rfl (d_assign rfl) ?_
   intro a hA
   refine seq_end ?_
   refine hK4 _ _ ?_
   refine wp_ret ?_
   refine hret _ _ ?_
   refine ends (v := .bool true) hA rfl (.cons (res_tmp rfl) .nil) rfl ?_
   subst hr
   exact ⟨by rw [decide_eq_true (show ¬ (fitR u ∧ fitR v) from fun k => by have := k.1.1; have := k.1.2; have := k.2.1; have := k.2.2; omega)], hS.bel⟩
 · have hb5' := of_decide_eq_false hb5
   refine seq_do (v := .bool false) hA rfl rfl rfl (d_bin rfl rfl (fun w => (bin_gtr w).trans (by rw [hb5]))) ?_
   intro a hA
   refine seq_do hA rfl rfl rfl (d_move rfl) ?_
   intro a hA
   refine seq_do (v := .pointer (some ⟨g2, 0, none⟩)) hA rfl rfl rfl (d_field RfA_fld_26_0 rfl rfl) ?_
   intro a hA
   refine seq_do (v := .pointer (some ⟨g2, 2, none⟩)) hA rfl rfl rfl (d_field RfA_fld_24_2 rfl rfl) ?_
   intro a hA
   refine seq_do hA rfl rfl rfl (d_load1 hS RfA_is1_22 rfl 0 rfl rfl) ?_
   intro a hA
   refine seq_do (v := .int .i64 ((((words u.den).length : Nat) : Int))) hA rfl rfl rfl (d_len Tryz.underlying22 rfl) ?_
   intro a hA
   rcases Bool.eq_false_or_eq_true (decide (512 < (((words u.den).length : Nat) : Int))) with hb6 | hb6
   · have hb6' := of_decide_eq_true hb6
     refine seq_do (v := .bool true) hA rfl rfl rfl (d_bin rfl rfl (fun w => (bin_gtr w).trans (by rw [hb6]))) ?_
     intro a hA
     refine seq_do (v := .bool true) hA rfl rfl rfl (d_pick rfl rfl rfl rfl) ?_
     intro a hA
     refine seq_do hA rfl rfl rfl (d_move rfl) ?_
     intro a hA
     refine seq_skip hA rfl rfl rfl ?_
     intro a hA
     refine seq_skip hA rfl rfl rfl ?_
     intro a hA
     refine seq_skip hA rfl rfl rfl ?_
     intro a hA
     refine seq_skip hA rfl rfl rfl ?_
     intro a hA
     refine seq_skip hA rfl rfl rfl ?_
     intro a hA
     refine seq_do (v := .bool true) hA rfl rfl rfl (d_pick rfl rfl rfl rfl) ?_
     intro a hA
     refine seq_do hA rfl rfl rfl (d_move rfl) ?_
     intro a hA
     refine seq_skip hA rfl rfl rfl ?_
     intro a hA
     refine seq_skip hA rfl rfl rfl ?_
     intro a hA
     refine seq_skip hA rfl rfl rfl ?_
     intro a hA
     refine seq_skip hA rfl rfl rfl ?_
     intro a hA
     refine seq_skip hA rfl rfl rfl ?_
     intro a hA
     refine seq_do (v := .bool true) hA rfl rfl rfl (d_pick rfl rfl rfl rfl) ?_
     intro a hA
     refine seq_do hA rfl rfl rfl (d_assign rfl) ?_
     intro a hA
     refine seq_end ?_
     refine hK4 _ _ ?_
     refine wp_ret ?_
     refine hret _ _ ?_
     refine ends (v := .bool true) hA rfl (.cons (res_tmp rfl) .nil) rfl ?_
     subst hr
     exact ⟨by rw [decide_eq_true (show ¬ (fitR u ∧ fitR v) from fun k => by have := k.1.1; have := k.1.2; have := k.2.1; have := k.2.2; omega)], hS.bel⟩
   · have hb6' := of_decide_eq_false hb6
     refine seq_do (v := .bool false) hA rfl rfl rfl (d_bin rfl rfl (fun w => (bin_gtr w).trans (by rw [hb6]))) ?_
     intro a hA
     refine seq_do (v := .bool false) hA rfl rfl rfl (d_pick rfl rfl rfl rfl) ?_
     intro a hA
     refine seq_do hA rfl rfl rfl (d_move rfl) ?_
     intro a hA
     refine seq_do (v := .pointer (some ⟨g2, 3, none⟩)) hA rfl rfl rfl (d_field RfA_fld_26_1 rfl rfl) ?_
     intro a hA
     refine seq_do (v := .pointer (some ⟨g2, 4, none⟩)) hA rfl rfl rfl (d_field RfA_fld_24_1 rfl rfl) ?_
     intro a hA
     refine seq_do hA rfl rfl rfl (d_load1 hS RfA_is1_22 rfl 0 rfl rfl) ?_
     intro a hA
     refine seq_do (v := .int .i64 ((((words v.num.natAbs).length : Nat) : Int))) hA rfl rfl rfl (d_len Tryz.underlying22 rfl) ?_
     intro a hA
     rcases Bool.eq_false_or_eq_true (decide (512 < (((words v.num.natAbs).length : Nat) : Int))) with hb7 | hb7
     · have hb7' := of_decide_eq_true hb7
       refine seq_do (v := .bool true) hA rfl rfl rfl (d_bin rfl rfl (fun w => (bin_gtr w).trans (by rw [hb7]))) ?_
       intro a hA
       refine seq_do (v := .bool true) hA rfl rfl rfl (d_pick rfl rfl rfl rfl) ?_
       intro a hA
       refine seq_do hA rfl rfl rfl (d_move rfl) ?_
       intro a hA
       refine seq_skip hA rfl rfl rfl ?_
       intro a hA
       refine seq_skip hA rfl rfl rfl ?_
       intro a hA
       refine seq_skip hA rfl rfl rfl ?_
       intro a hA
       refine seq_skip hA rfl rfl rfl ?_
       intro a hA
       refine seq_skip hA rfl rfl rfl ?_
       intro a hA
       refine seq_do (v := .bool true) hA rfl rfl rfl (d_pick rfl rfl rfl rfl) ?_
       intro a hA
       refine seq_do hA rfl rfl rfl (d_assign rfl) ?_
       intro a hA
       refine seq_end ?_
       refine hK4 _ _ ?_
       refine wp_ret ?_
       refine hret _ _ ?_
       refine ends (v := .bool true) hA rfl (.cons (res_tmp rfl) .nil) rfl ?_
       subst hr
       exact ⟨by rw [decide_eq_true (show ¬ (fitR u ∧ fitR v) from fun k => by have := k.1.1; have := k.1.2; have := k.2.1; have := k.2.2; omega)], hS.bel⟩
     · have hb7' := of_decide_eq_false hb7
       refine seq_do (v := .bool false) hA rfl rfl rfl (d_bin rfl rfl (fun w => (bin_gtr w).trans (by rw [hb7]))) ?_
       intro a hA
       refine seq_do (v := .bool false) hA rfl rfl rfl (d_pick rfl rfl rfl rfl) ?_
       intro a hA
       refine seq_do hA rfl rfl rfl (d_move rfl) ?_
       intro a hA
       refine seq_do (v := .pointer (some ⟨g2, 3, none⟩)) hA rfl rfl rfl (d_field RfA_fld_26_1 rfl rfl) ?_
       intro a hA
       refine seq_do (v := .pointer (some ⟨g2, 5, none⟩)) hA rfl rfl rfl (d_field RfA_fld_24_2 rfl rfl) ?_
       intro a hA
       refine seq_do hA rfl rfl rfl (d_load1 hS RfA_is1_22 rfl 0 rfl rfl) ?_
       intro a hA
       refine seq_do (v := .int .i64 ((((words v.den).length : Nat) : Int))) hA rfl rfl rfl (d_len Tryz.underlying22 rfl) ?_
       intro a hA
       rcases Bool.eq_false_or_eq_true (decide (512 < (((words v.den).length : Nat) : Int))) with hb8 | hb8
       · have hb8' := of_decide_eq_true hb8
         refine seq_do (v := .bool true) hA rfl rfl rfl (d_bin rfl rfl (fun w => (bin_gtr w).trans (by rw [hb8]))) ?_
         intro a hA
         refine seq_do (v := .bool true) hA rfl rfl rfl (d_pick rfl rfl rfl rfl) ?_
         intro a hA
         refine seq_do hA rfl rfl rfl (d_assign rfl) ?_
         intro a hA
         refine seq_end ?_
         refine hK4 _ _ ?_
         refine wp_ret ?_
         refine hret _ _ ?_
         refine ends (v := .bool true) hA rfl (.cons (res_tmp rfl) .nil) rfl ?_
         subst hr
         exact ⟨by rw [decide_eq_true (show ¬ (fitR u ∧ fitR v) from fun k => by have := k.1.1; have := k.1.2; have := k.2.1; have := k.2.2; omega)], hS.bel⟩
       · have hb8' := of_decide_eq_false hb8
         refine seq_do (v := .bool false) hA rfl rfl rfl (d_bin rfl rfl (fun w => (bin_gtr w).trans (by rw [hb8]))) ?_
         intro a hA
         refine seq_do (v := .bool false) hA rfl rfl rfl (d_pick rfl rfl rfl rfl) ?_
         intro a hA
         refine seq_do hA rfl rfl rfl (d_assign rfl) ?_
         intro a hA
         refine seq_end ?_
         refine hK4 _ _ ?_
         refine wp_ret ?_
         refine hret _ _ ?_
         refine ends (v := .bool false) hA rfl (.cons (res_tmp rfl) .nil) rfl ?_
         subst hr
         exact ⟨by rw [decide_eq_false (show ¬ ¬ (fitR u ∧ fitR v) from fun k => k ⟨⟨by omega, by omega⟩, ⟨by omega, by omega⟩⟩)], hS.bel⟩
theorem rfit_any {w : World} {u v : Rat} {a1 a2 a3 a4 : Option Addr} {ac1 ac2 ac3 ac4 : Nat} (ha : Nm w (Q6.rat u v) a1 ac1 a2 ac2 a3 ac3 a4 ac4) (LR_u : LenR 9000 u) (LR_v : LenR 9000 v) : Calls Tryz.prog 38 #[numV (Q6.rat u v) a1 ac1 a2 ac2 a3 ac3 a4 ac4] w (AnsN w (ratS u v)) := by
 have hS : St w w [] [(a4, words v.den), (a3, words v.num.natAbs), (a2, words u.den), (a1, words u.num.natAbs)] [] := ((((St.start w).addR ha.s1.rd).addR ha.s2.rd).addR ha.s3.rd).addR ha.s4.rd
 refine walk_of (l := [(0, .agg #[.bool (rb u.num), .slice a1 ((words u.num.natAbs).length) ac1, .slice a2 ((words u.den).length) ac2, .bool (rb v.num), .slice a3 ((words v.num.natAbs).length) ac3, .slice a4 ((words v.den).length) ac4])]) Tryz.func38 rfl Tryz.ntmps38 rfl rfl ?_
 intro Q hret hnorm hP a hA
 refine wp_seq_k (fun K1 hK1 => ?_)
 refine wp_region_lit ?_
 refine seq_new hA hS rfl rfl rfl (fun g => .pointer (some ⟨g, 0, none⟩)) (d_box rfl rfl) rfl ?_
 intro g2 w3 hS a hA
 refine seq_new (vs := [.bool false, .slice none 0 0, .slice none 0 0, .bool false, .slice none 0 0, .slice none 0 0]) (t := 26) hA hS rfl rfl rfl (fun g => .pointer (some ⟨g, 0, none⟩)) (d_alloc (z := .agg #[.bool false, .slice none 0 0, .slice none 0 0, .bool false, .slice none 0 0, .slice none 0 0]) (by kernel_rfl) rfl) rfl ?_
 intro g4 w5 hS a hA
 refine seq_do hA rfl rfl rfl (d_assign rfl) ?_
 intro a hA
 refine seq_end ?_
 refine hK1 _ _ ?_
 refine wp_seq_k (fun K6 hK6 => ?_)
 refine wp_seq_k (fun K7 hK7 => ?_)
 refine wp_region_lit ?_
 refine seq_do hA rfl rfl rfl (d_loadS hS RfA_isS_26 rfl 1 rfl (cs := [.bool (rb u.num), .slice a1 ((words u.num.natAbs).length) ac1, .slice a2 ((words u.den).length) ac2, .bool (rb v.num), .slice a3 ((words v.num.natAbs).length) ac3, .slice a4 ((words v.den).length) ac4]) rfl rfl) ?_
 intro a hA
 rcases Bool.eq_false_or_eq_true (decide (¬ (fitR u ∧ fitR v))) with hb8 | hb8
 · have hb8' := of_decide_eq_true hb8
   refine seq_call hA rfl rfl rfl (enters_func  rfl rfl (fun w => by kernel_rfl)) (rlarge_any (show Nm _ (Q6.rat u v) a1 ac1 a2 ac2 a3 ac3 a4 ac4 from ⟨⟨(hS.rd 3 rfl), ha.s1.nil, ha.s1.cap⟩, ⟨(hS.rd 2 rfl), ha.s2.nil, ha.s2.cap⟩, ⟨(hS.rd 1 rfl), ha.s3.nil, ha.s3.cap⟩, ⟨(hS.rd 0 rfl), ha.s4.nil, ha.s4.cap⟩⟩) LR_u LR_v hb8) ?_
   rintro _ w10 ⟨rfl, hb9⟩
   replace hS := hS.call hb9
   refine ⟨_, rfl, ?_⟩
   intro a hA
   refine seq_end ?_
   refine hK7 _ _ ?_
   refine wp_cond_true (hA.ev rfl) ?_
   refine wp_seq_k (fun K11 hK11 => ?_)
   refine wp_region_lit ?_
   refine seq_do (v := .agg #[.bool false, .slice none 0 0, .slice none 0 0, .bool false, .slice none 0 0, .slice none 0 0]) hA rfl rfl rfl (d_build rfl (fun w => by kernel_rfl)) ?_
   intro a hA
   refine seq_store (us := [.bool false, .slice none 0 0, .slice none 0 0, .bool false, .slice none 0 0, .slice none 0 0]) hA hS rfl rfl (sets_store rfl rfl rfl (by kernel_rfl) hS 0 rfl rfl rfl) 0 rfl rfl rfl rfl ?_
   intro w12 hS
   refine seq_do hA rfl rfl rfl (d_assign rfl) ?_
   intro a hA
   refine seq_end ?_
   refine hK11 _ _ ?_
   refine wp_ret ?_
   refine hret _ _ ?_
   refine ends (v := .tuple #[.agg #[.bool false, .slice none 0 0, .slice none 0 0, .bool false, .slice none 0 0, .slice none 0 0], .int .i64 4]) hA rfl (.cons (res_cell hS RfA_isS_26 rfl 0 rfl (cs := [.bool false, .slice none 0 0, .slice none 0 0, .bool false, .slice none 0 0, .slice none 0 0]) rfl rfl) (.cons (res_tmp rfl) .nil)) rfl ?_
   rw [show ratS u v = (Q6.zero, 4) from if_neg (of_decide_eq_true hb8)]
   exact ⟨none, 0, none, 0, none, 0, none, 0, rfl, ⟨(Sc.none _), (Sc.none _), (Sc.none _), (Sc.none _)⟩, hS.bel⟩
 · have hb8' := of_decide_eq_false hb8
   refine seq_call hA rfl rfl rfl (enters_func  rfl rfl (fun w => by kernel_rfl)) (rlarge_any (show Nm _ (Q6.rat u v) a1 ac1 a2 ac2 a3 ac3 a4 ac4 from ⟨⟨(hS.rd 3 rfl), ha.s1.nil, ha.s1.cap⟩, ⟨(hS.rd 2 rfl), ha.s2.nil, ha.s2.cap⟩, ⟨(hS.rd 1 rfl), ha.s3.nil, ha.s3.cap⟩, ⟨(hS.rd 0 rfl), ha.s4.nil, ha.s4.cap⟩⟩) LR_u LR_v hb8) ?_
   rintro _ w14 ⟨rfl, hb13⟩
   replace hS := hS.call hb13
   refine ⟨_, rfl, ?_⟩
   intro a hA
   refine seq_end ?_
   refine hK7 _ _ ?_
   refine wp_cond_false (hA.ev rfl) ?_
   refine wp_skip ?_
   refine hK6 _ _ ?_
   refine wp_seq_k (fun K15 hK15 => ?_)
   refine wp_region_lit ?_
   refine seq_do hA rfl rfl rfl (d_loadS hS RfA_isS_26 rfl 1 rfl (cs := [.bool (rb u.num), .slice a1 ((words u.num.natAbs).length) ac1, .slice a2 ((words u.den).length) ac2, .bool (rb v.num), .slice a3 ((words v.num.natAbs).length) ac3, .slice a4 ((words v.den).length) ac4]) rfl rfl) ?_
   intro a hA
   refine seq_store (us := [.bool (rb u.num), .slice a1 ((words u.num.natAbs).length) ac1, .slice a2 ((words u.den).length) ac2, .bool (rb v.num), .slice a3 ((words v.num.natAbs).length) ac3, .slice a4 ((words v.den).length) ac4]) hA hS rfl rfl (sets_store rfl rfl rfl (by kernel_rfl) hS 0 rfl rfl rfl) 0 rfl rfl rfl rfl ?_
   intro w16 hS
   refine seq_do hA rfl rfl rfl (d_assign rfl) ?_
   intro a hA
   refine seq_end ?_
   refine hK15 _ _ ?_
   refine wp_ret ?_
   refine hret _ _ ?_
   refine ends (v := .tuple #[.agg #[.bool (rb u.num), .slice a1 ((words u.num.natAbs).length) ac1, .slice a2 ((words u.den).length) ac2, .bool (rb v.num), .slice a3 ((words v.num.natAbs).length) ac3, .slice a4 ((words v.den).length) ac4], .int .i64 0]) hA rfl (.cons (res_cell hS RfA_isS_26 rfl 0 rfl (cs := [.bool (rb u.num), .slice a1 ((words u.num.natAbs).length) ac1, .slice a2 ((words u.den).length) ac2, .bool (rb v.num), .slice a3 ((words v.num.natAbs).length) ac3, .slice a4 ((words v.den).length) ac4]) rfl rfl) (.cons (res_tmp rfl) .nil)) rfl ?_
   rw [show ratS u v = (Q6.rat u v, 0) from if_pos (Decidable.not_not.1 (of_decide_eq_false hb8))]
   exact ⟨a1, ac1, a2, ac2, a3, ac3, a4, ac4, rfl, ⟨⟨(hS.rd 3 rfl), ha.s1.nil, ha.s1.cap⟩, ⟨(hS.rd 2 rfl), ha.s2.nil, ha.s2.cap⟩, ⟨(hS.rd 1 rfl), ha.s3.nil, ha.s3.cap⟩, ⟨(hS.rd 0 rfl), ha.s4.nil, ha.s4.cap⟩⟩, hS.bel⟩
end Go.Proofs.YthlkbnhbmfmchaaGreat
namespace Go.Proofs.YthlkbnhbmfmchaaGreat
open Go.RowKit
set_option linter.unusedVariables false
set_option linter.unusedSimpArgs false

end Go.Proofs.YthlkbnhbmfmchaaGreat
namespace Go.Proofs.YthlkbnhbmfmchaaGreat
open Go.RowKit
set_option linter.unusedVariables false
set_option linter.unusedSimpArgs false
set_option maxRecDepth 100000


end Go.Proofs.YthlkbnhbmfmchaaGreat
namespace Go.Proofs.YthlkbnhbmfmchaaGreat
open Go.RowKit
set_option linter.unusedVariables false
set_option linter.unusedSimpArgs false

end Go.Proofs.YthlkbnhbmfmchaaGreat
namespace Go.Proofs.YthlkbnhbmfmchaaGreat
open Go.RowKit
set_option linter.unusedVariables false
set_option linter.unusedSimpArgs false
set_option maxRecDepth 100000
theorem BiF_isS_24 : IsS Tryz.prog 24 3 := ⟨⟨_, Tryz.underlying24⟩, by kernel_rfl⟩
theorem rzero_any (w : World) : Calls Tryz.prog 61 #[] w (AnsF w false [] [1]) := by
 have hS : St w w [] [] [] := St.start w
 refine walk_of (l := []) Tryz.func61 rfl Tryz.ntmps61 rfl rfl ?_
 intro Q hret hnorm hP a hA
 refine wp_seq_k (fun K1 hK1 => ?_)
 refine wp_region_lit ?_
 refine seq_new (vs := [.bool false, .slice none 0 0, .slice none 0 0]) (t := 24) hA hS rfl rfl rfl (fun g => .pointer (some ⟨g, 0, none⟩)) (d_alloc (z := .agg #[.bool false, .slice none 0 0, .slice none 0 0]) (by kernel_rfl) rfl) rfl ?_
 intro g2 w3 hS a hA
 refine seq_end ?_
 refine hK1 _ _ ?_
 refine wp_seq_k (fun K4 hK4 => ?_)
 refine wp_region_lit ?_
 refine seq_newU (us := [1]) (t := 66) (m := 1) hA hS rfl rfl rfl (d_buildSlice rfl (by kernel_rfl)) (by simp [Dig]) ?_
 intro g5 w6 hS a hA
 refine seq_do (v := .agg #[.bool false, .slice none 0 0, .slice (some ⟨g5, 0, none⟩) 1 1]) hA rfl rfl rfl (d_build rfl (fun w => by kernel_rfl)) ?_
 intro a hA
 refine seq_store (us := [.bool false, .slice none 0 0, .slice (some ⟨g5, 0, none⟩) 1 1]) hA hS rfl rfl (sets_store rfl rfl rfl (by kernel_rfl) hS 0 rfl rfl rfl) 0 rfl rfl rfl rfl ?_
 intro w7 hS
 refine seq_end ?_
 refine hK4 _ _ ?_
 refine wp_ret ?_
 refine hret _ _ ?_
 refine ends (v := .agg #[.bool false, .slice none 0 0, .slice (some ⟨g5, 0, none⟩) 1 1]) hA rfl (.cons (res_cell hS BiF_isS_24 rfl 0 rfl (cs := [.bool false, .slice none 0 0, .slice (some ⟨g5, 0, none⟩) 1 1]) rfl rfl) .nil) rfl ?_
 exact ⟨none, 0, some ⟨g5, 0, none⟩, 1, rfl, (Sc.none _), ⟨(hS.rd 0 rfl), (fun h => by cases h), (Nat.le_refl _)⟩, hS.bel⟩
end Go.Proofs.YthlkbnhbmfmchaaGreat
namespace Go.Proofs.YthlkbnhbmfmchaaGreat
open Go.RowKit
set_option linter.unusedVariables false
set_option linter.unusedSimpArgs false

section
variable {P : Program} {l : List (Nat × Value)} {dst : Option Tmp} {ty t : TypeId} {pos : String} {after : Array Edge} {guard : Option (Nat × Bool)} {w : World} {x y : Operand}
end
end Go.Proofs.YthlkbnhbmfmchaaGreat
namespace Go.Proofs.YthlkbnhbmfmchaaGreat
open Go.RowKit
set_option linter.unusedVariables false
set_option linter.unusedSimpArgs false
set_option maxRecDepth 100000


end Go.Proofs.YthlkbnhbmfmchaaGreat
namespace Go.Proofs.YthlkbnhbmfmchaaGreat
open Go.RowKit
set_option linter.unusedVariables false
set_option linter.unusedSimpArgs false

section
variable {fop : Nat → Nat → Nat} {fb : Bool → Bool → Bool} {b1 b2 : Bool} {y1 y2 : Nat}
end
section
variable {P : Program} {t : TypeId} {a b : Operand} {x y : Nat}
end
end Go.Proofs.YthlkbnhbmfmchaaGreat
namespace Go.Proofs.YthlkbnhbmfmchaaGreat
open Go.RowKit
set_option linter.unusedVariables false
set_option linter.unusedSimpArgs false
set_option maxRecDepth 100000


end Go.Proofs.YthlkbnhbmfmchaaGreat
namespace Go.Proofs.YthlkbnhbmfmchaaGreat
open Go.RowKit
set_option linter.unusedVariables false
set_option linter.unusedSimpArgs false

end Go.Proofs.YthlkbnhbmfmchaaGreat
namespace Go.Proofs.YthlkbnhbmfmchaaGreat
open Go.RowKit
set_option linter.unusedVariables false
set_option linter.unusedSimpArgs false
set_option maxRecDepth 100000


end Go.Proofs.YthlkbnhbmfmchaaGreat
namespace Go.Proofs.YthlkbnhbmfmchaaGreat
open Go.RowKit
set_option linter.unusedVariables false
set_option linter.unusedSimpArgs false
end Go.Proofs.YthlkbnhbmfmchaaGreat
namespace Go.Proofs.YthlkbnhbmfmchaaGreat
open Go.RowKit
set_option linter.unusedVariables false
set_option linter.unusedSimpArgs false
set_option maxRecDepth 100000
theorem BiK_is1_22 : Is1 Tryz.prog 22 := ⟨⟨_, Tryz.underlying22, rfl⟩, by kernel_rfl⟩
theorem BiK_is1_4 : Is1 Tryz.prog 4 := ⟨⟨_, Tryz.underlying4, rfl⟩, by kernel_rfl⟩
theorem BiK_fld_24_0 : FieldAt Tryz.prog 24 0 0 := ⟨_, _, Tryz.underlying24, rfl, rfl, by kernel_rfl⟩
theorem BiK_fld_24_1 : FieldAt Tryz.prog 24 1 1 := ⟨_, _, Tryz.underlying24, rfl, rfl, by kernel_rfl⟩
theorem BiK_fld_24_2 : FieldAt Tryz.prog 24 2 2 := ⟨_, _, Tryz.underlying24, rfl, rfl, by kernel_rfl⟩
theorem BiK_fld_26_0 : FieldAt Tryz.prog 26 0 0 := ⟨_, _, Tryz.underlying26, rfl, rfl, by kernel_rfl⟩
theorem BiK_fld_26_1 : FieldAt Tryz.prog 26 1 3 := ⟨_, _, Tryz.underlying26, rfl, rfl, by kernel_rfl⟩
theorem BiK_isS_24 : IsS Tryz.prog 24 3 := ⟨⟨_, Tryz.underlying24⟩, by kernel_rfl⟩
theorem ratSame_any {w : World} {b b' : Bool} {t q t' q' : List Nat} {a1 a2 : Option Addr} {ac1 ac2 : Nat} (ha1 : Sc w a1 ac1 t) (ha2 : Sc w a2 ac2 q) {u1 u2 : Option Addr} {uc1 uc2 : Nat} (hu1 : Sc w u1 uc1 t') (hu2 : Sc w u2 uc2 q') (l1 : t.length ≤ 9223372036854775807) (l2 : q.length ≤ 9223372036854775807) (l3 : t'.length ≤ 9223372036854775807) (l4 : q'.length ≤ 9223372036854775807) {r : Bool} (hr : sameF b t q b' t' q' = r) :
    Calls Tryz.prog 55 #[.agg #[.bool b, .slice a1 t.length ac1, .slice a2 q.length ac2], .agg #[.bool b', .slice u1 t'.length uc1, .slice u2 q'.length uc2]] w fun e w' => e = .returned (.bool r) ∧ Below w.heap.size w w' := by
 have hS : St w w [] [(u2, q'), (u1, t'), (a2, q), (a1, t)] [] := ((((St.start w).addR ha1.rd).addR ha2.rd).addR hu1.rd).addR hu2.rd
 refine walk_of (l := [(0, .agg #[.bool b, .slice a1 t.length ac1, .slice a2 q.length ac2]), (1, .agg #[.bool b', .slice u1 t'.length uc1, .slice u2 q'.length uc2])]) Tryz.func55 rfl Tryz.ntmps55 rfl rfl ?_
 intro Q hret hnorm hP a hA
 refine wp_seq_k (fun K1 hK1 => ?_)
 refine wp_region_lit ?_
 refine seq_new hA hS rfl rfl rfl (fun g => .pointer (some ⟨g, 0, none⟩)) (d_box rfl rfl) rfl ?_
 intro g2 w3 hS a hA
 refine seq_new hA hS rfl rfl rfl (fun g => .pointer (some ⟨g, 0, none⟩)) (d_box rfl rfl) rfl ?_
 intro g4 w5 hS a hA
 refine seq_do hA rfl rfl rfl (d_assign rfl) ?_
 intro a hA
 refine seq_end ?_
 refine hK1 _ _ ?_
 refine wp_seq_k (fun K6 hK6 => ?_)
 refine wp_region_lit ?_
 refine seq_do (v := .pointer (some ⟨g2, 0, none⟩)) hA rfl rfl rfl (d_field BiK_fld_24_0 rfl rfl) ?_
 intro a hA
 refine seq_do hA rfl rfl rfl (d_load1 hS BiK_is1_4 rfl 1 rfl rfl) ?_
 intro a hA
 refine seq_do (v := .pointer (some ⟨g4, 0, none⟩)) hA rfl rfl rfl (d_field BiK_fld_24_0 rfl rfl) ?_
 intro a hA
 refine seq_do hA rfl rfl rfl (d_load1 hS BiK_is1_4 rfl 0 rfl rfl) ?_
 intro a hA
 rcases Bool.eq_false_or_eq_true ((b == b')) with hb7 | hb7
 · have hb7' := eq_of_beq hb7
   refine seq_do (v := .bool true) hA rfl rfl rfl (d_bin rfl rfl (fun w => ((bin_eqlB Tryz.underlying4) w).trans (by rw [hb7]))) ?_
   intro a hA
   refine seq_do hA rfl rfl rfl (d_move rfl) ?_
   intro a hA
   refine seq_do (v := .pointer (some ⟨g2, 1, none⟩)) hA rfl rfl rfl (d_field BiK_fld_24_1 rfl rfl) ?_
   intro a hA
   refine seq_do hA rfl rfl rfl (d_load1 hS BiK_is1_22 rfl 1 rfl rfl) ?_
   intro a hA
   refine seq_do (v := .pointer (some ⟨g4, 1, none⟩)) hA rfl rfl rfl (d_field BiK_fld_24_1 rfl rfl) ?_
   intro a hA
   refine seq_do hA rfl rfl rfl (d_load1 hS BiK_is1_22 rfl 0 rfl rfl) ?_
   intro a hA
   rcases Bool.eq_false_or_eq_true (decide (t = t')) with hb8 | hb8
   · have hb8' := of_decide_eq_true hb8
     refine seq_call hA rfl rfl rfl (enters_func  rfl rfl (fun w => by kernel_rfl)) (rsameB_any _ _ (hS.rd 3 rfl) (hS.rd 1 rfl) l1 l3 hb8) ?_
     rintro _ w10 ⟨rfl, hb9⟩
     replace hS := hS.call hb9
     refine ⟨_, rfl, ?_⟩
     intro a hA
     refine seq_do (v := .bool true) hA rfl rfl rfl (d_pick rfl rfl rfl rfl) ?_
     intro a hA
     refine seq_do hA rfl rfl rfl (d_move rfl) ?_
     intro a hA
     refine seq_do (v := .pointer (some ⟨g2, 2, none⟩)) hA rfl rfl rfl (d_field BiK_fld_24_2 rfl rfl) ?_
     intro a hA
     refine seq_do hA rfl rfl rfl (d_load1 hS BiK_is1_22 rfl 1 rfl rfl) ?_
     intro a hA
     refine seq_do (v := .pointer (some ⟨g4, 2, none⟩)) hA rfl rfl rfl (d_field BiK_fld_24_2 rfl rfl) ?_
     intro a hA
     refine seq_do hA rfl rfl rfl (d_load1 hS BiK_is1_22 rfl 0 rfl rfl) ?_
     intro a hA
     rcases Bool.eq_false_or_eq_true (decide (q = q')) with hb11 | hb11
     · have hb11' := of_decide_eq_true hb11
       refine seq_call hA rfl rfl rfl (enters_func  rfl rfl (fun w => by kernel_rfl)) (rsameB_any _ _ (hS.rd 2 rfl) (hS.rd 0 rfl) l2 l4 hb11) ?_
       rintro _ w13 ⟨rfl, hb12⟩
       replace hS := hS.call hb12
       refine ⟨_, rfl, ?_⟩
       intro a hA
       refine seq_do (v := .bool true) hA rfl rfl rfl (d_pick rfl rfl rfl rfl) ?_
       intro a hA
       refine seq_do hA rfl rfl rfl (d_assign rfl) ?_
       intro a hA
       refine seq_end ?_
       refine hK6 _ _ ?_
       refine wp_ret ?_
       refine hret _ _ ?_
       refine ends (v := .bool true) hA rfl (.cons (res_tmp rfl) .nil) rfl ?_
       subst hr
       exact ⟨by unfold sameF; rw [hb7, hb8, hb11]; try rfl, hS.bel⟩
     · have hb11' := of_decide_eq_false hb11
       refine seq_call hA rfl rfl rfl (enters_func  rfl rfl (fun w => by kernel_rfl)) (rsameB_any _ _ (hS.rd 2 rfl) (hS.rd 0 rfl) l2 l4 hb11) ?_
       rintro _ w15 ⟨rfl, hb14⟩
       replace hS := hS.call hb14
       refine ⟨_, rfl, ?_⟩
       intro a hA
       refine seq_do (v := .bool false) hA rfl rfl rfl (d_pick rfl rfl rfl rfl) ?_
       intro a hA
       refine seq_do hA rfl rfl rfl (d_assign rfl) ?_
       intro a hA
       refine seq_end ?_
       refine hK6 _ _ ?_
       refine wp_ret ?_
       refine hret _ _ ?_
       refine ends (v := .bool false) hA rfl (.cons (res_tmp rfl) .nil) rfl ?_
       subst hr
       exact ⟨by unfold sameF; rw [hb7, hb8, hb11]; try rfl, hS.bel⟩
   · have hb8' := of_decide_eq_false hb8
     refine seq_call hA rfl rfl rfl (enters_func  rfl rfl (fun w => by kernel_rfl)) (rsameB_any _ _ (hS.rd 3 rfl) (hS.rd 1 rfl) l1 l3 hb8) ?_
     rintro _ w17 ⟨rfl, hb16⟩
     replace hS := hS.call hb16
     refine ⟨_, rfl, ?_⟩
     intro a hA
     refine seq_do (v := .bool false) hA rfl rfl rfl (d_pick rfl rfl rfl rfl) ?_
     intro a hA
     refine seq_do hA rfl rfl rfl (d_move rfl) ?_
     intro a hA
     refine seq_skip hA rfl rfl rfl ?_
     intro a hA
     refine seq_skip hA rfl rfl rfl ?_
     intro a hA
     refine seq_skip hA rfl rfl rfl ?_
     intro a hA
     refine seq_skip hA rfl rfl rfl ?_
     intro a hA
     refine seq_skip hA rfl rfl rfl ?_
     intro a hA
     refine seq_do (v := .bool false) hA rfl rfl rfl (d_pick rfl rfl rfl rfl) ?_
     intro a hA
     refine seq_do hA rfl rfl rfl (d_assign rfl) ?_
     intro a hA
     refine seq_end ?_
     refine hK6 _ _ ?_
     refine wp_ret ?_
     refine hret _ _ ?_
     refine ends (v := .bool false) hA rfl (.cons (res_tmp rfl) .nil) rfl ?_
     subst hr
     exact ⟨by unfold sameF; rw [hb7, hb8]; try rfl, hS.bel⟩
 · have hb7' := ne_of_beq_false hb7
   refine seq_do (v := .bool false) hA rfl rfl rfl (d_bin rfl rfl (fun w => ((bin_eqlB Tryz.underlying4) w).trans (by rw [hb7]))) ?_
   intro a hA
   refine seq_do hA rfl rfl rfl (d_move rfl) ?_
   intro a hA
   refine seq_skip hA rfl rfl rfl ?_
   intro a hA
   refine seq_skip hA rfl rfl rfl ?_
   intro a hA
   refine seq_skip hA rfl rfl rfl ?_
   intro a hA
   refine seq_skip hA rfl rfl rfl ?_
   intro a hA
   refine seq_skip hA rfl rfl rfl ?_
   intro a hA
   refine seq_do (v := .bool false) hA rfl rfl rfl (d_pick rfl rfl rfl rfl) ?_
   intro a hA
   refine seq_do hA rfl rfl rfl (d_move rfl) ?_
   intro a hA
   refine seq_skip hA rfl rfl rfl ?_
   intro a hA
   refine seq_skip hA rfl rfl rfl ?_
   intro a hA
   refine seq_skip hA rfl rfl rfl ?_
   intro a hA
   refine seq_skip hA rfl rfl rfl ?_
   intro a hA
   refine seq_skip hA rfl rfl rfl ?_
   intro a hA
   refine seq_do (v := .bool false) hA rfl rfl rfl (d_pick rfl rfl rfl rfl) ?_
   intro a hA
   refine seq_do hA rfl rfl rfl (d_assign rfl) ?_
   intro a hA
   refine seq_end ?_
   refine hK6 _ _ ?_
   refine wp_ret ?_
   refine hret _ _ ?_
   refine ends (v := .bool false) hA rfl (.cons (res_tmp rfl) .nil) rfl ?_
   subst hr
   exact ⟨by unfold sameF; rw [hb7]; try rfl, hS.bel⟩
theorem alike_any {w : World} {q : Q6} {a1 a2 a3 a4 : Option Addr} {ac1 ac2 ac3 ac4 : Nat} (ha : Nm w q a1 ac1 a2 ac2 a3 ac3 a4 ac4) (hl : LenQ q) {u1 u2 u3 u4 : Option Addr} {uc1 uc2 uc3 uc4 : Nat} (hu : Nm w q u1 uc1 u2 uc2 u3 uc3 u4 uc4) : Calls Tryz.prog 17 #[numV q a1 ac1 a2 ac2 a3 ac3 a4 ac4, numV q u1 uc1 u2 uc2 u3 uc3 u4 uc4] w fun e w' => e = .returned (.bool true) ∧ Below w.heap.size w w' := by
 have hS : St w w [] [(u4, q.q2), (u3, q.t2), (u2, q.q1), (u1, q.t1), (a4, q.q2), (a3, q.t2), (a2, q.q1), (a1, q.t1)] [] := ((((((((St.start w).addR ha.s1.rd).addR ha.s2.rd).addR ha.s3.rd).addR ha.s4.rd).addR hu.s1.rd).addR hu.s2.rd).addR hu.s3.rd).addR hu.s4.rd
 refine walk_of (l := [(0, .agg #[.bool q.b1, .slice a1 q.t1.length ac1, .slice a2 q.q1.length ac2, .bool q.b2, .slice a3 q.t2.length ac3, .slice a4 q.q2.length ac4]), (1, .agg #[.bool q.b1, .slice u1 q.t1.length uc1, .slice u2 q.q1.length uc2, .bool q.b2, .slice u3 q.t2.length uc3, .slice u4 q.q2.length uc4])]) Tryz.func17 rfl Tryz.ntmps17 rfl rfl ?_
 intro Q hret hnorm hP a hA
 refine wp_seq_k (fun K1 hK1 => ?_)
 refine wp_region_lit ?_
 refine seq_new hA hS rfl rfl rfl (fun g => .pointer (some ⟨g, 0, none⟩)) (d_box rfl rfl) rfl ?_
 intro g2 w3 hS a hA
 refine seq_new hA hS rfl rfl rfl (fun g => .pointer (some ⟨g, 0, none⟩)) (d_box rfl rfl) rfl ?_
 intro g4 w5 hS a hA
 refine seq_do hA rfl rfl rfl (d_assign rfl) ?_
 intro a hA
 refine seq_end ?_
 refine hK1 _ _ ?_
 refine wp_seq_k (fun K6 hK6 => ?_)
 refine wp_region_lit ?_
 refine seq_do (v := .pointer (some ⟨g2, 0, none⟩)) hA rfl rfl rfl (d_field BiK_fld_26_0 rfl rfl) ?_
 intro a hA
 refine seq_do hA rfl rfl rfl (d_loadS hS BiK_isS_24 rfl 1 rfl (cs := [.bool q.b1, .slice a1 q.t1.length ac1, .slice a2 q.q1.length ac2]) rfl rfl) ?_
 intro a hA
 refine seq_do (v := .pointer (some ⟨g4, 0, none⟩)) hA rfl rfl rfl (d_field BiK_fld_26_0 rfl rfl) ?_
 intro a hA
 refine seq_do hA rfl rfl rfl (d_loadS hS BiK_isS_24 rfl 0 rfl (cs := [.bool q.b1, .slice u1 q.t1.length uc1, .slice u2 q.q1.length uc2]) rfl rfl) ?_
 intro a hA
 refine seq_call hA rfl rfl rfl (enters_func  rfl rfl (fun w => by kernel_rfl)) (ratSame_any ⟨(hS.rd 7 rfl), ha.s1.nil, ha.s1.cap⟩ ⟨(hS.rd 6 rfl), ha.s2.nil, ha.s2.cap⟩ ⟨(hS.rd 3 rfl), hu.s1.nil, hu.s1.cap⟩ ⟨(hS.rd 2 rfl), hu.s2.nil, hu.s2.cap⟩ hl.l1 hl.l2 hl.l1 hl.l2 (sameF_refl _ _ _)) ?_
 rintro _ w8 ⟨rfl, hb7⟩
 replace hS := hS.call hb7
 refine ⟨_, rfl, ?_⟩
 intro a hA
 refine seq_do hA rfl rfl rfl (d_move rfl) ?_
 intro a hA
 refine seq_do (v := .pointer (some ⟨g2, 3, none⟩)) hA rfl rfl rfl (d_field BiK_fld_26_1 rfl rfl) ?_
 intro a hA
 refine seq_do hA rfl rfl rfl (d_loadS hS BiK_isS_24 rfl 1 rfl (cs := [.bool q.b2, .slice a3 q.t2.length ac3, .slice a4 q.q2.length ac4]) rfl rfl) ?_
 intro a hA
 refine seq_do (v := .pointer (some ⟨g4, 3, none⟩)) hA rfl rfl rfl (d_field BiK_fld_26_1 rfl rfl) ?_
 intro a hA
 refine seq_do hA rfl rfl rfl (d_loadS hS BiK_isS_24 rfl 0 rfl (cs := [.bool q.b2, .slice u3 q.t2.length uc3, .slice u4 q.q2.length uc4]) rfl rfl) ?_
 intro a hA
 refine seq_call hA rfl rfl rfl (enters_func  rfl rfl (fun w => by kernel_rfl)) (ratSame_any ⟨(hS.rd 5 rfl), ha.s3.nil, ha.s3.cap⟩ ⟨(hS.rd 4 rfl), ha.s4.nil, ha.s4.cap⟩ ⟨(hS.rd 1 rfl), hu.s3.nil, hu.s3.cap⟩ ⟨(hS.rd 0 rfl), hu.s4.nil, hu.s4.cap⟩ hl.l3 hl.l4 hl.l3 hl.l4 (sameF_refl _ _ _)) ?_
 rintro _ w10 ⟨rfl, hb9⟩
 replace hS := hS.call hb9
 refine ⟨_, rfl, ?_⟩
 intro a hA
 refine seq_do (v := .bool true) hA rfl rfl rfl (d_pick rfl rfl rfl rfl) ?_
 intro a hA
 refine seq_do hA rfl rfl rfl (d_assign rfl) ?_
 intro a hA
 refine seq_end ?_
 refine hK6 _ _ ?_
 refine wp_ret ?_
 refine hret _ _ ?_
 refine ends (v := .bool true) hA rfl (.cons (res_tmp rfl) .nil) rfl ?_
 exact ⟨rfl, hS.bel⟩
end Go.Proofs.YthlkbnhbmfmchaaGreat
namespace Go.Proofs.YthlkbnhbmfmchaaGreat
open Go.RowKit
set_option linter.unusedVariables false
set_option linter.unusedSimpArgs false
set_option maxRecDepth 100000
theorem RfB_is1_22 : Is1 Tryz.prog 22 := ⟨⟨_, Tryz.underlying22, rfl⟩, by kernel_rfl⟩
theorem RfB_fld_24_1 : FieldAt Tryz.prog 24 1 1 := ⟨_, _, Tryz.underlying24, rfl, rfl, by kernel_rfl⟩
theorem RfB_fld_26_0 : FieldAt Tryz.prog 26 0 0 := ⟨_, _, Tryz.underlying26, rfl, rfl, by kernel_rfl⟩
theorem RfB_fld_26_1 : FieldAt Tryz.prog 26 1 3 := ⟨_, _, Tryz.underlying26, rfl, rfl, by kernel_rfl⟩
theorem fit_lenR {u : Rat} (h : fitR u) : LenR 512 u := h
theorem risZero_any {w : World} {u v : Rat} {a1 a2 a3 a4 : Option Addr} {ac1 ac2 ac3 ac4 : Nat} (ha : Nm w (Q6.rat u v) a1 ac1 a2 ac2 a3 ac3 a4 ac4) (hu : fitR u) (hv : fitR v) {r : Bool} (hr : decide (u = 0 ∧ v = 0) = r) : Calls Tryz.prog 68 #[numV (Q6.rat u v) a1 ac1 a2 ac2 a3 ac3 a4 ac4] w fun e w' => e = .returned (.bool r) ∧ Below w.heap.size w w' := by
 have k1 : (words u.num.natAbs).length ≤ 512 := hu.1
 have k2 : (words v.num.natAbs).length ≤ 512 := hv.1
 have hS : St w w [] [(a4, words v.den), (a3, words v.num.natAbs), (a2, words u.den), (a1, words u.num.natAbs)] [] := ((((St.start w).addR ha.s1.rd).addR ha.s2.rd).addR ha.s3.rd).addR ha.s4.rd
 refine walk_of (l := [(0, .agg #[.bool (rb u.num), .slice a1 ((words u.num.natAbs).length) ac1, .slice a2 ((words u.den).length) ac2, .bool (rb v.num), .slice a3 ((words v.num.natAbs).length) ac3, .slice a4 ((words v.den).length) ac4])]) Tryz.func68 rfl Tryz.ntmps68 rfl rfl ?_
 intro Q hret hnorm hP a hA
 refine wp_seq_k (fun K1 hK1 => ?_)
 refine wp_region_lit ?_
 refine seq_new hA hS rfl rfl rfl (fun g => .pointer (some ⟨g, 0, none⟩)) (d_box rfl rfl) rfl ?_
 intro g2 w3 hS a hA
 refine seq_do hA rfl rfl rfl (d_assign rfl) ?_
 intro a hA
 refine seq_end ?_
 refine hK1 _ _ ?_
 refine wp_seq_k (fun K4 hK4 => ?_)
 refine wp_region_lit ?_
 refine seq_do (v := .pointer (some ⟨g2, 0, none⟩)) hA rfl rfl rfl (d_field RfB_fld_26_0 rfl rfl) ?_
 intro a hA
 refine seq_do (v := .pointer (some ⟨g2, 1, none⟩)) hA rfl rfl rfl (d_field RfB_fld_24_1 rfl rfl) ?_
 intro a hA
 refine seq_do hA rfl rfl rfl (d_load1 hS RfB_is1_22 rfl 0 rfl rfl) ?_
 intro a hA
 refine seq_do (v := .int .i64 ((((words u.num.natAbs).length : Nat) : Int))) hA rfl rfl rfl (d_len Tryz.underlying22 rfl) ?_
 intro a hA
 rcases Bool.eq_false_or_eq_true (((((words u.num.natAbs).length : Nat) : Int) == 0)) with hb5 | hb5
 · have hb5' := eq_of_beq hb5
   refine seq_do (v := .bool true) hA rfl rfl rfl (d_bin rfl rfl (fun w => (bin_eql w).trans (by rw [hb5]))) ?_
   intro a hA
   refine seq_do hA rfl rfl rfl (d_move rfl) ?_
   intro a hA
   refine seq_do (v := .pointer (some ⟨g2, 3, none⟩)) hA rfl rfl rfl (d_field RfB_fld_26_1 rfl rfl) ?_
   intro a hA
   refine seq_do (v := .pointer (some ⟨g2, 4, none⟩)) hA rfl rfl rfl (d_field RfB_fld_24_1 rfl rfl) ?_
   intro a hA
   refine seq_do hA rfl rfl rfl (d_load1 hS RfB_is1_22 rfl 0 rfl rfl) ?_
   intro a hA
   refine seq_do (v := .int .i64 ((((words v.num.natAbs).length : Nat) : Int))) hA rfl rfl rfl (d_len Tryz.underlying22 rfl) ?_
   intro a hA
   rcases Bool.eq_false_or_eq_true (((((words v.num.natAbs).length : Nat) : Int) == 0)) with hb6 | hb6
   · have hb6' := eq_of_beq hb6
     refine seq_do (v := .bool true) hA rfl rfl rfl (d_bin rfl rfl (fun w => (bin_eql w).trans (by rw [hb6]))) ?_
     intro a hA
     refine seq_do (v := .bool true) hA rfl rfl rfl (d_pick rfl rfl rfl rfl) ?_
     intro a hA
     refine seq_do hA rfl rfl rfl (d_assign rfl) ?_
     intro a hA
     refine seq_end ?_
     refine hK4 _ _ ?_
     refine wp_ret ?_
     refine hret _ _ ?_
     refine ends (v := .bool true) hA rfl (.cons (res_tmp rfl) .nil) rfl ?_
     subst hr
     exact ⟨by rw [← zero_rat u v, decide_eq_true (show (words u.num.natAbs).length = 0 from by omega), decide_eq_true (show (words v.num.natAbs).length = 0 from by omega)]; rfl, hS.bel⟩
   · have hb6' := ne_of_beq_false hb6
     refine seq_do (v := .bool false) hA rfl rfl rfl (d_bin rfl rfl (fun w => (bin_eql w).trans (by rw [hb6]))) ?_
     intro a hA
     refine seq_do (v := .bool false) hA rfl rfl rfl (d_pick rfl rfl rfl rfl) ?_
     intro a hA
     refine seq_do hA rfl rfl rfl (d_assign rfl) ?_
     intro a hA
     refine seq_end ?_
     refine hK4 _ _ ?_
     refine wp_ret ?_
     refine hret _ _ ?_
     refine ends (v := .bool false) hA rfl (.cons (res_tmp rfl) .nil) rfl ?_
     subst hr
     exact ⟨by rw [← zero_rat u v, decide_eq_false (show ¬ (words v.num.natAbs).length = 0 from by omega)]; simp, hS.bel⟩
 · have hb5' := ne_of_beq_false hb5
   refine seq_do (v := .bool false) hA rfl rfl rfl (d_bin rfl rfl (fun w => (bin_eql w).trans (by rw [hb5]))) ?_
   intro a hA
   refine seq_do hA rfl rfl rfl (d_move rfl) ?_
   intro a hA
   refine seq_skip hA rfl rfl rfl ?_
   intro a hA
   refine seq_skip hA rfl rfl rfl ?_
   intro a hA
   refine seq_skip hA rfl rfl rfl ?_
   intro a hA
   refine seq_skip hA rfl rfl rfl ?_
   intro a hA
   refine seq_skip hA rfl rfl rfl ?_
   intro a hA
   refine seq_do (v := .bool false) hA rfl rfl rfl (d_pick rfl rfl rfl rfl) ?_
   intro a hA
   refine seq_do hA rfl rfl rfl (d_assign rfl) ?_
   intro a hA
   refine seq_end ?_
   refine hK4 _ _ ?_
   refine wp_ret ?_
   refine hret _ _ ?_
   refine ends (v := .bool false) hA rfl (.cons (res_tmp rfl) .nil) rfl ?_
   subst hr
   exact ⟨by rw [← zero_rat u v, decide_eq_false (show ¬ (words u.num.natAbs).length = 0 from by omega)]; simp, hS.bel⟩
end Go.Proofs.YthlkbnhbmfmchaaGreat
namespace Go.Proofs.YthlkbnhbmfmchaaGreat
open Go.RowKit
set_option linter.unusedVariables false
set_option linter.unusedSimpArgs false
set_option maxRecDepth 100000
end Go.Proofs.YthlkbnhbmfmchaaGreat
namespace Go.Proofs.YthlkbnhbmfmchaaGreat
open Go.RowKit
set_option linter.unusedVariables false
set_option linter.unusedSimpArgs false
set_option maxRecDepth 100000
end Go.Proofs.YthlkbnhbmfmchaaGreat
namespace Go.Proofs.YthlkbnhbmfmchaaGreat
open Go.RowKit
set_option linter.unusedVariables false
set_option linter.unusedSimpArgs false
set_option maxRecDepth 100000
end Go.Proofs.YthlkbnhbmfmchaaGreat
namespace Go.Proofs.YthlkbnhbmfmchaaGreat
open Go.RowKit
set_option linter.unusedVariables false
set_option linter.unusedSimpArgs false
set_option maxRecDepth 100000
section
variable {P : Program} {t : TypeId} {a b : Operand}
end
end Go.Proofs.YthlkbnhbmfmchaaGreat
namespace Go.Proofs.YthlkbnhbmfmchaaGreat
open Go.RowKit
set_option linter.unusedVariables false
set_option linter.unusedSimpArgs false
section
variable {P : Program} {t : TypeId} {x y : Operand} {k k' : IntKind} {a b z : Int}
end
end Go.Proofs.YthlkbnhbmfmchaaGreat
namespace Go.Proofs.YthlkbnhbmfmchaaGreat
open Go.RowKit
set_option linter.unusedVariables false
set_option linter.unusedSimpArgs false

end Go.Proofs.YthlkbnhbmfmchaaGreat
namespace Go.Proofs.YthlkbnhbmfmchaaGreat
open Go.RowKit
set_option linter.unusedVariables false
set_option linter.unusedSimpArgs false
set_option maxRecDepth 100000
end Go.Proofs.YthlkbnhbmfmchaaGreat
namespace Go.Proofs.YthlkbnhbmfmchaaGreat
open Go.RowKit
set_option linter.unusedVariables false
set_option linter.unusedSimpArgs false
set_option maxRecDepth 100000
end Go.Proofs.YthlkbnhbmfmchaaGreat
namespace Go.Proofs.YthlkbnhbmfmchaaGreat
open Go.RowKit
set_option linter.unusedVariables false
set_option linter.unusedSimpArgs false
set_option maxRecDepth 100000
theorem ExO_is1_22 : Is1 Tryz.prog 22 := ⟨⟨_, Tryz.underlying22, rfl⟩, by kernel_rfl⟩
theorem ExO_is1_4 : Is1 Tryz.prog 4 := ⟨⟨_, Tryz.underlying4, rfl⟩, by kernel_rfl⟩
theorem ExO_fld_53_0 : FieldAt Tryz.prog 53 0 0 := ⟨_, _, Tryz.underlying53, rfl, rfl, by kernel_rfl⟩
theorem ExO_fld_53_1 : FieldAt Tryz.prog 53 1 1 := ⟨_, _, Tryz.underlying53, rfl, rfl, by kernel_rfl⟩
theorem ExO_isS_26 : IsS Tryz.prog 26 6 := ⟨⟨_, Tryz.underlying26⟩, by kernel_rfl⟩
theorem ExO_isS_53 : IsS Tryz.prog 53 2 := ⟨⟨_, Tryz.underlying53⟩, by kernel_rfl⟩
theorem sgn_qp {x : Int} {d : Nat} (hd : d ≠ 0) (h : rb x = false) : sgn false (x.natAbs / d) = x / (d : Int) := by rw [(zq_pos hd h).1]; rfl
theorem sgn_qz {x : Int} {d : Nat} (hd : d ≠ 0) (h : rb x = true) (h0 : x.natAbs % d = 0) : sgn true (x.natAbs / d) = x / (d : Int) := by rw [(zq_neg0 hd h h0).1]; rfl
theorem sgn_qn {x : Int} {d : Nat} (hd : d ≠ 0) (h : rb x = true) (h0 : x.natAbs % d ≠ 0) : sgn true (x.natAbs / d + 1) = x / (d : Int) := by rw [(zq_neg1 hd h h0).1]; rfl
theorem zoverP_any {w : World} {x : Int} {d : Nat} {so : Option Addr} {soc : Nat} (hso : Sc w so soc (words x.natAbs)) {uo : Option Addr} {uoc : Nat} (huo : Sc w uo uoc (words d)) (lx : (words x.natAbs).length ≤ 40000) (ld : (words d).length ≤ 40000) (hd : d ≠ 0) (hb : rb x = false) : Calls Tryz.prog 62 #[.agg #[.bool false, .slice so (words x.natAbs).length soc], .slice uo (words d).length uoc] w (AnsQR w (x / (d : Int)) (x % (d : Int)).toNat) := by
 have hS : St w w [] [(uo, words d), (so, words x.natAbs)] [] := ((St.start w).addR hso.rd).addR huo.rd
 refine walk_of (l := [(0, .agg #[.bool false, .slice so ((words x.natAbs).length) soc]), (1, .slice uo ((words d).length) uoc)]) Tryz.func62 rfl Tryz.ntmps62 rfl rfl ?_
 intro Q hret hnorm hP a hA
 refine wp_seq_k (fun K1 hK1 => ?_)
 refine wp_region_lit ?_
 refine seq_new hA hS rfl rfl rfl (fun g => .pointer (some ⟨g, 0, none⟩)) (d_box rfl rfl) rfl ?_
 intro g2 w3 hS a hA
 refine seq_new (vs := [.bool false, .slice none 0 0]) (t := 53) hA hS rfl rfl rfl (fun g => .pointer (some ⟨g, 0, none⟩)) (d_alloc (z := .agg #[.bool false, .slice none 0 0]) (by kernel_rfl) rfl) rfl ?_
 intro g4 w5 hS a hA
 refine seq_do hA rfl rfl rfl (d_assign rfl) ?_
 intro a hA
 refine seq_end ?_
 refine hK1 _ _ ?_
 refine wp_seq_k (fun K6 hK6 => ?_)
 refine wp_region_lit ?_
 refine seq_do (v := .pointer (some ⟨g2, 1, none⟩)) hA rfl rfl rfl (d_field ExO_fld_53_1 rfl rfl) ?_
 intro a hA
 refine seq_do hA rfl rfl rfl (d_load1 hS ExO_is1_22 rfl 1 rfl rfl) ?_
 intro a hA
 refine seq_do hA rfl rfl rfl (d_move rfl) ?_
 intro a hA
 refine seq_call hA rfl rfl rfl (enters_func  rfl rfl (fun w => by kernel_rfl)) (divide_any _ _ (hS.rd 1 rfl) (hS.rd 0 rfl) (by omega) (by omega) hso.nil hd) ?_
 rintro _ w14 ⟨ro7, rc8, uo9, uc10, rfl, ho11, hp12, hb13⟩
 replace hS := hS.call hb13
 replace hS := hS.addR ho11.rd
 replace hS := hS.addR hp12.rd
 refine ⟨_, rfl, ?_⟩
 intro a hA
 refine seq_do hA rfl rfl rfl (d_move rfl) ?_
 intro a hA
 refine seq_do (v := .slice ro7 ((words (x.natAbs / d)).length) rc8) hA rfl rfl rfl (d_extract (vs := [.slice ro7 ((words (x.natAbs / d)).length) rc8, .slice uo9 ((words (x.natAbs % d)).length) uc10]) rfl rfl) ?_
 intro a hA
 refine seq_do (v := .slice uo9 ((words (x.natAbs % d)).length) uc10) hA rfl rfl rfl (d_extract (vs := [.slice ro7 ((words (x.natAbs / d)).length) rc8, .slice uo9 ((words (x.natAbs % d)).length) uc10]) rfl rfl) ?_
 intro a hA
 refine seq_do hA rfl rfl rfl (d_assign rfl) ?_
 intro a hA
 refine seq_do hA rfl rfl rfl (d_assign rfl) ?_
 intro a hA
 refine seq_end ?_
 refine hK6 _ _ ?_
 refine wp_seq_k (fun K15 hK15 => ?_)
 refine wp_seq_k (fun K16 hK16 => ?_)
 refine wp_region_lit ?_
 refine seq_do (v := .pointer (some ⟨g2, 0, none⟩)) hA rfl rfl rfl (d_field ExO_fld_53_0 rfl rfl) ?_
 intro a hA
 refine seq_do hA rfl rfl rfl (d_load1 hS ExO_is1_4 rfl 1 rfl rfl) ?_
 intro a hA
 refine seq_do hA rfl rfl rfl (d_move rfl) ?_
 intro a hA
 refine seq_skip hA rfl rfl rfl ?_
 intro a hA
 refine seq_skip hA rfl rfl rfl ?_
 intro a hA
 refine seq_skip hA rfl rfl rfl ?_
 intro a hA
 refine seq_do (v := .bool false) hA rfl rfl rfl (d_pick rfl rfl rfl rfl) ?_
 intro a hA
 refine seq_end ?_
 refine hK16 _ _ ?_
 refine wp_cond_false (hA.ev rfl) ?_
 refine wp_skip ?_
 refine hK15 _ _ ?_
 refine wp_seq_k (fun K17 hK17 => ?_)
 refine wp_region_lit ?_
 refine seq_do (v := .pointer (some ⟨g2, 0, none⟩)) hA rfl rfl rfl (d_field ExO_fld_53_0 rfl rfl) ?_
 intro a hA
 refine seq_do hA rfl rfl rfl (d_load1 hS ExO_is1_4 rfl 1 rfl rfl) ?_
 intro a hA
 refine seq_do hA rfl rfl rfl (d_move rfl) ?_
 intro a hA
 refine seq_call hA rfl rfl rfl (enters_func  rfl rfl (fun w => by kernel_rfl)) (zsigned_any (b := false) (n := x.natAbs / d) (z := (x / (d : Int))) ⟨(hS.rd 1 rfl), ho11.nocap, ho11.caps⟩ (sgn_qp hd hb)) ?_
 rintro _ w22 ⟨zo18, zc19, rfl, hs20, hb21⟩
 replace hS := hS.call hb21
 replace hS := hS.addR hs20.rd
 refine ⟨_, rfl, ?_⟩
 intro a hA
 refine seq_do hA rfl rfl rfl (d_move rfl) ?_
 intro a hA
 refine seq_store (us := [.bool ((rb ((x / (d : Int))))), .slice zo18 ((words ((x / (d : Int))).natAbs).length) zc19]) hA hS rfl rfl (sets_store rfl rfl rfl (by kernel_rfl) hS 0 rfl rfl rfl) 0 rfl rfl rfl rfl ?_
 intro w23 hS
 refine seq_do hA rfl rfl rfl (d_assign rfl) ?_
 intro a hA
 refine seq_end ?_
 refine hK17 _ _ ?_
 refine wp_ret ?_
 refine hret _ _ ?_
 refine ends (v := .tuple #[.agg #[.bool ((rb ((x / (d : Int))))), .slice zo18 ((words ((x / (d : Int))).natAbs).length) zc19], .slice uo9 ((words (x.natAbs % d)).length) uc10]) hA rfl (.cons (res_cell hS ExO_isS_53 rfl 0 rfl (cs := [.bool ((rb ((x / (d : Int))))), .slice zo18 ((words ((x / (d : Int))).natAbs).length) zc19]) rfl rfl) (.cons (res_tmp rfl) .nil)) rfl ?_
 rw [show ((x % (d : Int)).toNat) = x.natAbs % d from by rw [(zq_pos hd hb).2]; first | rfl | (rw [h0]; rfl)]
 exact ⟨zo18, zc19, uo9, uc10, rfl, ⟨(hS.rd 0 rfl), hs20.nil, hs20.cap⟩, ⟨(hS.rd 1 rfl), hp12.nocap, hp12.caps⟩, hS.bel⟩
theorem zoverZ_any {w : World} {x : Int} {d : Nat} {so : Option Addr} {soc : Nat} (hso : Sc w so soc (words x.natAbs)) {uo : Option Addr} {uoc : Nat} (huo : Sc w uo uoc (words d)) (lx : (words x.natAbs).length ≤ 40000) (ld : (words d).length ≤ 40000) (hd : d ≠ 0) (hb : rb x = true) (h0 : x.natAbs % d = 0) : Calls Tryz.prog 62 #[.agg #[.bool true, .slice so (words x.natAbs).length soc], .slice uo (words d).length uoc] w (AnsQR w (x / (d : Int)) (x % (d : Int)).toNat) := by
 have hS : St w w [] [(uo, words d), (so, words x.natAbs)] [] := ((St.start w).addR hso.rd).addR huo.rd
 refine walk_of (l := [(0, .agg #[.bool true, .slice so ((words x.natAbs).length) soc]), (1, .slice uo ((words d).length) uoc)]) Tryz.func62 rfl Tryz.ntmps62 rfl rfl ?_
 intro Q hret hnorm hP a hA
 refine wp_seq_k (fun K1 hK1 => ?_)
 refine wp_region_lit ?_
 refine seq_new hA hS rfl rfl rfl (fun g => .pointer (some ⟨g, 0, none⟩)) (d_box rfl rfl) rfl ?_
 intro g2 w3 hS a hA
 refine seq_new (vs := [.bool false, .slice none 0 0]) (t := 53) hA hS rfl rfl rfl (fun g => .pointer (some ⟨g, 0, none⟩)) (d_alloc (z := .agg #[.bool false, .slice none 0 0]) (by kernel_rfl) rfl) rfl ?_
 intro g4 w5 hS a hA
 refine seq_do hA rfl rfl rfl (d_assign rfl) ?_
 intro a hA
 refine seq_end ?_
 refine hK1 _ _ ?_
 refine wp_seq_k (fun K6 hK6 => ?_)
 refine wp_region_lit ?_
 refine seq_do (v := .pointer (some ⟨g2, 1, none⟩)) hA rfl rfl rfl (d_field ExO_fld_53_1 rfl rfl) ?_
 intro a hA
 refine seq_do hA rfl rfl rfl (d_load1 hS ExO_is1_22 rfl 1 rfl rfl) ?_
 intro a hA
 refine seq_do hA rfl rfl rfl (d_move rfl) ?_
 intro a hA
 refine seq_call hA rfl rfl rfl (enters_func  rfl rfl (fun w => by kernel_rfl)) (divide_any _ _ (hS.rd 1 rfl) (hS.rd 0 rfl) (by omega) (by omega) hso.nil hd) ?_
 rintro _ w14 ⟨ro7, rc8, uo9, uc10, rfl, ho11, hp12, hb13⟩
 replace hS := hS.call hb13
 replace hS := hS.addR ho11.rd
 replace hS := hS.addR hp12.rd
 refine ⟨_, rfl, ?_⟩
 intro a hA
 refine seq_do hA rfl rfl rfl (d_move rfl) ?_
 intro a hA
 refine seq_do (v := .slice ro7 ((words (x.natAbs / d)).length) rc8) hA rfl rfl rfl (d_extract (vs := [.slice ro7 ((words (x.natAbs / d)).length) rc8, .slice uo9 ((words (x.natAbs % d)).length) uc10]) rfl rfl) ?_
 intro a hA
 refine seq_do (v := .slice uo9 ((words (x.natAbs % d)).length) uc10) hA rfl rfl rfl (d_extract (vs := [.slice ro7 ((words (x.natAbs / d)).length) rc8, .slice uo9 ((words (x.natAbs % d)).length) uc10]) rfl rfl) ?_
 intro a hA
 refine seq_do hA rfl rfl rfl (d_assign rfl) ?_
 intro a hA
 refine seq_do hA rfl rfl rfl (d_assign rfl) ?_
 intro a hA
 refine seq_end ?_
 refine hK6 _ _ ?_
 refine wp_seq_k (fun K15 hK15 => ?_)
 refine wp_seq_k (fun K16 hK16 => ?_)
 refine wp_region_lit ?_
 refine seq_do (v := .pointer (some ⟨g2, 0, none⟩)) hA rfl rfl rfl (d_field ExO_fld_53_0 rfl rfl) ?_
 intro a hA
 refine seq_do hA rfl rfl rfl (d_load1 hS ExO_is1_4 rfl 1 rfl rfl) ?_
 intro a hA
 refine seq_do hA rfl rfl rfl (d_move rfl) ?_
 intro a hA
 refine seq_do hA rfl rfl rfl (d_move rfl) ?_
 intro a hA
 refine seq_do (v := .int .i64 ((((words (x.natAbs % d)).length : Nat) : Int))) hA rfl rfl rfl (d_len Tryz.underlying22 rfl) ?_
 intro a hA
 refine seq_do (v := .bool false) hA rfl rfl rfl (d_bin rfl rfl (fun w => (bin_gtr w).trans (by rw [show (decide (0 < (((words (x.natAbs % d)).length : Nat) : Int))) = false from decide_eq_false (by rw [h0, words_zero]; decide)]))) ?_
 intro a hA
 refine seq_do (v := .bool false) hA rfl rfl rfl (d_pick rfl rfl rfl rfl) ?_
 intro a hA
 refine seq_end ?_
 refine hK16 _ _ ?_
 refine wp_cond_false (hA.ev rfl) ?_
 refine wp_skip ?_
 refine hK15 _ _ ?_
 refine wp_seq_k (fun K17 hK17 => ?_)
 refine wp_region_lit ?_
 refine seq_do (v := .pointer (some ⟨g2, 0, none⟩)) hA rfl rfl rfl (d_field ExO_fld_53_0 rfl rfl) ?_
 intro a hA
 refine seq_do hA rfl rfl rfl (d_load1 hS ExO_is1_4 rfl 1 rfl rfl) ?_
 intro a hA
 refine seq_do hA rfl rfl rfl (d_move rfl) ?_
 intro a hA
 refine seq_call hA rfl rfl rfl (enters_func  rfl rfl (fun w => by kernel_rfl)) (zsigned_any (b := true) (n := x.natAbs / d) (z := (x / (d : Int))) ⟨(hS.rd 1 rfl), ho11.nocap, ho11.caps⟩ (sgn_qz hd hb h0)) ?_
 rintro _ w22 ⟨zo18, zc19, rfl, hs20, hb21⟩
 replace hS := hS.call hb21
 replace hS := hS.addR hs20.rd
 refine ⟨_, rfl, ?_⟩
 intro a hA
 refine seq_do hA rfl rfl rfl (d_move rfl) ?_
 intro a hA
 refine seq_store (us := [.bool ((rb ((x / (d : Int))))), .slice zo18 ((words ((x / (d : Int))).natAbs).length) zc19]) hA hS rfl rfl (sets_store rfl rfl rfl (by kernel_rfl) hS 0 rfl rfl rfl) 0 rfl rfl rfl rfl ?_
 intro w23 hS
 refine seq_do hA rfl rfl rfl (d_assign rfl) ?_
 intro a hA
 refine seq_end ?_
 refine hK17 _ _ ?_
 refine wp_ret ?_
 refine hret _ _ ?_
 refine ends (v := .tuple #[.agg #[.bool ((rb ((x / (d : Int))))), .slice zo18 ((words ((x / (d : Int))).natAbs).length) zc19], .slice uo9 ((words (x.natAbs % d)).length) uc10]) hA rfl (.cons (res_cell hS ExO_isS_53 rfl 0 rfl (cs := [.bool ((rb ((x / (d : Int))))), .slice zo18 ((words ((x / (d : Int))).natAbs).length) zc19]) rfl rfl) (.cons (res_tmp rfl) .nil)) rfl ?_
 rw [show ((x % (d : Int)).toNat) = x.natAbs % d from by rw [(zq_neg0 hd hb h0).2]; first | rfl | (rw [h0]; rfl)]
 exact ⟨zo18, zc19, uo9, uc10, rfl, ⟨(hS.rd 0 rfl), hs20.nil, hs20.cap⟩, ⟨(hS.rd 1 rfl), hp12.nocap, hp12.caps⟩, hS.bel⟩
theorem zoverN_any {w : World} {x : Int} {d : Nat} {so : Option Addr} {soc : Nat} (hso : Sc w so soc (words x.natAbs)) {uo : Option Addr} {uoc : Nat} (huo : Sc w uo uoc (words d)) (lx : (words x.natAbs).length ≤ 40000) (ld : (words d).length ≤ 40000) (hd : d ≠ 0) (hb : rb x = true) (h0 : x.natAbs % d ≠ 0) : Calls Tryz.prog 62 #[.agg #[.bool true, .slice so (words x.natAbs).length soc], .slice uo (words d).length uoc] w (AnsQR w (x / (d : Int)) (x % (d : Int)).toNat) := by
 have k1 : (words (x.natAbs / d)).length ≤ 40000 := div_len lx
 have k2 : (words 1).length ≤ 512 := one_len
 have k3 : (words (x.natAbs % d)).length ≤ 40000 := Nat.le_trans (words_mono (Nat.mod_le _ _)) lx
 have k4 := Nat.mod_lt x.natAbs (Nat.pos_of_ne_zero hd)
 have hS : St w w [] [(uo, words d), (so, words x.natAbs)] [] := ((St.start w).addR hso.rd).addR huo.rd
 refine walk_of (l := [(0, .agg #[.bool true, .slice so ((words x.natAbs).length) soc]), (1, .slice uo ((words d).length) uoc)]) Tryz.func62 rfl Tryz.ntmps62 rfl rfl ?_
 intro Q hret hnorm hP a hA
 refine wp_seq_k (fun K1 hK1 => ?_)
 refine wp_region_lit ?_
 refine seq_new hA hS rfl rfl rfl (fun g => .pointer (some ⟨g, 0, none⟩)) (d_box rfl rfl) rfl ?_
 intro g2 w3 hS a hA
 refine seq_new (vs := [.bool false, .slice none 0 0]) (t := 53) hA hS rfl rfl rfl (fun g => .pointer (some ⟨g, 0, none⟩)) (d_alloc (z := .agg #[.bool false, .slice none 0 0]) (by kernel_rfl) rfl) rfl ?_
 intro g4 w5 hS a hA
 refine seq_do hA rfl rfl rfl (d_assign rfl) ?_
 intro a hA
 refine seq_end ?_
 refine hK1 _ _ ?_
 refine wp_seq_k (fun K6 hK6 => ?_)
 refine wp_region_lit ?_
 refine seq_do (v := .pointer (some ⟨g2, 1, none⟩)) hA rfl rfl rfl (d_field ExO_fld_53_1 rfl rfl) ?_
 intro a hA
 refine seq_do hA rfl rfl rfl (d_load1 hS ExO_is1_22 rfl 1 rfl rfl) ?_
 intro a hA
 refine seq_do hA rfl rfl rfl (d_move rfl) ?_
 intro a hA
 refine seq_call hA rfl rfl rfl (enters_func  rfl rfl (fun w => by kernel_rfl)) (divide_any _ _ (hS.rd 1 rfl) (hS.rd 0 rfl) (by omega) (by omega) hso.nil hd) ?_
 rintro _ w14 ⟨ro7, rc8, uo9, uc10, rfl, ho11, hp12, hb13⟩
 replace hS := hS.call hb13
 replace hS := hS.addR ho11.rd
 replace hS := hS.addR hp12.rd
 refine ⟨_, rfl, ?_⟩
 intro a hA
 refine seq_do hA rfl rfl rfl (d_move rfl) ?_
 intro a hA
 refine seq_do (v := .slice ro7 ((words (x.natAbs / d)).length) rc8) hA rfl rfl rfl (d_extract (vs := [.slice ro7 ((words (x.natAbs / d)).length) rc8, .slice uo9 ((words (x.natAbs % d)).length) uc10]) rfl rfl) ?_
 intro a hA
 refine seq_do (v := .slice uo9 ((words (x.natAbs % d)).length) uc10) hA rfl rfl rfl (d_extract (vs := [.slice ro7 ((words (x.natAbs / d)).length) rc8, .slice uo9 ((words (x.natAbs % d)).length) uc10]) rfl rfl) ?_
 intro a hA
 refine seq_do hA rfl rfl rfl (d_assign rfl) ?_
 intro a hA
 refine seq_do hA rfl rfl rfl (d_assign rfl) ?_
 intro a hA
 refine seq_end ?_
 refine hK6 _ _ ?_
 refine wp_seq_k (fun K15 hK15 => ?_)
 refine wp_seq_k (fun K16 hK16 => ?_)
 refine wp_region_lit ?_
 refine seq_do (v := .pointer (some ⟨g2, 0, none⟩)) hA rfl rfl rfl (d_field ExO_fld_53_0 rfl rfl) ?_
 intro a hA
 refine seq_do hA rfl rfl rfl (d_load1 hS ExO_is1_4 rfl 1 rfl rfl) ?_
 intro a hA
 refine seq_do hA rfl rfl rfl (d_move rfl) ?_
 intro a hA
 refine seq_do hA rfl rfl rfl (d_move rfl) ?_
 intro a hA
 refine seq_do (v := .int .i64 ((((words (x.natAbs % d)).length : Nat) : Int))) hA rfl rfl rfl (d_len Tryz.underlying22 rfl) ?_
 intro a hA
 refine seq_do (v := .bool true) hA rfl rfl rfl (d_bin rfl rfl (fun w => (bin_gtr w).trans (by rw [show (decide (0 < (((words (x.natAbs % d)).length : Nat) : Int))) = true from decide_eq_true (by have h9 := (words_len_pos (x := x.natAbs % d)).2 h0; omega)]))) ?_
 intro a hA
 refine seq_do (v := .bool true) hA rfl rfl rfl (d_pick rfl rfl rfl rfl) ?_
 intro a hA
 refine seq_end ?_
 refine hK16 _ _ ?_
 refine wp_cond_true (hA.ev rfl) ?_
 refine wp_region_lit ?_
 refine seq_do hA rfl rfl rfl (d_move rfl) ?_
 intro a hA
 refine seq_call hA rfl rfl rfl (enters_func  rfl rfl (fun w => by kernel_rfl)) (wof_any 1 _ (by decide)) ?_
 rintro _ w21 ⟨ro17, rc18, rfl, ho19, hb20⟩
 replace hS := hS.call hb20
 replace hS := hS.addR ho19.rd
 refine ⟨_, rfl, ?_⟩
 intro a hA
 refine seq_call hA rfl rfl rfl (enters_func  rfl rfl (fun w => by kernel_rfl)) (sum_any _ _ (hS.rd 2 rfl) (hS.rd 0 rfl) (by omega) (by omega)) ?_
 rintro _ w26 ⟨ro22, rc23, rfl, ho24, hb25⟩
 replace hS := hS.call hb25
 replace hS := hS.addR ho24.rd
 refine ⟨_, rfl, ?_⟩
 intro a hA
 refine seq_do hA rfl rfl rfl (d_move rfl) ?_
 intro a hA
 refine seq_do hA rfl rfl rfl (d_move rfl) ?_
 intro a hA
 refine seq_call hA rfl rfl rfl (enters_func  rfl rfl (fun w => by kernel_rfl)) (difference_any _ _ (hS.rd 4 rfl) (hS.rd 2 rfl) (by omega) (by omega)) ?_
 rintro _ w31 ⟨ro27, rc28, rfl, ho29, hb30⟩
 replace hS := hS.call hb30
 replace hS := hS.addR ho29.rd
 refine ⟨_, rfl, ?_⟩
 intro a hA
 refine seq_do hA rfl rfl rfl (d_assign rfl) ?_
 intro a hA
 refine seq_do hA rfl rfl rfl (d_assign rfl) ?_
 intro a hA
 refine seq_end ?_
 refine hK15 _ _ ?_
 refine wp_seq_k (fun K32 hK32 => ?_)
 refine wp_region_lit ?_
 refine seq_do (v := .pointer (some ⟨g2, 0, none⟩)) hA rfl rfl rfl (d_field ExO_fld_53_0 rfl rfl) ?_
 intro a hA
 refine seq_do hA rfl rfl rfl (d_load1 hS ExO_is1_4 rfl 1 rfl rfl) ?_
 intro a hA
 refine seq_do hA rfl rfl rfl (d_move rfl) ?_
 intro a hA
 refine seq_call hA rfl rfl rfl (enters_func  rfl rfl (fun w => by kernel_rfl)) (zsigned_any (b := true) (n := x.natAbs / d + 1) (z := (x / (d : Int))) ⟨(hS.rd 1 rfl), ho24.nocap, ho24.caps⟩ (sgn_qn hd hb h0)) ?_
 rintro _ w37 ⟨zo33, zc34, rfl, hs35, hb36⟩
 replace hS := hS.call hb36
 replace hS := hS.addR hs35.rd
 refine ⟨_, rfl, ?_⟩
 intro a hA
 refine seq_do hA rfl rfl rfl (d_move rfl) ?_
 intro a hA
 refine seq_store (us := [.bool ((rb ((x / (d : Int))))), .slice zo33 ((words ((x / (d : Int))).natAbs).length) zc34]) hA hS rfl rfl (sets_store rfl rfl rfl (by kernel_rfl) hS 0 rfl rfl rfl) 0 rfl rfl rfl rfl ?_
 intro w38 hS
 refine seq_do hA rfl rfl rfl (d_assign rfl) ?_
 intro a hA
 refine seq_end ?_
 refine hK32 _ _ ?_
 refine wp_ret ?_
 refine hret _ _ ?_
 refine ends (v := .tuple #[.agg #[.bool ((rb ((x / (d : Int))))), .slice zo33 ((words ((x / (d : Int))).natAbs).length) zc34], .slice ro27 ((words (d - x.natAbs % d)).length) rc28]) hA rfl (.cons (res_cell hS ExO_isS_53 rfl 0 rfl (cs := [.bool ((rb ((x / (d : Int))))), .slice zo33 ((words ((x / (d : Int))).natAbs).length) zc34]) rfl rfl) (.cons (res_tmp rfl) .nil)) rfl ?_
 rw [show ((x % (d : Int)).toNat) = (d - x.natAbs % d) from by rw [(zq_neg1 hd hb h0).2]; first | rfl | (rw [h0]; rfl)]
 exact ⟨zo33, zc34, ro27, rc28, rfl, ⟨(hS.rd 0 rfl), hs35.nil, hs35.cap⟩, ⟨(hS.rd 1 rfl), ho29.nocap, ho29.caps⟩, hS.bel⟩
theorem zover_any {w : World} {x : Int} {d : Nat} {so : Option Addr} {soc : Nat} (hso : Sc w so soc (words x.natAbs)) {uo : Option Addr} {uoc : Nat} (huo : Sc w uo uoc (words d)) (lx : (words x.natAbs).length ≤ 40000) (ld : (words d).length ≤ 40000) (hd : d ≠ 0) : Calls Tryz.prog 62 #[.agg #[.bool (rb x), .slice so (words x.natAbs).length soc], .slice uo (words d).length uoc] w (AnsQR w (x / (d : Int)) (x % (d : Int)).toNat) := by
  cases hb : rb x with
  | false => exact zoverP_any hso huo lx ld hd hb
  | true =>
    by_cases h0 : x.natAbs % d = 0
    · exact zoverZ_any hso huo lx ld hd hb h0
    · exact zoverN_any hso huo lx ld hd hb h0
theorem wantR1_any {w : World} {q : Q6} {a1 a2 a3 a4 : Option Addr} {ac1 ac2 ac3 ac4 : Nat} (ha : Nm w q a1 ac1 a2 ac2 a3 ac3 a4 ac4) (hl : LenQ q) {g : Nat} (hg : Blk w g [.bool q.b1, .slice a1 q.t1.length ac1, .slice a2 q.q1.length ac2, .bool q.b2, .slice a3 q.t2.length ac3, .slice a4 q.q2.length ac4]) {r : Int} (hr : wantR1 q = r) : Calls Tryz.prog 42 #[.slice (some ⟨g, 0, none⟩) 1 1] w fun e w' => e = .returned (.int .i64 r) ∧ Below w.heap.size w w' := by
 have hS : St w w [] [(a4, q.q2), (a3, q.t2), (a2, q.q1), (a1, q.t1)] [] := ((((St.start w).addR ha.s1.rd).addR ha.s2.rd).addR ha.s3.rd).addR ha.s4.rd
 refine walk_of (l := [(0, .slice (some ⟨g, 0, none⟩) 1 1)]) Tryz.func42 rfl Tryz.ntmps42 rfl rfl ?_
 intro Q hret hnorm hP a hA
 refine wp_seq_k (fun K1 hK1 => ?_)
 refine wp_region_lit ?_
 refine seq_do hA rfl rfl rfl (d_assign rfl) ?_
 intro a hA
 refine seq_end ?_
 refine hK1 _ _ ?_
 refine wp_seq_k (fun K2 hK2 => ?_)
 refine wp_seq_k (fun K3 hK3 => ?_)
 refine wp_region_lit ?_
 refine seq_do hA rfl rfl rfl (d_move rfl) ?_
 intro a hA
 refine seq_do (v := .int .i64 1) hA rfl rfl rfl (d_len Tryz.underlying97 rfl) ?_
 intro a hA
 refine seq_do hA rfl rfl rfl (d_move rfl) ?_
 intro a hA
 refine seq_end ?_
 refine hK3 _ _ ?_
 refine wp_block ?_
 refine wp_loop_rounds 12 ?_
 refine rounds_k (fun K4 hK4 => ?_)
 refine wp_seq_k (fun K5 hK5 => ?_)
 refine wp_region_lit ?_
 refine seq_do (v := .bool true) hA rfl rfl rfl (d_bin rfl rfl (fun w => by kernel_rfl)) ?_
 intro a hA
 refine seq_end ?_
 refine hK5 _ _ ?_
 refine wp_seq_k (fun K6 hK6 => ?_)
 refine wp_cond_true (hA.ev rfl) ?_
 refine wp_skip ?_
 refine hK6 _ _ ?_
 refine wp_seq_k (fun K7 hK7 => ?_)
 refine wp_block ?_
 refine wp_seq_k (fun K8 hK8 => ?_)
 refine wp_region_lit ?_
 refine seq_do (v := .pointer (some ⟨g, 0, none⟩)) hA rfl rfl rfl (d_indexI rfl rfl (fun w => by kernel_rfl)) ?_
 intro a hA
 refine seq_do hA rfl rfl rfl (d_loadSF hS hg ExO_isS_26 rfl (cs := [.bool q.b1, .slice a1 q.t1.length ac1, .slice a2 q.q1.length ac2, .bool q.b2, .slice a3 q.t2.length ac3, .slice a4 q.q2.length ac4]) rfl rfl) ?_
 intro a hA
 refine seq_new (vs := [.bool false, .slice none 0 0, .slice none 0 0, .bool false, .slice none 0 0, .slice none 0 0]) (t := 26) hA hS rfl rfl rfl (fun g => .pointer (some ⟨g, 0, none⟩)) (d_alloc (z := .agg #[.bool false, .slice none 0 0, .slice none 0 0, .bool false, .slice none 0 0, .slice none 0 0]) (by kernel_rfl) rfl) rfl ?_
 intro g9 w10 hS a hA
 refine seq_store (us := [.bool q.b1, .slice a1 q.t1.length ac1, .slice a2 q.q1.length ac2, .bool q.b2, .slice a3 q.t2.length ac3, .slice a4 q.q2.length ac4]) hA hS rfl rfl (sets_store rfl rfl rfl (by kernel_rfl) hS 0 rfl rfl rfl) 0 rfl rfl rfl rfl ?_
 intro w11 hS
 refine seq_end ?_
 refine hK8 _ _ ?_
 refine wp_seq_k (fun K12 hK12 => ?_)
 refine wp_region_lit ?_
 refine seq_do hA rfl rfl rfl (d_loadS hS ExO_isS_26 rfl 0 rfl (cs := [.bool q.b1, .slice a1 q.t1.length ac1, .slice a2 q.q1.length ac2, .bool q.b2, .slice a3 q.t2.length ac3, .slice a4 q.q2.length ac4]) rfl rfl) ?_
 intro a hA
 rcases Bool.eq_false_or_eq_true (soundQ q) with hb13 | hb13
 · refine seq_call hA rfl rfl rfl (enters_func  rfl rfl (fun w => by kernel_rfl)) (soundQ_any (show Nm _ _ a1 ac1 a2 ac2 a3 ac3 a4 ac4 from ⟨⟨(hS.rd 3 rfl), ha.s1.nil, ha.s1.cap⟩, ⟨(hS.rd 2 rfl), ha.s2.nil, ha.s2.cap⟩, ⟨(hS.rd 1 rfl), ha.s3.nil, ha.s3.cap⟩, ⟨(hS.rd 0 rfl), ha.s4.nil, ha.s4.cap⟩⟩) hl hb13) ?_
   rintro _ w15 ⟨rfl, hb14⟩
   replace hS := hS.call hb14
   refine ⟨_, rfl, ?_⟩
   intro a hA
   refine seq_do (v := .bool false) hA rfl rfl rfl (d_un rfl un_not) ?_
   intro a hA
   refine seq_end ?_
   refine hK12 _ _ ?_
   refine wp_cond_false (hA.ev rfl) ?_
   refine wp_skip ?_
   refine hK7 _ _ ?_
   refine wp_region_lit ?_
   refine seq_do (v := .int .i64 1) hA rfl rfl rfl (d_bin rfl rfl (fun w => by kernel_rfl)) ?_
   intro a hA
   refine seq_do hA rfl rfl rfl (d_move rfl) ?_
   intro a hA
   refine seq_end ?_
   refine hK4 _ _ ?_
   refine rounds_k (fun K16 hK16 => ?_)
   refine wp_seq_k (fun K17 hK17 => ?_)
   refine wp_region_lit ?_
   refine seq_do (v := .bool false) hA rfl rfl rfl (d_bin rfl rfl (fun w => by kernel_rfl)) ?_
   intro a hA
   refine seq_end ?_
   refine hK17 _ _ ?_
   refine wp_seq_k (fun K18 hK18 => ?_)
   refine wp_cond_false (hA.ev rfl) ?_
   refine wp_exit ?_
   refine hK2 _ _ ?_
   refine wp_seq_k (fun K19 hK19 => ?_)
   refine wp_seq_k (fun K20 hK20 => ?_)
   refine wp_region_lit ?_
   refine seq_do hA rfl rfl rfl (d_move rfl) ?_
   intro a hA
   refine seq_do (v := .int .i64 1) hA rfl rfl rfl (d_len Tryz.underlying97 rfl) ?_
   intro a hA
   refine seq_do hA rfl rfl rfl (d_move rfl) ?_
   intro a hA
   refine seq_end ?_
   refine hK20 _ _ ?_
   refine wp_block ?_
   refine wp_loop_rounds 12 ?_
   refine rounds_k (fun K21 hK21 => ?_)
   refine wp_seq_k (fun K22 hK22 => ?_)
   refine wp_region_lit ?_
   refine seq_do (v := .bool true) hA rfl rfl rfl (d_bin rfl rfl (fun w => by kernel_rfl)) ?_
   intro a hA
   refine seq_end ?_
   refine hK22 _ _ ?_
   refine wp_seq_k (fun K23 hK23 => ?_)
   refine wp_cond_true (hA.ev rfl) ?_
   refine wp_skip ?_
   refine hK23 _ _ ?_
   refine wp_seq_k (fun K24 hK24 => ?_)
   refine wp_block ?_
   refine wp_seq_k (fun K25 hK25 => ?_)
   refine wp_region_lit ?_
   refine seq_do (v := .pointer (some ⟨g, 0, none⟩)) hA rfl rfl rfl (d_indexI rfl rfl (fun w => by kernel_rfl)) ?_
   intro a hA
   refine seq_do hA rfl rfl rfl (d_loadSF hS hg ExO_isS_26 rfl (cs := [.bool q.b1, .slice a1 q.t1.length ac1, .slice a2 q.q1.length ac2, .bool q.b2, .slice a3 q.t2.length ac3, .slice a4 q.q2.length ac4]) rfl rfl) ?_
   intro a hA
   refine seq_new (vs := [.bool false, .slice none 0 0, .slice none 0 0, .bool false, .slice none 0 0, .slice none 0 0]) (t := 26) hA hS rfl rfl rfl (fun g => .pointer (some ⟨g, 0, none⟩)) (d_alloc (z := .agg #[.bool false, .slice none 0 0, .slice none 0 0, .bool false, .slice none 0 0, .slice none 0 0]) (by kernel_rfl) rfl) rfl ?_
   intro g26 w27 hS a hA
   refine seq_store (us := [.bool q.b1, .slice a1 q.t1.length ac1, .slice a2 q.q1.length ac2, .bool q.b2, .slice a3 q.t2.length ac3, .slice a4 q.q2.length ac4]) hA hS rfl rfl (sets_store rfl rfl rfl (by kernel_rfl) hS 0 rfl rfl rfl) 0 rfl rfl rfl rfl ?_
   intro w28 hS
   refine seq_end ?_
   refine hK25 _ _ ?_
   refine wp_seq_k (fun K29 hK29 => ?_)
   refine wp_region_lit ?_
   refine seq_do hA rfl rfl rfl (d_loadS hS ExO_isS_26 rfl 0 rfl (cs := [.bool q.b1, .slice a1 q.t1.length ac1, .slice a2 q.q1.length ac2, .bool q.b2, .slice a3 q.t2.length ac3, .slice a4 q.q2.length ac4]) rfl rfl) ?_
   intro a hA
   rcases Bool.eq_false_or_eq_true (decide (q.t2.length = 0)) with hb30 | hb30
   · have hb30' := of_decide_eq_true hb30
     refine seq_call hA rfl rfl rfl (enters_func  rfl rfl (fun w => by kernel_rfl)) (isRealQ_any (q := q) hl hb30) ?_
     rintro _ w32 ⟨rfl, hb31⟩
     replace hS := hS.call hb31
     refine ⟨_, rfl, ?_⟩
     intro a hA
     refine seq_do (v := .bool false) hA rfl rfl rfl (d_un rfl un_not) ?_
     intro a hA
     refine seq_end ?_
     refine hK29 _ _ ?_
     refine wp_cond_false (hA.ev rfl) ?_
     refine wp_skip ?_
     refine hK24 _ _ ?_
     refine wp_region_lit ?_
     refine seq_do (v := .int .i64 1) hA rfl rfl rfl (d_bin rfl rfl (fun w => by kernel_rfl)) ?_
     intro a hA
     refine seq_do hA rfl rfl rfl (d_move rfl) ?_
     intro a hA
     refine seq_end ?_
     refine hK21 _ _ ?_
     refine rounds_k (fun K33 hK33 => ?_)
     refine wp_seq_k (fun K34 hK34 => ?_)
     refine wp_region_lit ?_
     refine seq_do (v := .bool false) hA rfl rfl rfl (d_bin rfl rfl (fun w => by kernel_rfl)) ?_
     intro a hA
     refine seq_end ?_
     refine hK34 _ _ ?_
     refine wp_seq_k (fun K35 hK35 => ?_)
     refine wp_cond_false (hA.ev rfl) ?_
     refine wp_exit ?_
     refine hK19 _ _ ?_
     refine wp_seq_k (fun K36 hK36 => ?_)
     refine wp_region_lit ?_
     refine seq_do hA rfl rfl rfl (d_assign rfl) ?_
     intro a hA
     refine seq_end ?_
     refine hK36 _ _ ?_
     refine wp_ret ?_
     refine hret _ _ ?_
     refine ends (v := .int .i64 0) hA rfl (.cons (res_tmp rfl) .nil) rfl ?_
     subst hr
     have f1 := of_decide_eq_true hb30
     exact ⟨by simp [wantR1, hb13, f1], hS.bel⟩
   · have hb30' := of_decide_eq_false hb30
     refine seq_call hA rfl rfl rfl (enters_func  rfl rfl (fun w => by kernel_rfl)) (isRealQ_any (q := q) hl hb30) ?_
     rintro _ w38 ⟨rfl, hb37⟩
     replace hS := hS.call hb37
     refine ⟨_, rfl, ?_⟩
     intro a hA
     refine seq_do (v := .bool true) hA rfl rfl rfl (d_un rfl un_not) ?_
     intro a hA
     refine seq_end ?_
     refine hK29 _ _ ?_
     refine wp_cond_true (hA.ev rfl) ?_
     refine wp_seq_k (fun K39 hK39 => ?_)
     refine wp_region_lit ?_
     refine seq_do hA rfl rfl rfl (d_assign rfl) ?_
     intro a hA
     refine seq_end ?_
     refine hK39 _ _ ?_
     refine wp_ret ?_
     refine hret _ _ ?_
     refine ends (v := .int .i64 10) hA rfl (.cons (res_tmp rfl) .nil) rfl ?_
     subst hr
     have f1 := of_decide_eq_false hb30
     exact ⟨by simp [wantR1, hb13, f1], hS.bel⟩
 · refine seq_call hA rfl rfl rfl (enters_func  rfl rfl (fun w => by kernel_rfl)) (soundQ_any (show Nm _ _ a1 ac1 a2 ac2 a3 ac3 a4 ac4 from ⟨⟨(hS.rd 3 rfl), ha.s1.nil, ha.s1.cap⟩, ⟨(hS.rd 2 rfl), ha.s2.nil, ha.s2.cap⟩, ⟨(hS.rd 1 rfl), ha.s3.nil, ha.s3.cap⟩, ⟨(hS.rd 0 rfl), ha.s4.nil, ha.s4.cap⟩⟩) hl hb13) ?_
   rintro _ w41 ⟨rfl, hb40⟩
   replace hS := hS.call hb40
   refine ⟨_, rfl, ?_⟩
   intro a hA
   refine seq_do (v := .bool true) hA rfl rfl rfl (d_un rfl un_not) ?_
   intro a hA
   refine seq_end ?_
   refine hK12 _ _ ?_
   refine wp_cond_true (hA.ev rfl) ?_
   refine wp_seq_k (fun K42 hK42 => ?_)
   refine wp_region_lit ?_
   refine seq_do hA rfl rfl rfl (d_assign rfl) ?_
   intro a hA
   refine seq_end ?_
   refine hK42 _ _ ?_
   refine wp_ret ?_
   refine hret _ _ ?_
   refine ends (v := .int .i64 2) hA rfl (.cons (res_tmp rfl) .nil) rfl ?_
   subst hr
   exact ⟨by simp [wantR1, hb13], hS.bel⟩
theorem wantR2_any {w : World} {p : Q6} {a1 a2 a3 a4 : Option Addr} {ac1 ac2 ac3 ac4 : Nat} (ha : Nm w p a1 ac1 a2 ac2 a3 ac3 a4 ac4) (hl : LenQ p) {q : Q6} {b1 b2 b3 b4 : Option Addr} {bc1 bc2 bc3 bc4 : Nat} (hb : Nm w q b1 bc1 b2 bc2 b3 bc3 b4 bc4) (hm : LenQ q) {g : Nat} (hg : Blk w g [.bool p.b1, .slice a1 p.t1.length ac1, .slice a2 p.q1.length ac2, .bool p.b2, .slice a3 p.t2.length ac3, .slice a4 p.q2.length ac4, .bool q.b1, .slice b1 q.t1.length bc1, .slice b2 q.q1.length bc2, .bool q.b2, .slice b3 q.t2.length bc3, .slice b4 q.q2.length bc4]) {r : Int} (hr : wantR2 p q = r) : Calls Tryz.prog 42 #[.slice (some ⟨g, 0, none⟩) 2 2] w fun e w' => e = .returned (.int .i64 r) ∧ Below w.heap.size w w' := by
 have hS : St w w [] [(b4, q.q2), (b3, q.t2), (b2, q.q1), (b1, q.t1), (a4, p.q2), (a3, p.t2), (a2, p.q1), (a1, p.t1)] [] := ((((((((St.start w).addR ha.s1.rd).addR ha.s2.rd).addR ha.s3.rd).addR ha.s4.rd).addR hb.s1.rd).addR hb.s2.rd).addR hb.s3.rd).addR hb.s4.rd
 refine walk_of (l := [(0, .slice (some ⟨g, 0, none⟩) 2 2)]) Tryz.func42 rfl Tryz.ntmps42 rfl rfl ?_
 intro Q hret hnorm hP a hA
 refine wp_seq_k (fun K1 hK1 => ?_)
 refine wp_region_lit ?_
 refine seq_do hA rfl rfl rfl (d_assign rfl) ?_
 intro a hA
 refine seq_end ?_
 refine hK1 _ _ ?_
 refine wp_seq_k (fun K2 hK2 => ?_)
 refine wp_seq_k (fun K3 hK3 => ?_)
 refine wp_region_lit ?_
 refine seq_do hA rfl rfl rfl (d_move rfl) ?_
 intro a hA
 refine seq_do (v := .int .i64 2) hA rfl rfl rfl (d_len Tryz.underlying97 rfl) ?_
 intro a hA
 refine seq_do hA rfl rfl rfl (d_move rfl) ?_
 intro a hA
 refine seq_end ?_
 refine hK3 _ _ ?_
 refine wp_block ?_
 refine wp_loop_rounds 12 ?_
 refine rounds_k (fun K4 hK4 => ?_)
 refine wp_seq_k (fun K5 hK5 => ?_)
 refine wp_region_lit ?_
 refine seq_do (v := .bool true) hA rfl rfl rfl (d_bin rfl rfl (fun w => by kernel_rfl)) ?_
 intro a hA
 refine seq_end ?_
 refine hK5 _ _ ?_
 refine wp_seq_k (fun K6 hK6 => ?_)
 refine wp_cond_true (hA.ev rfl) ?_
 refine wp_skip ?_
 refine hK6 _ _ ?_
 refine wp_seq_k (fun K7 hK7 => ?_)
 refine wp_block ?_
 refine wp_seq_k (fun K8 hK8 => ?_)
 refine wp_region_lit ?_
 refine seq_do (v := .pointer (some ⟨g, 0, none⟩)) hA rfl rfl rfl (d_indexI rfl rfl (fun w => by kernel_rfl)) ?_
 intro a hA
 refine seq_do hA rfl rfl rfl (d_loadSF hS hg ExO_isS_26 rfl (cs := [.bool p.b1, .slice a1 p.t1.length ac1, .slice a2 p.q1.length ac2, .bool p.b2, .slice a3 p.t2.length ac3, .slice a4 p.q2.length ac4]) rfl rfl) ?_
 intro a hA
 refine seq_new (vs := [.bool false, .slice none 0 0, .slice none 0 0, .bool false, .slice none 0 0, .slice none 0 0]) (t := 26) hA hS rfl rfl rfl (fun g => .pointer (some ⟨g, 0, none⟩)) (d_alloc (z := .agg #[.bool false, .slice none 0 0, .slice none 0 0, .bool false, .slice none 0 0, .slice none 0 0]) (by kernel_rfl) rfl) rfl ?_
 intro g9 w10 hS a hA
 refine seq_store (us := [.bool p.b1, .slice a1 p.t1.length ac1, .slice a2 p.q1.length ac2, .bool p.b2, .slice a3 p.t2.length ac3, .slice a4 p.q2.length ac4]) hA hS rfl rfl (sets_store rfl rfl rfl (by kernel_rfl) hS 0 rfl rfl rfl) 0 rfl rfl rfl rfl ?_
 intro w11 hS
 refine seq_end ?_
 refine hK8 _ _ ?_
 refine wp_seq_k (fun K12 hK12 => ?_)
 refine wp_region_lit ?_
 refine seq_do hA rfl rfl rfl (d_loadS hS ExO_isS_26 rfl 0 rfl (cs := [.bool p.b1, .slice a1 p.t1.length ac1, .slice a2 p.q1.length ac2, .bool p.b2, .slice a3 p.t2.length ac3, .slice a4 p.q2.length ac4]) rfl rfl) ?_
 intro a hA
 rcases Bool.eq_false_or_eq_true (soundQ p) with hb13 | hb13
 · refine seq_call hA rfl rfl rfl (enters_func  rfl rfl (fun w => by kernel_rfl)) (soundQ_any (show Nm _ _ a1 ac1 a2 ac2 a3 ac3 a4 ac4 from ⟨⟨(hS.rd 7 rfl), ha.s1.nil, ha.s1.cap⟩, ⟨(hS.rd 6 rfl), ha.s2.nil, ha.s2.cap⟩, ⟨(hS.rd 5 rfl), ha.s3.nil, ha.s3.cap⟩, ⟨(hS.rd 4 rfl), ha.s4.nil, ha.s4.cap⟩⟩) hl hb13) ?_
   rintro _ w15 ⟨rfl, hb14⟩
   replace hS := hS.call hb14
   refine ⟨_, rfl, ?_⟩
   intro a hA
   refine seq_do (v := .bool false) hA rfl rfl rfl (d_un rfl un_not) ?_
   intro a hA
   refine seq_end ?_
   refine hK12 _ _ ?_
   refine wp_cond_false (hA.ev rfl) ?_
   refine wp_skip ?_
   refine hK7 _ _ ?_
   refine wp_region_lit ?_
   refine seq_do (v := .int .i64 1) hA rfl rfl rfl (d_bin rfl rfl (fun w => by kernel_rfl)) ?_
   intro a hA
   refine seq_do hA rfl rfl rfl (d_move rfl) ?_
   intro a hA
   refine seq_end ?_
   refine hK4 _ _ ?_
   refine rounds_k (fun K16 hK16 => ?_)
   refine wp_seq_k (fun K17 hK17 => ?_)
   refine wp_region_lit ?_
   refine seq_do (v := .bool true) hA rfl rfl rfl (d_bin rfl rfl (fun w => by kernel_rfl)) ?_
   intro a hA
   refine seq_end ?_
   refine hK17 _ _ ?_
   refine wp_seq_k (fun K18 hK18 => ?_)
   refine wp_cond_true (hA.ev rfl) ?_
   refine wp_skip ?_
   refine hK18 _ _ ?_
   refine wp_seq_k (fun K19 hK19 => ?_)
   refine wp_block ?_
   refine wp_seq_k (fun K20 hK20 => ?_)
   refine wp_region_lit ?_
   refine seq_do (v := .pointer (some ⟨g, 6, none⟩)) hA rfl rfl rfl (d_indexI rfl rfl (fun w => by kernel_rfl)) ?_
   intro a hA
   refine seq_do hA rfl rfl rfl (d_loadSF hS hg ExO_isS_26 rfl (cs := [.bool q.b1, .slice b1 q.t1.length bc1, .slice b2 q.q1.length bc2, .bool q.b2, .slice b3 q.t2.length bc3, .slice b4 q.q2.length bc4]) rfl rfl) ?_
   intro a hA
   refine seq_new (vs := [.bool false, .slice none 0 0, .slice none 0 0, .bool false, .slice none 0 0, .slice none 0 0]) (t := 26) hA hS rfl rfl rfl (fun g => .pointer (some ⟨g, 0, none⟩)) (d_alloc (z := .agg #[.bool false, .slice none 0 0, .slice none 0 0, .bool false, .slice none 0 0, .slice none 0 0]) (by kernel_rfl) rfl) rfl ?_
   intro g21 w22 hS a hA
   refine seq_store (us := [.bool q.b1, .slice b1 q.t1.length bc1, .slice b2 q.q1.length bc2, .bool q.b2, .slice b3 q.t2.length bc3, .slice b4 q.q2.length bc4]) hA hS rfl rfl (sets_store rfl rfl rfl (by kernel_rfl) hS 0 rfl rfl rfl) 0 rfl rfl rfl rfl ?_
   intro w23 hS
   refine seq_end ?_
   refine hK20 _ _ ?_
   refine wp_seq_k (fun K24 hK24 => ?_)
   refine wp_region_lit ?_
   refine seq_do hA rfl rfl rfl (d_loadS hS ExO_isS_26 rfl 0 rfl (cs := [.bool q.b1, .slice b1 q.t1.length bc1, .slice b2 q.q1.length bc2, .bool q.b2, .slice b3 q.t2.length bc3, .slice b4 q.q2.length bc4]) rfl rfl) ?_
   intro a hA
   rcases Bool.eq_false_or_eq_true (soundQ q) with hb25 | hb25
   · refine seq_call hA rfl rfl rfl (enters_func  rfl rfl (fun w => by kernel_rfl)) (soundQ_any (show Nm _ _ b1 bc1 b2 bc2 b3 bc3 b4 bc4 from ⟨⟨(hS.rd 3 rfl), hb.s1.nil, hb.s1.cap⟩, ⟨(hS.rd 2 rfl), hb.s2.nil, hb.s2.cap⟩, ⟨(hS.rd 1 rfl), hb.s3.nil, hb.s3.cap⟩, ⟨(hS.rd 0 rfl), hb.s4.nil, hb.s4.cap⟩⟩) hm hb25) ?_
     rintro _ w27 ⟨rfl, hb26⟩
     replace hS := hS.call hb26
     refine ⟨_, rfl, ?_⟩
     intro a hA
     refine seq_do (v := .bool false) hA rfl rfl rfl (d_un rfl un_not) ?_
     intro a hA
     refine seq_end ?_
     refine hK24 _ _ ?_
     refine wp_cond_false (hA.ev rfl) ?_
     refine wp_skip ?_
     refine hK19 _ _ ?_
     refine wp_region_lit ?_
     refine seq_do (v := .int .i64 2) hA rfl rfl rfl (d_bin rfl rfl (fun w => by kernel_rfl)) ?_
     intro a hA
     refine seq_do hA rfl rfl rfl (d_move rfl) ?_
     intro a hA
     refine seq_end ?_
     refine hK16 _ _ ?_
     refine rounds_k (fun K28 hK28 => ?_)
     refine wp_seq_k (fun K29 hK29 => ?_)
     refine wp_region_lit ?_
     refine seq_do (v := .bool false) hA rfl rfl rfl (d_bin rfl rfl (fun w => by kernel_rfl)) ?_
     intro a hA
     refine seq_end ?_
     refine hK29 _ _ ?_
     refine wp_seq_k (fun K30 hK30 => ?_)
     refine wp_cond_false (hA.ev rfl) ?_
     refine wp_exit ?_
     refine hK2 _ _ ?_
     refine wp_seq_k (fun K31 hK31 => ?_)
     refine wp_seq_k (fun K32 hK32 => ?_)
     refine wp_region_lit ?_
     refine seq_do hA rfl rfl rfl (d_move rfl) ?_
     intro a hA
     refine seq_do (v := .int .i64 2) hA rfl rfl rfl (d_len Tryz.underlying97 rfl) ?_
     intro a hA
     refine seq_do hA rfl rfl rfl (d_move rfl) ?_
     intro a hA
     refine seq_end ?_
     refine hK32 _ _ ?_
     refine wp_block ?_
     refine wp_loop_rounds 12 ?_
     refine rounds_k (fun K33 hK33 => ?_)
     refine wp_seq_k (fun K34 hK34 => ?_)
     refine wp_region_lit ?_
     refine seq_do (v := .bool true) hA rfl rfl rfl (d_bin rfl rfl (fun w => by kernel_rfl)) ?_
     intro a hA
     refine seq_end ?_
     refine hK34 _ _ ?_
     refine wp_seq_k (fun K35 hK35 => ?_)
     refine wp_cond_true (hA.ev rfl) ?_
     refine wp_skip ?_
     refine hK35 _ _ ?_
     refine wp_seq_k (fun K36 hK36 => ?_)
     refine wp_block ?_
     refine wp_seq_k (fun K37 hK37 => ?_)
     refine wp_region_lit ?_
     refine seq_do (v := .pointer (some ⟨g, 0, none⟩)) hA rfl rfl rfl (d_indexI rfl rfl (fun w => by kernel_rfl)) ?_
     intro a hA
     refine seq_do hA rfl rfl rfl (d_loadSF hS hg ExO_isS_26 rfl (cs := [.bool p.b1, .slice a1 p.t1.length ac1, .slice a2 p.q1.length ac2, .bool p.b2, .slice a3 p.t2.length ac3, .slice a4 p.q2.length ac4]) rfl rfl) ?_
     intro a hA
     refine seq_new (vs := [.bool false, .slice none 0 0, .slice none 0 0, .bool false, .slice none 0 0, .slice none 0 0]) (t := 26) hA hS rfl rfl rfl (fun g => .pointer (some ⟨g, 0, none⟩)) (d_alloc (z := .agg #[.bool false, .slice none 0 0, .slice none 0 0, .bool false, .slice none 0 0, .slice none 0 0]) (by kernel_rfl) rfl) rfl ?_
     intro g38 w39 hS a hA
     refine seq_store (us := [.bool p.b1, .slice a1 p.t1.length ac1, .slice a2 p.q1.length ac2, .bool p.b2, .slice a3 p.t2.length ac3, .slice a4 p.q2.length ac4]) hA hS rfl rfl (sets_store rfl rfl rfl (by kernel_rfl) hS 0 rfl rfl rfl) 0 rfl rfl rfl rfl ?_
     intro w40 hS
     refine seq_end ?_
     refine hK37 _ _ ?_
     refine wp_seq_k (fun K41 hK41 => ?_)
     refine wp_region_lit ?_
     refine seq_do hA rfl rfl rfl (d_loadS hS ExO_isS_26 rfl 0 rfl (cs := [.bool p.b1, .slice a1 p.t1.length ac1, .slice a2 p.q1.length ac2, .bool p.b2, .slice a3 p.t2.length ac3, .slice a4 p.q2.length ac4]) rfl rfl) ?_
     intro a hA
     rcases Bool.eq_false_or_eq_true (decide (p.t2.length = 0)) with hb42 | hb42
     · have hb42' := of_decide_eq_true hb42
       refine seq_call hA rfl rfl rfl (enters_func  rfl rfl (fun w => by kernel_rfl)) (isRealQ_any (q := p) hl hb42) ?_
       rintro _ w44 ⟨rfl, hb43⟩
       replace hS := hS.call hb43
       refine ⟨_, rfl, ?_⟩
       intro a hA
       refine seq_do (v := .bool false) hA rfl rfl rfl (d_un rfl un_not) ?_
       intro a hA
       refine seq_end ?_
       refine hK41 _ _ ?_
       refine wp_cond_false (hA.ev rfl) ?_
       refine wp_skip ?_
       refine hK36 _ _ ?_
       refine wp_region_lit ?_
       refine seq_do (v := .int .i64 1) hA rfl rfl rfl (d_bin rfl rfl (fun w => by kernel_rfl)) ?_
       intro a hA
       refine seq_do hA rfl rfl rfl (d_move rfl) ?_
       intro a hA
       refine seq_end ?_
       refine hK33 _ _ ?_
       refine rounds_k (fun K45 hK45 => ?_)
       refine wp_seq_k (fun K46 hK46 => ?_)
       refine wp_region_lit ?_
       refine seq_do (v := .bool true) hA rfl rfl rfl (d_bin rfl rfl (fun w => by kernel_rfl)) ?_
       intro a hA
       refine seq_end ?_
       refine hK46 _ _ ?_
       refine wp_seq_k (fun K47 hK47 => ?_)
       refine wp_cond_true (hA.ev rfl) ?_
       refine wp_skip ?_
       refine hK47 _ _ ?_
       refine wp_seq_k (fun K48 hK48 => ?_)
       refine wp_block ?_
       refine wp_seq_k (fun K49 hK49 => ?_)
       refine wp_region_lit ?_
       refine seq_do (v := .pointer (some ⟨g, 6, none⟩)) hA rfl rfl rfl (d_indexI rfl rfl (fun w => by kernel_rfl)) ?_
       intro a hA
       refine seq_do hA rfl rfl rfl (d_loadSF hS hg ExO_isS_26 rfl (cs := [.bool q.b1, .slice b1 q.t1.length bc1, .slice b2 q.q1.length bc2, .bool q.b2, .slice b3 q.t2.length bc3, .slice b4 q.q2.length bc4]) rfl rfl) ?_
       intro a hA
       refine seq_new (vs := [.bool false, .slice none 0 0, .slice none 0 0, .bool false, .slice none 0 0, .slice none 0 0]) (t := 26) hA hS rfl rfl rfl (fun g => .pointer (some ⟨g, 0, none⟩)) (d_alloc (z := .agg #[.bool false, .slice none 0 0, .slice none 0 0, .bool false, .slice none 0 0, .slice none 0 0]) (by kernel_rfl) rfl) rfl ?_
       intro g50 w51 hS a hA
       refine seq_store (us := [.bool q.b1, .slice b1 q.t1.length bc1, .slice b2 q.q1.length bc2, .bool q.b2, .slice b3 q.t2.length bc3, .slice b4 q.q2.length bc4]) hA hS rfl rfl (sets_store rfl rfl rfl (by kernel_rfl) hS 0 rfl rfl rfl) 0 rfl rfl rfl rfl ?_
       intro w52 hS
       refine seq_end ?_
       refine hK49 _ _ ?_
       refine wp_seq_k (fun K53 hK53 => ?_)
       refine wp_region_lit ?_
       refine seq_do hA rfl rfl rfl (d_loadS hS ExO_isS_26 rfl 0 rfl (cs := [.bool q.b1, .slice b1 q.t1.length bc1, .slice b2 q.q1.length bc2, .bool q.b2, .slice b3 q.t2.length bc3, .slice b4 q.q2.length bc4]) rfl rfl) ?_
       intro a hA
       rcases Bool.eq_false_or_eq_true (decide (q.t2.length = 0)) with hb54 | hb54
       · have hb54' := of_decide_eq_true hb54
         refine seq_call hA rfl rfl rfl (enters_func  rfl rfl (fun w => by kernel_rfl)) (isRealQ_any (q := q) hm hb54) ?_
         rintro _ w56 ⟨rfl, hb55⟩
         replace hS := hS.call hb55
         refine ⟨_, rfl, ?_⟩
         intro a hA
         refine seq_do (v := .bool false) hA rfl rfl rfl (d_un rfl un_not) ?_
         intro a hA
         refine seq_end ?_
         refine hK53 _ _ ?_
         refine wp_cond_false (hA.ev rfl) ?_
         refine wp_skip ?_
         refine hK48 _ _ ?_
         refine wp_region_lit ?_
         refine seq_do (v := .int .i64 2) hA rfl rfl rfl (d_bin rfl rfl (fun w => by kernel_rfl)) ?_
         intro a hA
         refine seq_do hA rfl rfl rfl (d_move rfl) ?_
         intro a hA
         refine seq_end ?_
         refine hK45 _ _ ?_
         refine rounds_k (fun K57 hK57 => ?_)
         refine wp_seq_k (fun K58 hK58 => ?_)
         refine wp_region_lit ?_
         refine seq_do (v := .bool false) hA rfl rfl rfl (d_bin rfl rfl (fun w => by kernel_rfl)) ?_
         intro a hA
         refine seq_end ?_
         refine hK58 _ _ ?_
         refine wp_seq_k (fun K59 hK59 => ?_)
         refine wp_cond_false (hA.ev rfl) ?_
         refine wp_exit ?_
         refine hK31 _ _ ?_
         refine wp_seq_k (fun K60 hK60 => ?_)
         refine wp_region_lit ?_
         refine seq_do hA rfl rfl rfl (d_assign rfl) ?_
         intro a hA
         refine seq_end ?_
         refine hK60 _ _ ?_
         refine wp_ret ?_
         refine hret _ _ ?_
         refine ends (v := .int .i64 0) hA rfl (.cons (res_tmp rfl) .nil) rfl ?_
         subst hr
         have f2 := of_decide_eq_true hb42
         have f3 := of_decide_eq_true hb54
         exact ⟨by simp [wantR2, hb13, hb25, f2, f3], hS.bel⟩
       · have hb54' := of_decide_eq_false hb54
         refine seq_call hA rfl rfl rfl (enters_func  rfl rfl (fun w => by kernel_rfl)) (isRealQ_any (q := q) hm hb54) ?_
         rintro _ w62 ⟨rfl, hb61⟩
         replace hS := hS.call hb61
         refine ⟨_, rfl, ?_⟩
         intro a hA
         refine seq_do (v := .bool true) hA rfl rfl rfl (d_un rfl un_not) ?_
         intro a hA
         refine seq_end ?_
         refine hK53 _ _ ?_
         refine wp_cond_true (hA.ev rfl) ?_
         refine wp_seq_k (fun K63 hK63 => ?_)
         refine wp_region_lit ?_
         refine seq_do hA rfl rfl rfl (d_assign rfl) ?_
         intro a hA
         refine seq_end ?_
         refine hK63 _ _ ?_
         refine wp_ret ?_
         refine hret _ _ ?_
         refine ends (v := .int .i64 10) hA rfl (.cons (res_tmp rfl) .nil) rfl ?_
         subst hr
         have f2 := of_decide_eq_true hb42
         have f3 := of_decide_eq_false hb54
         exact ⟨by simp [wantR2, hb13, hb25, f2, f3], hS.bel⟩
     · have hb42' := of_decide_eq_false hb42
       refine seq_call hA rfl rfl rfl (enters_func  rfl rfl (fun w => by kernel_rfl)) (isRealQ_any (q := p) hl hb42) ?_
       rintro _ w65 ⟨rfl, hb64⟩
       replace hS := hS.call hb64
       refine ⟨_, rfl, ?_⟩
       intro a hA
       refine seq_do (v := .bool true) hA rfl rfl rfl (d_un rfl un_not) ?_
       intro a hA
       refine seq_end ?_
       refine hK41 _ _ ?_
       refine wp_cond_true (hA.ev rfl) ?_
       refine wp_seq_k (fun K66 hK66 => ?_)
       refine wp_region_lit ?_
       refine seq_do hA rfl rfl rfl (d_assign rfl) ?_
       intro a hA
       refine seq_end ?_
       refine hK66 _ _ ?_
       refine wp_ret ?_
       refine hret _ _ ?_
       refine ends (v := .int .i64 10) hA rfl (.cons (res_tmp rfl) .nil) rfl ?_
       subst hr
       have f2 := of_decide_eq_false hb42
       exact ⟨by simp [wantR2, hb13, hb25, f2], hS.bel⟩
   · refine seq_call hA rfl rfl rfl (enters_func  rfl rfl (fun w => by kernel_rfl)) (soundQ_any (show Nm _ _ b1 bc1 b2 bc2 b3 bc3 b4 bc4 from ⟨⟨(hS.rd 3 rfl), hb.s1.nil, hb.s1.cap⟩, ⟨(hS.rd 2 rfl), hb.s2.nil, hb.s2.cap⟩, ⟨(hS.rd 1 rfl), hb.s3.nil, hb.s3.cap⟩, ⟨(hS.rd 0 rfl), hb.s4.nil, hb.s4.cap⟩⟩) hm hb25) ?_
     rintro _ w68 ⟨rfl, hb67⟩
     replace hS := hS.call hb67
     refine ⟨_, rfl, ?_⟩
     intro a hA
     refine seq_do (v := .bool true) hA rfl rfl rfl (d_un rfl un_not) ?_
     intro a hA
     refine seq_end ?_
     refine hK24 _ _ ?_
     refine wp_cond_true (hA.ev rfl) ?_
     refine wp_seq_k (fun K69 hK69 => ?_)
     refine wp_region_lit ?_
     refine seq_do hA rfl rfl rfl (d_assign rfl) ?_
     intro a hA
     refine seq_end ?_
     refine hK69 _ _ ?_
     refine wp_ret ?_
     refine hret _ _ ?_
     refine ends (v := .int .i64 2) hA rfl (.cons (res_tmp rfl) .nil) rfl ?_
     subst hr
     exact ⟨by simp [wantR2, hb13, hb25], hS.bel⟩
 · refine seq_call hA rfl rfl rfl (enters_func  rfl rfl (fun w => by kernel_rfl)) (soundQ_any (show Nm _ _ a1 ac1 a2 ac2 a3 ac3 a4 ac4 from ⟨⟨(hS.rd 7 rfl), ha.s1.nil, ha.s1.cap⟩, ⟨(hS.rd 6 rfl), ha.s2.nil, ha.s2.cap⟩, ⟨(hS.rd 5 rfl), ha.s3.nil, ha.s3.cap⟩, ⟨(hS.rd 4 rfl), ha.s4.nil, ha.s4.cap⟩⟩) hl hb13) ?_
   rintro _ w71 ⟨rfl, hb70⟩
   replace hS := hS.call hb70
   refine ⟨_, rfl, ?_⟩
   intro a hA
   refine seq_do (v := .bool true) hA rfl rfl rfl (d_un rfl un_not) ?_
   intro a hA
   refine seq_end ?_
   refine hK12 _ _ ?_
   refine wp_cond_true (hA.ev rfl) ?_
   refine wp_seq_k (fun K72 hK72 => ?_)
   refine wp_region_lit ?_
   refine seq_do hA rfl rfl rfl (d_assign rfl) ?_
   intro a hA
   refine seq_end ?_
   refine hK72 _ _ ?_
   refine wp_ret ?_
   refine hret _ _ ?_
   refine ends (v := .int .i64 2) hA rfl (.cons (res_tmp rfl) .nil) rfl ?_
   subst hr
   exact ⟨by simp [wantR2, hb13], hS.bel⟩
end Go.Proofs.YthlkbnhbmfmchaaGreat
namespace Go.Proofs.YthlkbnhbmfmchaaGreat
open Go.RowKit
set_option linter.unusedVariables false
set_option linter.unusedSimpArgs false
set_option maxRecDepth 100000
end Go.Proofs.YthlkbnhbmfmchaaGreat
namespace Go.Proofs.YthlkbnhbmfmchaaGreat
open Go.RowKit
set_option linter.unusedVariables false
set_option linter.unusedSimpArgs false
set_option maxRecDepth 100000
end Go.Proofs.YthlkbnhbmfmchaaGreat
namespace Go.Proofs.YthlkbnhbmfmchaaGreat
open Go.RowKit
set_option linter.unusedVariables false
set_option linter.unusedSimpArgs false
theorem dmT_sgn {x1 x2 : Int} {d1 d2 : Nat} : dmT x1 x2 d1 d2 * x2 = (x1 * (d2 : Int) / ((x2.natAbs * d1 : Nat) : Int)) * (x2.natAbs : Int) := by
  unfold dmT
  by_cases h : rb x2 = true
  · rw [if_pos h, abs_neg h, Int.neg_mul, Int.mul_neg]
  · have h' : rb x2 = false := by simpa using h
    rw [if_neg h, abs_nn h']
theorem dm_int {x1 x2 : Int} {d1 d2 : Nat} (h1 : d1 ≠ 0) (h2 : x2 ≠ 0) : dmT x1 x2 d1 d2 * x2 * (d1 : Int) + ((dmR x1 x2 d1 d2 : Nat) : Int) = x1 * (d2 : Int) ∧ ((dmR x1 x2 d1 d2 : Nat) : Int) < (x2.natAbs : Int) * (d1 : Int) := by
  have hn : ((x2.natAbs * d1 : Nat) : Int) ≠ 0 := by have := Nat.mul_ne_zero (show x2.natAbs ≠ 0 by omega) h1; omega
  have e : ((dmR x1 x2 d1 d2 : Nat) : Int) = x1 * (d2 : Int) % ((x2.natAbs * d1 : Nat) : Int) := Int.toNat_of_nonneg (Int.emod_nonneg _ hn)
  rw [e, dmT_sgn]
  constructor
  · have := Int.mul_ediv_add_emod (x1 * (d2 : Int)) ((x2.natAbs * d1 : Nat) : Int)
    rw [Int.mul_assoc, ← Int.natCast_mul, Int.mul_comm (x1 * (d2 : Int) / ((x2.natAbs * d1 : Nat) : Int))]
    exact this
  · rw [← Int.natCast_mul]
    exact Int.emod_lt_of_pos _ (by omega)
theorem dm_rat {x1 x2 : Int} {d1 d2 : Nat} (h1 : d1 ≠ 0) (h2 : d2 ≠ 0) (h : x2 ≠ 0) {u x : Rat} (hu : mkRat x1 d1 = u) (hx : mkRat x2 d2 = x) :
    ((dmT x1 x2 d1 d2 : Int) : Rat) * x + mkRat (dmR x1 x2 d1 d2) (d1 * d2) = u := by
  have e := (dm_int (x1 := x1) (d2 := d2) h1 h).1
  have e' := congrArg (fun z : Int => (z : Rat)) e
  simp only [Rat.intCast_add, Rat.intCast_mul] at e'
  have k1 : ((d1 : Nat) : Rat) ≠ 0 := by rw [Ne, Rat.natCast_eq_zero_iff]; exact h1
  have k2 : ((d2 : Nat) : Rat) ≠ 0 := by rw [Ne, Rat.natCast_eq_zero_iff]; exact h2
  subst hu hx
  rw [Rat.mkRat_eq_div, Rat.mkRat_eq_div, Rat.mkRat_eq_div, Rat.natCast_mul]
  simp only [← rat_nat_int] at e'
  generalize ((dmT x1 x2 d1 d2 : Int) : Rat) = T at *
  have e2 : (((dmR x1 x2 d1 d2 : Nat) : Int) : Rat) = ((dmR x1 x2 d1 d2 : Nat) : Rat) := rfl
  rw [e2]
  generalize ((dmR x1 x2 d1 d2 : Nat) : Rat) = R at *
  grind
def quoR (u x : Rat) : Int := dmT (spX u 0) (spX x 0) (spD u 0) (spD x 0)
def remR (u x : Rat) : Rat := mkRat (dmR (spX u 0) (spX x 0) (spD u 0) (spD x 0)) (spD u 0 * spD x 0)
def dmQ (p q : Q6) : Q6 × Q6 × Int :=
  if wantR2 p q = 0 then
    if reQ q = 0 then (Q6.zero, Q6.zero, 3) else dmS (ratS (mkRat (quoR (reQ p) (reQ q)) 1) 0) (ratS (remR (reQ p) (reQ q)) 0)
  else (Q6.zero, Q6.zero, wantR2 p q)
theorem spX_ne {x : Rat} (h : x ≠ 0) : spX x 0 ≠ 0 := fun e => by
  have := spX_mk x 0
  rw [e, Rat.zero_mkRat] at this
  exact h this.symm
theorem quo_rem {u x : Rat} (h : x ≠ 0) : mkRat (quoR u x) 1 * x + remR u x = u := by
  have := dm_rat (spD_ne u 0) (spD_ne x 0) (spX_ne h) (spX_mk u 0) (spX_mk x 0)
  rw [Rat.mkRat_one]
  exact this
end Go.Proofs.YthlkbnhbmfmchaaGreat
namespace Go.Proofs.YthlkbnhbmfmchaaGreat
open Go.RowKit
set_option linter.unusedVariables false
set_option linter.unusedSimpArgs false

def floR (u : Rat) : Int := u.num / (u.den : Int)
theorem mk_cross {x : Int} {d : Nat} (hd : d ≠ 0) {u : Rat} (hu : mkRat x d = u) : x * (u.den : Int) = u.num * (d : Int) := by
  have h : mkRat x d = mkRat u.num u.den := by rw [Rat.mkRat_self]; exact hu
  exact (Rat.mkRat_eq_iff hd u.den_nz).1 h
theorem floR_mk {x : Int} {d : Nat} (hd : d ≠ 0) {u : Rat} (hu : mkRat x d = u) : floR u = x / (d : Int) := by
  have hc := mk_cross hd hu
  have hn := u.den_nz
  have hp : (0 : Int) < (u.den : Int) := by omega
  have hdp : (0 : Int) < (d : Int) := by omega
  have e := Int.emod_add_mul_ediv u.num (u.den : Int)
  have r0 := Int.emod_nonneg u.num (show (u.den : Int) ≠ 0 by omega)
  have r1 := Int.emod_lt_of_pos u.num hp
  unfold floR
  generalize u.num / (u.den : Int) = q at e
  generalize u.num % (u.den : Int) = r at e r0 r1
  generalize (u.den : Int) = D at *
  rw [← e] at hc
  have k : D * (x - (d : Int) * q) = (d : Int) * r := by grind
  have k0 : 0 ≤ x - (d : Int) * q := by
    by_cases h : 0 ≤ x - (d : Int) * q
    · exact h
    · have h1 : D * (x - (d : Int) * q) < 0 := Int.mul_neg_of_pos_of_neg hp (by omega)
      have h2 : 0 ≤ (d : Int) * r := Int.mul_nonneg (by omega) r0
      omega
  have k1 : x - (d : Int) * q < d := by
    by_cases h : x - (d : Int) * q < d
    · exact h
    · have h1 : D * (d : Int) ≤ D * (x - (d : Int) * q) := Int.mul_le_mul_of_nonneg_left (by omega) (by omega)
      have h2 : (d : Int) * r < (d : Int) * D := Int.mul_lt_mul_of_pos_left r1 hdp
      rw [Int.mul_comm D (d : Int)] at h1
      omega
  exact ((zq_unique (r := x - (d : Int) * q) hd (by omega) k0 k1).1).symm
theorem spX_real (u : Rat) : spX u 0 = u.num := by
  have : (0 : Rat).den = 1 := rfl
  unfold spX spG
  rw [this, Nat.gcd_one_right]
  simp
theorem spD_real (u : Rat) : spD u 0 = u.den := by
  have : (0 : Rat).den = 1 := rfl
  unfold spD spG
  rw [this, Nat.gcd_one_right]
  simp
def floorQ (q : Q6) : Q6 × Int := if wantR1 q = 0 then ratS ((floR (reQ q) : Int) : Rat) 0 else (Q6.zero, wantR1 q)
theorem wantR1_bad {q : Q6} (h : soundQ q = false) : wantR1 q = 2 := if_neg (by rw [h]; decide)
theorem wantR1_type {q : Q6} (h : soundQ q = true) (h1 : q.t2.length ≠ 0) : wantR1 q = 10 := by unfold wantR1; rw [if_pos h, if_neg h1]
theorem wantR1_ok {q : Q6} (h : soundQ q = true) (h1 : q.t2.length = 0) : wantR1 q = 0 := by unfold wantR1; rw [if_pos h, if_pos h1]
theorem real_zero {u v : Rat} (h : (Q6.rat u v).t2.length = 0) : v = 0 := by
  have e1 := words_eq_nil.1 (List.length_eq_zero_iff.1 h)
  exact Rat.num_eq_zero.1 (by omega)
theorem floR_len {u : Rat} {k : Nat} (h : (words u.num.natAbs).length ≤ k) : (words (floR u).natAbs).length ≤ k + 1 := by
  have hd := u.den_nz
  unfold floR
  generalize u.num = x at *
  generalize u.den = d at *
  cases hb : rb x with
  | false => rw [(zq_pos hd hb).1, Int.natAbs_natCast]; exact Nat.le_trans (div_len h) (Nat.le_succ _)
  | true =>
    by_cases h0 : x.natAbs % d = 0
    · rw [(zq_neg0 hd hb h0).1, Int.natAbs_neg, Int.natAbs_natCast]; exact Nat.le_trans (div_len h) (Nat.le_succ _)
    · rw [(zq_neg1 hd hb h0).1, Int.natAbs_neg, Int.natAbs_natCast]
      by_cases hk : k = 0
      · subst hk
        have e1 : x.natAbs = 0 := words_eq_nil.1 (List.length_eq_zero_iff.1 (by omega))
        rw [e1] at h0
        simp at h0
      · exact words_add_length (div_len h) (Nat.le_trans (words_length_le (k := 1) (by decide)) (by omega))
theorem num_int (z : Int) : ((z : Int) : Rat).num = z := rfl
theorem den_int (z : Int) : ((z : Int) : Rat).den = 1 := rfl
/-- The size of a rational number. -/
def absR (x : Rat) : Rat := if rb x.num = true then -x else x
theorem absR_num (x : Rat) : (absR x).num.natAbs = x.num.natAbs := by unfold absR; split; rw [Rat.neg_num, Int.natAbs_neg]; rfl
theorem absR_den (x : Rat) : (absR x).den = x.den := by unfold absR; split; rw [Rat.neg_den]; rfl
theorem rb_pos_num {x : Rat} (h : rb x.num = false) : 0 ≤ x := by
  have : 0 ≤ x.num := by unfold rb at h; have := of_decide_eq_false h; omega
  exact Rat.num_nonneg.1 this
theorem rb_neg_num {x : Rat} (h : rb x.num = true) : x < 0 := by
  have h1 := of_decide_eq_true h
  have h2 : ¬ 0 ≤ x := fun k => by have := Rat.num_nonneg.2 k; omega
  grind
theorem absR_pos {x : Rat} (h : x ≠ 0) : 0 < absR x := by
  unfold absR
  cases hb : rb x.num with
  | true => have := rb_neg_num hb; rw [if_pos rfl]; grind
  | false => have := rb_pos_num hb; rw [if_neg (by decide)]; grind
theorem absR_rb (x : Rat) (h : x ≠ 0) : rb (absR x).num = false := by
  have h1 := absR_pos h
  have := Rat.num_nonneg.2 (show 0 ≤ absR x by grind)
  unfold rb
  exact decide_eq_false (by omega)
/-- The whole quotient by a size. -/
def qabs (u x : Rat) : Int := floR (u * (1 / absR x))
theorem qabs_eq {u x : Rat} (h : x ≠ 0) : qabs u x = u.num * (x.den : Int) / ((x.num.natAbs * u.den : Nat) : Int) := by
  have hp := absR_pos h
  obtain ⟨i1, i2, i3⟩ := inv_parts hp
  have hn : x.num.natAbs ≠ 0 := fun e => h (Rat.num_eq_zero.1 (by omega))
  have e : u * (1 / absR x) = mkRat (u.num * (x.den : Int)) (x.num.natAbs * u.den) := by
    rw [← mul_mk u (1 / absR x), i2, absR_num, Nat.mul_comm u.den]
    have : (1 / absR x).num = (x.den : Int) := by
      have h9 := i1
      rw [absR_den] at h9
      unfold rb at i3
      have := of_decide_eq_false i3
      omega
    rw [this]
  exact floR_mk (Nat.mul_ne_zero hn u.den_nz) e.symm
theorem quoR_abs {u x : Rat} (h : x ≠ 0) : quoR u x = if rb x.num = true then -qabs u x else qabs u x := by
  unfold quoR dmT
  rw [spX_real, spX_real, spD_real, spD_real, qabs_eq h]
theorem remR_abs {u x : Rat} (h : x ≠ 0) : remR u x = u + -(((qabs u x : Int) : Rat) * absR x) := by
  have e := quo_rem (u := u) h
  rw [quoR_abs h, Rat.mkRat_one] at e
  have k : ((if rb x.num = true then -qabs u x else qabs u x : Int) : Rat) * x = ((qabs u x : Int) : Rat) * absR x := by
    unfold absR
    cases hb : rb x.num with
    | true => rw [if_pos rfl, if_pos rfl, Rat.intCast_neg]; grind
    | false => rw [if_neg (by decide), if_neg (by decide)]
  rw [k] at e
  grind
end Go.Proofs.YthlkbnhbmfmchaaGreat
