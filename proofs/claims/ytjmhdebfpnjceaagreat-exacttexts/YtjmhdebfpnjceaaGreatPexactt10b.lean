/- Walks of numbers over one bottom. Walks of sums, differences, products and quotients. Walks of Add, Sub, Mul, Div. Walks of the text of minus three halves, and of the fixed fact. Walks of how many bits are 1. Rows of bits put together word by word. Walks of rows of bits put together. Numbers put together bit by bit. Walks of numbers put together bit by bit, and of Not. The fixed fact on bits. Walks of the fixed fact, and of sameness by the document. Walks of the functions that take a text of a number apart. -/
import Derived.Test.YtjmhdebfpnjceaaGreatPexactt10a
import Derived.Test.YtjmhdebfpnjceaaGreatNatA
namespace Go.Proofs.YtjmhdebfpnjceaaGreat
open Go.RowKit
set_option linter.unusedVariables false
set_option linter.unusedSimpArgs false
set_option maxRecDepth 100000
theorem ExJ_is1_22 : Is1 Tryz.prog 22 := ⟨⟨_, Tryz.underlying22, rfl⟩, by kernel_rfl⟩
theorem ExJ_fld_26_0 : FieldAt Tryz.prog 26 0 0 := ⟨_, _, Tryz.underlying26, rfl, rfl, by kernel_rfl⟩
theorem ExJ_fld_26_1 : FieldAt Tryz.prog 26 1 3 := ⟨_, _, Tryz.underlying26, rfl, rfl, by kernel_rfl⟩
theorem ExJ_fld_62_0 : FieldAt Tryz.prog 62 0 0 := ⟨_, _, Tryz.underlying62, rfl, rfl, by kernel_rfl⟩
theorem ExJ_fld_62_1 : FieldAt Tryz.prog 62 1 2 := ⟨_, _, Tryz.underlying62, rfl, rfl, by kernel_rfl⟩
theorem ExJ_fld_62_2 : FieldAt Tryz.prog 62 2 4 := ⟨_, _, Tryz.underlying62, rfl, rfl, by kernel_rfl⟩
theorem ExJ_isS_24 : IsS Tryz.prog 24 3 := ⟨⟨_, Tryz.underlying24⟩, by kernel_rfl⟩
theorem ExJ_isS_26 : IsS Tryz.prog 26 6 := ⟨⟨_, Tryz.underlying26⟩, by kernel_rfl⟩
theorem ExJ_isS_60 : IsS Tryz.prog 60 2 := ⟨⟨_, Tryz.underlying60⟩, by kernel_rfl⟩
theorem ExJ_isS_62 : IsS Tryz.prog 62 5 := ⟨⟨_, Tryz.underlying62⟩, by kernel_rfl⟩
theorem fitsB_any {w : World} {b : Bool} {n m : Nat} {o1 o2 : Option Addr} {c1 c2 : Nat} (h1 : Sc w o1 c1 (words n)) (h2 : Sc w o2 c2 (words m)) (l1 : (words n).length ≤ 9223372036854775807) (l2 : (words m).length ≤ 9223372036854775807) {r : Bool} (hr : (decide ((words n).length ≤ 512) && decide ((words m).length ≤ 512)) = r) :
    Calls Tryz.prog 60 #[.agg #[.bool b, .slice o1 (words n).length c1, .slice o2 (words m).length c2]] w fun e w' => e = .returned (.bool r) ∧ Below w.heap.size w w' := by
  subst hr
  rw [← sound_len, ← sound_len]
  exact fits_any c1 c2 h1.rd h2.rd l1 l2
theorem setQ_pos {x y : Int} {d : Nat} (h1 : (decide ((words (rt x d)).length ≤ 512) && decide ((words (rq x d)).length ≤ 512)) = true) (h2 : (decide ((words (rt y d)).length ≤ 512) && decide ((words (rq y d)).length ≤ 512)) = true) : setQ x y d = (⟨rb x, words (rt x d), words (rq x d), rb y, words (rt y d), words (rq y d)⟩, 0) := by
  simp only [Bool.and_eq_true, decide_eq_true_eq] at h1 h2
  unfold setQ
  rw [if_pos ⟨h1.1, h1.2, h2.1, h2.2⟩]
theorem setQ_neg1 {x y : Int} {d : Nat} (h1 : (decide ((words (rt x d)).length ≤ 512) && decide ((words (rq x d)).length ≤ 512)) = false) : setQ x y d = (Q6.zero, 4) := by
  unfold setQ
  rw [if_neg]
  rintro ⟨a, b, _⟩
  rw [decide_eq_true a, decide_eq_true b] at h1
  cases h1
theorem setQ_neg2 {x y : Int} {d : Nat} (h1 : (decide ((words (rt y d)).length ≤ 512) && decide ((words (rq y d)).length ≤ 512)) = false) : setQ x y d = (Q6.zero, 4) := by
  unfold setQ
  rw [if_neg]
  rintro ⟨_, _, a, b⟩
  rw [decide_eq_true a, decide_eq_true b] at h1
  cases h1
theorem zsettle_any {w : World} {x y : Int} {d : Nat} {a1 a2 a3 : Option Addr} {ac1 ac2 ac3 : Nat} (ha1 : Sc w a1 ac1 (words x.natAbs)) (ha2 : Sc w a2 ac2 (words y.natAbs)) (ha3 : Sc w a3 ac3 (words d)) (l1 : (words x.natAbs).length ≤ 50000) (l2 : (words y.natAbs).length ≤ 50000) (l3 : (words d).length ≤ 50000) (hd : d ≠ 0) : Calls Tryz.prog 38 #[.agg #[.bool (rb x), .slice a1 (words x.natAbs).length ac1, .bool (rb y), .slice a2 (words y.natAbs).length ac2, .slice a3 (words d).length ac3]] w (AnsN w (setQ x y d)) := by
 have hS : St w w [] [(a3, words d), (a2, words y.natAbs), (a1, words x.natAbs)] [] := (((St.start w).addR ha1.rd).addR ha2.rd).addR ha3.rd
 refine walk_of (l := [(0, .agg #[.bool ((rb x)), .slice a1 ((words x.natAbs).length) ac1, .bool ((rb y)), .slice a2 ((words y.natAbs).length) ac2, .slice a3 ((words d).length) ac3])]) Tryz.func38 rfl Tryz.ntmps38 rfl rfl ?_
 intro Q hret hnorm hP a hA
 refine wp_seq_k (fun K1 hK1 => ?_)
 refine wp_region_lit ?_
 refine seq_new hA hS rfl rfl rfl (fun g => .pointer (some ⟨g, 0, none⟩)) (d_box rfl rfl) rfl ?_
 intro g2 w3 hS a hA
 refine seq_new (vs := [.bool false, .slice none 0 0, .slice none 0 0, .bool false, .slice none 0 0, .slice none 0 0]) (t := 26) hA hS rfl rfl rfl (fun g => .pointer (some ⟨g, 0, none⟩)) (d_alloc (z := .agg #[.bool false, .slice none 0 0, .slice none 0 0, .bool false, .slice none 0 0, .slice none 0 0]) (by kernel_rfl) rfl) rfl ?_
 intro g4 w5 hS a hA
 refine seq_do hA rfl rfl rfl (d_assign rfl) ?_
 intro a hA
 refine seq_end ?_
 refine hK1 _ _ ?_
 refine wp_seq_k (fun K6 hK6 => ?_)
 have hJ37 : ∀ a w1, (∃ (J20g : Nat) (J21 : Option Addr) (J22 : Nat) (J23 : Option Addr) (J24 : Nat) (J25 : Option Addr) (J26 : Nat) (J27 : Option Addr) (J28 : Nat), Sl a 28 [(0, .agg #[.bool ((rb x)), .slice a1 ((words x.natAbs).length) ac1, .bool ((rb y)), .slice a2 ((words y.natAbs).length) ac2, .slice a3 ((words d).length) ac3]), (2, .pointer (some ⟨g4, 0, none⟩)), (3, .int .i64 0), (4, .pointer (some ⟨J20g, 0, none⟩))] ∧ St w w1 [(J20g, [.bool ((rb x)), .slice J21 ((words (rt x d)).length) J22, .slice J23 ((words (rq x d)).length) J24, .bool ((rb y)), .slice J25 ((words (rt y d)).length) J26, .slice J27 ((words (rq y d)).length) J28]), (g4, [.bool false, .slice none 0 0, .slice none 0 0, .bool false, .slice none 0 0, .slice none 0 0]), (g2, [.bool ((rb x)), .slice a1 ((words x.natAbs).length) ac1, .bool ((rb y)), .slice a2 ((words y.natAbs).length) ac2, .slice a3 ((words d).length) ac3])] [(J27, words (rq y d)), (J25, words (rt y d)), (J23, words (rq x d)), (J21, words (rt x d)), (a3, words d), (a2, words y.natAbs), (a1, words x.natAbs)] [] ∧ (J27 = none → J28 = 0) ∧ (words (rq y d) : List Nat).length ≤ J28 ∧ (J25 = none → J26 = 0) ∧ (words (rt y d) : List Nat).length ≤ J26 ∧ (J23 = none → J24 = 0) ∧ (words (rq x d) : List Nat).length ≤ J24 ∧ (J21 = none → J22 = 0) ∧ (words (rt x d) : List Nat).length ≤ J22) → K6 a w1 := by
   clear hA hS
   rintro a w38 ⟨J20g, J21, J22, J23, J24, J25, J26, J27, J28, hA, hS, hn29, hc30, hn31, hc32, hn33, hc34, hn35, hc36⟩
   refine hK6 _ _ ?_
   refine wp_seq_k (fun K39 hK39 => ?_)
   refine wp_seq_k (fun K40 hK40 => ?_)
   refine wp_region_lit ?_
   refine seq_do (v := .pointer (some ⟨J20g, 0, none⟩)) hA rfl rfl rfl (d_field ExJ_fld_26_0 rfl rfl) ?_
   intro a hA
   refine seq_do hA rfl rfl rfl (d_loadS hS ExJ_isS_24 rfl 0 rfl (cs := [.bool ((rb x)), .slice J21 ((words (rt x d)).length) J22, .slice J23 ((words (rq x d)).length) J24]) rfl rfl) ?_
   intro a hA
   rcases Bool.eq_false_or_eq_true ((decide ((words (rt x d)).length ≤ 512) && decide ((words (rq x d)).length ≤ 512))) with hb41 | hb41
   · refine seq_call hA rfl rfl rfl (enters_func  rfl rfl (fun w => by kernel_rfl)) (fitsB_any ⟨(hS.rd 3 rfl), hn35, hc36⟩ ⟨(hS.rd 2 rfl), hn33, hc34⟩ (by have h9 := div_len (g := Nat.gcd x.natAbs d) l1; unfold rt; omega) (by have h9 := div_len (g := Nat.gcd x.natAbs d) l3; unfold rq; omega) hb41) ?_
     rintro _ w43 ⟨rfl, hb42⟩
     replace hS := hS.call hb42
     refine ⟨_, rfl, ?_⟩
     intro a hA
     refine seq_do (v := .bool false) hA rfl rfl rfl (d_un rfl un_not) ?_
     intro a hA
     refine seq_do hA rfl rfl rfl (d_move rfl) ?_
     intro a hA
     refine seq_do (v := .pointer (some ⟨J20g, 3, none⟩)) hA rfl rfl rfl (d_field ExJ_fld_26_1 rfl rfl) ?_
     intro a hA
     refine seq_do hA rfl rfl rfl (d_loadS hS ExJ_isS_24 rfl 0 rfl (cs := [.bool ((rb y)), .slice J25 ((words (rt y d)).length) J26, .slice J27 ((words (rq y d)).length) J28]) rfl rfl) ?_
     intro a hA
     rcases Bool.eq_false_or_eq_true ((decide ((words (rt y d)).length ≤ 512) && decide ((words (rq y d)).length ≤ 512))) with hb44 | hb44
     · refine seq_call hA rfl rfl rfl (enters_func  rfl rfl (fun w => by kernel_rfl)) (fitsB_any ⟨(hS.rd 1 rfl), hn31, hc32⟩ ⟨(hS.rd 0 rfl), hn29, hc30⟩ (by have h9 := div_len (g := Nat.gcd y.natAbs d) l2; unfold rt; omega) (by have h9 := div_len (g := Nat.gcd y.natAbs d) l3; unfold rq; omega) hb44) ?_
       rintro _ w46 ⟨rfl, hb45⟩
       replace hS := hS.call hb45
       refine ⟨_, rfl, ?_⟩
       intro a hA
       refine seq_do (v := .bool false) hA rfl rfl rfl (d_un rfl un_not) ?_
       intro a hA
       refine seq_do (v := .bool false) hA rfl rfl rfl (d_pick rfl rfl rfl rfl) ?_
       intro a hA
       refine seq_end ?_
       refine hK40 _ _ ?_
       refine wp_cond_false (hA.ev rfl) ?_
       refine wp_skip ?_
       refine hK39 _ _ ?_
       refine wp_seq_k (fun K47 hK47 => ?_)
       refine wp_region_lit ?_
       refine seq_do hA rfl rfl rfl (d_loadS hS ExJ_isS_26 rfl 0 rfl (cs := [.bool ((rb x)), .slice J21 ((words (rt x d)).length) J22, .slice J23 ((words (rq x d)).length) J24, .bool ((rb y)), .slice J25 ((words (rt y d)).length) J26, .slice J27 ((words (rq y d)).length) J28]) rfl rfl) ?_
       intro a hA
       refine seq_store (us := [.bool ((rb x)), .slice J21 ((words (rt x d)).length) J22, .slice J23 ((words (rq x d)).length) J24, .bool ((rb y)), .slice J25 ((words (rt y d)).length) J26, .slice J27 ((words (rq y d)).length) J28]) hA hS rfl rfl (sets_store rfl rfl rfl (by kernel_rfl) hS 1 rfl rfl rfl) 1 rfl rfl rfl rfl ?_
       intro w48 hS
       refine seq_do hA rfl rfl rfl (d_assign rfl) ?_
       intro a hA
       refine seq_end ?_
       refine hK47 _ _ ?_
       refine wp_ret ?_
       refine hret _ _ ?_
       refine ends (v := .tuple #[.agg #[.bool ((rb x)), .slice J21 ((words (rt x d)).length) J22, .slice J23 ((words (rq x d)).length) J24, .bool ((rb y)), .slice J25 ((words (rt y d)).length) J26, .slice J27 ((words (rq y d)).length) J28], .int .i64 0]) hA rfl (.cons (res_cell hS ExJ_isS_26 rfl 1 rfl (cs := [.bool ((rb x)), .slice J21 ((words (rt x d)).length) J22, .slice J23 ((words (rq x d)).length) J24, .bool ((rb y)), .slice J25 ((words (rt y d)).length) J26, .slice J27 ((words (rq y d)).length) J28]) rfl rfl) (.cons (res_tmp rfl) .nil)) rfl ?_
       rw [setQ_pos hb41 hb44]
       exact ⟨J21, J22, J23, J24, J25, J26, J27, J28, rfl, ⟨⟨(hS.rd 3 rfl), hn35, hc36⟩, ⟨(hS.rd 2 rfl), hn33, hc34⟩, ⟨(hS.rd 1 rfl), hn31, hc32⟩, ⟨(hS.rd 0 rfl), hn29, hc30⟩⟩, hS.bel⟩
     · refine seq_call hA rfl rfl rfl (enters_func  rfl rfl (fun w => by kernel_rfl)) (fitsB_any ⟨(hS.rd 1 rfl), hn31, hc32⟩ ⟨(hS.rd 0 rfl), hn29, hc30⟩ (by have h9 := div_len (g := Nat.gcd y.natAbs d) l2; unfold rt; omega) (by have h9 := div_len (g := Nat.gcd y.natAbs d) l3; unfold rq; omega) hb44) ?_
       rintro _ w50 ⟨rfl, hb49⟩
       replace hS := hS.call hb49
       refine ⟨_, rfl, ?_⟩
       intro a hA
       refine seq_do (v := .bool true) hA rfl rfl rfl (d_un rfl un_not) ?_
       intro a hA
       refine seq_do (v := .bool true) hA rfl rfl rfl (d_pick rfl rfl rfl rfl) ?_
       intro a hA
       refine seq_end ?_
       refine hK40 _ _ ?_
       refine wp_cond_true (hA.ev rfl) ?_
       refine wp_seq_k (fun K51 hK51 => ?_)
       refine wp_region_lit ?_
       refine seq_do (v := .agg #[.bool false, .slice none 0 0, .slice none 0 0, .bool false, .slice none 0 0, .slice none 0 0]) hA rfl rfl rfl (d_build rfl (fun w => by kernel_rfl)) ?_
       intro a hA
       refine seq_store (us := [.bool false, .slice none 0 0, .slice none 0 0, .bool false, .slice none 0 0, .slice none 0 0]) hA hS rfl rfl (sets_store rfl rfl rfl (by kernel_rfl) hS 1 rfl rfl rfl) 1 rfl rfl rfl rfl ?_
       intro w52 hS
       refine seq_do hA rfl rfl rfl (d_assign rfl) ?_
       intro a hA
       refine seq_end ?_
       refine hK51 _ _ ?_
       refine wp_ret ?_
       refine hret _ _ ?_
       refine ends (v := .tuple #[.agg #[.bool false, .slice none 0 0, .slice none 0 0, .bool false, .slice none 0 0, .slice none 0 0], .int .i64 4]) hA rfl (.cons (res_cell hS ExJ_isS_26 rfl 1 rfl (cs := [.bool false, .slice none 0 0, .slice none 0 0, .bool false, .slice none 0 0, .slice none 0 0]) rfl rfl) (.cons (res_tmp rfl) .nil)) rfl ?_
       rw [setQ_neg2 hb44]
       exact ⟨none, 0, none, 0, none, 0, none, 0, rfl, ⟨(Sc.none _), (Sc.none _), (Sc.none _), (Sc.none _)⟩, hS.bel⟩
   · refine seq_call hA rfl rfl rfl (enters_func  rfl rfl (fun w => by kernel_rfl)) (fitsB_any ⟨(hS.rd 3 rfl), hn35, hc36⟩ ⟨(hS.rd 2 rfl), hn33, hc34⟩ (by have h9 := div_len (g := Nat.gcd x.natAbs d) l1; unfold rt; omega) (by have h9 := div_len (g := Nat.gcd x.natAbs d) l3; unfold rq; omega) hb41) ?_
     rintro _ w54 ⟨rfl, hb53⟩
     replace hS := hS.call hb53
     refine ⟨_, rfl, ?_⟩
     intro a hA
     refine seq_do (v := .bool true) hA rfl rfl rfl (d_un rfl un_not) ?_
     intro a hA
     refine seq_do hA rfl rfl rfl (d_move rfl) ?_
     intro a hA
     refine seq_skip hA rfl rfl rfl ?_
     intro a hA
     refine seq_skip hA rfl rfl rfl ?_
     intro a hA
     refine seq_skip hA rfl rfl rfl ?_
     intro a hA
     refine seq_skip hA rfl rfl rfl ?_
     intro a hA
     refine seq_do (v := .bool true) hA rfl rfl rfl (d_pick rfl rfl rfl rfl) ?_
     intro a hA
     refine seq_end ?_
     refine hK40 _ _ ?_
     refine wp_cond_true (hA.ev rfl) ?_
     refine wp_seq_k (fun K55 hK55 => ?_)
     refine wp_region_lit ?_
     refine seq_do (v := .agg #[.bool false, .slice none 0 0, .slice none 0 0, .bool false, .slice none 0 0, .slice none 0 0]) hA rfl rfl rfl (d_build rfl (fun w => by kernel_rfl)) ?_
     intro a hA
     refine seq_store (us := [.bool false, .slice none 0 0, .slice none 0 0, .bool false, .slice none 0 0, .slice none 0 0]) hA hS rfl rfl (sets_store rfl rfl rfl (by kernel_rfl) hS 1 rfl rfl rfl) 1 rfl rfl rfl rfl ?_
     intro w56 hS
     refine seq_do hA rfl rfl rfl (d_assign rfl) ?_
     intro a hA
     refine seq_end ?_
     refine hK55 _ _ ?_
     refine wp_ret ?_
     refine hret _ _ ?_
     refine ends (v := .tuple #[.agg #[.bool false, .slice none 0 0, .slice none 0 0, .bool false, .slice none 0 0, .slice none 0 0], .int .i64 4]) hA rfl (.cons (res_cell hS ExJ_isS_26 rfl 1 rfl (cs := [.bool false, .slice none 0 0, .slice none 0 0, .bool false, .slice none 0 0, .slice none 0 0]) rfl rfl) (.cons (res_tmp rfl) .nil)) rfl ?_
     rw [setQ_neg1 hb41]
     exact ⟨none, 0, none, 0, none, 0, none, 0, rfl, ⟨(Sc.none _), (Sc.none _), (Sc.none _), (Sc.none _)⟩, hS.bel⟩
 refine wp_draw (S := fun w1 => St w w1 [(g4, [.bool false, .slice none 0 0, .slice none 0 0, .bool false, .slice none 0 0, .slice none 0 0]), (g2, [.bool ((rb x)), .slice a1 ((words x.natAbs).length) ac1, .bool ((rb y)), .slice a2 ((words y.natAbs).length) ac2, .slice a3 ((words d).length) ac3])] [(a3, words d), (a2, words y.natAbs), (a1, words x.natAbs)] []) (by kernel_rfl) ?_
 replace hS := hS.drew
 refine any_tk (v := .pointer (some ⟨g2, 0, none⟩)) hA 0 rfl rfl rfl rfl hP hS (fun w1 hS => d_field ExJ_fld_62_0 rfl rfl) ?_
 intro a hA
 refine any_tk hA 1 rfl rfl rfl rfl hP hS (fun w1 hS => d_loadS hS ExJ_isS_60 rfl 1 rfl (cs := [.bool ((rb x)), .slice a1 ((words x.natAbs).length) ac1]) rfl rfl) ?_
 intro a hA
 refine any_tk (v := .pointer (some ⟨g2, 4, none⟩)) hA 2 rfl rfl rfl rfl hP hS (fun w1 hS => d_field ExJ_fld_62_2 rfl rfl) ?_
 intro a hA
 refine any_tk hA 3 rfl rfl rfl rfl hP hS (fun w1 hS => d_load1 hS ExJ_is1_22 rfl 1 rfl rfl) ?_
 intro a hA
 refine any_tk (v := .pointer (some ⟨g2, 2, none⟩)) hA 5 rfl rfl rfl rfl hP hS (fun w1 hS => d_field ExJ_fld_62_1 rfl rfl) ?_
 intro a hA
 refine any_tk hA 6 rfl rfl rfl rfl hP hS (fun w1 hS => d_loadS hS ExJ_isS_60 rfl 1 rfl (cs := [.bool ((rb y)), .slice a2 ((words y.natAbs).length) ac2]) rfl rfl) ?_
 intro a hA
 refine any_tk (v := .pointer (some ⟨g2, 4, none⟩)) hA 7 rfl rfl rfl rfl hP hS (fun w1 hS => d_field ExJ_fld_62_2 rfl rfl) ?_
 intro a hA
 refine any_tk hA 8 rfl rfl rfl rfl hP hS (fun w1 hS => d_load1 hS ExJ_is1_22 rfl 1 rfl rfl) ?_
 intro a hA
 refine any_many (rs := [4, 11]) (by kernel_rfl) (by simp) ⟨?_, ?_, trivial⟩
 · refine op_call hA 4 rfl rfl rfl rfl (enters_func  rfl rfl (fun w => by kernel_rfl)) (zlowest_any ⟨(hS.rd 2 rfl), ha1.nil, ha1.cap⟩ ⟨(hS.rd 0 rfl), ha3.nil, ha3.cap⟩ l1 l3 hd) ?_
   rintro _ w61 ⟨f57_1, f57_c1, f57_2, f57_c2, rfl, hs58, hs59, hb60⟩
   replace hS := hS.call hb60
   replace hS := hS.addR hs58.rd
   replace hS := hS.addR hs59.rd
   refine ⟨_, rfl, (hS.partD (.refl _) 2 rfl (.refl _)), ?_⟩
   intro a hA
   refine any_many (rs := [9, 11]) (by kernel_rfl) (by simp) ⟨?_, ?_, trivial⟩
   · refine op_call hA 9 rfl rfl rfl rfl (enters_func  rfl rfl (fun w => by kernel_rfl)) (zlowest_any ⟨(hS.rd 3 rfl), ha2.nil, ha2.cap⟩ ⟨(hS.rd 2 rfl), ha3.nil, ha3.cap⟩ l2 l3 hd) ?_
     rintro _ w66 ⟨f62_1, f62_c1, f62_2, f62_c2, rfl, hs63, hs64, hb65⟩
     replace hS := hS.call hb65
     replace hS := hS.addR hs63.rd
     replace hS := hS.addR hs64.rd
     refine ⟨_, rfl, (hS.partD (.refl _) 4 rfl (.refl _)), ?_⟩
     intro a hA
     refine any_tk (v := .agg #[.bool ((rb x)), .slice f57_1 ((words (rt x d)).length) f57_c1, .slice f57_2 ((words (rq x d)).length) f57_c2, .bool ((rb y)), .slice f62_1 ((words (rt y d)).length) f62_c1, .slice f62_2 ((words (rq y d)).length) f62_c2]) hA 10 rfl rfl rfl rfl hP (hS.partD (.refl _) 4 rfl (.refl _)) (fun w1 hS => d_build rfl (fun w => by kernel_rfl)) ?_
     intro a hA
     refine any_one (by kernel_rfl) (op_new (vs := [.bool false, .slice none 0 0, .slice none 0 0, .bool false, .slice none 0 0, .slice none 0 0]) (t := 26) hA hS 11 rfl rfl rfl rfl (fun g => .pointer (some ⟨g, 0, none⟩)) (d_alloc (z := .agg #[.bool false, .slice none 0 0, .slice none 0 0, .bool false, .slice none 0 0, .slice none 0 0]) (by kernel_rfl) rfl) rfl ?_)
     intro g67 w68 hS
     refine ⟨(hS.partD (.cons _ (.cons_cons _ (.cons_cons _ .slnil))) 4 rfl (.refl _)), ?_⟩
     intro a hA
     refine any_one (by kernel_rfl) (op_store (us := [.bool ((rb x)), .slice f57_1 ((words (rt x d)).length) f57_c1, .slice f57_2 ((words (rq x d)).length) f57_c2, .bool ((rb y)), .slice f62_1 ((words (rt y d)).length) f62_c1, .slice f62_2 ((words (rq y d)).length) f62_c2]) hA hS 12 rfl rfl rfl (sets_store rfl rfl rfl (by kernel_rfl) hS 0 rfl rfl rfl) 0 rfl rfl rfl rfl ?_)
     intro w69 hS
     refine ⟨(hS.partD (.cons _ (.cons_cons _ (.cons_cons _ .slnil))) 4 rfl (.refl _)), ?_⟩
     refine any_end (by kernel_rfl) ?_
     refine hJ37 _ _ ⟨g67, f57_1, f57_c1, f57_2, f57_c2, f62_1, f62_c1, f62_2, f62_c2, hA.keep _ ⟨rfl, rfl, rfl, rfl, trivial⟩, (St.pickRL hS ⟨⟨0, rfl⟩, ⟨⟨1, rfl⟩, ⟨⟨2, rfl⟩, ⟨⟨3, rfl⟩, ⟨⟨4, rfl⟩, ⟨⟨5, rfl⟩, ⟨⟨6, rfl⟩, trivial⟩⟩⟩⟩⟩⟩⟩ [0, 1, 2] rfl (by decide)), hs64.nil, hs64.cap, hs63.nil, hs63.cap, hs59.nil, hs59.cap, hs58.nil, hs58.cap⟩
   · refine op_new (vs := [.bool false, .slice none 0 0, .slice none 0 0, .bool false, .slice none 0 0, .slice none 0 0]) (t := 26) hA hS 11 rfl rfl rfl rfl (fun g => .pointer (some ⟨g, 0, none⟩)) (d_alloc (z := .agg #[.bool false, .slice none 0 0, .slice none 0 0, .bool false, .slice none 0 0, .slice none 0 0]) (by kernel_rfl) rfl) rfl ?_
     intro g70 w71 hS
     refine ⟨(hS.partD (.cons _ (.cons_cons _ (.cons_cons _ .slnil))) 2 rfl (.refl _)), ?_⟩
     intro a hA
     refine any_one (by kernel_rfl) (op_call hA 9 rfl rfl rfl rfl (enters_func  rfl rfl (fun w => by kernel_rfl)) (zlowest_any ⟨(hS.rd 3 rfl), ha2.nil, ha2.cap⟩ ⟨(hS.rd 2 rfl), ha3.nil, ha3.cap⟩ l2 l3 hd) ?_)
     rintro _ w76 ⟨f72_1, f72_c1, f72_2, f72_c2, rfl, hs73, hs74, hb75⟩
     replace hS := hS.call hb75
     replace hS := hS.addR hs73.rd
     replace hS := hS.addR hs74.rd
     refine ⟨_, rfl, (hS.partD (.cons _ (.cons_cons _ (.cons_cons _ .slnil))) 4 rfl (.refl _)), ?_⟩
     intro a hA
     refine any_tk (v := .agg #[.bool ((rb x)), .slice f57_1 ((words (rt x d)).length) f57_c1, .slice f57_2 ((words (rq x d)).length) f57_c2, .bool ((rb y)), .slice f72_1 ((words (rt y d)).length) f72_c1, .slice f72_2 ((words (rq y d)).length) f72_c2]) hA 10 rfl rfl rfl rfl hP (hS.partD (.cons _ (.cons_cons _ (.cons_cons _ .slnil))) 4 rfl (.refl _)) (fun w1 hS => d_build rfl (fun w => by kernel_rfl)) ?_
     intro a hA
     refine any_one (by kernel_rfl) (op_store (us := [.bool ((rb x)), .slice f57_1 ((words (rt x d)).length) f57_c1, .slice f57_2 ((words (rq x d)).length) f57_c2, .bool ((rb y)), .slice f72_1 ((words (rt y d)).length) f72_c1, .slice f72_2 ((words (rq y d)).length) f72_c2]) hA hS 12 rfl rfl rfl (sets_store rfl rfl rfl (by kernel_rfl) hS 0 rfl rfl rfl) 0 rfl rfl rfl rfl ?_)
     intro w77 hS
     refine ⟨(hS.partD (.cons _ (.cons_cons _ (.cons_cons _ .slnil))) 4 rfl (.refl _)), ?_⟩
     refine any_end (by kernel_rfl) ?_
     refine hJ37 _ _ ⟨g70, f57_1, f57_c1, f57_2, f57_c2, f72_1, f72_c1, f72_2, f72_c2, hA.keep _ ⟨rfl, rfl, rfl, rfl, trivial⟩, (St.pickRL hS ⟨⟨0, rfl⟩, ⟨⟨1, rfl⟩, ⟨⟨2, rfl⟩, ⟨⟨3, rfl⟩, ⟨⟨4, rfl⟩, ⟨⟨5, rfl⟩, ⟨⟨6, rfl⟩, trivial⟩⟩⟩⟩⟩⟩⟩ [0, 1, 2] rfl (by decide)), hs74.nil, hs74.cap, hs73.nil, hs73.cap, hs59.nil, hs59.cap, hs58.nil, hs58.cap⟩
 · refine op_new (vs := [.bool false, .slice none 0 0, .slice none 0 0, .bool false, .slice none 0 0, .slice none 0 0]) (t := 26) hA hS 11 rfl rfl rfl rfl (fun g => .pointer (some ⟨g, 0, none⟩)) (d_alloc (z := .agg #[.bool false, .slice none 0 0, .slice none 0 0, .bool false, .slice none 0 0, .slice none 0 0]) (by kernel_rfl) rfl) rfl ?_
   intro g78 w79 hS
   refine ⟨(hS.partD (.cons _ (.cons_cons _ (.cons_cons _ .slnil))) 0 rfl (.refl _)), ?_⟩
   intro a hA
   refine any_one (by kernel_rfl) (op_call hA 4 rfl rfl rfl rfl (enters_func  rfl rfl (fun w => by kernel_rfl)) (zlowest_any ⟨(hS.rd 2 rfl), ha1.nil, ha1.cap⟩ ⟨(hS.rd 0 rfl), ha3.nil, ha3.cap⟩ l1 l3 hd) ?_)
   rintro _ w84 ⟨f80_1, f80_c1, f80_2, f80_c2, rfl, hs81, hs82, hb83⟩
   replace hS := hS.call hb83
   replace hS := hS.addR hs81.rd
   replace hS := hS.addR hs82.rd
   refine ⟨_, rfl, (hS.partD (.cons _ (.cons_cons _ (.cons_cons _ .slnil))) 2 rfl (.refl _)), ?_⟩
   intro a hA
   refine any_one (by kernel_rfl) (op_call hA 9 rfl rfl rfl rfl (enters_func  rfl rfl (fun w => by kernel_rfl)) (zlowest_any ⟨(hS.rd 3 rfl), ha2.nil, ha2.cap⟩ ⟨(hS.rd 2 rfl), ha3.nil, ha3.cap⟩ l2 l3 hd) ?_)
   rintro _ w89 ⟨f85_1, f85_c1, f85_2, f85_c2, rfl, hs86, hs87, hb88⟩
   replace hS := hS.call hb88
   replace hS := hS.addR hs86.rd
   replace hS := hS.addR hs87.rd
   refine ⟨_, rfl, (hS.partD (.cons _ (.cons_cons _ (.cons_cons _ .slnil))) 4 rfl (.refl _)), ?_⟩
   intro a hA
   refine any_tk (v := .agg #[.bool ((rb x)), .slice f80_1 ((words (rt x d)).length) f80_c1, .slice f80_2 ((words (rq x d)).length) f80_c2, .bool ((rb y)), .slice f85_1 ((words (rt y d)).length) f85_c1, .slice f85_2 ((words (rq y d)).length) f85_c2]) hA 10 rfl rfl rfl rfl hP (hS.partD (.cons _ (.cons_cons _ (.cons_cons _ .slnil))) 4 rfl (.refl _)) (fun w1 hS => d_build rfl (fun w => by kernel_rfl)) ?_
   intro a hA
   refine any_one (by kernel_rfl) (op_store (us := [.bool ((rb x)), .slice f80_1 ((words (rt x d)).length) f80_c1, .slice f80_2 ((words (rq x d)).length) f80_c2, .bool ((rb y)), .slice f85_1 ((words (rt y d)).length) f85_c1, .slice f85_2 ((words (rq y d)).length) f85_c2]) hA hS 12 rfl rfl rfl (sets_store rfl rfl rfl (by kernel_rfl) hS 0 rfl rfl rfl) 0 rfl rfl rfl rfl ?_)
   intro w90 hS
   refine ⟨(hS.partD (.cons _ (.cons_cons _ (.cons_cons _ .slnil))) 4 rfl (.refl _)), ?_⟩
   refine any_end (by kernel_rfl) ?_
   refine hJ37 _ _ ⟨g78, f80_1, f80_c1, f80_2, f80_c2, f85_1, f85_c1, f85_2, f85_c2, hA.keep _ ⟨rfl, rfl, rfl, rfl, trivial⟩, (St.pickRL hS ⟨⟨0, rfl⟩, ⟨⟨1, rfl⟩, ⟨⟨2, rfl⟩, ⟨⟨3, rfl⟩, ⟨⟨4, rfl⟩, ⟨⟨5, rfl⟩, ⟨⟨6, rfl⟩, trivial⟩⟩⟩⟩⟩⟩⟩ [0, 1, 2] rfl (by decide)), hs87.nil, hs87.cap, hs86.nil, hs86.cap, hs82.nil, hs82.cap, hs81.nil, hs81.cap⟩
theorem zproduct_any {w : World} {x1 y1 x2 y2 : Int} {d1 d2 : Nat} {a1 a2 a3 : Option Addr} {ac1 ac2 ac3 : Nat} (ha1 : Sc w a1 ac1 (words x1.natAbs)) (ha2 : Sc w a2 ac2 (words y1.natAbs)) (ha3 : Sc w a3 ac3 (words d1)) {u1 u2 u3 : Option Addr} {uc1 uc2 uc3 : Nat} (hu1 : Sc w u1 uc1 (words x2.natAbs)) (hu2 : Sc w u2 uc2 (words y2.natAbs)) (hu3 : Sc w u3 uc3 (words d2)) (la1 : (words x1.natAbs).length ≤ 10000) (la2 : (words y1.natAbs).length ≤ 10000) (la3 : (words d1).length ≤ 10000) (lu1 : (words x2.natAbs).length ≤ 10000) (lu2 : (words y2.natAbs).length ≤ 10000) (lu3 : (words d2).length ≤ 10000) : Calls Tryz.prog 39 #[.agg #[.bool (rb x1), .slice a1 (words x1.natAbs).length ac1, .bool (rb y1), .slice a2 (words y1.natAbs).length ac2, .slice a3 (words d1).length ac3], .agg #[.bool (rb x2), .slice u1 (words x2.natAbs).length uc1, .bool (rb y2), .slice u2 (words y2.natAbs).length uc2, .slice u3 (words d2).length uc3]] w (AnsR w (x1 * x2 + -(y1 * y2)) (x1 * y2 + y1 * x2) (d1 * d2)) := by
 have k1 := abs_mul_len la1 lu1
 have k2 := abs_mul_len la2 lu2
 have k3 := abs_mul_len la1 lu2
 have k4 := abs_mul_len la2 lu1
 have k5 : (words (-(y1 * y2)).natAbs).length ≤ 10000 + 10000 := by rw [Int.natAbs_neg]; exact k2
 have hS : St w w [] [(u3, words d2), (u2, words y2.natAbs), (u1, words x2.natAbs), (a3, words d1), (a2, words y1.natAbs), (a1, words x1.natAbs)] [] := ((((((St.start w).addR ha1.rd).addR ha2.rd).addR ha3.rd).addR hu1.rd).addR hu2.rd).addR hu3.rd
 refine walk_of (l := [(0, .agg #[.bool ((rb x1)), .slice a1 ((words x1.natAbs).length) ac1, .bool ((rb y1)), .slice a2 ((words y1.natAbs).length) ac2, .slice a3 ((words d1).length) ac3]), (1, .agg #[.bool ((rb x2)), .slice u1 ((words x2.natAbs).length) uc1, .bool ((rb y2)), .slice u2 ((words y2.natAbs).length) uc2, .slice u3 ((words d2).length) uc3])]) Tryz.func39 rfl Tryz.ntmps39 rfl rfl ?_
 intro Q hret hnorm hP a hA
 refine wp_seq_k (fun K1 hK1 => ?_)
 refine wp_region_lit ?_
 refine seq_new hA hS rfl rfl rfl (fun g => .pointer (some ⟨g, 0, none⟩)) (d_box rfl rfl) rfl ?_
 intro g2 w3 hS a hA
 refine seq_new hA hS rfl rfl rfl (fun g => .pointer (some ⟨g, 0, none⟩)) (d_box rfl rfl) rfl ?_
 intro g4 w5 hS a hA
 refine seq_new (vs := [.bool false, .slice none 0 0, .bool false, .slice none 0 0, .slice none 0 0]) (t := 62) hA hS rfl rfl rfl (fun g => .pointer (some ⟨g, 0, none⟩)) (d_alloc (z := .agg #[.bool false, .slice none 0 0, .bool false, .slice none 0 0, .slice none 0 0]) (by kernel_rfl) rfl) rfl ?_
 intro g6 w7 hS a hA
 refine seq_end ?_
 refine hK1 _ _ ?_
 refine wp_seq_k (fun K8 hK8 => ?_)
 refine wp_draw (S := fun w1 => St w w1 [(g4, [.bool ((rb x2)), .slice u1 ((words x2.natAbs).length) uc1, .bool ((rb y2)), .slice u2 ((words y2.natAbs).length) uc2, .slice u3 ((words d2).length) uc3]), (g2, [.bool ((rb x1)), .slice a1 ((words x1.natAbs).length) ac1, .bool ((rb y1)), .slice a2 ((words y1.natAbs).length) ac2, .slice a3 ((words d1).length) ac3])] [(u3, words d2), (u2, words y2.natAbs), (u1, words x2.natAbs), (a3, words d1), (a2, words y1.natAbs), (a1, words x1.natAbs)] []) (by kernel_rfl) ?_
 replace hS := hS.drew
 refine any_tk (v := .pointer (some ⟨g2, 0, none⟩)) hA 0 rfl rfl rfl rfl hP (hS.partD (.cons _ (.cons_cons _ (.cons_cons _ .slnil))) 0 rfl (.refl _)) (fun w1 hS => d_field ExJ_fld_62_0 rfl rfl) ?_
 intro a hA
 refine any_tk hA 1 rfl rfl rfl rfl hP (hS.partD (.cons _ (.cons_cons _ (.cons_cons _ .slnil))) 0 rfl (.refl _)) (fun w1 hS => d_loadS hS ExJ_isS_60 rfl 1 rfl (cs := [.bool ((rb x1)), .slice a1 ((words x1.natAbs).length) ac1]) rfl rfl) ?_
 intro a hA
 refine any_tk (v := .pointer (some ⟨g4, 0, none⟩)) hA 2 rfl rfl rfl rfl hP (hS.partD (.cons _ (.cons_cons _ (.cons_cons _ .slnil))) 0 rfl (.refl _)) (fun w1 hS => d_field ExJ_fld_62_0 rfl rfl) ?_
 intro a hA
 refine any_tk hA 3 rfl rfl rfl rfl hP (hS.partD (.cons _ (.cons_cons _ (.cons_cons _ .slnil))) 0 rfl (.refl _)) (fun w1 hS => d_loadS hS ExJ_isS_60 rfl 0 rfl (cs := [.bool ((rb x2)), .slice u1 ((words x2.natAbs).length) uc1]) rfl rfl) ?_
 intro a hA
 refine any_tk (v := .pointer (some ⟨g2, 2, none⟩)) hA 5 rfl rfl rfl rfl hP (hS.partD (.cons _ (.cons_cons _ (.cons_cons _ .slnil))) 0 rfl (.refl _)) (fun w1 hS => d_field ExJ_fld_62_1 rfl rfl) ?_
 intro a hA
 refine any_tk hA 6 rfl rfl rfl rfl hP (hS.partD (.cons _ (.cons_cons _ (.cons_cons _ .slnil))) 0 rfl (.refl _)) (fun w1 hS => d_loadS hS ExJ_isS_60 rfl 1 rfl (cs := [.bool ((rb y1)), .slice a2 ((words y1.natAbs).length) ac2]) rfl rfl) ?_
 intro a hA
 refine any_tk (v := .pointer (some ⟨g4, 2, none⟩)) hA 7 rfl rfl rfl rfl hP (hS.partD (.cons _ (.cons_cons _ (.cons_cons _ .slnil))) 0 rfl (.refl _)) (fun w1 hS => d_field ExJ_fld_62_1 rfl rfl) ?_
 intro a hA
 refine any_tk hA 8 rfl rfl rfl rfl hP (hS.partD (.cons _ (.cons_cons _ (.cons_cons _ .slnil))) 0 rfl (.refl _)) (fun w1 hS => d_loadS hS ExJ_isS_60 rfl 0 rfl (cs := [.bool ((rb y2)), .slice u2 ((words y2.natAbs).length) uc2]) rfl rfl) ?_
 intro a hA
 refine any_tk (v := .pointer (some ⟨g2, 0, none⟩)) hA 12 rfl rfl rfl rfl hP (hS.partD (.cons _ (.cons_cons _ (.cons_cons _ .slnil))) 0 rfl (.refl _)) (fun w1 hS => d_field ExJ_fld_62_0 rfl rfl) ?_
 intro a hA
 refine any_tk hA 13 rfl rfl rfl rfl hP (hS.partD (.cons _ (.cons_cons _ (.cons_cons _ .slnil))) 0 rfl (.refl _)) (fun w1 hS => d_loadS hS ExJ_isS_60 rfl 1 rfl (cs := [.bool ((rb x1)), .slice a1 ((words x1.natAbs).length) ac1]) rfl rfl) ?_
 intro a hA
 refine any_tk (v := .pointer (some ⟨g4, 2, none⟩)) hA 14 rfl rfl rfl rfl hP (hS.partD (.cons _ (.cons_cons _ (.cons_cons _ .slnil))) 0 rfl (.refl _)) (fun w1 hS => d_field ExJ_fld_62_1 rfl rfl) ?_
 intro a hA
 refine any_tk hA 15 rfl rfl rfl rfl hP (hS.partD (.cons _ (.cons_cons _ (.cons_cons _ .slnil))) 0 rfl (.refl _)) (fun w1 hS => d_loadS hS ExJ_isS_60 rfl 0 rfl (cs := [.bool ((rb y2)), .slice u2 ((words y2.natAbs).length) uc2]) rfl rfl) ?_
 intro a hA
 refine any_tk (v := .pointer (some ⟨g2, 2, none⟩)) hA 17 rfl rfl rfl rfl hP (hS.partD (.cons _ (.cons_cons _ (.cons_cons _ .slnil))) 0 rfl (.refl _)) (fun w1 hS => d_field ExJ_fld_62_1 rfl rfl) ?_
 intro a hA
 refine any_tk hA 18 rfl rfl rfl rfl hP (hS.partD (.cons _ (.cons_cons _ (.cons_cons _ .slnil))) 0 rfl (.refl _)) (fun w1 hS => d_loadS hS ExJ_isS_60 rfl 1 rfl (cs := [.bool ((rb y1)), .slice a2 ((words y1.natAbs).length) ac2]) rfl rfl) ?_
 intro a hA
 refine any_tk (v := .pointer (some ⟨g4, 0, none⟩)) hA 19 rfl rfl rfl rfl hP (hS.partD (.cons _ (.cons_cons _ (.cons_cons _ .slnil))) 0 rfl (.refl _)) (fun w1 hS => d_field ExJ_fld_62_0 rfl rfl) ?_
 intro a hA
 refine any_tk hA 20 rfl rfl rfl rfl hP (hS.partD (.cons _ (.cons_cons _ (.cons_cons _ .slnil))) 0 rfl (.refl _)) (fun w1 hS => d_loadS hS ExJ_isS_60 rfl 0 rfl (cs := [.bool ((rb x2)), .slice u1 ((words x2.natAbs).length) uc1]) rfl rfl) ?_
 intro a hA
 refine any_tk (v := .pointer (some ⟨g2, 4, none⟩)) hA 23 rfl rfl rfl rfl hP (hS.partD (.cons _ (.cons_cons _ (.cons_cons _ .slnil))) 0 rfl (.refl _)) (fun w1 hS => d_field ExJ_fld_62_2 rfl rfl) ?_
 intro a hA
 refine any_tk hA 24 rfl rfl rfl rfl hP (hS.partD (.cons _ (.cons_cons _ (.cons_cons _ .slnil))) 0 rfl (.refl _)) (fun w1 hS => d_load1 hS ExJ_is1_22 rfl 1 rfl rfl) ?_
 intro a hA
 refine any_tk (v := .pointer (some ⟨g4, 4, none⟩)) hA 25 rfl rfl rfl rfl hP (hS.partD (.cons _ (.cons_cons _ (.cons_cons _ .slnil))) 0 rfl (.refl _)) (fun w1 hS => d_field ExJ_fld_62_2 rfl rfl) ?_
 intro a hA
 refine any_tk hA 26 rfl rfl rfl rfl hP (hS.partD (.cons _ (.cons_cons _ (.cons_cons _ .slnil))) 0 rfl (.refl _)) (fun w1 hS => d_load1 hS ExJ_is1_22 rfl 0 rfl rfl) ?_
 intro a hA
 refine any_one (by kernel_rfl) (op_call hA 4 rfl rfl rfl rfl (enters_func  rfl rfl (fun w => by kernel_rfl)) (ztimes_any ⟨(hS.rd 5 rfl), ha1.nil, ha1.cap⟩ ⟨(hS.rd 2 rfl), hu1.nil, hu1.cap⟩ (by omega) (by omega)) ?_)
 rintro _ w13 ⟨zo9, zc10, rfl, hs11, hb12⟩
 replace hS := hS.call hb12
 replace hS := hS.addR hs11.rd
 refine ⟨_, rfl, (hS.partD (.cons _ (.cons_cons _ (.cons_cons _ .slnil))) 1 rfl (.refl _)), ?_⟩
 intro a hA
 refine any_one (by kernel_rfl) (op_call hA 9 rfl rfl rfl rfl (enters_func  rfl rfl (fun w => by kernel_rfl)) (ztimes_any ⟨(hS.rd 5 rfl), ha2.nil, ha2.cap⟩ ⟨(hS.rd 2 rfl), hu2.nil, hu2.cap⟩ (by omega) (by omega)) ?_)
 rintro _ w18 ⟨zo14, zc15, rfl, hs16, hb17⟩
 replace hS := hS.call hb17
 replace hS := hS.addR hs16.rd
 refine ⟨_, rfl, (hS.partD (.cons _ (.cons_cons _ (.cons_cons _ .slnil))) 2 rfl (.refl _)), ?_⟩
 intro a hA
 refine any_one (by kernel_rfl) (op_call hA 10 rfl rfl rfl rfl (enters_func  rfl rfl (fun w => by kernel_rfl)) (zopp_any ⟨(hS.rd 0 rfl), hs16.nil, hs16.cap⟩) ?_)
 rintro _ w23 ⟨zo19, zc20, rfl, hs21, hb22⟩
 replace hS := hS.call hb22
 replace hS := hS.addR hs21.rd
 refine ⟨_, rfl, (hS.partD (.cons _ (.cons_cons _ (.cons_cons _ .slnil))) 3 rfl (.refl _)), ?_⟩
 intro a hA
 refine any_one (by kernel_rfl) (op_call hA 11 rfl rfl rfl rfl (enters_func  rfl rfl (fun w => by kernel_rfl)) (zplus_any ⟨(hS.rd 2 rfl), hs11.nil, hs11.cap⟩ ⟨(hS.rd 0 rfl), hs21.nil, hs21.cap⟩ (by omega) (by omega)) ?_)
 rintro _ w28 ⟨zo24, zc25, rfl, hs26, hb27⟩
 replace hS := hS.call hb27
 replace hS := hS.addR hs26.rd
 refine ⟨_, rfl, (hS.partD (.cons _ (.cons_cons _ (.cons_cons _ .slnil))) 4 rfl (.refl _)), ?_⟩
 intro a hA
 refine any_one (by kernel_rfl) (op_call hA 16 rfl rfl rfl rfl (enters_func  rfl rfl (fun w => by kernel_rfl)) (ztimes_any ⟨(hS.rd 9 rfl), ha1.nil, ha1.cap⟩ ⟨(hS.rd 5 rfl), hu2.nil, hu2.cap⟩ (by omega) (by omega)) ?_)
 rintro _ w33 ⟨zo29, zc30, rfl, hs31, hb32⟩
 replace hS := hS.call hb32
 replace hS := hS.addR hs31.rd
 refine ⟨_, rfl, (hS.partD (.cons _ (.cons_cons _ (.cons_cons _ .slnil))) 5 rfl (.refl _)), ?_⟩
 intro a hA
 refine any_one (by kernel_rfl) (op_call hA 21 rfl rfl rfl rfl (enters_func  rfl rfl (fun w => by kernel_rfl)) (ztimes_any ⟨(hS.rd 9 rfl), ha2.nil, ha2.cap⟩ ⟨(hS.rd 7 rfl), hu1.nil, hu1.cap⟩ (by omega) (by omega)) ?_)
 rintro _ w38 ⟨zo34, zc35, rfl, hs36, hb37⟩
 replace hS := hS.call hb37
 replace hS := hS.addR hs36.rd
 refine ⟨_, rfl, (hS.partD (.cons _ (.cons_cons _ (.cons_cons _ .slnil))) 6 rfl (.refl _)), ?_⟩
 intro a hA
 refine any_one (by kernel_rfl) (op_call hA 22 rfl rfl rfl rfl (enters_func  rfl rfl (fun w => by kernel_rfl)) (zplus_any ⟨(hS.rd 1 rfl), hs31.nil, hs31.cap⟩ ⟨(hS.rd 0 rfl), hs36.nil, hs36.cap⟩ (by omega) (by omega)) ?_)
 rintro _ w43 ⟨zo39, zc40, rfl, hs41, hb42⟩
 replace hS := hS.call hb42
 replace hS := hS.addR hs41.rd
 refine ⟨_, rfl, (hS.partD (.cons _ (.cons_cons _ (.cons_cons _ .slnil))) 7 rfl (.refl _)), ?_⟩
 intro a hA
 refine any_one (by kernel_rfl) (op_call hA 27 rfl rfl rfl rfl (enters_func  rfl rfl (fun w => by kernel_rfl)) (product_any _ _ (hS.rd 10 rfl) (hS.rd 7 rfl) (by omega) (by omega)) ?_)
 rintro _ w48 ⟨ro44, rc45, rfl, ho46, hb47⟩
 replace hS := hS.call hb47
 replace hS := hS.addR ho46.rd
 refine ⟨_, rfl, (hS.partD (.cons _ (.cons_cons _ (.cons_cons _ .slnil))) 8 rfl (.refl _)), ?_⟩
 intro a hA
 refine any_tk (v := .agg #[.bool ((rb (x1 * x2 + (-(y1 * y2))))), .slice zo24 ((words (x1 * x2 + (-(y1 * y2))).natAbs).length) zc25, .bool ((rb (x1 * y2 + (y1 * x2)))), .slice zo39 ((words (x1 * y2 + (y1 * x2)).natAbs).length) zc40, .slice ro44 ((words (d1 * d2)).length) rc45]) hA 28 rfl rfl rfl rfl hP (hS.partD (.cons _ (.cons_cons _ (.cons_cons _ .slnil))) 8 rfl (.refl _)) (fun w1 hS => d_build rfl (fun w => by kernel_rfl)) ?_
 intro a hA
 refine any_one (by kernel_rfl) (op_store (us := [.bool ((rb (x1 * x2 + (-(y1 * y2))))), .slice zo24 ((words (x1 * x2 + (-(y1 * y2))).natAbs).length) zc25, .bool ((rb (x1 * y2 + (y1 * x2)))), .slice zo39 ((words (x1 * y2 + (y1 * x2)).natAbs).length) zc40, .slice ro44 ((words (d1 * d2)).length) rc45]) hA hS 29 rfl rfl rfl (sets_store rfl rfl rfl (by kernel_rfl) hS 0 rfl rfl rfl) 0 rfl rfl rfl rfl ?_)
 intro w49 hS
 refine ⟨(hS.partD (.cons _ (.cons_cons _ (.cons_cons _ .slnil))) 8 rfl (.refl _)), ?_⟩
 refine any_end (by kernel_rfl) ?_
 refine hK8 _ _ ?_
 refine wp_ret ?_
 refine hret _ _ ?_
 refine ends (v := .agg #[.bool ((rb (x1 * x2 + (-(y1 * y2))))), .slice zo24 ((words (x1 * x2 + (-(y1 * y2))).natAbs).length) zc25, .bool ((rb (x1 * y2 + (y1 * x2)))), .slice zo39 ((words (x1 * y2 + (y1 * x2)).natAbs).length) zc40, .slice ro44 ((words (d1 * d2)).length) rc45]) hA rfl (.cons (res_cell hS ExJ_isS_62 rfl 0 rfl (cs := [.bool ((rb (x1 * x2 + (-(y1 * y2))))), .slice zo24 ((words (x1 * x2 + (-(y1 * y2))).natAbs).length) zc25, .bool ((rb (x1 * y2 + (y1 * x2)))), .slice zo39 ((words (x1 * y2 + (y1 * x2)).natAbs).length) zc40, .slice ro44 ((words (d1 * d2)).length) rc45]) rfl rfl) .nil) rfl ?_
 exact ⟨zo24, zc25, zo39, zc40, ro44, rc45, rfl, ⟨(hS.rd 4 rfl), hs26.nil, hs26.cap⟩, ⟨(hS.rd 1 rfl), hs41.nil, hs41.cap⟩, ⟨(hS.rd 0 rfl), ho46.nocap, ho46.caps⟩, hS.bel⟩
end Go.Proofs.YtjmhdebfpnjceaaGreat
namespace Go.Proofs.YtjmhdebfpnjceaaGreat
open Go.RowKit
set_option linter.unusedVariables false
set_option linter.unusedSimpArgs false
set_option maxRecDepth 100000
theorem ExK_is1_22 : Is1 Tryz.prog 22 := ⟨⟨_, Tryz.underlying22, rfl⟩, by kernel_rfl⟩
theorem ExK_is1_4 : Is1 Tryz.prog 4 := ⟨⟨_, Tryz.underlying4, rfl⟩, by kernel_rfl⟩
theorem ExK_fld_24_0 : FieldAt Tryz.prog 24 0 0 := ⟨_, _, Tryz.underlying24, rfl, rfl, by kernel_rfl⟩
theorem ExK_fld_24_1 : FieldAt Tryz.prog 24 1 1 := ⟨_, _, Tryz.underlying24, rfl, rfl, by kernel_rfl⟩
theorem ExK_fld_24_2 : FieldAt Tryz.prog 24 2 2 := ⟨_, _, Tryz.underlying24, rfl, rfl, by kernel_rfl⟩
theorem ExK_fld_26_0 : FieldAt Tryz.prog 26 0 0 := ⟨_, _, Tryz.underlying26, rfl, rfl, by kernel_rfl⟩
theorem ExK_fld_26_1 : FieldAt Tryz.prog 26 1 3 := ⟨_, _, Tryz.underlying26, rfl, rfl, by kernel_rfl⟩
theorem ExK_fld_60_0 : FieldAt Tryz.prog 60 0 0 := ⟨_, _, Tryz.underlying60, rfl, rfl, by kernel_rfl⟩
theorem ExK_fld_60_1 : FieldAt Tryz.prog 60 1 1 := ⟨_, _, Tryz.underlying60, rfl, rfl, by kernel_rfl⟩
theorem ExK_fld_62_0 : FieldAt Tryz.prog 62 0 0 := ⟨_, _, Tryz.underlying62, rfl, rfl, by kernel_rfl⟩
theorem ExK_fld_62_1 : FieldAt Tryz.prog 62 1 2 := ⟨_, _, Tryz.underlying62, rfl, rfl, by kernel_rfl⟩
theorem ExK_fld_62_2 : FieldAt Tryz.prog 62 2 4 := ⟨_, _, Tryz.underlying62, rfl, rfl, by kernel_rfl⟩
theorem ExK_isS_60 : IsS Tryz.prog 60 2 := ⟨⟨_, Tryz.underlying60⟩, by kernel_rfl⟩
theorem ExK_isS_62 : IsS Tryz.prog 62 5 := ⟨⟨_, Tryz.underlying62⟩, by kernel_rfl⟩
theorem zspread_any {w : World} {u v : Rat} {a1 a2 a3 a4 : Option Addr} {ac1 ac2 ac3 ac4 : Nat} (ha : Nm w (Q6.rat u v) a1 ac1 a2 ac2 a3 ac3 a4 ac4) (hu : fitR u) (hv : fitR v) : Calls Tryz.prog 40 #[numV (Q6.rat u v) a1 ac1 a2 ac2 a3 ac3 a4 ac4] w (AnsR w (spX u v) (spY u v) (spD u v)) := by
 have k1 : (words u.num.natAbs).length ≤ 512 := hu.1
 have k2 : (words u.den).length ≤ 512 := hu.2
 have k3 : (words v.num.natAbs).length ≤ 512 := hv.1
 have k4 : (words v.den).length ≤ 512 := hv.2
 have k5 : (words (v.den / spG u v)).length ≤ 512 := div_len hv.2
 have k6 : (words (u.den / spG u v)).length ≤ 512 := div_len hu.2
 have k7 : (words (spG u v)).length ≤ 512 := gcd_len v.den_nz hv.2
 have hS : St w w [] [(a4, words v.den), (a3, words v.num.natAbs), (a2, words u.den), (a1, words u.num.natAbs)] [] := ((((St.start w).addR ha.s1.rd).addR ha.s2.rd).addR ha.s3.rd).addR ha.s4.rd
 refine walk_of (l := [(0, .agg #[.bool (rb u.num), .slice a1 ((words u.num.natAbs).length) ac1, .slice a2 ((words u.den).length) ac2, .bool (rb v.num), .slice a3 ((words v.num.natAbs).length) ac3, .slice a4 ((words v.den).length) ac4])]) Tryz.func40 rfl Tryz.ntmps40 rfl rfl ?_
 intro Q hret hnorm hP a hA
 refine wp_seq_k (fun K1 hK1 => ?_)
 refine wp_region_lit ?_
 refine seq_new hA hS rfl rfl rfl (fun g => .pointer (some ⟨g, 0, none⟩)) (d_box rfl rfl) rfl ?_
 intro g2 w3 hS a hA
 refine seq_new (vs := [.bool false, .slice none 0 0, .bool false, .slice none 0 0, .slice none 0 0]) (t := 62) hA hS rfl rfl rfl (fun g => .pointer (some ⟨g, 0, none⟩)) (d_alloc (z := .agg #[.bool false, .slice none 0 0, .bool false, .slice none 0 0, .slice none 0 0]) (by kernel_rfl) rfl) rfl ?_
 intro g4 w5 hS a hA
 refine seq_end ?_
 refine hK1 _ _ ?_
 refine wp_seq_k (fun K6 hK6 => ?_)
 refine wp_region_lit ?_
 refine seq_do (v := .pointer (some ⟨g2, 0, none⟩)) hA rfl rfl rfl (d_field ExK_fld_26_0 rfl rfl) ?_
 intro a hA
 refine seq_do (v := .pointer (some ⟨g2, 2, none⟩)) hA rfl rfl rfl (d_field ExK_fld_24_2 rfl rfl) ?_
 intro a hA
 refine seq_do hA rfl rfl rfl (d_load1 hS ExK_is1_22 rfl 1 rfl rfl) ?_
 intro a hA
 refine seq_do (v := .pointer (some ⟨g2, 3, none⟩)) hA rfl rfl rfl (d_field ExK_fld_26_1 rfl rfl) ?_
 intro a hA
 refine seq_do (v := .pointer (some ⟨g2, 5, none⟩)) hA rfl rfl rfl (d_field ExK_fld_24_2 rfl rfl) ?_
 intro a hA
 refine seq_do hA rfl rfl rfl (d_load1 hS ExK_is1_22 rfl 1 rfl rfl) ?_
 intro a hA
 refine seq_call hA rfl rfl rfl (enters_func  rfl rfl (fun w => by kernel_rfl)) (divisor_any _ _ (hS.rd 2 rfl) (hS.rd 0 rfl) (by omega) (by omega) ha.s2.nil ha.s4.nil) ?_
 rintro _ w11 ⟨ro7, rc8, rfl, ho9, hb10⟩
 replace hS := hS.call hb10
 replace hS := hS.addR ho9.rd
 refine ⟨_, rfl, ?_⟩
 intro a hA
 refine seq_do hA rfl rfl rfl (d_assign rfl) ?_
 intro a hA
 refine seq_end ?_
 refine hK6 _ _ ?_
 refine wp_seq_k (fun K12 hK12 => ?_)
 refine wp_region_lit ?_
 refine seq_do (v := .pointer (some ⟨g2, 3, none⟩)) hA rfl rfl rfl (d_field ExK_fld_26_1 rfl rfl) ?_
 intro a hA
 refine seq_do (v := .pointer (some ⟨g2, 5, none⟩)) hA rfl rfl rfl (d_field ExK_fld_24_2 rfl rfl) ?_
 intro a hA
 refine seq_do hA rfl rfl rfl (d_load1 hS ExK_is1_22 rfl 1 rfl rfl) ?_
 intro a hA
 refine seq_do hA rfl rfl rfl (d_move rfl) ?_
 intro a hA
 refine seq_call hA rfl rfl rfl (enters_func  rfl rfl (fun w => by kernel_rfl)) (divide_any _ _ (hS.rd 1 rfl) (hS.rd 0 rfl) (by omega) (Nat.le_trans (gcd_len v.den_nz hv.2) (by decide)) ha.s4.nil (Nat.ne_of_gt (spG_pos u v))) ?_
 rintro _ w20 ⟨ro13, rc14, uo15, uc16, rfl, ho17, hp18, hb19⟩
 replace hS := hS.call hb19
 replace hS := hS.addR ho17.rd
 replace hS := hS.addR hp18.rd
 refine ⟨_, rfl, ?_⟩
 intro a hA
 refine seq_do hA rfl rfl rfl (d_move rfl) ?_
 intro a hA
 refine seq_do (v := .slice ro13 ((words (v.den / spG u v)).length) rc14) hA rfl rfl rfl (d_extract (vs := [.slice ro13 ((words (v.den / spG u v)).length) rc14, .slice uo15 ((words (v.den % spG u v)).length) uc16]) rfl rfl) ?_
 intro a hA
 refine seq_do (v := .slice uo15 ((words (v.den % spG u v)).length) uc16) hA rfl rfl rfl (d_extract (vs := [.slice ro13 ((words (v.den / spG u v)).length) rc14, .slice uo15 ((words (v.den % spG u v)).length) uc16]) rfl rfl) ?_
 intro a hA
 refine seq_do hA rfl rfl rfl (d_assign rfl) ?_
 intro a hA
 refine seq_do hA rfl rfl rfl (d_assign rfl) ?_
 intro a hA
 refine seq_end ?_
 refine hK12 _ _ ?_
 refine wp_seq_k (fun K21 hK21 => ?_)
 refine wp_region_lit ?_
 refine seq_do (v := .pointer (some ⟨g2, 0, none⟩)) hA rfl rfl rfl (d_field ExK_fld_26_0 rfl rfl) ?_
 intro a hA
 refine seq_do (v := .pointer (some ⟨g2, 2, none⟩)) hA rfl rfl rfl (d_field ExK_fld_24_2 rfl rfl) ?_
 intro a hA
 refine seq_do hA rfl rfl rfl (d_load1 hS ExK_is1_22 rfl 1 rfl rfl) ?_
 intro a hA
 refine seq_do hA rfl rfl rfl (d_move rfl) ?_
 intro a hA
 refine seq_call hA rfl rfl rfl (enters_func  rfl rfl (fun w => by kernel_rfl)) (divide_any _ _ (hS.rd 5 rfl) (hS.rd 2 rfl) (by omega) (Nat.le_trans (gcd_len v.den_nz hv.2) (by decide)) ha.s2.nil (Nat.ne_of_gt (spG_pos u v))) ?_
 rintro _ w29 ⟨ro22, rc23, uo24, uc25, rfl, ho26, hp27, hb28⟩
 replace hS := hS.call hb28
 replace hS := hS.addR ho26.rd
 replace hS := hS.addR hp27.rd
 refine ⟨_, rfl, ?_⟩
 intro a hA
 refine seq_do hA rfl rfl rfl (d_move rfl) ?_
 intro a hA
 refine seq_do (v := .slice ro22 ((words (u.den / spG u v)).length) rc23) hA rfl rfl rfl (d_extract (vs := [.slice ro22 ((words (u.den / spG u v)).length) rc23, .slice uo24 ((words (u.den % spG u v)).length) uc25]) rfl rfl) ?_
 intro a hA
 refine seq_do (v := .slice uo24 ((words (u.den % spG u v)).length) uc25) hA rfl rfl rfl (d_extract (vs := [.slice ro22 ((words (u.den / spG u v)).length) rc23, .slice uo24 ((words (u.den % spG u v)).length) uc25]) rfl rfl) ?_
 intro a hA
 refine seq_do hA rfl rfl rfl (d_assign rfl) ?_
 intro a hA
 refine seq_do hA rfl rfl rfl (d_assign rfl) ?_
 intro a hA
 refine seq_end ?_
 refine hK21 _ _ ?_
 refine wp_seq_k (fun K30 hK30 => ?_)
 refine wp_draw (S := fun w1 => St w w1 [(g2, [.bool (rb u.num), .slice a1 ((words u.num.natAbs).length) ac1, .slice a2 ((words u.den).length) ac2, .bool (rb v.num), .slice a3 ((words v.num.natAbs).length) ac3, .slice a4 ((words v.den).length) ac4])] [(uo24, words (u.den % spG u v)), (ro22, words (u.den / spG u v)), (uo15, words (v.den % spG u v)), (ro13, words (v.den / spG u v)), (ro7, words (spG u v)), (a4, words v.den), (a3, words v.num.natAbs), (a2, words u.den), (a1, words u.num.natAbs)] []) (by kernel_rfl) ?_
 replace hS := hS.drew
 refine any_tk (v := .pointer (some ⟨g2, 0, none⟩)) hA 0 rfl rfl rfl rfl hP (hS.partD (.cons _ (.cons_cons _ .slnil)) 0 rfl (.refl _)) (fun w1 hS => d_field ExK_fld_26_0 rfl rfl) ?_
 intro a hA
 refine any_tk (v := .pointer (some ⟨g2, 0, none⟩)) hA 1 rfl rfl rfl rfl hP (hS.partD (.cons _ (.cons_cons _ .slnil)) 0 rfl (.refl _)) (fun w1 hS => d_field ExK_fld_24_0 rfl rfl) ?_
 intro a hA
 refine any_tk hA 2 rfl rfl rfl rfl hP (hS.partD (.cons _ (.cons_cons _ .slnil)) 0 rfl (.refl _)) (fun w1 hS => d_load1 hS ExK_is1_4 rfl 0 rfl rfl) ?_
 intro a hA
 refine any_tk (v := .pointer (some ⟨g2, 0, none⟩)) hA 3 rfl rfl rfl rfl hP (hS.partD (.cons _ (.cons_cons _ .slnil)) 0 rfl (.refl _)) (fun w1 hS => d_field ExK_fld_26_0 rfl rfl) ?_
 intro a hA
 refine any_tk (v := .pointer (some ⟨g2, 1, none⟩)) hA 4 rfl rfl rfl rfl hP (hS.partD (.cons _ (.cons_cons _ .slnil)) 0 rfl (.refl _)) (fun w1 hS => d_field ExK_fld_24_1 rfl rfl) ?_
 intro a hA
 refine any_tk hA 5 rfl rfl rfl rfl hP (hS.partD (.cons _ (.cons_cons _ .slnil)) 0 rfl (.refl _)) (fun w1 hS => d_load1 hS ExK_is1_22 rfl 0 rfl rfl) ?_
 intro a hA
 refine any_tk hA 7 rfl rfl rfl rfl hP (hS.partD (.cons _ (.cons_cons _ .slnil)) 0 rfl (.refl _)) (fun w1 hS => d_move rfl) ?_
 intro a hA
 refine any_tk (v := .pointer (some ⟨g2, 3, none⟩)) hA 9 rfl rfl rfl rfl hP (hS.partD (.cons _ (.cons_cons _ .slnil)) 0 rfl (.refl _)) (fun w1 hS => d_field ExK_fld_26_1 rfl rfl) ?_
 intro a hA
 refine any_tk (v := .pointer (some ⟨g2, 3, none⟩)) hA 10 rfl rfl rfl rfl hP (hS.partD (.cons _ (.cons_cons _ .slnil)) 0 rfl (.refl _)) (fun w1 hS => d_field ExK_fld_24_0 rfl rfl) ?_
 intro a hA
 refine any_tk hA 11 rfl rfl rfl rfl hP (hS.partD (.cons _ (.cons_cons _ .slnil)) 0 rfl (.refl _)) (fun w1 hS => d_load1 hS ExK_is1_4 rfl 0 rfl rfl) ?_
 intro a hA
 refine any_tk (v := .pointer (some ⟨g2, 3, none⟩)) hA 12 rfl rfl rfl rfl hP (hS.partD (.cons _ (.cons_cons _ .slnil)) 0 rfl (.refl _)) (fun w1 hS => d_field ExK_fld_26_1 rfl rfl) ?_
 intro a hA
 refine any_tk (v := .pointer (some ⟨g2, 4, none⟩)) hA 13 rfl rfl rfl rfl hP (hS.partD (.cons _ (.cons_cons _ .slnil)) 0 rfl (.refl _)) (fun w1 hS => d_field ExK_fld_24_1 rfl rfl) ?_
 intro a hA
 refine any_tk hA 14 rfl rfl rfl rfl hP (hS.partD (.cons _ (.cons_cons _ .slnil)) 0 rfl (.refl _)) (fun w1 hS => d_load1 hS ExK_is1_22 rfl 0 rfl rfl) ?_
 intro a hA
 refine any_tk hA 16 rfl rfl rfl rfl hP (hS.partD (.cons _ (.cons_cons _ .slnil)) 0 rfl (.refl _)) (fun w1 hS => d_move rfl) ?_
 intro a hA
 refine any_tk (v := .pointer (some ⟨g2, 0, none⟩)) hA 18 rfl rfl rfl rfl hP (hS.partD (.cons _ (.cons_cons _ .slnil)) 0 rfl (.refl _)) (fun w1 hS => d_field ExK_fld_26_0 rfl rfl) ?_
 intro a hA
 refine any_tk (v := .pointer (some ⟨g2, 2, none⟩)) hA 19 rfl rfl rfl rfl hP (hS.partD (.cons _ (.cons_cons _ .slnil)) 0 rfl (.refl _)) (fun w1 hS => d_field ExK_fld_24_2 rfl rfl) ?_
 intro a hA
 refine any_tk hA 20 rfl rfl rfl rfl hP (hS.partD (.cons _ (.cons_cons _ .slnil)) 0 rfl (.refl _)) (fun w1 hS => d_load1 hS ExK_is1_22 rfl 0 rfl rfl) ?_
 intro a hA
 refine any_tk hA 21 rfl rfl rfl rfl hP (hS.partD (.cons _ (.cons_cons _ .slnil)) 0 rfl (.refl _)) (fun w1 hS => d_move rfl) ?_
 intro a hA
 refine any_one (by kernel_rfl) (op_call hA 6 rfl rfl rfl rfl (enters_func  rfl rfl (fun w => by kernel_rfl)) (zsigned_any (b := rb u.num) (n := u.num.natAbs) (z := u.num) ⟨(hS.rd 8 rfl), ha.s1.nil, ha.s1.cap⟩ (sgn_rb u.num)) ?_)
 rintro _ w35 ⟨zo31, zc32, rfl, hs33, hb34⟩
 replace hS := hS.call hb34
 replace hS := hS.addR hs33.rd
 refine ⟨_, rfl, (hS.partD (.cons _ (.cons_cons _ .slnil)) 1 rfl (.refl _)), ?_⟩
 intro a hA
 refine any_one (by kernel_rfl) (op_call hA 8 rfl rfl rfl rfl (enters_func  rfl rfl (fun w => by kernel_rfl)) (zscaled_any ⟨(hS.rd 0 rfl), hs33.nil, hs33.cap⟩ ⟨(hS.rd 4 rfl), ho17.nocap, ho17.caps⟩ (by omega) (by omega)) ?_)
 rintro _ w40 ⟨zo36, zc37, rfl, hs38, hb39⟩
 replace hS := hS.call hb39
 replace hS := hS.addR hs38.rd
 refine ⟨_, rfl, (hS.partD (.cons _ (.cons_cons _ .slnil)) 2 rfl (.refl _)), ?_⟩
 intro a hA
 refine any_one (by kernel_rfl) (op_call hA 15 rfl rfl rfl rfl (enters_func  rfl rfl (fun w => by kernel_rfl)) (zsigned_any (b := rb v.num) (n := v.num.natAbs) (z := v.num) ⟨(hS.rd 8 rfl), ha.s3.nil, ha.s3.cap⟩ (sgn_rb v.num)) ?_)
 rintro _ w45 ⟨zo41, zc42, rfl, hs43, hb44⟩
 replace hS := hS.call hb44
 replace hS := hS.addR hs43.rd
 refine ⟨_, rfl, (hS.partD (.cons _ (.cons_cons _ .slnil)) 3 rfl (.refl _)), ?_⟩
 intro a hA
 refine any_one (by kernel_rfl) (op_call hA 17 rfl rfl rfl rfl (enters_func  rfl rfl (fun w => by kernel_rfl)) (zscaled_any ⟨(hS.rd 0 rfl), hs43.nil, hs43.cap⟩ ⟨(hS.rd 4 rfl), ho26.nocap, ho26.caps⟩ (by omega) (by omega)) ?_)
 rintro _ w50 ⟨zo46, zc47, rfl, hs48, hb49⟩
 replace hS := hS.call hb49
 replace hS := hS.addR hs48.rd
 refine ⟨_, rfl, (hS.partD (.cons _ (.cons_cons _ .slnil)) 4 rfl (.refl _)), ?_⟩
 intro a hA
 refine any_one (by kernel_rfl) (op_call hA 22 rfl rfl rfl rfl (enters_func  rfl rfl (fun w => by kernel_rfl)) (product_any _ _ (hS.rd 11 rfl) (hS.rd 7 rfl) (by omega) (by omega)) ?_)
 rintro _ w55 ⟨ro51, rc52, rfl, ho53, hb54⟩
 replace hS := hS.call hb54
 replace hS := hS.addR ho53.rd
 refine ⟨_, rfl, (hS.partD (.cons _ (.cons_cons _ .slnil)) 5 rfl (.refl _)), ?_⟩
 intro a hA
 refine any_tk (v := .agg #[.bool ((rb (u.num * ((v.den / spG u v : Nat) : Int)))), .slice zo36 ((words (u.num * ((v.den / spG u v : Nat) : Int)).natAbs).length) zc37, .bool ((rb (v.num * ((u.den / spG u v : Nat) : Int)))), .slice zo46 ((words (v.num * ((u.den / spG u v : Nat) : Int)).natAbs).length) zc47, .slice ro51 ((words (u.den * (v.den / spG u v))).length) rc52]) hA 23 rfl rfl rfl rfl hP (hS.partD (.cons _ (.cons_cons _ .slnil)) 5 rfl (.refl _)) (fun w1 hS => d_build rfl (fun w => by kernel_rfl)) ?_
 intro a hA
 refine any_one (by kernel_rfl) (op_store (us := [.bool ((rb (u.num * ((v.den / spG u v : Nat) : Int)))), .slice zo36 ((words (u.num * ((v.den / spG u v : Nat) : Int)).natAbs).length) zc37, .bool ((rb (v.num * ((u.den / spG u v : Nat) : Int)))), .slice zo46 ((words (v.num * ((u.den / spG u v : Nat) : Int)).natAbs).length) zc47, .slice ro51 ((words (u.den * (v.den / spG u v))).length) rc52]) hA hS 24 rfl rfl rfl (sets_store rfl rfl rfl (by kernel_rfl) hS 0 rfl rfl rfl) 0 rfl rfl rfl rfl ?_)
 intro w56 hS
 refine ⟨(hS.partD (.cons _ (.cons_cons _ .slnil)) 5 rfl (.refl _)), ?_⟩
 refine any_end (by kernel_rfl) ?_
 refine hK30 _ _ ?_
 refine wp_ret ?_
 refine hret _ _ ?_
 refine ends (v := .agg #[.bool ((rb (u.num * ((v.den / spG u v : Nat) : Int)))), .slice zo36 ((words (u.num * ((v.den / spG u v : Nat) : Int)).natAbs).length) zc37, .bool ((rb (v.num * ((u.den / spG u v : Nat) : Int)))), .slice zo46 ((words (v.num * ((u.den / spG u v : Nat) : Int)).natAbs).length) zc47, .slice ro51 ((words (u.den * (v.den / spG u v))).length) rc52]) hA rfl (.cons (res_cell hS ExK_isS_62 rfl 0 rfl (cs := [.bool ((rb (u.num * ((v.den / spG u v : Nat) : Int)))), .slice zo36 ((words (u.num * ((v.den / spG u v : Nat) : Int)).natAbs).length) zc37, .bool ((rb (v.num * ((u.den / spG u v : Nat) : Int)))), .slice zo46 ((words (v.num * ((u.den / spG u v : Nat) : Int)).natAbs).length) zc47, .slice ro51 ((words (u.den * (v.den / spG u v))).length) rc52]) rfl rfl) .nil) rfl ?_
 exact ⟨zo36, zc37, zo46, zc47, ro51, rc52, rfl, ⟨(hS.rd 3 rfl), hs38.nil, hs38.cap⟩, ⟨(hS.rd 1 rfl), hs48.nil, hs48.cap⟩, ⟨(hS.rd 0 rfl), ho53.nocap, ho53.caps⟩, hS.bel⟩
theorem zinv0_any {w : World} {x y : Int} {d : Nat} {a1 a2 a3 : Option Addr} {ac1 ac2 ac3 : Nat} (ha1 : Sc w a1 ac1 (words x.natAbs)) (ha2 : Sc w a2 ac2 (words y.natAbs)) (ha3 : Sc w a3 ac3 (words d)) (la1 : (words x.natAbs).length ≤ 10000) (la2 : (words y.natAbs).length ≤ 10000) (la3 : (words d).length ≤ 10000) (hy : y = 0) : Calls Tryz.prog 41 #[.agg #[.bool (rb x), .slice a1 (words x.natAbs).length ac1, .bool (rb y), .slice a2 (words y.natAbs).length ac2, .slice a3 (words d).length ac3]] w (AnsR w (ivX x y d) (ivY x y d) (ivD x y)) := by
 have k0 : (words y.natAbs).length = 0 := by rw [hy, Int.natAbs_zero, words_zero]; rfl
 have hS : St w w [] [(a3, words d), (a2, words y.natAbs), (a1, words x.natAbs)] [] := (((St.start w).addR ha1.rd).addR ha2.rd).addR ha3.rd
 refine walk_of (l := [(0, .agg #[.bool ((rb x)), .slice a1 ((words x.natAbs).length) ac1, .bool ((rb y)), .slice a2 ((words y.natAbs).length) ac2, .slice a3 ((words d).length) ac3])]) Tryz.func41 rfl Tryz.ntmps41 rfl rfl ?_
 intro Q hret hnorm hP a hA
 refine wp_seq_k (fun K1 hK1 => ?_)
 refine wp_region_lit ?_
 refine seq_new hA hS rfl rfl rfl (fun g => .pointer (some ⟨g, 0, none⟩)) (d_box rfl rfl) rfl ?_
 intro g2 w3 hS a hA
 refine seq_new (vs := [.bool false, .slice none 0 0, .bool false, .slice none 0 0, .slice none 0 0]) (t := 62) hA hS rfl rfl rfl (fun g => .pointer (some ⟨g, 0, none⟩)) (d_alloc (z := .agg #[.bool false, .slice none 0 0, .bool false, .slice none 0 0, .slice none 0 0]) (by kernel_rfl) rfl) rfl ?_
 intro g4 w5 hS a hA
 refine seq_end ?_
 refine hK1 _ _ ?_
 refine wp_seq_k (fun K6 hK6 => ?_)
 refine wp_seq_k (fun K7 hK7 => ?_)
 refine wp_region_lit ?_
 refine seq_do (v := .pointer (some ⟨g2, 2, none⟩)) hA rfl rfl rfl (d_field ExK_fld_62_1 rfl rfl) ?_
 intro a hA
 refine seq_do (v := .pointer (some ⟨g2, 3, none⟩)) hA rfl rfl rfl (d_field ExK_fld_60_1 rfl rfl) ?_
 intro a hA
 refine seq_do hA rfl rfl rfl (d_load1 hS ExK_is1_22 rfl 1 rfl rfl) ?_
 intro a hA
 refine seq_do (v := .int .i64 ((((words y.natAbs).length : Nat) : Int))) hA rfl rfl rfl (d_len Tryz.underlying22 rfl) ?_
 intro a hA
 refine seq_do (v := .bool true) hA rfl rfl rfl (d_bin rfl rfl (fun w => (bin_eql w).trans (by rw [show (((((words y.natAbs).length : Nat) : Int) == 0)) = true from (by simp only [k0]; rfl)]))) ?_
 intro a hA
 refine seq_end ?_
 refine hK7 _ _ ?_
 refine wp_cond_true (hA.ev rfl) ?_
 refine wp_seq_k (fun K8 hK8 => ?_)
 refine wp_draw (S := fun w1 => St w w1 [(g2, [.bool ((rb x)), .slice a1 ((words x.natAbs).length) ac1, .bool ((rb y)), .slice a2 ((words y.natAbs).length) ac2, .slice a3 ((words d).length) ac3])] [(a3, words d), (a2, words y.natAbs), (a1, words x.natAbs)] []) (by kernel_rfl) ?_
 replace hS := hS.drew
 refine any_tk (v := .pointer (some ⟨g2, 0, none⟩)) hA 0 rfl rfl rfl rfl hP (hS.partD (.cons _ (.cons_cons _ .slnil)) 0 rfl (.refl _)) (fun w1 hS => d_field ExK_fld_62_0 rfl rfl) ?_
 intro a hA
 refine any_tk (v := .pointer (some ⟨g2, 0, none⟩)) hA 1 rfl rfl rfl rfl hP (hS.partD (.cons _ (.cons_cons _ .slnil)) 0 rfl (.refl _)) (fun w1 hS => d_field ExK_fld_60_0 rfl rfl) ?_
 intro a hA
 refine any_tk hA 2 rfl rfl rfl rfl hP (hS.partD (.cons _ (.cons_cons _ .slnil)) 0 rfl (.refl _)) (fun w1 hS => d_load1 hS ExK_is1_4 rfl 0 rfl rfl) ?_
 intro a hA
 refine any_tk (v := .pointer (some ⟨g2, 4, none⟩)) hA 3 rfl rfl rfl rfl hP (hS.partD (.cons _ (.cons_cons _ .slnil)) 0 rfl (.refl _)) (fun w1 hS => d_field ExK_fld_62_2 rfl rfl) ?_
 intro a hA
 refine any_tk hA 4 rfl rfl rfl rfl hP (hS.partD (.cons _ (.cons_cons _ .slnil)) 0 rfl (.refl _)) (fun w1 hS => d_load1 hS ExK_is1_22 rfl 0 rfl rfl) ?_
 intro a hA
 refine any_tk (v := .pointer (some ⟨g2, 0, none⟩)) hA 6 rfl rfl rfl rfl hP (hS.partD (.cons _ (.cons_cons _ .slnil)) 0 rfl (.refl _)) (fun w1 hS => d_field ExK_fld_62_0 rfl rfl) ?_
 intro a hA
 refine any_tk (v := .pointer (some ⟨g2, 1, none⟩)) hA 7 rfl rfl rfl rfl hP (hS.partD (.cons _ (.cons_cons _ .slnil)) 0 rfl (.refl _)) (fun w1 hS => d_field ExK_fld_60_1 rfl rfl) ?_
 intro a hA
 refine any_tk hA 8 rfl rfl rfl rfl hP (hS.partD (.cons _ (.cons_cons _ .slnil)) 0 rfl (.refl _)) (fun w1 hS => d_load1 hS ExK_is1_22 rfl 0 rfl rfl) ?_
 intro a hA
 refine any_one (by kernel_rfl) (op_call hA 5 rfl rfl rfl rfl (enters_func  rfl rfl (fun w => by kernel_rfl)) (zsigned_any (b := rb x) (n := d) (z := sgn (rb x) d) ⟨(hS.rd 0 rfl), ha3.nil, ha3.cap⟩ rfl) ?_)
 rintro _ w13 ⟨zo9, zc10, rfl, hs11, hb12⟩
 replace hS := hS.call hb12
 replace hS := hS.addR hs11.rd
 refine ⟨_, rfl, (hS.partD (.cons _ (.cons_cons _ .slnil)) 1 rfl (.refl _)), ?_⟩
 intro a hA
 refine any_tk (v := .agg #[.bool ((rb (sgn (rb x) d))), .slice zo9 ((words (sgn (rb x) d).natAbs).length) zc10, .bool false, .slice none 0 0, .slice a1 ((words x.natAbs).length) ac1]) hA 9 rfl rfl rfl rfl hP (hS.partD (.cons _ (.cons_cons _ .slnil)) 1 rfl (.refl _)) (fun w1 hS => d_build rfl (fun w => by kernel_rfl)) ?_
 intro a hA
 refine any_one (by kernel_rfl) (op_store (us := [.bool ((rb (sgn (rb x) d))), .slice zo9 ((words (sgn (rb x) d).natAbs).length) zc10, .bool false, .slice none 0 0, .slice a1 ((words x.natAbs).length) ac1]) hA hS 10 rfl rfl rfl (sets_store rfl rfl rfl (by kernel_rfl) hS 0 rfl rfl rfl) 0 rfl rfl rfl rfl ?_)
 intro w14 hS
 refine ⟨(hS.partD (.cons _ (.cons_cons _ .slnil)) 1 rfl (.refl _)), ?_⟩
 refine any_end (by kernel_rfl) ?_
 refine hK8 _ _ ?_
 refine wp_ret ?_
 refine hret _ _ ?_
 refine ends (v := .agg #[.bool ((rb (sgn (rb x) d))), .slice zo9 ((words (sgn (rb x) d).natAbs).length) zc10, .bool false, .slice none 0 0, .slice a1 ((words x.natAbs).length) ac1]) hA rfl (.cons (res_cell hS ExK_isS_62 rfl 0 rfl (cs := [.bool ((rb (sgn (rb x) d))), .slice zo9 ((words (sgn (rb x) d).natAbs).length) zc10, .bool false, .slice none 0 0, .slice a1 ((words x.natAbs).length) ac1]) rfl rfl) .nil) rfl ?_
 rw [show ivX x y d = sgn (rb x) d from if_pos hy, show ivY x y d = 0 from if_pos hy, show ivD x y = x.natAbs from if_pos hy]
 exact ⟨zo9, zc10, none, 0, a1, ac1, by rw [show words (Int.natAbs 0) = [] from words_zero]; rfl, ⟨(hS.rd 0 rfl), hs11.nil, hs11.cap⟩, by rw [show words (Int.natAbs 0) = [] from words_zero]; exact Sc.none _, ⟨(hS.rd 3 rfl), ha1.nil, ha1.cap⟩, hS.bel⟩
theorem zinv1_any {w : World} {x y : Int} {d : Nat} {a1 a2 a3 : Option Addr} {ac1 ac2 ac3 : Nat} (ha1 : Sc w a1 ac1 (words x.natAbs)) (ha2 : Sc w a2 ac2 (words y.natAbs)) (ha3 : Sc w a3 ac3 (words d)) (la1 : (words x.natAbs).length ≤ 10000) (la2 : (words y.natAbs).length ≤ 10000) (la3 : (words d).length ≤ 10000) (hy : y ≠ 0) : Calls Tryz.prog 41 #[.agg #[.bool (rb x), .slice a1 (words x.natAbs).length ac1, .bool (rb y), .slice a2 (words y.natAbs).length ac2, .slice a3 (words d).length ac3]] w (AnsR w (ivX x y d) (ivY x y d) (ivD x y)) := by
 have k0 : (words y.natAbs).length ≠ 0 := by have := (words_len_pos (x := y.natAbs)).2 (by omega); omega
 have k1 := abs_mul_len la1 la1
 have k2 := abs_mul_len la2 la2
 have k3 : (words (-y).natAbs).length ≤ 10000 := by rw [Int.natAbs_neg]; exact la2
 have hS : St w w [] [(a3, words d), (a2, words y.natAbs), (a1, words x.natAbs)] [] := (((St.start w).addR ha1.rd).addR ha2.rd).addR ha3.rd
 refine walk_of (l := [(0, .agg #[.bool ((rb x)), .slice a1 ((words x.natAbs).length) ac1, .bool ((rb y)), .slice a2 ((words y.natAbs).length) ac2, .slice a3 ((words d).length) ac3])]) Tryz.func41 rfl Tryz.ntmps41 rfl rfl ?_
 intro Q hret hnorm hP a hA
 refine wp_seq_k (fun K1 hK1 => ?_)
 refine wp_region_lit ?_
 refine seq_new hA hS rfl rfl rfl (fun g => .pointer (some ⟨g, 0, none⟩)) (d_box rfl rfl) rfl ?_
 intro g2 w3 hS a hA
 refine seq_new (vs := [.bool false, .slice none 0 0, .bool false, .slice none 0 0, .slice none 0 0]) (t := 62) hA hS rfl rfl rfl (fun g => .pointer (some ⟨g, 0, none⟩)) (d_alloc (z := .agg #[.bool false, .slice none 0 0, .bool false, .slice none 0 0, .slice none 0 0]) (by kernel_rfl) rfl) rfl ?_
 intro g4 w5 hS a hA
 refine seq_end ?_
 refine hK1 _ _ ?_
 refine wp_seq_k (fun K6 hK6 => ?_)
 refine wp_seq_k (fun K7 hK7 => ?_)
 refine wp_region_lit ?_
 refine seq_do (v := .pointer (some ⟨g2, 2, none⟩)) hA rfl rfl rfl (d_field ExK_fld_62_1 rfl rfl) ?_
 intro a hA
 refine seq_do (v := .pointer (some ⟨g2, 3, none⟩)) hA rfl rfl rfl (d_field ExK_fld_60_1 rfl rfl) ?_
 intro a hA
 refine seq_do hA rfl rfl rfl (d_load1 hS ExK_is1_22 rfl 1 rfl rfl) ?_
 intro a hA
 refine seq_do (v := .int .i64 ((((words y.natAbs).length : Nat) : Int))) hA rfl rfl rfl (d_len Tryz.underlying22 rfl) ?_
 intro a hA
 refine seq_do (v := .bool false) hA rfl rfl rfl (d_bin rfl rfl (fun w => (bin_eql w).trans (by rw [show (((((words y.natAbs).length : Nat) : Int) == 0)) = false from (by simpa using k0)]))) ?_
 intro a hA
 refine seq_end ?_
 refine hK7 _ _ ?_
 refine wp_cond_false (hA.ev rfl) ?_
 refine wp_skip ?_
 refine hK6 _ _ ?_
 refine wp_seq_k (fun K8 hK8 => ?_)
 have hJ32 : ∀ a w1, (∃ (J27g : Nat) (J28 : Option Addr) (J29 : Nat), Sl a 44 [(0, .agg #[.bool ((rb x)), .slice a1 ((words x.natAbs).length) ac1, .bool ((rb y)), .slice a2 ((words y.natAbs).length) ac2, .slice a3 ((words d).length) ac3]), (1, .pointer (some ⟨g2, 0, none⟩)), (2, .pointer (some ⟨g4, 0, none⟩)), (3, .pointer (some ⟨J27g, 0, none⟩)), (4, .pointer (some ⟨g2, 2, none⟩)), (5, .pointer (some ⟨g2, 3, none⟩)), (6, .slice a2 ((words y.natAbs).length) ac2), (7, .int .i64 ((((words y.natAbs).length : Nat) : Int))), (8, .bool false)] ∧ St w w1 [(J27g, [.bool ((rb (x * x + (y * y)))), .slice J28 ((words (x * x + (y * y)).natAbs).length) J29]), (g4, [.bool false, .slice none 0 0, .bool false, .slice none 0 0, .slice none 0 0]), (g2, [.bool ((rb x)), .slice a1 ((words x.natAbs).length) ac1, .bool ((rb y)), .slice a2 ((words y.natAbs).length) ac2, .slice a3 ((words d).length) ac3])] [(J28, words (x * x + (y * y)).natAbs), (a3, words d), (a2, words y.natAbs), (a1, words x.natAbs)] [] ∧ (J28 = none → J29 = 0) ∧ (words (x * x + (y * y)).natAbs : List Nat).length ≤ J29) → K8 a w1 := by
   clear hA hS
   rintro a w33 ⟨J27g, J28, J29, hA, hS, hn30, hc31⟩
   refine hK8 _ _ ?_
   refine wp_seq_k (fun K34 hK34 => ?_)
   refine wp_draw (S := fun w1 => St w w1 [(J27g, [.bool ((rb (x * x + (y * y)))), .slice J28 ((words (x * x + (y * y)).natAbs).length) J29]), (g2, [.bool ((rb x)), .slice a1 ((words x.natAbs).length) ac1, .bool ((rb y)), .slice a2 ((words y.natAbs).length) ac2, .slice a3 ((words d).length) ac3])] [(J28, words (x * x + (y * y)).natAbs), (a3, words d), (a2, words y.natAbs), (a1, words x.natAbs)] []) (by kernel_rfl) ?_
   replace hS := hS.drew
   refine any_tk (v := .pointer (some ⟨g2, 0, none⟩)) hA 0 rfl rfl rfl rfl hP (hS.partD (.cons_cons _ (.cons _ (.cons_cons _ .slnil))) 0 rfl (.refl _)) (fun w1 hS => d_field ExK_fld_62_0 rfl rfl) ?_
   intro a hA
   refine any_tk hA 1 rfl rfl rfl rfl hP (hS.partD (.cons_cons _ (.cons _ (.cons_cons _ .slnil))) 0 rfl (.refl _)) (fun w1 hS => d_loadS hS ExK_isS_60 rfl 1 rfl (cs := [.bool ((rb x)), .slice a1 ((words x.natAbs).length) ac1]) rfl rfl) ?_
   intro a hA
   refine any_tk (v := .pointer (some ⟨g2, 4, none⟩)) hA 2 rfl rfl rfl rfl hP (hS.partD (.cons_cons _ (.cons _ (.cons_cons _ .slnil))) 0 rfl (.refl _)) (fun w1 hS => d_field ExK_fld_62_2 rfl rfl) ?_
   intro a hA
   refine any_tk hA 3 rfl rfl rfl rfl hP (hS.partD (.cons_cons _ (.cons _ (.cons_cons _ .slnil))) 0 rfl (.refl _)) (fun w1 hS => d_load1 hS ExK_is1_22 rfl 1 rfl rfl) ?_
   intro a hA
   refine any_tk (v := .pointer (some ⟨g2, 2, none⟩)) hA 5 rfl rfl rfl rfl hP (hS.partD (.cons_cons _ (.cons _ (.cons_cons _ .slnil))) 0 rfl (.refl _)) (fun w1 hS => d_field ExK_fld_62_1 rfl rfl) ?_
   intro a hA
   refine any_tk hA 6 rfl rfl rfl rfl hP (hS.partD (.cons_cons _ (.cons _ (.cons_cons _ .slnil))) 0 rfl (.refl _)) (fun w1 hS => d_loadS hS ExK_isS_60 rfl 1 rfl (cs := [.bool ((rb y)), .slice a2 ((words y.natAbs).length) ac2]) rfl rfl) ?_
   intro a hA
   refine any_tk (v := .pointer (some ⟨g2, 4, none⟩)) hA 8 rfl rfl rfl rfl hP (hS.partD (.cons_cons _ (.cons _ (.cons_cons _ .slnil))) 0 rfl (.refl _)) (fun w1 hS => d_field ExK_fld_62_2 rfl rfl) ?_
   intro a hA
   refine any_tk hA 9 rfl rfl rfl rfl hP (hS.partD (.cons_cons _ (.cons _ (.cons_cons _ .slnil))) 0 rfl (.refl _)) (fun w1 hS => d_load1 hS ExK_is1_22 rfl 1 rfl rfl) ?_
   intro a hA
   refine any_tk (v := .pointer (some ⟨J27g, 1, none⟩)) hA 11 rfl rfl rfl rfl hP (hS.partD (.cons_cons _ (.cons _ (.cons_cons _ .slnil))) 0 rfl (.refl _)) (fun w1 hS => d_field ExK_fld_60_1 rfl rfl) ?_
   intro a hA
   refine any_tk hA 12 rfl rfl rfl rfl hP (hS.partD (.cons_cons _ (.cons _ (.cons_cons _ .slnil))) 0 rfl (.refl _)) (fun w1 hS => d_load1 hS ExK_is1_22 rfl 0 rfl rfl) ?_
   intro a hA
   refine any_one (by kernel_rfl) (op_call hA 4 rfl rfl rfl rfl (enters_func  rfl rfl (fun w => by kernel_rfl)) (zscaled_any ⟨(hS.rd 3 rfl), ha1.nil, ha1.cap⟩ ⟨(hS.rd 1 rfl), ha3.nil, ha3.cap⟩ (by omega) (by omega)) ?_)
   rintro _ w39 ⟨zo35, zc36, rfl, hs37, hb38⟩
   replace hS := hS.call hb38
   replace hS := hS.addR hs37.rd
   refine ⟨_, rfl, (hS.partD (.cons_cons _ (.cons _ (.cons_cons _ .slnil))) 1 rfl (.refl _)), ?_⟩
   intro a hA
   refine any_one (by kernel_rfl) (op_call hA 7 rfl rfl rfl rfl (enters_func  rfl rfl (fun w => by kernel_rfl)) (zopp_any ⟨(hS.rd 3 rfl), ha2.nil, ha2.cap⟩) ?_)
   rintro _ w44 ⟨zo40, zc41, rfl, hs42, hb43⟩
   replace hS := hS.call hb43
   replace hS := hS.addR hs42.rd
   refine ⟨_, rfl, (hS.partD (.cons_cons _ (.cons _ (.cons_cons _ .slnil))) 2 rfl (.refl _)), ?_⟩
   intro a hA
   refine any_one (by kernel_rfl) (op_call hA 10 rfl rfl rfl rfl (enters_func  rfl rfl (fun w => by kernel_rfl)) (zscaled_any ⟨(hS.rd 0 rfl), hs42.nil, hs42.cap⟩ ⟨(hS.rd 3 rfl), ha3.nil, ha3.cap⟩ (by omega) (by omega)) ?_)
   rintro _ w49 ⟨zo45, zc46, rfl, hs47, hb48⟩
   replace hS := hS.call hb48
   replace hS := hS.addR hs47.rd
   refine ⟨_, rfl, (hS.partD (.cons_cons _ (.cons _ (.cons_cons _ .slnil))) 3 rfl (.refl _)), ?_⟩
   intro a hA
   refine any_tk (v := .agg #[.bool ((rb (x * ((d : Nat) : Int)))), .slice zo35 ((words (x * ((d : Nat) : Int)).natAbs).length) zc36, .bool ((rb ((-y) * ((d : Nat) : Int)))), .slice zo45 ((words ((-y) * ((d : Nat) : Int)).natAbs).length) zc46, .slice J28 ((words (x * x + (y * y)).natAbs).length) J29]) hA 13 rfl rfl rfl rfl hP (hS.partD (.cons_cons _ (.cons _ (.cons_cons _ .slnil))) 3 rfl (.refl _)) (fun w1 hS => d_build rfl (fun w => by kernel_rfl)) ?_
   intro a hA
   refine any_one (by kernel_rfl) (op_store (us := [.bool ((rb (x * ((d : Nat) : Int)))), .slice zo35 ((words (x * ((d : Nat) : Int)).natAbs).length) zc36, .bool ((rb ((-y) * ((d : Nat) : Int)))), .slice zo45 ((words ((-y) * ((d : Nat) : Int)).natAbs).length) zc46, .slice J28 ((words (x * x + (y * y)).natAbs).length) J29]) hA hS 14 rfl rfl rfl (sets_store rfl rfl rfl (by kernel_rfl) hS 1 rfl rfl rfl) 1 rfl rfl rfl rfl ?_)
   intro w50 hS
   refine ⟨(hS.partD (.cons_cons _ (.cons _ (.cons_cons _ .slnil))) 3 rfl (.refl _)), ?_⟩
   refine any_end (by kernel_rfl) ?_
   refine hK34 _ _ ?_
   refine wp_ret ?_
   refine hret _ _ ?_
   refine ends (v := .agg #[.bool ((rb (x * ((d : Nat) : Int)))), .slice zo35 ((words (x * ((d : Nat) : Int)).natAbs).length) zc36, .bool ((rb ((-y) * ((d : Nat) : Int)))), .slice zo45 ((words ((-y) * ((d : Nat) : Int)).natAbs).length) zc46, .slice J28 ((words (x * x + (y * y)).natAbs).length) J29]) hA rfl (.cons (res_cell hS ExK_isS_62 rfl 1 rfl (cs := [.bool ((rb (x * ((d : Nat) : Int)))), .slice zo35 ((words (x * ((d : Nat) : Int)).natAbs).length) zc36, .bool ((rb ((-y) * ((d : Nat) : Int)))), .slice zo45 ((words ((-y) * ((d : Nat) : Int)).natAbs).length) zc46, .slice J28 ((words (x * x + (y * y)).natAbs).length) J29]) rfl rfl) .nil) rfl ?_
   rw [show ivX x y d = x * ((d : Nat) : Int) from if_neg hy, show ivY x y d = -y * ((d : Nat) : Int) from if_neg hy, show ivD x y = (x * x + y * y).natAbs from if_neg hy]
   exact ⟨zo35, zc36, zo45, zc46, J28, J29, rfl, ⟨(hS.rd 2 rfl), hs37.nil, hs37.cap⟩, ⟨(hS.rd 0 rfl), hs47.nil, hs47.cap⟩, ⟨(hS.rd 3 rfl), hn30, hc31⟩, hS.bel⟩
 refine wp_draw (S := fun w1 => St w w1 [(g4, [.bool false, .slice none 0 0, .bool false, .slice none 0 0, .slice none 0 0]), (g2, [.bool ((rb x)), .slice a1 ((words x.natAbs).length) ac1, .bool ((rb y)), .slice a2 ((words y.natAbs).length) ac2, .slice a3 ((words d).length) ac3])] [(a3, words d), (a2, words y.natAbs), (a1, words x.natAbs)] []) (by kernel_rfl) ?_
 replace hS := hS.drew
 refine any_tk (v := .pointer (some ⟨g2, 0, none⟩)) hA 0 rfl rfl rfl rfl hP hS (fun w1 hS => d_field ExK_fld_62_0 rfl rfl) ?_
 intro a hA
 refine any_tk hA 1 rfl rfl rfl rfl hP hS (fun w1 hS => d_loadS hS ExK_isS_60 rfl 1 rfl (cs := [.bool ((rb x)), .slice a1 ((words x.natAbs).length) ac1]) rfl rfl) ?_
 intro a hA
 refine any_tk (v := .pointer (some ⟨g2, 0, none⟩)) hA 2 rfl rfl rfl rfl hP hS (fun w1 hS => d_field ExK_fld_62_0 rfl rfl) ?_
 intro a hA
 refine any_tk hA 3 rfl rfl rfl rfl hP hS (fun w1 hS => d_loadS hS ExK_isS_60 rfl 1 rfl (cs := [.bool ((rb x)), .slice a1 ((words x.natAbs).length) ac1]) rfl rfl) ?_
 intro a hA
 refine any_tk (v := .pointer (some ⟨g2, 2, none⟩)) hA 5 rfl rfl rfl rfl hP hS (fun w1 hS => d_field ExK_fld_62_1 rfl rfl) ?_
 intro a hA
 refine any_tk hA 6 rfl rfl rfl rfl hP hS (fun w1 hS => d_loadS hS ExK_isS_60 rfl 1 rfl (cs := [.bool ((rb y)), .slice a2 ((words y.natAbs).length) ac2]) rfl rfl) ?_
 intro a hA
 refine any_tk (v := .pointer (some ⟨g2, 2, none⟩)) hA 7 rfl rfl rfl rfl hP hS (fun w1 hS => d_field ExK_fld_62_1 rfl rfl) ?_
 intro a hA
 refine any_tk hA 8 rfl rfl rfl rfl hP hS (fun w1 hS => d_loadS hS ExK_isS_60 rfl 1 rfl (cs := [.bool ((rb y)), .slice a2 ((words y.natAbs).length) ac2]) rfl rfl) ?_
 intro a hA
 refine any_many (rs := [4, 11]) (by kernel_rfl) (by simp) ⟨?_, ?_, trivial⟩
 · refine op_call hA 4 rfl rfl rfl rfl (enters_func  rfl rfl (fun w => by kernel_rfl)) (ztimes_any ⟨(hS.rd 2 rfl), ha1.nil, ha1.cap⟩ ⟨(hS.rd 2 rfl), ha1.nil, ha1.cap⟩ (by omega) (by omega)) ?_
   rintro _ w55 ⟨zo51, zc52, rfl, hs53, hb54⟩
   replace hS := hS.call hb54
   replace hS := hS.addR hs53.rd
   refine ⟨_, rfl, (hS.partD (.refl _) 1 rfl (.refl _)), ?_⟩
   intro a hA
   refine any_many (rs := [9, 11]) (by kernel_rfl) (by simp) ⟨?_, ?_, trivial⟩
   · refine op_call hA 9 rfl rfl rfl rfl (enters_func  rfl rfl (fun w => by kernel_rfl)) (ztimes_any ⟨(hS.rd 2 rfl), ha2.nil, ha2.cap⟩ ⟨(hS.rd 2 rfl), ha2.nil, ha2.cap⟩ (by omega) (by omega)) ?_
     rintro _ w60 ⟨zo56, zc57, rfl, hs58, hb59⟩
     replace hS := hS.call hb59
     replace hS := hS.addR hs58.rd
     refine ⟨_, rfl, (hS.partD (.refl _) 2 rfl (.refl _)), ?_⟩
     intro a hA
     refine any_many (rs := [10, 11]) (by kernel_rfl) (by simp) ⟨?_, ?_, trivial⟩
     · refine op_call hA 10 rfl rfl rfl rfl (enters_func  rfl rfl (fun w => by kernel_rfl)) (zplus_any ⟨(hS.rd 1 rfl), hs53.nil, hs53.cap⟩ ⟨(hS.rd 0 rfl), hs58.nil, hs58.cap⟩ (by omega) (by omega)) ?_
       rintro _ w65 ⟨zo61, zc62, rfl, hs63, hb64⟩
       replace hS := hS.call hb64
       replace hS := hS.addR hs63.rd
       refine ⟨_, rfl, (hS.partD (.refl _) 3 rfl (.refl _)), ?_⟩
       intro a hA
       refine any_one (by kernel_rfl) (op_new (vs := [.bool false, .slice none 0 0]) (t := 60) hA hS 11 rfl rfl rfl rfl (fun g => .pointer (some ⟨g, 0, none⟩)) (d_alloc (z := .agg #[.bool false, .slice none 0 0]) (by kernel_rfl) rfl) rfl ?_)
       intro g66 w67 hS
       refine ⟨(hS.partD (.cons _ (.cons_cons _ (.cons_cons _ .slnil))) 3 rfl (.refl _)), ?_⟩
       intro a hA
       refine any_one (by kernel_rfl) (op_store (us := [.bool ((rb (x * x + (y * y)))), .slice zo61 ((words (x * x + (y * y)).natAbs).length) zc62]) hA hS 12 rfl rfl rfl (sets_store rfl rfl rfl (by kernel_rfl) hS 0 rfl rfl rfl) 0 rfl rfl rfl rfl ?_)
       intro w68 hS
       refine ⟨(hS.partD (.cons _ (.cons_cons _ (.cons_cons _ .slnil))) 3 rfl (.refl _)), ?_⟩
       refine any_end (by kernel_rfl) ?_
       refine hJ32 _ _ ⟨g66, zo61, zc62, hA.keep _ ⟨rfl, rfl, rfl, rfl, rfl, rfl, rfl, rfl, rfl, trivial⟩, (St.pickRL hS ⟨⟨0, rfl⟩, ⟨⟨3, rfl⟩, ⟨⟨4, rfl⟩, ⟨⟨5, rfl⟩, trivial⟩⟩⟩⟩ [0, 1, 2] rfl (by decide)), hs63.nil, hs63.cap⟩
     · refine op_new (vs := [.bool false, .slice none 0 0]) (t := 60) hA hS 11 rfl rfl rfl rfl (fun g => .pointer (some ⟨g, 0, none⟩)) (d_alloc (z := .agg #[.bool false, .slice none 0 0]) (by kernel_rfl) rfl) rfl ?_
       intro g69 w70 hS
       refine ⟨(hS.partD (.cons _ (.cons_cons _ (.cons_cons _ .slnil))) 2 rfl (.refl _)), ?_⟩
       intro a hA
       refine any_one (by kernel_rfl) (op_call hA 10 rfl rfl rfl rfl (enters_func  rfl rfl (fun w => by kernel_rfl)) (zplus_any ⟨(hS.rd 1 rfl), hs53.nil, hs53.cap⟩ ⟨(hS.rd 0 rfl), hs58.nil, hs58.cap⟩ (by omega) (by omega)) ?_)
       rintro _ w75 ⟨zo71, zc72, rfl, hs73, hb74⟩
       replace hS := hS.call hb74
       replace hS := hS.addR hs73.rd
       refine ⟨_, rfl, (hS.partD (.cons _ (.cons_cons _ (.cons_cons _ .slnil))) 3 rfl (.refl _)), ?_⟩
       intro a hA
       refine any_one (by kernel_rfl) (op_store (us := [.bool ((rb (x * x + (y * y)))), .slice zo71 ((words (x * x + (y * y)).natAbs).length) zc72]) hA hS 12 rfl rfl rfl (sets_store rfl rfl rfl (by kernel_rfl) hS 0 rfl rfl rfl) 0 rfl rfl rfl rfl ?_)
       intro w76 hS
       refine ⟨(hS.partD (.cons _ (.cons_cons _ (.cons_cons _ .slnil))) 3 rfl (.refl _)), ?_⟩
       refine any_end (by kernel_rfl) ?_
       refine hJ32 _ _ ⟨g69, zo71, zc72, hA.keep _ ⟨rfl, rfl, rfl, rfl, rfl, rfl, rfl, rfl, rfl, trivial⟩, (St.pickRL hS ⟨⟨0, rfl⟩, ⟨⟨3, rfl⟩, ⟨⟨4, rfl⟩, ⟨⟨5, rfl⟩, trivial⟩⟩⟩⟩ [0, 1, 2] rfl (by decide)), hs73.nil, hs73.cap⟩
   · refine op_new (vs := [.bool false, .slice none 0 0]) (t := 60) hA hS 11 rfl rfl rfl rfl (fun g => .pointer (some ⟨g, 0, none⟩)) (d_alloc (z := .agg #[.bool false, .slice none 0 0]) (by kernel_rfl) rfl) rfl ?_
     intro g77 w78 hS
     refine ⟨(hS.partD (.cons _ (.cons_cons _ (.cons_cons _ .slnil))) 1 rfl (.refl _)), ?_⟩
     intro a hA
     refine any_one (by kernel_rfl) (op_call hA 9 rfl rfl rfl rfl (enters_func  rfl rfl (fun w => by kernel_rfl)) (ztimes_any ⟨(hS.rd 2 rfl), ha2.nil, ha2.cap⟩ ⟨(hS.rd 2 rfl), ha2.nil, ha2.cap⟩ (by omega) (by omega)) ?_)
     rintro _ w83 ⟨zo79, zc80, rfl, hs81, hb82⟩
     replace hS := hS.call hb82
     replace hS := hS.addR hs81.rd
     refine ⟨_, rfl, (hS.partD (.cons _ (.cons_cons _ (.cons_cons _ .slnil))) 2 rfl (.refl _)), ?_⟩
     intro a hA
     refine any_one (by kernel_rfl) (op_call hA 10 rfl rfl rfl rfl (enters_func  rfl rfl (fun w => by kernel_rfl)) (zplus_any ⟨(hS.rd 1 rfl), hs53.nil, hs53.cap⟩ ⟨(hS.rd 0 rfl), hs81.nil, hs81.cap⟩ (by omega) (by omega)) ?_)
     rintro _ w88 ⟨zo84, zc85, rfl, hs86, hb87⟩
     replace hS := hS.call hb87
     replace hS := hS.addR hs86.rd
     refine ⟨_, rfl, (hS.partD (.cons _ (.cons_cons _ (.cons_cons _ .slnil))) 3 rfl (.refl _)), ?_⟩
     intro a hA
     refine any_one (by kernel_rfl) (op_store (us := [.bool ((rb (x * x + (y * y)))), .slice zo84 ((words (x * x + (y * y)).natAbs).length) zc85]) hA hS 12 rfl rfl rfl (sets_store rfl rfl rfl (by kernel_rfl) hS 0 rfl rfl rfl) 0 rfl rfl rfl rfl ?_)
     intro w89 hS
     refine ⟨(hS.partD (.cons _ (.cons_cons _ (.cons_cons _ .slnil))) 3 rfl (.refl _)), ?_⟩
     refine any_end (by kernel_rfl) ?_
     refine hJ32 _ _ ⟨g77, zo84, zc85, hA.keep _ ⟨rfl, rfl, rfl, rfl, rfl, rfl, rfl, rfl, rfl, trivial⟩, (St.pickRL hS ⟨⟨0, rfl⟩, ⟨⟨3, rfl⟩, ⟨⟨4, rfl⟩, ⟨⟨5, rfl⟩, trivial⟩⟩⟩⟩ [0, 1, 2] rfl (by decide)), hs86.nil, hs86.cap⟩
 · refine op_new (vs := [.bool false, .slice none 0 0]) (t := 60) hA hS 11 rfl rfl rfl rfl (fun g => .pointer (some ⟨g, 0, none⟩)) (d_alloc (z := .agg #[.bool false, .slice none 0 0]) (by kernel_rfl) rfl) rfl ?_
   intro g90 w91 hS
   refine ⟨(hS.partD (.cons _ (.cons_cons _ (.cons_cons _ .slnil))) 0 rfl (.refl _)), ?_⟩
   intro a hA
   refine any_one (by kernel_rfl) (op_call hA 4 rfl rfl rfl rfl (enters_func  rfl rfl (fun w => by kernel_rfl)) (ztimes_any ⟨(hS.rd 2 rfl), ha1.nil, ha1.cap⟩ ⟨(hS.rd 2 rfl), ha1.nil, ha1.cap⟩ (by omega) (by omega)) ?_)
   rintro _ w96 ⟨zo92, zc93, rfl, hs94, hb95⟩
   replace hS := hS.call hb95
   replace hS := hS.addR hs94.rd
   refine ⟨_, rfl, (hS.partD (.cons _ (.cons_cons _ (.cons_cons _ .slnil))) 1 rfl (.refl _)), ?_⟩
   intro a hA
   refine any_one (by kernel_rfl) (op_call hA 9 rfl rfl rfl rfl (enters_func  rfl rfl (fun w => by kernel_rfl)) (ztimes_any ⟨(hS.rd 2 rfl), ha2.nil, ha2.cap⟩ ⟨(hS.rd 2 rfl), ha2.nil, ha2.cap⟩ (by omega) (by omega)) ?_)
   rintro _ w101 ⟨zo97, zc98, rfl, hs99, hb100⟩
   replace hS := hS.call hb100
   replace hS := hS.addR hs99.rd
   refine ⟨_, rfl, (hS.partD (.cons _ (.cons_cons _ (.cons_cons _ .slnil))) 2 rfl (.refl _)), ?_⟩
   intro a hA
   refine any_one (by kernel_rfl) (op_call hA 10 rfl rfl rfl rfl (enters_func  rfl rfl (fun w => by kernel_rfl)) (zplus_any ⟨(hS.rd 1 rfl), hs94.nil, hs94.cap⟩ ⟨(hS.rd 0 rfl), hs99.nil, hs99.cap⟩ (by omega) (by omega)) ?_)
   rintro _ w106 ⟨zo102, zc103, rfl, hs104, hb105⟩
   replace hS := hS.call hb105
   replace hS := hS.addR hs104.rd
   refine ⟨_, rfl, (hS.partD (.cons _ (.cons_cons _ (.cons_cons _ .slnil))) 3 rfl (.refl _)), ?_⟩
   intro a hA
   refine any_one (by kernel_rfl) (op_store (us := [.bool ((rb (x * x + (y * y)))), .slice zo102 ((words (x * x + (y * y)).natAbs).length) zc103]) hA hS 12 rfl rfl rfl (sets_store rfl rfl rfl (by kernel_rfl) hS 0 rfl rfl rfl) 0 rfl rfl rfl rfl ?_)
   intro w107 hS
   refine ⟨(hS.partD (.cons _ (.cons_cons _ (.cons_cons _ .slnil))) 3 rfl (.refl _)), ?_⟩
   refine any_end (by kernel_rfl) ?_
   refine hJ32 _ _ ⟨g90, zo102, zc103, hA.keep _ ⟨rfl, rfl, rfl, rfl, rfl, rfl, rfl, rfl, rfl, trivial⟩, (St.pickRL hS ⟨⟨0, rfl⟩, ⟨⟨3, rfl⟩, ⟨⟨4, rfl⟩, ⟨⟨5, rfl⟩, trivial⟩⟩⟩⟩ [0, 1, 2] rfl (by decide)), hs104.nil, hs104.cap⟩
theorem zinv_any {w : World} {x y : Int} {d : Nat} {a1 a2 a3 : Option Addr} {ac1 ac2 ac3 : Nat} (ha1 : Sc w a1 ac1 (words x.natAbs)) (ha2 : Sc w a2 ac2 (words y.natAbs)) (ha3 : Sc w a3 ac3 (words d)) (la1 : (words x.natAbs).length ≤ 10000) (la2 : (words y.natAbs).length ≤ 10000) (la3 : (words d).length ≤ 10000) : Calls Tryz.prog 41 #[.agg #[.bool (rb x), .slice a1 (words x.natAbs).length ac1, .bool (rb y), .slice a2 (words y.natAbs).length ac2, .slice a3 (words d).length ac3]] w (AnsR w (ivX x y d) (ivY x y d) (ivD x y)) := by
  by_cases hy : y = 0
  · exact zinv0_any ha1 ha2 ha3 la1 la2 la3 hy
  · exact zinv1_any ha1 ha2 ha3 la1 la2 la3 hy
theorem zsettle_as {w : World} {x y : Int} {d : Nat} {a1 a2 a3 : Option Addr} {ac1 ac2 ac3 : Nat} (ha1 : Sc w a1 ac1 (words x.natAbs)) (ha2 : Sc w a2 ac2 (words y.natAbs)) (ha3 : Sc w a3 ac3 (words d)) {r : Q6 × Int} (h : setQ x y d = r) (l1 : (words x.natAbs).length ≤ 50000) (l2 : (words y.natAbs).length ≤ 50000) (l3 : (words d).length ≤ 50000) (hd : d ≠ 0) : Calls Tryz.prog 38 #[.agg #[.bool (rb x), .slice a1 (words x.natAbs).length ac1, .bool (rb y), .slice a2 (words y.natAbs).length ac2, .slice a3 (words d).length ac3]] w (AnsN w r) := h ▸ zsettle_any ha1 ha2 ha3 l1 l2 l3 hd
end Go.Proofs.YtjmhdebfpnjceaaGreat
namespace Go.Proofs.YtjmhdebfpnjceaaGreat
open Go.RowKit
set_option linter.unusedVariables false
set_option linter.unusedSimpArgs false
set_option maxRecDepth 100000
theorem ExL_isS_26 : IsS Tryz.prog 26 6 := ⟨⟨_, Tryz.underlying26⟩, by kernel_rfl⟩
theorem neg_len {x : Int} {k : Nat} (h : (words x.natAbs).length ≤ k) : (words (-x).natAbs).length ≤ k := by rw [Int.natAbs_neg]; exact h
theorem divE1_any {w : World} {p q : Q6} {a1 a2 a3 a4 : Option Addr} {ac1 ac2 ac3 ac4 : Nat} (ha : Nm w p a1 ac1 a2 ac2 a3 ac3 a4 ac4) (hl : LenQ p) {u1 u2 u3 u4 : Option Addr} {uc1 uc2 uc3 uc4 : Nat} (hb : Nm w q u1 uc1 u2 uc2 u3 uc3 u4 uc4) (hm : LenQ q) (h1 : soundQ p = false) : Calls Tryz.prog 24 #[numV p a1 ac1 a2 ac2 a3 ac3 a4 ac4, numV q u1 uc1 u2 uc2 u3 uc3 u4 uc4] w (AnsN w (Q6.zero, 2)) := by
 have hS : St w w [] [(u4, q.q2), (u3, q.t2), (u2, q.q1), (u1, q.t1), (a4, p.q2), (a3, p.t2), (a2, p.q1), (a1, p.t1)] [] := ((((((((St.start w).addR ha.s1.rd).addR ha.s2.rd).addR ha.s3.rd).addR ha.s4.rd).addR hb.s1.rd).addR hb.s2.rd).addR hb.s3.rd).addR hb.s4.rd
 refine walk_of (l := [(0, .agg #[.bool p.b1, .slice a1 p.t1.length ac1, .slice a2 p.q1.length ac2, .bool p.b2, .slice a3 p.t2.length ac3, .slice a4 p.q2.length ac4]), (1, .agg #[.bool q.b1, .slice u1 q.t1.length uc1, .slice u2 q.q1.length uc2, .bool q.b2, .slice u3 q.t2.length uc3, .slice u4 q.q2.length uc4])]) Tryz.func24 rfl Tryz.ntmps24 rfl rfl ?_
 intro Q hret hnorm hP a hA
 refine wp_seq_k (fun K1 hK1 => ?_)
 refine wp_region_lit ?_
 refine seq_new hA hS rfl rfl rfl (fun g => .pointer (some ⟨g, 0, none⟩)) (d_box rfl rfl) rfl ?_
 intro g2 w3 hS a hA
 refine seq_new hA hS rfl rfl rfl (fun g => .pointer (some ⟨g, 0, none⟩)) (d_box rfl rfl) rfl ?_
 intro g4 w5 hS a hA
 refine seq_new (vs := [.bool false, .slice none 0 0, .slice none 0 0, .bool false, .slice none 0 0, .slice none 0 0]) (t := 26) hA hS rfl rfl rfl (fun g => .pointer (some ⟨g, 0, none⟩)) (d_alloc (z := .agg #[.bool false, .slice none 0 0, .slice none 0 0, .bool false, .slice none 0 0, .slice none 0 0]) (by kernel_rfl) rfl) rfl ?_
 intro g6 w7 hS a hA
 refine seq_do hA rfl rfl rfl (d_assign rfl) ?_
 intro a hA
 refine seq_end ?_
 refine hK1 _ _ ?_
 refine wp_seq_k (fun K8 hK8 => ?_)
 refine wp_seq_k (fun K9 hK9 => ?_)
 refine wp_region_lit ?_
 refine seq_do hA rfl rfl rfl (d_loadS hS ExL_isS_26 rfl 2 rfl (cs := [.bool p.b1, .slice a1 p.t1.length ac1, .slice a2 p.q1.length ac2, .bool p.b2, .slice a3 p.t2.length ac3, .slice a4 p.q2.length ac4]) rfl rfl) ?_
 intro a hA
 refine seq_call hA rfl rfl rfl (enters_func  rfl rfl (fun w => by kernel_rfl)) (soundQ_any (show Nm _ p a1 ac1 a2 ac2 a3 ac3 a4 ac4 from ⟨⟨(hS.rd 7 rfl), ha.s1.nil, ha.s1.cap⟩, ⟨(hS.rd 6 rfl), ha.s2.nil, ha.s2.cap⟩, ⟨(hS.rd 5 rfl), ha.s3.nil, ha.s3.cap⟩, ⟨(hS.rd 4 rfl), ha.s4.nil, ha.s4.cap⟩⟩) hl h1) ?_
 rintro _ w11 ⟨rfl, hb10⟩
 replace hS := hS.call hb10
 refine ⟨_, rfl, ?_⟩
 intro a hA
 refine seq_do (v := .bool true) hA rfl rfl rfl (d_un rfl un_not) ?_
 intro a hA
 refine seq_do hA rfl rfl rfl (d_move rfl) ?_
 intro a hA
 refine seq_skip hA rfl rfl rfl ?_
 intro a hA
 refine seq_skip hA rfl rfl rfl ?_
 intro a hA
 refine seq_skip hA rfl rfl rfl ?_
 intro a hA
 refine seq_do (v := .bool true) hA rfl rfl rfl (d_pick rfl rfl rfl rfl) ?_
 intro a hA
 refine seq_end ?_
 refine hK9 _ _ ?_
 refine wp_cond_true (hA.ev rfl) ?_
 refine wp_seq_k (fun K12 hK12 => ?_)
 refine wp_region_lit ?_
 refine seq_do (v := .agg #[.bool false, .slice none 0 0, .slice none 0 0, .bool false, .slice none 0 0, .slice none 0 0]) hA rfl rfl rfl (d_build rfl (fun w => by kernel_rfl)) ?_
 intro a hA
 refine seq_store (us := [.bool false, .slice none 0 0, .slice none 0 0, .bool false, .slice none 0 0, .slice none 0 0]) hA hS rfl rfl (sets_store rfl rfl rfl (by kernel_rfl) hS 0 rfl rfl rfl) 0 rfl rfl rfl rfl ?_
 intro w13 hS
 refine seq_do hA rfl rfl rfl (d_assign rfl) ?_
 intro a hA
 refine seq_end ?_
 refine hK12 _ _ ?_
 refine wp_ret ?_
 refine hret _ _ ?_
 refine ends (v := .tuple #[.agg #[.bool false, .slice none 0 0, .slice none 0 0, .bool false, .slice none 0 0, .slice none 0 0], .int .i64 2]) hA rfl (.cons (res_cell hS ExL_isS_26 rfl 0 rfl (cs := [.bool false, .slice none 0 0, .slice none 0 0, .bool false, .slice none 0 0, .slice none 0 0]) rfl rfl) (.cons (res_tmp rfl) .nil)) rfl ?_
 exact ⟨none, 0, none, 0, none, 0, none, 0, rfl, ⟨(Sc.none _), (Sc.none _), (Sc.none _), (Sc.none _)⟩, hS.bel⟩
theorem divE2_any {w : World} {p q : Q6} {a1 a2 a3 a4 : Option Addr} {ac1 ac2 ac3 ac4 : Nat} (ha : Nm w p a1 ac1 a2 ac2 a3 ac3 a4 ac4) (hl : LenQ p) {u1 u2 u3 u4 : Option Addr} {uc1 uc2 uc3 uc4 : Nat} (hb : Nm w q u1 uc1 u2 uc2 u3 uc3 u4 uc4) (hm : LenQ q) (h1 : soundQ p = true) (h2 : soundQ q = false) : Calls Tryz.prog 24 #[numV p a1 ac1 a2 ac2 a3 ac3 a4 ac4, numV q u1 uc1 u2 uc2 u3 uc3 u4 uc4] w (AnsN w (Q6.zero, 2)) := by
 have hS : St w w [] [(u4, q.q2), (u3, q.t2), (u2, q.q1), (u1, q.t1), (a4, p.q2), (a3, p.t2), (a2, p.q1), (a1, p.t1)] [] := ((((((((St.start w).addR ha.s1.rd).addR ha.s2.rd).addR ha.s3.rd).addR ha.s4.rd).addR hb.s1.rd).addR hb.s2.rd).addR hb.s3.rd).addR hb.s4.rd
 refine walk_of (l := [(0, .agg #[.bool p.b1, .slice a1 p.t1.length ac1, .slice a2 p.q1.length ac2, .bool p.b2, .slice a3 p.t2.length ac3, .slice a4 p.q2.length ac4]), (1, .agg #[.bool q.b1, .slice u1 q.t1.length uc1, .slice u2 q.q1.length uc2, .bool q.b2, .slice u3 q.t2.length uc3, .slice u4 q.q2.length uc4])]) Tryz.func24 rfl Tryz.ntmps24 rfl rfl ?_
 intro Q hret hnorm hP a hA
 refine wp_seq_k (fun K1 hK1 => ?_)
 refine wp_region_lit ?_
 refine seq_new hA hS rfl rfl rfl (fun g => .pointer (some ⟨g, 0, none⟩)) (d_box rfl rfl) rfl ?_
 intro g2 w3 hS a hA
 refine seq_new hA hS rfl rfl rfl (fun g => .pointer (some ⟨g, 0, none⟩)) (d_box rfl rfl) rfl ?_
 intro g4 w5 hS a hA
 refine seq_new (vs := [.bool false, .slice none 0 0, .slice none 0 0, .bool false, .slice none 0 0, .slice none 0 0]) (t := 26) hA hS rfl rfl rfl (fun g => .pointer (some ⟨g, 0, none⟩)) (d_alloc (z := .agg #[.bool false, .slice none 0 0, .slice none 0 0, .bool false, .slice none 0 0, .slice none 0 0]) (by kernel_rfl) rfl) rfl ?_
 intro g6 w7 hS a hA
 refine seq_do hA rfl rfl rfl (d_assign rfl) ?_
 intro a hA
 refine seq_end ?_
 refine hK1 _ _ ?_
 refine wp_seq_k (fun K8 hK8 => ?_)
 refine wp_seq_k (fun K9 hK9 => ?_)
 refine wp_region_lit ?_
 refine seq_do hA rfl rfl rfl (d_loadS hS ExL_isS_26 rfl 2 rfl (cs := [.bool p.b1, .slice a1 p.t1.length ac1, .slice a2 p.q1.length ac2, .bool p.b2, .slice a3 p.t2.length ac3, .slice a4 p.q2.length ac4]) rfl rfl) ?_
 intro a hA
 refine seq_call hA rfl rfl rfl (enters_func  rfl rfl (fun w => by kernel_rfl)) (soundQ_any (show Nm _ p a1 ac1 a2 ac2 a3 ac3 a4 ac4 from ⟨⟨(hS.rd 7 rfl), ha.s1.nil, ha.s1.cap⟩, ⟨(hS.rd 6 rfl), ha.s2.nil, ha.s2.cap⟩, ⟨(hS.rd 5 rfl), ha.s3.nil, ha.s3.cap⟩, ⟨(hS.rd 4 rfl), ha.s4.nil, ha.s4.cap⟩⟩) hl h1) ?_
 rintro _ w11 ⟨rfl, hb10⟩
 replace hS := hS.call hb10
 refine ⟨_, rfl, ?_⟩
 intro a hA
 refine seq_do (v := .bool false) hA rfl rfl rfl (d_un rfl un_not) ?_
 intro a hA
 refine seq_do hA rfl rfl rfl (d_move rfl) ?_
 intro a hA
 refine seq_do hA rfl rfl rfl (d_loadS hS ExL_isS_26 rfl 1 rfl (cs := [.bool q.b1, .slice u1 q.t1.length uc1, .slice u2 q.q1.length uc2, .bool q.b2, .slice u3 q.t2.length uc3, .slice u4 q.q2.length uc4]) rfl rfl) ?_
 intro a hA
 refine seq_call hA rfl rfl rfl (enters_func  rfl rfl (fun w => by kernel_rfl)) (soundQ_any (show Nm _ q u1 uc1 u2 uc2 u3 uc3 u4 uc4 from ⟨⟨(hS.rd 3 rfl), hb.s1.nil, hb.s1.cap⟩, ⟨(hS.rd 2 rfl), hb.s2.nil, hb.s2.cap⟩, ⟨(hS.rd 1 rfl), hb.s3.nil, hb.s3.cap⟩, ⟨(hS.rd 0 rfl), hb.s4.nil, hb.s4.cap⟩⟩) hm h2) ?_
 rintro _ w13 ⟨rfl, hb12⟩
 replace hS := hS.call hb12
 refine ⟨_, rfl, ?_⟩
 intro a hA
 refine seq_do (v := .bool true) hA rfl rfl rfl (d_un rfl un_not) ?_
 intro a hA
 refine seq_do (v := .bool true) hA rfl rfl rfl (d_pick rfl rfl rfl rfl) ?_
 intro a hA
 refine seq_end ?_
 refine hK9 _ _ ?_
 refine wp_cond_true (hA.ev rfl) ?_
 refine wp_seq_k (fun K14 hK14 => ?_)
 refine wp_region_lit ?_
 refine seq_do (v := .agg #[.bool false, .slice none 0 0, .slice none 0 0, .bool false, .slice none 0 0, .slice none 0 0]) hA rfl rfl rfl (d_build rfl (fun w => by kernel_rfl)) ?_
 intro a hA
 refine seq_store (us := [.bool false, .slice none 0 0, .slice none 0 0, .bool false, .slice none 0 0, .slice none 0 0]) hA hS rfl rfl (sets_store rfl rfl rfl (by kernel_rfl) hS 0 rfl rfl rfl) 0 rfl rfl rfl rfl ?_
 intro w15 hS
 refine seq_do hA rfl rfl rfl (d_assign rfl) ?_
 intro a hA
 refine seq_end ?_
 refine hK14 _ _ ?_
 refine wp_ret ?_
 refine hret _ _ ?_
 refine ends (v := .tuple #[.agg #[.bool false, .slice none 0 0, .slice none 0 0, .bool false, .slice none 0 0, .slice none 0 0], .int .i64 2]) hA rfl (.cons (res_cell hS ExL_isS_26 rfl 0 rfl (cs := [.bool false, .slice none 0 0, .slice none 0 0, .bool false, .slice none 0 0, .slice none 0 0]) rfl rfl) (.cons (res_tmp rfl) .nil)) rfl ?_
 exact ⟨none, 0, none, 0, none, 0, none, 0, rfl, ⟨(Sc.none _), (Sc.none _), (Sc.none _), (Sc.none _)⟩, hS.bel⟩
theorem divZ_any {w : World} {u v x y : Rat} {a1 a2 a3 a4 : Option Addr} {ac1 ac2 ac3 ac4 : Nat} (ha : Nm w (Q6.rat u v) a1 ac1 a2 ac2 a3 ac3 a4 ac4) {u1 u2 u3 u4 : Option Addr} {uc1 uc2 uc3 uc4 : Nat} (hb : Nm w (Q6.rat x y) u1 uc1 u2 uc2 u3 uc3 u4 uc4) (hu : fitR u) (hv : fitR v) (hx : fitR x) (hy : fitR y) (hz : x = 0 ∧ y = 0) : Calls Tryz.prog 24 #[numV (Q6.rat u v) a1 ac1 a2 ac2 a3 ac3 a4 ac4, numV (Q6.rat x y) u1 uc1 u2 uc2 u3 uc3 u4 uc4] w (AnsN w (Q6.zero, 3)) := by
 have k1 : (words x.num.natAbs).length ≤ 512 := hx.1
 have k2 : (words y.num.natAbs).length ≤ 512 := hy.1
 have hS : St w w [] [(u4, words y.den), (u3, words y.num.natAbs), (u2, words x.den), (u1, words x.num.natAbs), (a4, words v.den), (a3, words v.num.natAbs), (a2, words u.den), (a1, words u.num.natAbs)] [] := ((((((((St.start w).addR ha.s1.rd).addR ha.s2.rd).addR ha.s3.rd).addR ha.s4.rd).addR hb.s1.rd).addR hb.s2.rd).addR hb.s3.rd).addR hb.s4.rd
 refine walk_of (l := [(0, .agg #[.bool (rb u.num), .slice a1 ((words u.num.natAbs).length) ac1, .slice a2 ((words u.den).length) ac2, .bool (rb v.num), .slice a3 ((words v.num.natAbs).length) ac3, .slice a4 ((words v.den).length) ac4]), (1, .agg #[.bool (rb x.num), .slice u1 ((words x.num.natAbs).length) uc1, .slice u2 ((words x.den).length) uc2, .bool (rb y.num), .slice u3 ((words y.num.natAbs).length) uc3, .slice u4 ((words y.den).length) uc4])]) Tryz.func24 rfl Tryz.ntmps24 rfl rfl ?_
 intro Q hret hnorm hP a hA
 refine wp_seq_k (fun K1 hK1 => ?_)
 refine wp_region_lit ?_
 refine seq_new hA hS rfl rfl rfl (fun g => .pointer (some ⟨g, 0, none⟩)) (d_box rfl rfl) rfl ?_
 intro g2 w3 hS a hA
 refine seq_new hA hS rfl rfl rfl (fun g => .pointer (some ⟨g, 0, none⟩)) (d_box rfl rfl) rfl ?_
 intro g4 w5 hS a hA
 refine seq_new (vs := [.bool false, .slice none 0 0, .slice none 0 0, .bool false, .slice none 0 0, .slice none 0 0]) (t := 26) hA hS rfl rfl rfl (fun g => .pointer (some ⟨g, 0, none⟩)) (d_alloc (z := .agg #[.bool false, .slice none 0 0, .slice none 0 0, .bool false, .slice none 0 0, .slice none 0 0]) (by kernel_rfl) rfl) rfl ?_
 intro g6 w7 hS a hA
 refine seq_do hA rfl rfl rfl (d_assign rfl) ?_
 intro a hA
 refine seq_end ?_
 refine hK1 _ _ ?_
 refine wp_seq_k (fun K8 hK8 => ?_)
 refine wp_seq_k (fun K9 hK9 => ?_)
 refine wp_region_lit ?_
 refine seq_do hA rfl rfl rfl (d_loadS hS ExL_isS_26 rfl 2 rfl (cs := [.bool (rb u.num), .slice a1 ((words u.num.natAbs).length) ac1, .slice a2 ((words u.den).length) ac2, .bool (rb v.num), .slice a3 ((words v.num.natAbs).length) ac3, .slice a4 ((words v.den).length) ac4]) rfl rfl) ?_
 intro a hA
 refine seq_call hA rfl rfl rfl (enters_func  rfl rfl (fun w => by kernel_rfl)) (soundQ_any (show Nm _ (Q6.rat u v) a1 ac1 a2 ac2 a3 ac3 a4 ac4 from ⟨⟨(hS.rd 7 rfl), ha.s1.nil, ha.s1.cap⟩, ⟨(hS.rd 6 rfl), ha.s2.nil, ha.s2.cap⟩, ⟨(hS.rd 5 rfl), ha.s3.nil, ha.s3.cap⟩, ⟨(hS.rd 4 rfl), ha.s4.nil, ha.s4.cap⟩⟩) (lenQ_rat hu hv) (soundQ_rat hu hv)) ?_
 rintro _ w11 ⟨rfl, hb10⟩
 replace hS := hS.call hb10
 refine ⟨_, rfl, ?_⟩
 intro a hA
 refine seq_do (v := .bool false) hA rfl rfl rfl (d_un rfl un_not) ?_
 intro a hA
 refine seq_do hA rfl rfl rfl (d_move rfl) ?_
 intro a hA
 refine seq_do hA rfl rfl rfl (d_loadS hS ExL_isS_26 rfl 1 rfl (cs := [.bool (rb x.num), .slice u1 ((words x.num.natAbs).length) uc1, .slice u2 ((words x.den).length) uc2, .bool (rb y.num), .slice u3 ((words y.num.natAbs).length) uc3, .slice u4 ((words y.den).length) uc4]) rfl rfl) ?_
 intro a hA
 refine seq_call hA rfl rfl rfl (enters_func  rfl rfl (fun w => by kernel_rfl)) (soundQ_any (show Nm _ (Q6.rat x y) u1 uc1 u2 uc2 u3 uc3 u4 uc4 from ⟨⟨(hS.rd 3 rfl), hb.s1.nil, hb.s1.cap⟩, ⟨(hS.rd 2 rfl), hb.s2.nil, hb.s2.cap⟩, ⟨(hS.rd 1 rfl), hb.s3.nil, hb.s3.cap⟩, ⟨(hS.rd 0 rfl), hb.s4.nil, hb.s4.cap⟩⟩) (lenQ_rat hx hy) (soundQ_rat hx hy)) ?_
 rintro _ w13 ⟨rfl, hb12⟩
 replace hS := hS.call hb12
 refine ⟨_, rfl, ?_⟩
 intro a hA
 refine seq_do (v := .bool false) hA rfl rfl rfl (d_un rfl un_not) ?_
 intro a hA
 refine seq_do (v := .bool false) hA rfl rfl rfl (d_pick rfl rfl rfl rfl) ?_
 intro a hA
 refine seq_end ?_
 refine hK9 _ _ ?_
 refine wp_cond_false (hA.ev rfl) ?_
 refine wp_skip ?_
 refine hK8 _ _ ?_
 refine wp_seq_k (fun K14 hK14 => ?_)
 refine wp_seq_k (fun K15 hK15 => ?_)
 refine wp_region_lit ?_
 refine seq_do hA rfl rfl rfl (d_loadS hS ExL_isS_26 rfl 1 rfl (cs := [.bool (rb x.num), .slice u1 ((words x.num.natAbs).length) uc1, .slice u2 ((words x.den).length) uc2, .bool (rb y.num), .slice u3 ((words y.num.natAbs).length) uc3, .slice u4 ((words y.den).length) uc4]) rfl rfl) ?_
 intro a hA
 refine seq_call hA rfl rfl rfl (enters_func  rfl rfl (fun w => by kernel_rfl)) ((show Calls Tryz.prog 37 #[.agg #[.bool (rb x.num), .slice u1 ((words x.num.natAbs).length) uc1, .slice u2 ((words x.den).length) uc2, .bool (rb y.num), .slice u3 ((words y.num.natAbs).length) uc3, .slice u4 ((words y.den).length) uc4]] _ (fun e w' => e = .returned (.bool true) ∧ _) from (((zero_rat x y).trans (decide_eq_true hz)) ▸ isZero_any (by omega) (by omega)))) ?_
 rintro _ w17 ⟨rfl, hb16⟩
 replace hS := hS.call hb16
 refine ⟨_, rfl, ?_⟩
 intro a hA
 refine seq_end ?_
 refine hK15 _ _ ?_
 refine wp_cond_true (hA.ev rfl) ?_
 refine wp_seq_k (fun K18 hK18 => ?_)
 refine wp_region_lit ?_
 refine seq_do (v := .agg #[.bool false, .slice none 0 0, .slice none 0 0, .bool false, .slice none 0 0, .slice none 0 0]) hA rfl rfl rfl (d_build rfl (fun w => by kernel_rfl)) ?_
 intro a hA
 refine seq_store (us := [.bool false, .slice none 0 0, .slice none 0 0, .bool false, .slice none 0 0, .slice none 0 0]) hA hS rfl rfl (sets_store rfl rfl rfl (by kernel_rfl) hS 0 rfl rfl rfl) 0 rfl rfl rfl rfl ?_
 intro w19 hS
 refine seq_do hA rfl rfl rfl (d_assign rfl) ?_
 intro a hA
 refine seq_end ?_
 refine hK18 _ _ ?_
 refine wp_ret ?_
 refine hret _ _ ?_
 refine ends (v := .tuple #[.agg #[.bool false, .slice none 0 0, .slice none 0 0, .bool false, .slice none 0 0, .slice none 0 0], .int .i64 3]) hA rfl (.cons (res_cell hS ExL_isS_26 rfl 0 rfl (cs := [.bool false, .slice none 0 0, .slice none 0 0, .bool false, .slice none 0 0, .slice none 0 0]) rfl rfl) (.cons (res_tmp rfl) .nil)) rfl ?_
 exact ⟨none, 0, none, 0, none, 0, none, 0, rfl, ⟨(Sc.none _), (Sc.none _), (Sc.none _), (Sc.none _)⟩, hS.bel⟩
theorem divN_any {w : World} {u v x y : Rat} {a1 a2 a3 a4 : Option Addr} {ac1 ac2 ac3 ac4 : Nat} (ha : Nm w (Q6.rat u v) a1 ac1 a2 ac2 a3 ac3 a4 ac4) {u1 u2 u3 u4 : Option Addr} {uc1 uc2 uc3 uc4 : Nat} (hb : Nm w (Q6.rat x y) u1 uc1 u2 uc2 u3 uc3 u4 uc4) (hu : fitR u) (hv : fitR v) (hx : fitR x) (hy : fitR y) (hz : ¬ (x = 0 ∧ y = 0)) : Calls Tryz.prog 24 #[numV (Q6.rat u v) a1 ac1 a2 ac2 a3 ac3 a4 ac4, numV (Q6.rat x y) u1 uc1 u2 uc2 u3 uc3 u4 uc4] w (AnsN w (ratS ((u * x + v * y) / (x * x + y * y)) ((v * x - u * y) / (x * x + y * y)))) := by
 have k1 : (words x.num.natAbs).length ≤ 512 := hx.1
 have k2 : (words y.num.natAbs).length ≤ 512 := hy.1
 have m1 := spX_len hu hv
 have m2 := spY_len hu hv
 have m3 := spD_len hu hv
 have m4 := spX_len hx hy
 have m5 := spY_len hx hy
 have m6 := spD_len hx hy
 have n1 := ivX_len (y := spY x y) m4 m6
 have n2 := ivY_len (x := spX x y) m5 m6
 have n3 := ivD_len m4 m5
 have hS : St w w [] [(u4, words y.den), (u3, words y.num.natAbs), (u2, words x.den), (u1, words x.num.natAbs), (a4, words v.den), (a3, words v.num.natAbs), (a2, words u.den), (a1, words u.num.natAbs)] [] := ((((((((St.start w).addR ha.s1.rd).addR ha.s2.rd).addR ha.s3.rd).addR ha.s4.rd).addR hb.s1.rd).addR hb.s2.rd).addR hb.s3.rd).addR hb.s4.rd
 refine walk_of (l := [(0, .agg #[.bool (rb u.num), .slice a1 ((words u.num.natAbs).length) ac1, .slice a2 ((words u.den).length) ac2, .bool (rb v.num), .slice a3 ((words v.num.natAbs).length) ac3, .slice a4 ((words v.den).length) ac4]), (1, .agg #[.bool (rb x.num), .slice u1 ((words x.num.natAbs).length) uc1, .slice u2 ((words x.den).length) uc2, .bool (rb y.num), .slice u3 ((words y.num.natAbs).length) uc3, .slice u4 ((words y.den).length) uc4])]) Tryz.func24 rfl Tryz.ntmps24 rfl rfl ?_
 intro Q hret hnorm hP a hA
 refine wp_seq_k (fun K1 hK1 => ?_)
 refine wp_region_lit ?_
 refine seq_new hA hS rfl rfl rfl (fun g => .pointer (some ⟨g, 0, none⟩)) (d_box rfl rfl) rfl ?_
 intro g2 w3 hS a hA
 refine seq_new hA hS rfl rfl rfl (fun g => .pointer (some ⟨g, 0, none⟩)) (d_box rfl rfl) rfl ?_
 intro g4 w5 hS a hA
 refine seq_new (vs := [.bool false, .slice none 0 0, .slice none 0 0, .bool false, .slice none 0 0, .slice none 0 0]) (t := 26) hA hS rfl rfl rfl (fun g => .pointer (some ⟨g, 0, none⟩)) (d_alloc (z := .agg #[.bool false, .slice none 0 0, .slice none 0 0, .bool false, .slice none 0 0, .slice none 0 0]) (by kernel_rfl) rfl) rfl ?_
 intro g6 w7 hS a hA
 refine seq_do hA rfl rfl rfl (d_assign rfl) ?_
 intro a hA
 refine seq_end ?_
 refine hK1 _ _ ?_
 refine wp_seq_k (fun K8 hK8 => ?_)
 refine wp_seq_k (fun K9 hK9 => ?_)
 refine wp_region_lit ?_
 refine seq_do hA rfl rfl rfl (d_loadS hS ExL_isS_26 rfl 2 rfl (cs := [.bool (rb u.num), .slice a1 ((words u.num.natAbs).length) ac1, .slice a2 ((words u.den).length) ac2, .bool (rb v.num), .slice a3 ((words v.num.natAbs).length) ac3, .slice a4 ((words v.den).length) ac4]) rfl rfl) ?_
 intro a hA
 refine seq_call hA rfl rfl rfl (enters_func  rfl rfl (fun w => by kernel_rfl)) (soundQ_any (show Nm _ (Q6.rat u v) a1 ac1 a2 ac2 a3 ac3 a4 ac4 from ⟨⟨(hS.rd 7 rfl), ha.s1.nil, ha.s1.cap⟩, ⟨(hS.rd 6 rfl), ha.s2.nil, ha.s2.cap⟩, ⟨(hS.rd 5 rfl), ha.s3.nil, ha.s3.cap⟩, ⟨(hS.rd 4 rfl), ha.s4.nil, ha.s4.cap⟩⟩) (lenQ_rat hu hv) (soundQ_rat hu hv)) ?_
 rintro _ w11 ⟨rfl, hb10⟩
 replace hS := hS.call hb10
 refine ⟨_, rfl, ?_⟩
 intro a hA
 refine seq_do (v := .bool false) hA rfl rfl rfl (d_un rfl un_not) ?_
 intro a hA
 refine seq_do hA rfl rfl rfl (d_move rfl) ?_
 intro a hA
 refine seq_do hA rfl rfl rfl (d_loadS hS ExL_isS_26 rfl 1 rfl (cs := [.bool (rb x.num), .slice u1 ((words x.num.natAbs).length) uc1, .slice u2 ((words x.den).length) uc2, .bool (rb y.num), .slice u3 ((words y.num.natAbs).length) uc3, .slice u4 ((words y.den).length) uc4]) rfl rfl) ?_
 intro a hA
 refine seq_call hA rfl rfl rfl (enters_func  rfl rfl (fun w => by kernel_rfl)) (soundQ_any (show Nm _ (Q6.rat x y) u1 uc1 u2 uc2 u3 uc3 u4 uc4 from ⟨⟨(hS.rd 3 rfl), hb.s1.nil, hb.s1.cap⟩, ⟨(hS.rd 2 rfl), hb.s2.nil, hb.s2.cap⟩, ⟨(hS.rd 1 rfl), hb.s3.nil, hb.s3.cap⟩, ⟨(hS.rd 0 rfl), hb.s4.nil, hb.s4.cap⟩⟩) (lenQ_rat hx hy) (soundQ_rat hx hy)) ?_
 rintro _ w13 ⟨rfl, hb12⟩
 replace hS := hS.call hb12
 refine ⟨_, rfl, ?_⟩
 intro a hA
 refine seq_do (v := .bool false) hA rfl rfl rfl (d_un rfl un_not) ?_
 intro a hA
 refine seq_do (v := .bool false) hA rfl rfl rfl (d_pick rfl rfl rfl rfl) ?_
 intro a hA
 refine seq_end ?_
 refine hK9 _ _ ?_
 refine wp_cond_false (hA.ev rfl) ?_
 refine wp_skip ?_
 refine hK8 _ _ ?_
 refine wp_seq_k (fun K14 hK14 => ?_)
 refine wp_seq_k (fun K15 hK15 => ?_)
 refine wp_region_lit ?_
 refine seq_do hA rfl rfl rfl (d_loadS hS ExL_isS_26 rfl 1 rfl (cs := [.bool (rb x.num), .slice u1 ((words x.num.natAbs).length) uc1, .slice u2 ((words x.den).length) uc2, .bool (rb y.num), .slice u3 ((words y.num.natAbs).length) uc3, .slice u4 ((words y.den).length) uc4]) rfl rfl) ?_
 intro a hA
 refine seq_call hA rfl rfl rfl (enters_func  rfl rfl (fun w => by kernel_rfl)) ((show Calls Tryz.prog 37 #[.agg #[.bool (rb x.num), .slice u1 ((words x.num.natAbs).length) uc1, .slice u2 ((words x.den).length) uc2, .bool (rb y.num), .slice u3 ((words y.num.natAbs).length) uc3, .slice u4 ((words y.den).length) uc4]] _ (fun e w' => e = .returned (.bool false) ∧ _) from (((zero_rat x y).trans (decide_eq_false hz)) ▸ isZero_any (by omega) (by omega)))) ?_
 rintro _ w17 ⟨rfl, hb16⟩
 replace hS := hS.call hb16
 refine ⟨_, rfl, ?_⟩
 intro a hA
 refine seq_end ?_
 refine hK15 _ _ ?_
 refine wp_cond_false (hA.ev rfl) ?_
 refine wp_skip ?_
 refine hK14 _ _ ?_
 refine wp_seq_k (fun K18 hK18 => ?_)
 refine wp_draw (S := fun w1 => St w w1 [(g4, [.bool (rb x.num), .slice u1 ((words x.num.natAbs).length) uc1, .slice u2 ((words x.den).length) uc2, .bool (rb y.num), .slice u3 ((words y.num.natAbs).length) uc3, .slice u4 ((words y.den).length) uc4]), (g2, [.bool (rb u.num), .slice a1 ((words u.num.natAbs).length) ac1, .slice a2 ((words u.den).length) ac2, .bool (rb v.num), .slice a3 ((words v.num.natAbs).length) ac3, .slice a4 ((words v.den).length) ac4])] [(u4, words y.den), (u3, words y.num.natAbs), (u2, words x.den), (u1, words x.num.natAbs), (a4, words v.den), (a3, words v.num.natAbs), (a2, words u.den), (a1, words u.num.natAbs)] []) (by kernel_rfl) ?_
 replace hS := hS.drew
 refine any_tk hA 0 rfl rfl rfl rfl hP (hS.partD (.cons _ (.cons_cons _ (.cons_cons _ .slnil))) 0 rfl (.refl _)) (fun w1 hS => d_loadS hS ExL_isS_26 rfl 1 rfl (cs := [.bool (rb u.num), .slice a1 ((words u.num.natAbs).length) ac1, .slice a2 ((words u.den).length) ac2, .bool (rb v.num), .slice a3 ((words v.num.natAbs).length) ac3, .slice a4 ((words v.den).length) ac4]) rfl rfl) ?_
 intro a hA
 refine any_tk hA 2 rfl rfl rfl rfl hP (hS.partD (.cons _ (.cons_cons _ (.cons_cons _ .slnil))) 0 rfl (.refl _)) (fun w1 hS => d_loadS hS ExL_isS_26 rfl 0 rfl (cs := [.bool (rb x.num), .slice u1 ((words x.num.natAbs).length) uc1, .slice u2 ((words x.den).length) uc2, .bool (rb y.num), .slice u3 ((words y.num.natAbs).length) uc3, .slice u4 ((words y.den).length) uc4]) rfl rfl) ?_
 intro a hA
 refine any_one (by kernel_rfl) (op_call hA 1 rfl rfl rfl rfl (enters_func  rfl rfl (fun w => by kernel_rfl)) (zspread_any (show Nm _ (Q6.rat u v) a1 ac1 a2 ac2 a3 ac3 a4 ac4 from ⟨⟨(hS.rd 7 rfl), ha.s1.nil, ha.s1.cap⟩, ⟨(hS.rd 6 rfl), ha.s2.nil, ha.s2.cap⟩, ⟨(hS.rd 5 rfl), ha.s3.nil, ha.s3.cap⟩, ⟨(hS.rd 4 rfl), ha.s4.nil, ha.s4.cap⟩⟩) hu hv) ?_)
 rintro _ w24 ⟨p19_1, p19_c1, p19_2, p19_c2, p19_3, p19_c3, rfl, hs20, hs21, hs22, hb23⟩
 replace hS := hS.call hb23
 replace hS := hS.addR hs20.rd
 replace hS := hS.addR hs21.rd
 replace hS := hS.addR hs22.rd
 refine ⟨_, rfl, (hS.partD (.cons _ (.cons_cons _ (.cons_cons _ .slnil))) 3 rfl (.refl _)), ?_⟩
 intro a hA
 refine any_one (by kernel_rfl) (op_call hA 3 rfl rfl rfl rfl (enters_func  rfl rfl (fun w => by kernel_rfl)) (zspread_any (show Nm _ (Q6.rat x y) u1 uc1 u2 uc2 u3 uc3 u4 uc4 from ⟨⟨(hS.rd 6 rfl), hb.s1.nil, hb.s1.cap⟩, ⟨(hS.rd 5 rfl), hb.s2.nil, hb.s2.cap⟩, ⟨(hS.rd 4 rfl), hb.s3.nil, hb.s3.cap⟩, ⟨(hS.rd 3 rfl), hb.s4.nil, hb.s4.cap⟩⟩) hx hy) ?_)
 rintro _ w30 ⟨p25_1, p25_c1, p25_2, p25_c2, p25_3, p25_c3, rfl, hs26, hs27, hs28, hb29⟩
 replace hS := hS.call hb29
 replace hS := hS.addR hs26.rd
 replace hS := hS.addR hs27.rd
 replace hS := hS.addR hs28.rd
 refine ⟨_, rfl, (hS.partD (.cons _ (.cons_cons _ (.cons_cons _ .slnil))) 6 rfl (.refl _)), ?_⟩
 intro a hA
 refine any_one (by kernel_rfl) (op_call hA 4 rfl rfl rfl rfl (enters_func  rfl rfl (fun w => by kernel_rfl)) (zinv_any ⟨(hS.rd 2 rfl), hs26.nil, hs26.cap⟩ ⟨(hS.rd 1 rfl), hs27.nil, hs27.cap⟩ ⟨(hS.rd 0 rfl), hs28.nil, hs28.cap⟩ (by omega) (by omega) (by omega)) ?_)
 rintro _ w36 ⟨p31_1, p31_c1, p31_2, p31_c2, p31_3, p31_c3, rfl, hs32, hs33, hs34, hb35⟩
 replace hS := hS.call hb35
 replace hS := hS.addR hs32.rd
 replace hS := hS.addR hs33.rd
 replace hS := hS.addR hs34.rd
 refine ⟨_, rfl, (hS.partD (.cons _ (.cons_cons _ (.cons_cons _ .slnil))) 9 rfl (.refl _)), ?_⟩
 intro a hA
 refine any_one (by kernel_rfl) (op_call hA 5 rfl rfl rfl rfl (enters_func  rfl rfl (fun w => by kernel_rfl)) (zproduct_any ⟨(hS.rd 8 rfl), hs20.nil, hs20.cap⟩ ⟨(hS.rd 7 rfl), hs21.nil, hs21.cap⟩ ⟨(hS.rd 6 rfl), hs22.nil, hs22.cap⟩ ⟨(hS.rd 2 rfl), hs32.nil, hs32.cap⟩ ⟨(hS.rd 1 rfl), hs33.nil, hs33.cap⟩ ⟨(hS.rd 0 rfl), hs34.nil, hs34.cap⟩ (by omega) (by omega) (by omega) (by omega) (by omega) (by omega)) ?_)
 rintro _ w42 ⟨p37_1, p37_c1, p37_2, p37_c2, p37_3, p37_c3, rfl, hs38, hs39, hs40, hb41⟩
 replace hS := hS.call hb41
 replace hS := hS.addR hs38.rd
 replace hS := hS.addR hs39.rd
 replace hS := hS.addR hs40.rd
 refine ⟨_, rfl, (hS.partD (.cons _ (.cons_cons _ (.cons_cons _ .slnil))) 12 rfl (.refl _)), ?_⟩
 intro a hA
 refine any_one (by kernel_rfl) (op_call hA 6 rfl rfl rfl rfl (enters_func  rfl rfl (fun w => by kernel_rfl)) (zsettle_as ⟨(hS.rd 2 rfl), hs38.nil, hs38.cap⟩ ⟨(hS.rd 1 rfl), hs39.nil, hs39.cap⟩ ⟨(hS.rd 0 rfl), hs40.nil, hs40.cap⟩ (set_div (spD_ne u v) (spD_ne x y) (spX_mk u v) (spY_mk u v) (spX_mk x y) (spY_mk x y) (sp_ne hz)) (Nat.le_trans (abs_add_len (Nat.le_trans (abs_mul_len m1 n1) (by decide : _ ≤ 4096)) (Nat.le_trans (neg_len (abs_mul_len m2 n2)) (by decide : _ ≤ 4096))) (by decide)) (Nat.le_trans (abs_add_len (Nat.le_trans (abs_mul_len m1 n2) (by decide : _ ≤ 4096)) (Nat.le_trans (abs_mul_len m2 n1) (by decide : _ ≤ 4096))) (by decide)) (Nat.le_trans (words_mul_length m3 n3) (by decide)) (Nat.mul_ne_zero (spD_ne u v) (ivD_ne (sp_ne hz)))) ?_)
 rintro _ w46 ⟨p43_1, p43_c1, p43_2, p43_c2, p43_3, p43_c3, p43_4, p43_c4, rfl, hn44, hb45⟩
 replace hS := hS.call hb45
 replace hS := hS.addR hn44.s1.rd
 replace hS := hS.addR hn44.s2.rd
 replace hS := hS.addR hn44.s3.rd
 replace hS := hS.addR hn44.s4.rd
 refine ⟨_, rfl, (hS.partD (.cons _ (.cons_cons _ (.cons_cons _ .slnil))) 16 rfl (.refl _)), ?_⟩
 intro a hA
 refine any_tk (v := .agg #[.bool ((ratS ((u * x + v * y) / (x * x + y * y)) ((v * x - u * y) / (x * x + y * y))).1.b1), .slice p43_1 (((ratS ((u * x + v * y) / (x * x + y * y)) ((v * x - u * y) / (x * x + y * y))).1.t1).length) p43_c1, .slice p43_2 (((ratS ((u * x + v * y) / (x * x + y * y)) ((v * x - u * y) / (x * x + y * y))).1.q1).length) p43_c2, .bool ((ratS ((u * x + v * y) / (x * x + y * y)) ((v * x - u * y) / (x * x + y * y))).1.b2), .slice p43_3 (((ratS ((u * x + v * y) / (x * x + y * y)) ((v * x - u * y) / (x * x + y * y))).1.t2).length) p43_c3, .slice p43_4 (((ratS ((u * x + v * y) / (x * x + y * y)) ((v * x - u * y) / (x * x + y * y))).1.q2).length) p43_c4]) hA 7 rfl rfl rfl rfl hP (hS.partD (.cons _ (.cons_cons _ (.cons_cons _ .slnil))) 16 rfl (.refl _)) (fun w1 hS => d_extract (vs := [.agg #[.bool ((ratS ((u * x + v * y) / (x * x + y * y)) ((v * x - u * y) / (x * x + y * y))).1.b1), .slice p43_1 (((ratS ((u * x + v * y) / (x * x + y * y)) ((v * x - u * y) / (x * x + y * y))).1.t1).length) p43_c1, .slice p43_2 (((ratS ((u * x + v * y) / (x * x + y * y)) ((v * x - u * y) / (x * x + y * y))).1.q1).length) p43_c2, .bool ((ratS ((u * x + v * y) / (x * x + y * y)) ((v * x - u * y) / (x * x + y * y))).1.b2), .slice p43_3 (((ratS ((u * x + v * y) / (x * x + y * y)) ((v * x - u * y) / (x * x + y * y))).1.t2).length) p43_c3, .slice p43_4 (((ratS ((u * x + v * y) / (x * x + y * y)) ((v * x - u * y) / (x * x + y * y))).1.q2).length) p43_c4], .int .i64 ((ratS ((u * x + v * y) / (x * x + y * y)) ((v * x - u * y) / (x * x + y * y))).2)]) rfl rfl) ?_
 intro a hA
 refine any_tk (v := .int .i64 ((ratS ((u * x + v * y) / (x * x + y * y)) ((v * x - u * y) / (x * x + y * y))).2)) hA 8 rfl rfl rfl rfl hP (hS.partD (.cons _ (.cons_cons _ (.cons_cons _ .slnil))) 16 rfl (.refl _)) (fun w1 hS => d_extract (vs := [.agg #[.bool ((ratS ((u * x + v * y) / (x * x + y * y)) ((v * x - u * y) / (x * x + y * y))).1.b1), .slice p43_1 (((ratS ((u * x + v * y) / (x * x + y * y)) ((v * x - u * y) / (x * x + y * y))).1.t1).length) p43_c1, .slice p43_2 (((ratS ((u * x + v * y) / (x * x + y * y)) ((v * x - u * y) / (x * x + y * y))).1.q1).length) p43_c2, .bool ((ratS ((u * x + v * y) / (x * x + y * y)) ((v * x - u * y) / (x * x + y * y))).1.b2), .slice p43_3 (((ratS ((u * x + v * y) / (x * x + y * y)) ((v * x - u * y) / (x * x + y * y))).1.t2).length) p43_c3, .slice p43_4 (((ratS ((u * x + v * y) / (x * x + y * y)) ((v * x - u * y) / (x * x + y * y))).1.q2).length) p43_c4], .int .i64 ((ratS ((u * x + v * y) / (x * x + y * y)) ((v * x - u * y) / (x * x + y * y))).2)]) rfl rfl) ?_
 intro a hA
 refine any_one (by kernel_rfl) (op_store (us := [.bool ((ratS ((u * x + v * y) / (x * x + y * y)) ((v * x - u * y) / (x * x + y * y))).1.b1), .slice p43_1 (((ratS ((u * x + v * y) / (x * x + y * y)) ((v * x - u * y) / (x * x + y * y))).1.t1).length) p43_c1, .slice p43_2 (((ratS ((u * x + v * y) / (x * x + y * y)) ((v * x - u * y) / (x * x + y * y))).1.q1).length) p43_c2, .bool ((ratS ((u * x + v * y) / (x * x + y * y)) ((v * x - u * y) / (x * x + y * y))).1.b2), .slice p43_3 (((ratS ((u * x + v * y) / (x * x + y * y)) ((v * x - u * y) / (x * x + y * y))).1.t2).length) p43_c3, .slice p43_4 (((ratS ((u * x + v * y) / (x * x + y * y)) ((v * x - u * y) / (x * x + y * y))).1.q2).length) p43_c4]) hA hS 9 rfl rfl rfl (sets_store rfl rfl rfl (by kernel_rfl) hS 0 rfl rfl rfl) 0 rfl rfl rfl rfl ?_)
 intro w47 hS
 refine ⟨(hS.partD (.cons _ (.cons_cons _ (.cons_cons _ .slnil))) 16 rfl (.refl _)), ?_⟩
 refine any_tk hA 10 rfl rfl rfl rfl hP (hS.partD (.cons _ (.cons_cons _ (.cons_cons _ .slnil))) 16 rfl (.refl _)) (fun w1 hS => d_assign rfl) ?_
 intro a hA
 refine any_end (by kernel_rfl) ?_
 refine hK18 _ _ ?_
 refine wp_ret ?_
 refine hret _ _ ?_
 refine ends (v := .tuple #[.agg #[.bool ((ratS ((u * x + v * y) / (x * x + y * y)) ((v * x - u * y) / (x * x + y * y))).1.b1), .slice p43_1 (((ratS ((u * x + v * y) / (x * x + y * y)) ((v * x - u * y) / (x * x + y * y))).1.t1).length) p43_c1, .slice p43_2 (((ratS ((u * x + v * y) / (x * x + y * y)) ((v * x - u * y) / (x * x + y * y))).1.q1).length) p43_c2, .bool ((ratS ((u * x + v * y) / (x * x + y * y)) ((v * x - u * y) / (x * x + y * y))).1.b2), .slice p43_3 (((ratS ((u * x + v * y) / (x * x + y * y)) ((v * x - u * y) / (x * x + y * y))).1.t2).length) p43_c3, .slice p43_4 (((ratS ((u * x + v * y) / (x * x + y * y)) ((v * x - u * y) / (x * x + y * y))).1.q2).length) p43_c4], .int .i64 ((ratS ((u * x + v * y) / (x * x + y * y)) ((v * x - u * y) / (x * x + y * y))).2)]) hA rfl (.cons (res_cell hS ExL_isS_26 rfl 0 rfl (cs := [.bool ((ratS ((u * x + v * y) / (x * x + y * y)) ((v * x - u * y) / (x * x + y * y))).1.b1), .slice p43_1 (((ratS ((u * x + v * y) / (x * x + y * y)) ((v * x - u * y) / (x * x + y * y))).1.t1).length) p43_c1, .slice p43_2 (((ratS ((u * x + v * y) / (x * x + y * y)) ((v * x - u * y) / (x * x + y * y))).1.q1).length) p43_c2, .bool ((ratS ((u * x + v * y) / (x * x + y * y)) ((v * x - u * y) / (x * x + y * y))).1.b2), .slice p43_3 (((ratS ((u * x + v * y) / (x * x + y * y)) ((v * x - u * y) / (x * x + y * y))).1.t2).length) p43_c3, .slice p43_4 (((ratS ((u * x + v * y) / (x * x + y * y)) ((v * x - u * y) / (x * x + y * y))).1.q2).length) p43_c4]) rfl rfl) (.cons (res_tmp rfl) .nil)) rfl ?_
 exact ⟨p43_1, p43_c1, p43_2, p43_c2, p43_3, p43_c3, p43_4, p43_c4, rfl, ⟨⟨(hS.rd 3 rfl), hn44.s1.nil, hn44.s1.cap⟩, ⟨(hS.rd 2 rfl), hn44.s2.nil, hn44.s2.cap⟩, ⟨(hS.rd 1 rfl), hn44.s3.nil, hn44.s3.cap⟩, ⟨(hS.rd 0 rfl), hn44.s4.nil, hn44.s4.cap⟩⟩, hS.bel⟩
theorem divQ_any {w : World} {p q : Q6} {a1 a2 a3 a4 : Option Addr} {ac1 ac2 ac3 ac4 : Nat} (ha : Nm w p a1 ac1 a2 ac2 a3 ac3 a4 ac4) (hl : LenQ p) {u1 u2 u3 u4 : Option Addr} {uc1 uc2 uc3 uc4 : Nat} (hb : Nm w q u1 uc1 u2 uc2 u3 uc3 u4 uc4) (hm : LenQ q) : Calls Tryz.prog 24 #[numV p a1 ac1 a2 ac2 a3 ac3 a4 ac4, numV q u1 uc1 u2 uc2 u3 uc3 u4 uc4] w (AnsN w (divQ p q)) := by
  rcases sound_cases ha with h1 | ⟨u, v, rfl, hu, hv⟩
  · rw [show divQ p q = (Q6.zero, 2) from if_neg (fun k => by rw [h1] at k; cases k.1)]
    exact divE1_any ha hl hb hm h1
  · rcases sound_cases hb with h2 | ⟨x, y, rfl, hx, hy⟩
    · rw [show divQ _ q = (Q6.zero, 2) from if_neg (fun k => by rw [h2] at k; cases k.2)]
      exact divE2_any ha hl hb hm (soundQ_rat hu hv) h2
    · by_cases hz : x = 0 ∧ y = 0
      · rw [divQ_zero hu hv hx hy hz]
        exact divZ_any ha hb hu hv hx hy hz
      · rw [divQ_rat hu hv hx hy hz]
        exact divN_any ha hb hu hv hx hy hz
end Go.Proofs.YtjmhdebfpnjceaaGreat
namespace Go.Proofs.YtjmhdebfpnjceaaGreat
open Go.RowKit
set_option linter.unusedVariables false
set_option linter.unusedSimpArgs false
set_option maxRecDepth 100000
theorem ExM_is1_22 : Is1 Tryz.prog 22 := ⟨⟨_, Tryz.underlying22, rfl⟩, by kernel_rfl⟩
theorem ExM_is1_4 : Is1 Tryz.prog 4 := ⟨⟨_, Tryz.underlying4, rfl⟩, by kernel_rfl⟩
theorem ExM_fld_24_0 : FieldAt Tryz.prog 24 0 0 := ⟨_, _, Tryz.underlying24, rfl, rfl, by kernel_rfl⟩
theorem ExM_fld_24_1 : FieldAt Tryz.prog 24 1 1 := ⟨_, _, Tryz.underlying24, rfl, rfl, by kernel_rfl⟩
theorem ExM_fld_24_2 : FieldAt Tryz.prog 24 2 2 := ⟨_, _, Tryz.underlying24, rfl, rfl, by kernel_rfl⟩
theorem ExM_fld_26_0 : FieldAt Tryz.prog 26 0 0 := ⟨_, _, Tryz.underlying26, rfl, rfl, by kernel_rfl⟩
theorem ExM_isS_24 : IsS Tryz.prog 24 3 := ⟨⟨_, Tryz.underlying24⟩, by kernel_rfl⟩
theorem ExM_isS_26 : IsS Tryz.prog 26 6 := ⟨⟨_, Tryz.underlying26⟩, by kernel_rfl⟩
theorem size32_any {w : World} {a1 a2 : Option Addr} {ac1 ac2 : Nat} (ha1 : Sc w a1 ac1 [3]) (ha2 : Sc w a2 ac2 [2]) : Calls Tryz.prog 32 #[.agg #[.bool true, .slice a1 1 ac1, .slice a2 1 ac2], .int .i64 10] w fun e w' => e = .returned (.string ⟨#[51, 47, 50]⟩) ∧ Below w.heap.size w w' := by
 have hS : St w w [] [(a2, [2]), (a1, [3])] [] := ((St.start w).addR ha1.rd).addR ha2.rd
 refine walk_of (l := [(0, .agg #[.bool true, .slice a1 1 ac1, .slice a2 1 ac2]), (1, .int .i64 10)]) Tryz.func32 rfl Tryz.ntmps32 rfl rfl ?_
 intro Q hret hnorm hP a hA
 refine wp_seq_k (fun K1 hK1 => ?_)
 refine wp_region_lit ?_
 refine seq_new hA hS rfl rfl rfl (fun g => .pointer (some ⟨g, 0, none⟩)) (d_box rfl rfl) rfl ?_
 intro g2 w3 hS a hA
 refine seq_do hA rfl rfl rfl (d_assign rfl) ?_
 intro a hA
 refine seq_end ?_
 refine hK1 _ _ ?_
 refine wp_seq_k (fun K4 hK4 => ?_)
 refine wp_region_lit ?_
 refine seq_do (v := .pointer (some ⟨g2, 1, none⟩)) hA rfl rfl rfl (d_field ExM_fld_24_1 rfl rfl) ?_
 intro a hA
 refine seq_do hA rfl rfl rfl (d_load1 hS ExM_is1_22 rfl 0 rfl rfl) ?_
 intro a hA
 refine seq_do hA rfl rfl rfl (d_move rfl) ?_
 intro a hA
 refine seq_call hA rfl rfl rfl (enters_func  rfl rfl (fun w => by kernel_rfl)) ((by have h := text_any (a := [3]) ac1 10 (hS.rd 1 rfl) (by decide) (by decide) (by decide); rw [textS_digit (by decide) (by decide)] at h; exact h)) ?_
 rintro _ w6 ⟨rfl, hb5⟩
 replace hS := hS.call hb5
 refine ⟨_, rfl, ?_⟩
 intro a hA
 refine seq_do hA rfl rfl rfl (d_move rfl) ?_
 intro a hA
 refine seq_do (v := .string (⟨#[51]⟩)) hA rfl rfl rfl (d_extract (vs := [.string (⟨#[51]⟩), .int .i64 0]) rfl rfl) ?_
 intro a hA
 refine seq_do (v := .int .i64 0) hA rfl rfl rfl (d_extract (vs := [.string (⟨#[51]⟩), .int .i64 0]) rfl rfl) ?_
 intro a hA
 refine seq_do hA rfl rfl rfl (d_assign rfl) ?_
 intro a hA
 refine seq_do hA rfl rfl rfl (d_assign rfl) ?_
 intro a hA
 refine seq_end ?_
 refine hK4 _ _ ?_
 refine wp_seq_k (fun K7 hK7 => ?_)
 refine wp_seq_k (fun K8 hK8 => ?_)
 refine wp_region_lit ?_
 refine seq_do (v := .pointer (some ⟨g2, 2, none⟩)) hA rfl rfl rfl (d_field ExM_fld_24_2 rfl rfl) ?_
 intro a hA
 refine seq_do hA rfl rfl rfl (d_load1 hS ExM_is1_22 rfl 0 rfl rfl) ?_
 intro a hA
 refine seq_call hA rfl rfl rfl (enters_func  rfl rfl (fun w => by kernel_rfl)) (isOneQ_any _ (hS.rd 0 rfl) (by decide) (show decide ([2] = [1]) = false from by decide)) ?_
 rintro _ w10 ⟨rfl, hb9⟩
 replace hb9 := below_eq hb9
 replace hS := hS.call hb9
 refine ⟨_, rfl, ?_⟩
 intro a hA
 refine seq_end ?_
 refine hK8 _ _ ?_
 refine wp_cond_false (hA.ev rfl) ?_
 refine wp_skip ?_
 refine hK7 _ _ ?_
 refine wp_seq_k (fun K11 hK11 => ?_)
 refine wp_region_lit ?_
 refine seq_do (v := .pointer (some ⟨g2, 2, none⟩)) hA rfl rfl rfl (d_field ExM_fld_24_2 rfl rfl) ?_
 intro a hA
 refine seq_do hA rfl rfl rfl (d_load1 hS ExM_is1_22 rfl 0 rfl rfl) ?_
 intro a hA
 refine seq_do hA rfl rfl rfl (d_move rfl) ?_
 intro a hA
 refine seq_call hA rfl rfl rfl (enters_func  rfl rfl (fun w => by kernel_rfl)) ((by have h := text_any (a := [2]) ac2 10 (hS.rd 0 rfl) (by decide) (by decide) (by decide); rw [textS_digit (by decide) (by decide)] at h; exact h)) ?_
 rintro _ w13 ⟨rfl, hb12⟩
 replace hS := hS.call hb12
 refine ⟨_, rfl, ?_⟩
 intro a hA
 refine seq_do hA rfl rfl rfl (d_move rfl) ?_
 intro a hA
 refine seq_do (v := .string (⟨#[50]⟩)) hA rfl rfl rfl (d_extract (vs := [.string (⟨#[50]⟩), .int .i64 0]) rfl rfl) ?_
 intro a hA
 refine seq_do (v := .int .i64 0) hA rfl rfl rfl (d_extract (vs := [.string (⟨#[50]⟩), .int .i64 0]) rfl rfl) ?_
 intro a hA
 refine seq_do hA rfl rfl rfl (d_assign rfl) ?_
 intro a hA
 refine seq_do hA rfl rfl rfl (d_assign rfl) ?_
 intro a hA
 refine seq_end ?_
 refine hK11 _ _ ?_
 refine wp_seq_k (fun K14 hK14 => ?_)
 refine wp_region_lit ?_
 refine seq_do hA rfl rfl rfl (d_move rfl) ?_
 intro a hA
 refine seq_do (v := .string (⟨#[51, 47]⟩)) hA rfl rfl rfl (d_bin rfl rfl (fun w => by kernel_rfl)) ?_
 intro a hA
 refine seq_do hA rfl rfl rfl (d_move rfl) ?_
 intro a hA
 refine seq_do (v := .string (⟨#[51, 47, 50]⟩)) hA rfl rfl rfl (d_bin rfl rfl (fun w => by kernel_rfl)) ?_
 intro a hA
 refine seq_do hA rfl rfl rfl (d_assign rfl) ?_
 intro a hA
 refine seq_end ?_
 refine hK14 _ _ ?_
 refine wp_ret ?_
 refine hret _ _ ?_
 refine ends (v := .string (⟨#[51, 47, 50]⟩)) hA rfl (.cons (res_tmp rfl) .nil) rfl ?_
 exact ⟨rfl, hS.bel⟩
theorem real32_any {w : World} {a1 a2 : Option Addr} {ac1 ac2 : Nat} (ha1 : Sc w a1 ac1 [3]) (ha2 : Sc w a2 ac2 [2]) : Calls Tryz.prog 15 #[.agg #[.bool true, .slice a1 1 ac1, .slice a2 1 ac2], .int .i64 10] w fun e w' => e = .returned (.string ⟨#[45, 51, 47, 50]⟩) ∧ Below w.heap.size w w' := by
 have hS : St w w [] [(a2, [2]), (a1, [3])] [] := ((St.start w).addR ha1.rd).addR ha2.rd
 refine walk_of (l := [(0, .agg #[.bool true, .slice a1 1 ac1, .slice a2 1 ac2]), (1, .int .i64 10)]) Tryz.func15 rfl Tryz.ntmps15 rfl rfl ?_
 intro Q hret hnorm hP a hA
 refine wp_seq_k (fun K1 hK1 => ?_)
 refine wp_region_lit ?_
 refine seq_new hA hS rfl rfl rfl (fun g => .pointer (some ⟨g, 0, none⟩)) (d_box rfl rfl) rfl ?_
 intro g2 w3 hS a hA
 refine seq_do hA rfl rfl rfl (d_assign rfl) ?_
 intro a hA
 refine seq_end ?_
 refine hK1 _ _ ?_
 refine wp_seq_k (fun K4 hK4 => ?_)
 refine wp_seq_k (fun K5 hK5 => ?_)
 refine wp_region_lit ?_
 refine seq_do (v := .pointer (some ⟨g2, 0, none⟩)) hA rfl rfl rfl (d_field ExM_fld_24_0 rfl rfl) ?_
 intro a hA
 refine seq_do hA rfl rfl rfl (d_load1 hS ExM_is1_4 rfl 0 rfl rfl) ?_
 intro a hA
 refine seq_end ?_
 refine hK5 _ _ ?_
 refine wp_cond_true (hA.ev rfl) ?_
 refine wp_seq_k (fun K6 hK6 => ?_)
 refine wp_region_lit ?_
 refine seq_do hA rfl rfl rfl (d_loadS hS ExM_isS_24 rfl 0 rfl (cs := [.bool true, .slice a1 1 ac1, .slice a2 1 ac2]) rfl rfl) ?_
 intro a hA
 refine seq_do hA rfl rfl rfl (d_move rfl) ?_
 intro a hA
 refine seq_call hA rfl rfl rfl (enters_func  rfl rfl (fun w => by kernel_rfl)) (size32_any ⟨(hS.rd 1 rfl), ha1.nil, ha1.cap⟩ ⟨(hS.rd 0 rfl), ha2.nil, ha2.cap⟩) ?_
 rintro _ w8 ⟨rfl, hb7⟩
 replace hS := hS.call hb7
 refine ⟨_, rfl, ?_⟩
 intro a hA
 refine seq_do (v := .string (⟨#[45, 51, 47, 50]⟩)) hA rfl rfl rfl (d_bin rfl rfl (fun w => by kernel_rfl)) ?_
 intro a hA
 refine seq_do hA rfl rfl rfl (d_assign rfl) ?_
 intro a hA
 refine seq_end ?_
 refine hK6 _ _ ?_
 refine wp_ret ?_
 refine hret _ _ ?_
 refine ends (v := .string (⟨#[45, 51, 47, 50]⟩)) hA rfl (.cons (res_tmp rfl) .nil) rfl ?_
 exact ⟨rfl, hS.bel⟩
theorem radix10_any {w : World} : Calls Tryz.prog 13 #[.int .i64 10] w fun e w' => e = .returned (.bool true) ∧ Below w.heap.size w w' := by
 have hS : St w w [] [] [] := St.start w
 refine walk_of (l := [(0, .int .i64 10)]) Tryz.func13 rfl Tryz.ntmps13 rfl rfl ?_
 intro Q hret hnorm hP a hA
 refine wp_seq_k (fun K1 hK1 => ?_)
 refine wp_region_lit ?_
 refine seq_do hA rfl rfl rfl (d_assign rfl) ?_
 intro a hA
 refine seq_end ?_
 refine hK1 _ _ ?_
 refine wp_seq_k (fun K2 hK2 => ?_)
 refine wp_seq_k (fun K3 hK3 => ?_)
 refine wp_region_lit ?_
 refine seq_do hA rfl rfl rfl (d_move rfl) ?_
 intro a hA
 refine seq_end ?_
 refine hK3 _ _ ?_
 refine wp_block ?_
 refine wp_seq_k (fun K4 hK4 => ?_)
 refine wp_seq_k (fun K5 hK5 => ?_)
 refine wp_region_lit ?_
 refine seq_do (v := .bool false) hA rfl rfl rfl (d_bin rfl rfl (fun w => by kernel_rfl)) ?_
 intro a hA
 refine seq_do hA rfl rfl rfl (d_assign rfl) ?_
 intro a hA
 refine seq_end ?_
 refine hK5 _ _ ?_
 refine wp_cond_false (hA.ev rfl) ?_
 refine wp_seq_k (fun K6 hK6 => ?_)
 refine wp_region_lit ?_
 refine seq_do (v := .bool false) hA rfl rfl rfl (d_bin rfl rfl (fun w => by kernel_rfl)) ?_
 intro a hA
 refine seq_do hA rfl rfl rfl (d_assign rfl) ?_
 intro a hA
 refine seq_end ?_
 refine hK6 _ _ ?_
 refine wp_cond_false (hA.ev rfl) ?_
 refine wp_seq_k (fun K7 hK7 => ?_)
 refine wp_region_lit ?_
 refine seq_do (v := .bool true) hA rfl rfl rfl (d_bin rfl rfl (fun w => by kernel_rfl)) ?_
 intro a hA
 refine seq_do hA rfl rfl rfl (d_assign rfl) ?_
 intro a hA
 refine seq_end ?_
 refine hK7 _ _ ?_
 refine wp_cond_true (hA.ev rfl) ?_
 refine wp_skip ?_
 refine hK4 _ _ ?_
 refine wp_cond_true (hA.ev rfl) ?_
 refine wp_seq_k (fun K8 hK8 => ?_)
 refine wp_region_lit ?_
 refine seq_do hA rfl rfl rfl (d_assign rfl) ?_
 intro a hA
 refine seq_end ?_
 refine hK8 _ _ ?_
 refine wp_ret ?_
 refine hret _ _ ?_
 refine ends (v := .bool true) hA rfl (.cons (res_tmp rfl) .nil) rfl ?_
 exact ⟨rfl, hS.bel⟩
theorem text32_any {w : World} {a1 a2 a3 a4 : Option Addr} {ac1 ac2 ac3 ac4 : Nat} (ha : Nm w Q6.half a1 ac1 a2 ac2 a3 ac3 a4 ac4) : Calls Tryz.prog 5 #[numV Q6.half a1 ac1 a2 ac2 a3 ac3 a4 ac4, .int .i64 10] w fun e w' => e = .returned (.tuple #[.string ⟨#[45, 51, 47, 50]⟩, .int .i64 0]) ∧ Below w.heap.size w w' := by
 have hS : St w w [] [(a4, [1]), (a3, []), (a2, [2]), (a1, [3])] [] := ((((St.start w).addR ha.s1.rd).addR ha.s2.rd).addR ha.s3.rd).addR ha.s4.rd
 refine walk_of (l := [(0, .agg #[.bool true, .slice a1 1 ac1, .slice a2 1 ac2, .bool false, .slice a3 0 ac3, .slice a4 1 ac4]), (1, .int .i64 10)]) Tryz.func5 rfl Tryz.ntmps5 rfl rfl ?_
 intro Q hret hnorm hP a hA
 refine wp_seq_k (fun K1 hK1 => ?_)
 refine wp_region_lit ?_
 refine seq_new hA hS rfl rfl rfl (fun g => .pointer (some ⟨g, 0, none⟩)) (d_box rfl rfl) rfl ?_
 intro g2 w3 hS a hA
 refine seq_do hA rfl rfl rfl (d_assign rfl) ?_
 intro a hA
 refine seq_do hA rfl rfl rfl (d_assign rfl) ?_
 intro a hA
 refine seq_end ?_
 refine hK1 _ _ ?_
 refine wp_seq_k (fun K4 hK4 => ?_)
 refine wp_seq_k (fun K5 hK5 => ?_)
 refine wp_region_lit ?_
 refine seq_do hA rfl rfl rfl (d_loadS hS ExM_isS_26 rfl 0 rfl (cs := [.bool true, .slice a1 1 ac1, .slice a2 1 ac2, .bool false, .slice a3 0 ac3, .slice a4 1 ac4]) rfl rfl) ?_
 intro a hA
 refine seq_call hA rfl rfl rfl (enters_func  rfl rfl (fun w => by kernel_rfl)) (soundQ_any (show Nm _ Q6.half a1 ac1 a2 ac2 a3 ac3 a4 ac4 from ⟨⟨(hS.rd 3 rfl), ha.s1.nil, ha.s1.cap⟩, ⟨(hS.rd 2 rfl), ha.s2.nil, ha.s2.cap⟩, ⟨(hS.rd 1 rfl), ha.s3.nil, ha.s3.cap⟩, ⟨(hS.rd 0 rfl), ha.s4.nil, ha.s4.cap⟩⟩) lenQ_half sound_half) ?_
 rintro _ w7 ⟨rfl, hb6⟩
 replace hS := hS.call hb6
 refine ⟨_, rfl, ?_⟩
 intro a hA
 refine seq_do (v := .bool false) hA rfl rfl rfl (d_un rfl un_not) ?_
 intro a hA
 refine seq_end ?_
 refine hK5 _ _ ?_
 refine wp_cond_false (hA.ev rfl) ?_
 refine wp_skip ?_
 refine hK4 _ _ ?_
 refine wp_seq_k (fun K8 hK8 => ?_)
 refine wp_seq_k (fun K9 hK9 => ?_)
 refine wp_region_lit ?_
 refine seq_do hA rfl rfl rfl (d_move rfl) ?_
 intro a hA
 refine seq_call hA rfl rfl rfl (enters_func  rfl rfl (fun w => by kernel_rfl)) (radix10_any) ?_
 rintro _ w11 ⟨rfl, hb10⟩
 replace hS := hS.call hb10
 refine ⟨_, rfl, ?_⟩
 intro a hA
 refine seq_do (v := .bool false) hA rfl rfl rfl (d_un rfl un_not) ?_
 intro a hA
 refine seq_end ?_
 refine hK9 _ _ ?_
 refine wp_cond_false (hA.ev rfl) ?_
 refine wp_skip ?_
 refine hK8 _ _ ?_
 refine wp_seq_k (fun K12 hK12 => ?_)
 refine wp_seq_k (fun K13 hK13 => ?_)
 refine wp_region_lit ?_
 refine seq_do hA rfl rfl rfl (d_loadS hS ExM_isS_26 rfl 0 rfl (cs := [.bool true, .slice a1 1 ac1, .slice a2 1 ac2, .bool false, .slice a3 0 ac3, .slice a4 1 ac4]) rfl rfl) ?_
 intro a hA
 refine seq_call hA rfl rfl rfl (enters_func  rfl rfl (fun w => by kernel_rfl)) (isRealQ_any (q := Q6.half) lenQ_half (show decide (Q6.half.t2.length = 0) = true from rfl)) ?_
 rintro _ w15 ⟨rfl, hb14⟩
 replace hS := hS.call hb14
 refine ⟨_, rfl, ?_⟩
 intro a hA
 refine seq_end ?_
 refine hK13 _ _ ?_
 refine wp_cond_true (hA.ev rfl) ?_
 refine wp_seq_k (fun K16 hK16 => ?_)
 refine wp_region_lit ?_
 refine seq_do (v := .pointer (some ⟨g2, 0, none⟩)) hA rfl rfl rfl (d_field ExM_fld_26_0 rfl rfl) ?_
 intro a hA
 refine seq_do hA rfl rfl rfl (d_loadS hS ExM_isS_24 rfl 0 rfl (cs := [.bool true, .slice a1 1 ac1, .slice a2 1 ac2]) rfl rfl) ?_
 intro a hA
 refine seq_do hA rfl rfl rfl (d_move rfl) ?_
 intro a hA
 refine seq_call hA rfl rfl rfl (enters_func  rfl rfl (fun w => by kernel_rfl)) (real32_any ⟨(hS.rd 3 rfl), ha.s1.nil, ha.s1.cap⟩ ⟨(hS.rd 2 rfl), ha.s2.nil, ha.s2.cap⟩) ?_
 rintro _ w18 ⟨rfl, hb17⟩
 replace hS := hS.call hb17
 refine ⟨_, rfl, ?_⟩
 intro a hA
 refine seq_do hA rfl rfl rfl (d_assign rfl) ?_
 intro a hA
 refine seq_do hA rfl rfl rfl (d_assign rfl) ?_
 intro a hA
 refine seq_end ?_
 refine hK16 _ _ ?_
 refine wp_ret ?_
 refine hret _ _ ?_
 refine ends (v := .tuple #[.string (⟨#[45, 51, 47, 50]⟩), .int .i64 0]) hA rfl (.cons (res_tmp rfl) (.cons (res_tmp rfl) .nil)) rfl ?_
 exact ⟨rfl, hS.bel⟩
theorem awake3_any {w : World} : Calls Tryz.prog 7 #[] w fun e w' => e = .returned (.bool true) ∧ Below w.heap.size w w' := by
 have hS : St w w [] [] [] := St.start w
 refine walk_of (l := []) Tryz.func7 rfl Tryz.ntmps7 rfl rfl ?_
 intro Q hret hnorm hP a hA
 refine wp_seq_k (fun K1 hK1 => ?_)
 refine wp_region_lit ?_
 refine seq_do hA rfl rfl rfl (d_assign rfl) ?_
 intro a hA
 refine seq_end ?_
 refine hK1 _ _ ?_
 refine wp_seq_k (fun K2 hK2 => ?_)
 refine wp_region_lit ?_
 refine seq_call hA rfl rfl rfl (enters_func  rfl rfl (fun w => by kernel_rfl)) ((show Calls Tryz.prog 25 #[.int .i64 (6)] _ (AnsV _ (Q6.whole false 6)) from intP_any (k := 6) (by decide))) ?_
 rintro _ w6 ⟨p3_1, p3_c1, p3_2, p3_c2, p3_3, p3_c3, p3_4, p3_c4, rfl, hn4, hb5⟩
 replace hS := hS.call hb5
 replace hS := hS.addR hn4.s1.rd
 replace hS := hS.addR hn4.s2.rd
 replace hS := hS.addR hn4.s3.rd
 replace hS := hS.addR hn4.s4.rd
 refine ⟨_, rfl, ?_⟩
 intro a hA
 refine seq_call hA rfl rfl rfl (enters_func  rfl rfl (fun w => by kernel_rfl)) ((show Calls Tryz.prog 25 #[.int .i64 (-4)] _ (AnsV _ (Q6.whole true 4)) from intN_any (k := 4) (by decide) (by decide))) ?_
 rintro _ w10 ⟨p7_1, p7_c1, p7_2, p7_c2, p7_3, p7_c3, p7_4, p7_c4, rfl, hn8, hb9⟩
 replace hS := hS.call hb9
 replace hS := hS.addR hn8.s1.rd
 replace hS := hS.addR hn8.s2.rd
 replace hS := hS.addR hn8.s3.rd
 replace hS := hS.addR hn8.s4.rd
 refine ⟨_, rfl, ?_⟩
 intro a hA
 refine seq_call hA rfl rfl rfl (enters_func  rfl rfl (fun w => by kernel_rfl)) ((awake_div ▸ divQ_any (p := Q6.whole false 6) (q := Q6.whole true 4) (show Nm _ _ p3_1 p3_c1 p3_2 p3_c2 p3_3 p3_c3 p3_4 p3_c4 from ⟨⟨(hS.rd 7 rfl), hn4.s1.nil, hn4.s1.cap⟩, ⟨(hS.rd 6 rfl), hn4.s2.nil, hn4.s2.cap⟩, ⟨(hS.rd 5 rfl), hn4.s3.nil, hn4.s3.cap⟩, ⟨(hS.rd 4 rfl), hn4.s4.nil, hn4.s4.cap⟩⟩) (lenQ_whole six_len) (show Nm _ _ p7_1 p7_c1 p7_2 p7_c2 p7_3 p7_c3 p7_4 p7_c4 from ⟨⟨(hS.rd 3 rfl), hn8.s1.nil, hn8.s1.cap⟩, ⟨(hS.rd 2 rfl), hn8.s2.nil, hn8.s2.cap⟩, ⟨(hS.rd 1 rfl), hn8.s3.nil, hn8.s3.cap⟩, ⟨(hS.rd 0 rfl), hn8.s4.nil, hn8.s4.cap⟩⟩) (lenQ_whole four_len))) ?_
 rintro _ w14 ⟨p11_1, p11_c1, p11_2, p11_c2, p11_3, p11_c3, p11_4, p11_c4, rfl, hn12, hb13⟩
 replace hS := hS.call hb13
 replace hS := hS.addR hn12.s1.rd
 replace hS := hS.addR hn12.s2.rd
 replace hS := hS.addR hn12.s3.rd
 replace hS := hS.addR hn12.s4.rd
 refine ⟨_, rfl, ?_⟩
 intro a hA
 refine seq_do hA rfl rfl rfl (d_move rfl) ?_
 intro a hA
 refine seq_do (v := .agg #[.bool true, .slice p11_1 1 p11_c1, .slice p11_2 1 p11_c2, .bool false, .slice p11_3 0 p11_c3, .slice p11_4 1 p11_c4]) hA rfl rfl rfl (d_extract (vs := [.agg #[.bool true, .slice p11_1 1 p11_c1, .slice p11_2 1 p11_c2, .bool false, .slice p11_3 0 p11_c3, .slice p11_4 1 p11_c4], .int .i64 0]) rfl rfl) ?_
 intro a hA
 refine seq_do (v := .int .i64 0) hA rfl rfl rfl (d_extract (vs := [.agg #[.bool true, .slice p11_1 1 p11_c1, .slice p11_2 1 p11_c2, .bool false, .slice p11_3 0 p11_c3, .slice p11_4 1 p11_c4], .int .i64 0]) rfl rfl) ?_
 intro a hA
 refine seq_new (vs := [.bool false, .slice none 0 0, .slice none 0 0, .bool false, .slice none 0 0, .slice none 0 0]) (t := 26) hA hS rfl rfl rfl (fun g => .pointer (some ⟨g, 0, none⟩)) (d_alloc (z := .agg #[.bool false, .slice none 0 0, .slice none 0 0, .bool false, .slice none 0 0, .slice none 0 0]) (by kernel_rfl) rfl) rfl ?_
 intro g15 w16 hS a hA
 refine seq_store (us := [.bool true, .slice p11_1 1 p11_c1, .slice p11_2 1 p11_c2, .bool false, .slice p11_3 0 p11_c3, .slice p11_4 1 p11_c4]) hA hS rfl rfl (sets_store rfl rfl rfl (by kernel_rfl) hS 0 rfl rfl rfl) 0 rfl rfl rfl rfl ?_
 intro w17 hS
 refine seq_do hA rfl rfl rfl (d_assign rfl) ?_
 intro a hA
 refine seq_end ?_
 refine hK2 _ _ ?_
 refine wp_seq_k (fun K18 hK18 => ?_)
 refine wp_region_lit ?_
 refine seq_do hA rfl rfl rfl (d_loadS hS ExM_isS_26 rfl 0 rfl (cs := [.bool true, .slice p11_1 1 p11_c1, .slice p11_2 1 p11_c2, .bool false, .slice p11_3 0 p11_c3, .slice p11_4 1 p11_c4]) rfl rfl) ?_
 intro a hA
 refine seq_call hA rfl rfl rfl (enters_func  rfl rfl (fun w => by kernel_rfl)) (text32_any (show Nm _ Q6.half p11_1 p11_c1 p11_2 p11_c2 p11_3 p11_c3 p11_4 p11_c4 from ⟨⟨(hS.rd 3 rfl), hn12.s1.nil, hn12.s1.cap⟩, ⟨(hS.rd 2 rfl), hn12.s2.nil, hn12.s2.cap⟩, ⟨(hS.rd 1 rfl), hn12.s3.nil, hn12.s3.cap⟩, ⟨(hS.rd 0 rfl), hn12.s4.nil, hn12.s4.cap⟩⟩)) ?_
 rintro _ w20 ⟨rfl, hb19⟩
 replace hS := hS.call hb19
 refine ⟨_, rfl, ?_⟩
 intro a hA
 refine seq_do hA rfl rfl rfl (d_move rfl) ?_
 intro a hA
 refine seq_do (v := .string (⟨#[45, 51, 47, 50]⟩)) hA rfl rfl rfl (d_extract (vs := [.string (⟨#[45, 51, 47, 50]⟩), .int .i64 0]) rfl rfl) ?_
 intro a hA
 refine seq_do (v := .int .i64 0) hA rfl rfl rfl (d_extract (vs := [.string (⟨#[45, 51, 47, 50]⟩), .int .i64 0]) rfl rfl) ?_
 intro a hA
 refine seq_do hA rfl rfl rfl (d_assign rfl) ?_
 intro a hA
 refine seq_do hA rfl rfl rfl (d_assign rfl) ?_
 intro a hA
 refine seq_end ?_
 refine hK18 _ _ ?_
 refine wp_seq_k (fun K21 hK21 => ?_)
 refine wp_region_lit ?_
 refine seq_do hA rfl rfl rfl (d_move rfl) ?_
 intro a hA
 refine seq_do (v := .bool true) hA rfl rfl rfl (d_bin rfl rfl (fun w => by kernel_rfl)) ?_
 intro a hA
 refine seq_do hA rfl rfl rfl (d_move rfl) ?_
 intro a hA
 refine seq_do hA rfl rfl rfl (d_move rfl) ?_
 intro a hA
 refine seq_do (v := .bool true) hA rfl rfl rfl (d_bin rfl rfl (fun w => by kernel_rfl)) ?_
 intro a hA
 refine seq_do (v := .bool true) hA rfl rfl rfl (d_pick rfl rfl rfl rfl) ?_
 intro a hA
 refine seq_do hA rfl rfl rfl (d_move rfl) ?_
 intro a hA
 refine seq_do hA rfl rfl rfl (d_move rfl) ?_
 intro a hA
 refine seq_do (v := .bool true) hA rfl rfl rfl (d_bin rfl rfl (fun w => by kernel_rfl)) ?_
 intro a hA
 refine seq_do (v := .bool true) hA rfl rfl rfl (d_pick rfl rfl rfl rfl) ?_
 intro a hA
 refine seq_do hA rfl rfl rfl (d_assign rfl) ?_
 intro a hA
 refine seq_end ?_
 refine hK21 _ _ ?_
 refine wp_ret ?_
 refine hret _ _ ?_
 refine ends (v := .bool true) hA rfl (.cons (res_tmp rfl) .nil) rfl ?_
 exact ⟨rfl, hS.bel⟩
end Go.Proofs.YtjmhdebfpnjceaaGreat
namespace Go.Proofs.YtjmhdebfpnjceaaGreat
open Go.RowKit
set_option linter.unusedVariables false
set_option linter.unusedSimpArgs false
set_option maxRecDepth 100000


end Go.Proofs.YtjmhdebfpnjceaaGreat
namespace Go.Proofs.YtjmhdebfpnjceaaGreat
open Go.RowKit
set_option linter.unusedVariables false
set_option linter.unusedSimpArgs false

section
variable {fop : Nat → Nat → Nat} {fb : Bool → Bool → Bool} {b1 b2 : Bool} {y1 y2 : Nat}
end
section
variable {P : Program} {t : TypeId} {a b : Operand} {x y : Nat}
end
end Go.Proofs.YtjmhdebfpnjceaaGreat
namespace Go.Proofs.YtjmhdebfpnjceaaGreat
open Go.RowKit
set_option linter.unusedVariables false
set_option linter.unusedSimpArgs false
set_option maxRecDepth 100000


end Go.Proofs.YtjmhdebfpnjceaaGreat
namespace Go.Proofs.YtjmhdebfpnjceaaGreat
open Go.RowKit
set_option linter.unusedVariables false
set_option linter.unusedSimpArgs false

end Go.Proofs.YtjmhdebfpnjceaaGreat
namespace Go.Proofs.YtjmhdebfpnjceaaGreat
open Go.RowKit
set_option linter.unusedVariables false
set_option linter.unusedSimpArgs false
set_option maxRecDepth 100000


end Go.Proofs.YtjmhdebfpnjceaaGreat
namespace Go.Proofs.YtjmhdebfpnjceaaGreat
open Go.RowKit
set_option linter.unusedVariables false
set_option linter.unusedSimpArgs false
end Go.Proofs.YtjmhdebfpnjceaaGreat
namespace Go.Proofs.YtjmhdebfpnjceaaGreat
open Go.RowKit
set_option linter.unusedVariables false
set_option linter.unusedSimpArgs false
set_option maxRecDepth 100000
theorem BiK_is1_22 : Is1 Tryz.prog 22 := ⟨⟨_, Tryz.underlying22, rfl⟩, by kernel_rfl⟩
theorem BiK_is1_4 : Is1 Tryz.prog 4 := ⟨⟨_, Tryz.underlying4, rfl⟩, by kernel_rfl⟩
theorem BiK_fld_24_0 : FieldAt Tryz.prog 24 0 0 := ⟨_, _, Tryz.underlying24, rfl, rfl, by kernel_rfl⟩
theorem BiK_fld_24_1 : FieldAt Tryz.prog 24 1 1 := ⟨_, _, Tryz.underlying24, rfl, rfl, by kernel_rfl⟩
theorem BiK_fld_24_2 : FieldAt Tryz.prog 24 2 2 := ⟨_, _, Tryz.underlying24, rfl, rfl, by kernel_rfl⟩
theorem ratSame_any {w : World} {b b' : Bool} {t q t' q' : List Nat} {a1 a2 : Option Addr} {ac1 ac2 : Nat} (ha1 : Sc w a1 ac1 t) (ha2 : Sc w a2 ac2 q) {u1 u2 : Option Addr} {uc1 uc2 : Nat} (hu1 : Sc w u1 uc1 t') (hu2 : Sc w u2 uc2 q') (l1 : t.length ≤ 9223372036854775807) (l2 : q.length ≤ 9223372036854775807) (l3 : t'.length ≤ 9223372036854775807) (l4 : q'.length ≤ 9223372036854775807) {r : Bool} (hr : sameF b t q b' t' q' = r) :
    Calls Tryz.prog 22 #[.agg #[.bool b, .slice a1 t.length ac1, .slice a2 q.length ac2], .agg #[.bool b', .slice u1 t'.length uc1, .slice u2 q'.length uc2]] w fun e w' => e = .returned (.bool r) ∧ Below w.heap.size w w' := by
 have hS : St w w [] [(u2, q'), (u1, t'), (a2, q), (a1, t)] [] := ((((St.start w).addR ha1.rd).addR ha2.rd).addR hu1.rd).addR hu2.rd
 refine walk_of (l := [(0, .agg #[.bool b, .slice a1 t.length ac1, .slice a2 q.length ac2]), (1, .agg #[.bool b', .slice u1 t'.length uc1, .slice u2 q'.length uc2])]) Tryz.func22 rfl Tryz.ntmps22 rfl rfl ?_
 intro Q hret hnorm hP a hA
 refine wp_seq_k (fun K1 hK1 => ?_)
 refine wp_region_lit ?_
 refine seq_new hA hS rfl rfl rfl (fun g => .pointer (some ⟨g, 0, none⟩)) (d_box rfl rfl) rfl ?_
 intro g2 w3 hS a hA
 refine seq_new hA hS rfl rfl rfl (fun g => .pointer (some ⟨g, 0, none⟩)) (d_box rfl rfl) rfl ?_
 intro g4 w5 hS a hA
 refine seq_do hA rfl rfl rfl (d_assign rfl) ?_
 intro a hA
 refine seq_end ?_
 refine hK1 _ _ ?_
 refine wp_seq_k (fun K6 hK6 => ?_)
 refine wp_region_lit ?_
 refine seq_do (v := .pointer (some ⟨g2, 0, none⟩)) hA rfl rfl rfl (d_field BiK_fld_24_0 rfl rfl) ?_
 intro a hA
 refine seq_do hA rfl rfl rfl (d_load1 hS BiK_is1_4 rfl 1 rfl rfl) ?_
 intro a hA
 refine seq_do (v := .pointer (some ⟨g4, 0, none⟩)) hA rfl rfl rfl (d_field BiK_fld_24_0 rfl rfl) ?_
 intro a hA
 refine seq_do hA rfl rfl rfl (d_load1 hS BiK_is1_4 rfl 0 rfl rfl) ?_
 intro a hA
 rcases Bool.eq_false_or_eq_true ((b == b')) with hb7 | hb7
 · have hb7' := eq_of_beq hb7
   refine seq_do (v := .bool true) hA rfl rfl rfl (d_bin rfl rfl (fun w => ((bin_eqlB Tryz.underlying4) w).trans (by rw [hb7]))) ?_
   intro a hA
   refine seq_do hA rfl rfl rfl (d_move rfl) ?_
   intro a hA
   refine seq_do (v := .pointer (some ⟨g2, 1, none⟩)) hA rfl rfl rfl (d_field BiK_fld_24_1 rfl rfl) ?_
   intro a hA
   refine seq_do hA rfl rfl rfl (d_load1 hS BiK_is1_22 rfl 1 rfl rfl) ?_
   intro a hA
   refine seq_do (v := .pointer (some ⟨g4, 1, none⟩)) hA rfl rfl rfl (d_field BiK_fld_24_1 rfl rfl) ?_
   intro a hA
   refine seq_do hA rfl rfl rfl (d_load1 hS BiK_is1_22 rfl 0 rfl rfl) ?_
   intro a hA
   rcases Bool.eq_false_or_eq_true (decide (t = t')) with hb8 | hb8
   · have hb8' := of_decide_eq_true hb8
     refine seq_call hA rfl rfl rfl (enters_func  rfl rfl (fun w => by kernel_rfl)) (rsameB_any _ _ (hS.rd 3 rfl) (hS.rd 1 rfl) l1 l3 hb8) ?_
     rintro _ w10 ⟨rfl, hb9⟩
     replace hS := hS.call hb9
     refine ⟨_, rfl, ?_⟩
     intro a hA
     refine seq_do (v := .bool true) hA rfl rfl rfl (d_pick rfl rfl rfl rfl) ?_
     intro a hA
     refine seq_do hA rfl rfl rfl (d_move rfl) ?_
     intro a hA
     refine seq_do (v := .pointer (some ⟨g2, 2, none⟩)) hA rfl rfl rfl (d_field BiK_fld_24_2 rfl rfl) ?_
     intro a hA
     refine seq_do hA rfl rfl rfl (d_load1 hS BiK_is1_22 rfl 1 rfl rfl) ?_
     intro a hA
     refine seq_do (v := .pointer (some ⟨g4, 2, none⟩)) hA rfl rfl rfl (d_field BiK_fld_24_2 rfl rfl) ?_
     intro a hA
     refine seq_do hA rfl rfl rfl (d_load1 hS BiK_is1_22 rfl 0 rfl rfl) ?_
     intro a hA
     rcases Bool.eq_false_or_eq_true (decide (q = q')) with hb11 | hb11
     · have hb11' := of_decide_eq_true hb11
       refine seq_call hA rfl rfl rfl (enters_func  rfl rfl (fun w => by kernel_rfl)) (rsameB_any _ _ (hS.rd 2 rfl) (hS.rd 0 rfl) l2 l4 hb11) ?_
       rintro _ w13 ⟨rfl, hb12⟩
       replace hS := hS.call hb12
       refine ⟨_, rfl, ?_⟩
       intro a hA
       refine seq_do (v := .bool true) hA rfl rfl rfl (d_pick rfl rfl rfl rfl) ?_
       intro a hA
       refine seq_do hA rfl rfl rfl (d_assign rfl) ?_
       intro a hA
       refine seq_end ?_
       refine hK6 _ _ ?_
       refine wp_ret ?_
       refine hret _ _ ?_
       refine ends (v := .bool true) hA rfl (.cons (res_tmp rfl) .nil) rfl ?_
       subst hr
       exact ⟨by unfold sameF; rw [hb7, hb8, hb11]; try rfl, hS.bel⟩
     · have hb11' := of_decide_eq_false hb11
       refine seq_call hA rfl rfl rfl (enters_func  rfl rfl (fun w => by kernel_rfl)) (rsameB_any _ _ (hS.rd 2 rfl) (hS.rd 0 rfl) l2 l4 hb11) ?_
       rintro _ w15 ⟨rfl, hb14⟩
       replace hS := hS.call hb14
       refine ⟨_, rfl, ?_⟩
       intro a hA
       refine seq_do (v := .bool false) hA rfl rfl rfl (d_pick rfl rfl rfl rfl) ?_
       intro a hA
       refine seq_do hA rfl rfl rfl (d_assign rfl) ?_
       intro a hA
       refine seq_end ?_
       refine hK6 _ _ ?_
       refine wp_ret ?_
       refine hret _ _ ?_
       refine ends (v := .bool false) hA rfl (.cons (res_tmp rfl) .nil) rfl ?_
       subst hr
       exact ⟨by unfold sameF; rw [hb7, hb8, hb11]; try rfl, hS.bel⟩
   · have hb8' := of_decide_eq_false hb8
     refine seq_call hA rfl rfl rfl (enters_func  rfl rfl (fun w => by kernel_rfl)) (rsameB_any _ _ (hS.rd 3 rfl) (hS.rd 1 rfl) l1 l3 hb8) ?_
     rintro _ w17 ⟨rfl, hb16⟩
     replace hS := hS.call hb16
     refine ⟨_, rfl, ?_⟩
     intro a hA
     refine seq_do (v := .bool false) hA rfl rfl rfl (d_pick rfl rfl rfl rfl) ?_
     intro a hA
     refine seq_do hA rfl rfl rfl (d_move rfl) ?_
     intro a hA
     refine seq_skip hA rfl rfl rfl ?_
     intro a hA
     refine seq_skip hA rfl rfl rfl ?_
     intro a hA
     refine seq_skip hA rfl rfl rfl ?_
     intro a hA
     refine seq_skip hA rfl rfl rfl ?_
     intro a hA
     refine seq_skip hA rfl rfl rfl ?_
     intro a hA
     refine seq_do (v := .bool false) hA rfl rfl rfl (d_pick rfl rfl rfl rfl) ?_
     intro a hA
     refine seq_do hA rfl rfl rfl (d_assign rfl) ?_
     intro a hA
     refine seq_end ?_
     refine hK6 _ _ ?_
     refine wp_ret ?_
     refine hret _ _ ?_
     refine ends (v := .bool false) hA rfl (.cons (res_tmp rfl) .nil) rfl ?_
     subst hr
     exact ⟨by unfold sameF; rw [hb7, hb8]; try rfl, hS.bel⟩
 · have hb7' := ne_of_beq_false hb7
   refine seq_do (v := .bool false) hA rfl rfl rfl (d_bin rfl rfl (fun w => ((bin_eqlB Tryz.underlying4) w).trans (by rw [hb7]))) ?_
   intro a hA
   refine seq_do hA rfl rfl rfl (d_move rfl) ?_
   intro a hA
   refine seq_skip hA rfl rfl rfl ?_
   intro a hA
   refine seq_skip hA rfl rfl rfl ?_
   intro a hA
   refine seq_skip hA rfl rfl rfl ?_
   intro a hA
   refine seq_skip hA rfl rfl rfl ?_
   intro a hA
   refine seq_skip hA rfl rfl rfl ?_
   intro a hA
   refine seq_do (v := .bool false) hA rfl rfl rfl (d_pick rfl rfl rfl rfl) ?_
   intro a hA
   refine seq_do hA rfl rfl rfl (d_move rfl) ?_
   intro a hA
   refine seq_skip hA rfl rfl rfl ?_
   intro a hA
   refine seq_skip hA rfl rfl rfl ?_
   intro a hA
   refine seq_skip hA rfl rfl rfl ?_
   intro a hA
   refine seq_skip hA rfl rfl rfl ?_
   intro a hA
   refine seq_skip hA rfl rfl rfl ?_
   intro a hA
   refine seq_do (v := .bool false) hA rfl rfl rfl (d_pick rfl rfl rfl rfl) ?_
   intro a hA
   refine seq_do hA rfl rfl rfl (d_assign rfl) ?_
   intro a hA
   refine seq_end ?_
   refine hK6 _ _ ?_
   refine wp_ret ?_
   refine hret _ _ ?_
   refine ends (v := .bool false) hA rfl (.cons (res_tmp rfl) .nil) rfl ?_
   subst hr
   exact ⟨by unfold sameF; rw [hb7]; try rfl, hS.bel⟩
end Go.Proofs.YtjmhdebfpnjceaaGreat
namespace Go.Proofs.YtjmhdebfpnjceaaGreat
open Go.RowKit
set_option linter.unusedVariables false
set_option linter.unusedSimpArgs false
set_option maxRecDepth 100000
theorem RxC_is1_9 : Is1 Tryz.prog 9 := ⟨⟨_, Tryz.underlying9, rfl⟩, by kernel_rfl⟩
theorem RxC_fld_48_0 : FieldAt Tryz.prog 48 0 0 := ⟨_, _, Tryz.underlying48, rfl, rfl, by kernel_rfl⟩
theorem RxC_fld_48_1 : FieldAt Tryz.prog 48 1 1 := ⟨_, _, Tryz.underlying48, rfl, rfl, by kernel_rfl⟩
theorem RxC_fld_48_2 : FieldAt Tryz.prog 48 2 2 := ⟨_, _, Tryz.underlying48, rfl, rfl, by kernel_rfl⟩
theorem RxC_isS_48 : IsS Tryz.prog 48 3 := ⟨⟨_, Tryz.underlying48⟩, by kernel_rfl⟩
theorem isRadixX_any {w : World} {n : Int} {c : Bool} (hc : radixB n = c) : Calls Tryz.prog 13 #[.int .i64 n] w fun e w' => e = .returned (.bool c) ∧ Below w.heap.size w w' := by
 have hS : St w w [] [] [] := St.start w
 refine walk_of (l := [(0, .int .i64 n)]) Tryz.func13 rfl Tryz.ntmps13 rfl rfl ?_
 intro Q hret hnorm hP a hA
 refine wp_seq_k (fun K1 hK1 => ?_)
 refine wp_region_lit ?_
 refine seq_do hA rfl rfl rfl (d_assign rfl) fun a hA => ?_
 refine seq_end ?_
 refine hK1 _ _ ?_
 refine wp_seq_k (fun K2 hK2 => ?_)
 refine wp_seq_k (fun K3 hK3 => ?_)
 refine wp_region_lit ?_
 refine mv hA rfl rfl rfl fun a hA => ?_
 refine seq_end ?_
 refine hK3 _ _ ?_
 refine wp_block ?_
 refine wp_seq_k (fun K4 hK4 => ?_)
 refine wp_seq_k (fun K5 hK5 => ?_)
 refine wp_region_lit ?_
 rcases Bool.eq_false_or_eq_true ((n == 2)) with hb6 | hb6
 ·
  have hb6' := eq_of_beq hb6
  refine seq_do (v := .bool true) hA rfl rfl rfl (d_bin rfl rfl (fun w => (bin_eql w).trans (by rw [hb6]))) fun a hA => ?_
  refine seq_do hA rfl rfl rfl (d_assign rfl) fun a hA => ?_
  refine seq_end ?_
  refine hK5 _ _ ?_
  refine wp_cond_true (hA.ev rfl) ?_
  refine wp_skip ?_
  refine hK4 _ _ ?_
  refine wp_cond_true (hA.ev rfl) ?_
  refine wp_seq_k (fun K7 hK7 => ?_)
  refine wp_region_lit ?_
  refine seq_do hA rfl rfl rfl (d_assign rfl) fun a hA => ?_
  refine seq_end ?_
  refine hK7 _ _ ?_
  refine wp_ret ?_
  refine hret _ _ ?_
  refine ends (v := .bool true) hA rfl (.cons (res_tmp rfl) .nil) rfl ?_
  subst hc
  exact ⟨by rw [show radixB n = true from by unfold radixB; simp; omega], hS.bel⟩
 ·
  have hb6' := ne_of_beq_false hb6
  refine seq_do (v := .bool false) hA rfl rfl rfl (d_bin rfl rfl (fun w => (bin_eql w).trans (by rw [hb6]))) fun a hA => ?_
  refine seq_do hA rfl rfl rfl (d_assign rfl) fun a hA => ?_
  refine seq_end ?_
  refine hK5 _ _ ?_
  refine wp_cond_false (hA.ev rfl) ?_
  refine wp_seq_k (fun K8 hK8 => ?_)
  refine wp_region_lit ?_
  rcases Bool.eq_false_or_eq_true ((n == 8)) with hb9 | hb9
  ·
   have hb9' := eq_of_beq hb9
   refine seq_do (v := .bool true) hA rfl rfl rfl (d_bin rfl rfl (fun w => (bin_eql w).trans (by rw [hb9]))) fun a hA => ?_
   refine seq_do hA rfl rfl rfl (d_assign rfl) fun a hA => ?_
   refine seq_end ?_
   refine hK8 _ _ ?_
   refine wp_cond_true (hA.ev rfl) ?_
   refine wp_skip ?_
   refine hK4 _ _ ?_
   refine wp_cond_true (hA.ev rfl) ?_
   refine wp_seq_k (fun K10 hK10 => ?_)
   refine wp_region_lit ?_
   refine seq_do hA rfl rfl rfl (d_assign rfl) fun a hA => ?_
   refine seq_end ?_
   refine hK10 _ _ ?_
   refine wp_ret ?_
   refine hret _ _ ?_
   refine ends (v := .bool true) hA rfl (.cons (res_tmp rfl) .nil) rfl ?_
   subst hc
   exact ⟨by rw [show radixB n = true from by unfold radixB; simp; omega], hS.bel⟩
  ·
   have hb9' := ne_of_beq_false hb9
   refine seq_do (v := .bool false) hA rfl rfl rfl (d_bin rfl rfl (fun w => (bin_eql w).trans (by rw [hb9]))) fun a hA => ?_
   refine seq_do hA rfl rfl rfl (d_assign rfl) fun a hA => ?_
   refine seq_end ?_
   refine hK8 _ _ ?_
   refine wp_cond_false (hA.ev rfl) ?_
   refine wp_seq_k (fun K11 hK11 => ?_)
   refine wp_region_lit ?_
   rcases Bool.eq_false_or_eq_true ((n == 10)) with hb12 | hb12
   ·
    have hb12' := eq_of_beq hb12
    refine seq_do (v := .bool true) hA rfl rfl rfl (d_bin rfl rfl (fun w => (bin_eql w).trans (by rw [hb12]))) fun a hA => ?_
    refine seq_do hA rfl rfl rfl (d_assign rfl) fun a hA => ?_
    refine seq_end ?_
    refine hK11 _ _ ?_
    refine wp_cond_true (hA.ev rfl) ?_
    refine wp_skip ?_
    refine hK4 _ _ ?_
    refine wp_cond_true (hA.ev rfl) ?_
    refine wp_seq_k (fun K13 hK13 => ?_)
    refine wp_region_lit ?_
    refine seq_do hA rfl rfl rfl (d_assign rfl) fun a hA => ?_
    refine seq_end ?_
    refine hK13 _ _ ?_
    refine wp_ret ?_
    refine hret _ _ ?_
    refine ends (v := .bool true) hA rfl (.cons (res_tmp rfl) .nil) rfl ?_
    subst hc
    exact ⟨by rw [show radixB n = true from by unfold radixB; simp; omega], hS.bel⟩
   ·
    have hb12' := ne_of_beq_false hb12
    refine seq_do (v := .bool false) hA rfl rfl rfl (d_bin rfl rfl (fun w => (bin_eql w).trans (by rw [hb12]))) fun a hA => ?_
    refine seq_do hA rfl rfl rfl (d_assign rfl) fun a hA => ?_
    refine seq_end ?_
    refine hK11 _ _ ?_
    refine wp_cond_false (hA.ev rfl) ?_
    refine wp_region_lit ?_
    rcases Bool.eq_false_or_eq_true ((n == 16)) with hb14 | hb14
    ·
     have hb14' := eq_of_beq hb14
     refine seq_do (v := .bool true) hA rfl rfl rfl (d_bin rfl rfl (fun w => (bin_eql w).trans (by rw [hb14]))) fun a hA => ?_
     refine seq_do hA rfl rfl rfl (d_assign rfl) fun a hA => ?_
     refine seq_end ?_
     refine hK4 _ _ ?_
     refine wp_cond_true (hA.ev rfl) ?_
     refine wp_seq_k (fun K15 hK15 => ?_)
     refine wp_region_lit ?_
     refine seq_do hA rfl rfl rfl (d_assign rfl) fun a hA => ?_
     refine seq_end ?_
     refine hK15 _ _ ?_
     refine wp_ret ?_
     refine hret _ _ ?_
     refine ends (v := .bool true) hA rfl (.cons (res_tmp rfl) .nil) rfl ?_
     subst hc
     exact ⟨by rw [show radixB n = true from by unfold radixB; simp; omega], hS.bel⟩
    ·
     have hb14' := ne_of_beq_false hb14
     refine seq_do (v := .bool false) hA rfl rfl rfl (d_bin rfl rfl (fun w => (bin_eql w).trans (by rw [hb14]))) fun a hA => ?_
     refine seq_do hA rfl rfl rfl (d_assign rfl) fun a hA => ?_
     refine seq_end ?_
     refine hK4 _ _ ?_
     refine wp_cond_false (hA.ev rfl) ?_
     refine wp_skip ?_
     refine hK2 _ _ ?_
     refine wp_seq_k (fun K16 hK16 => ?_)
     refine wp_region_lit ?_
     refine seq_do hA rfl rfl rfl (d_assign rfl) fun a hA => ?_
     refine seq_end ?_
     refine hK16 _ _ ?_
     refine wp_ret ?_
     refine hret _ _ ?_
     refine ends (v := .bool false) hA rfl (.cons (res_tmp rfl) .nil) rfl ?_
     subst hc
     exact ⟨by rw [show radixB n = false from by unfold radixB; simp; omega], hS.bel⟩
theorem rradixX_any {w : World} {n : Int} {c : Bool} (hc : radixB n = c) : Calls Tryz.prog 19 #[.int .i64 n] w fun e w' => e = .returned (.bool c) ∧ Below w.heap.size w w' := by
 have hS : St w w [] [] [] := St.start w
 refine walk_of (l := [(0, .int .i64 n)]) Tryz.func19 rfl Tryz.ntmps19 rfl rfl ?_
 intro Q hret hnorm hP a hA
 refine wp_seq_k (fun K1 hK1 => ?_)
 refine wp_region_lit ?_
 refine seq_do hA rfl rfl rfl (d_assign rfl) fun a hA => ?_
 refine seq_end ?_
 refine hK1 _ _ ?_
 refine wp_seq_k (fun K2 hK2 => ?_)
 refine wp_region_lit ?_
 refine mv hA rfl rfl rfl fun a hA => ?_
 rcases Bool.eq_false_or_eq_true ((n == 2)) with hb3 | hb3
 ·
  have hb3' := eq_of_beq hb3
  refine seq_do (v := .bool true) hA rfl rfl rfl (d_bin rfl rfl (fun w => (bin_eql w).trans (by rw [hb3]))) fun a hA => ?_
  refine mv hA rfl rfl rfl fun a hA => ?_
  refine seq_skip hA rfl rfl rfl fun a hA => ?_
  refine seq_skip hA rfl rfl rfl fun a hA => ?_
  refine seq_do (v := .bool true) hA rfl rfl rfl (d_pick rfl rfl rfl rfl) fun a hA => ?_
  refine mv hA rfl rfl rfl fun a hA => ?_
  refine seq_skip hA rfl rfl rfl fun a hA => ?_
  refine seq_skip hA rfl rfl rfl fun a hA => ?_
  refine seq_do (v := .bool true) hA rfl rfl rfl (d_pick rfl rfl rfl rfl) fun a hA => ?_
  refine mv hA rfl rfl rfl fun a hA => ?_
  refine seq_skip hA rfl rfl rfl fun a hA => ?_
  refine seq_skip hA rfl rfl rfl fun a hA => ?_
  refine seq_do (v := .bool true) hA rfl rfl rfl (d_pick rfl rfl rfl rfl) fun a hA => ?_
  refine seq_do hA rfl rfl rfl (d_assign rfl) fun a hA => ?_
  refine seq_end ?_
  refine hK2 _ _ ?_
  refine wp_ret ?_
  refine hret _ _ ?_
  refine ends (v := .bool true) hA rfl (.cons (res_tmp rfl) .nil) rfl ?_
  subst hc
  exact ⟨by rw [show radixB n = true from by unfold radixB; simp; omega], hS.bel⟩
 ·
  have hb3' := ne_of_beq_false hb3
  refine seq_do (v := .bool false) hA rfl rfl rfl (d_bin rfl rfl (fun w => (bin_eql w).trans (by rw [hb3]))) fun a hA => ?_
  refine mv hA rfl rfl rfl fun a hA => ?_
  refine mv hA rfl rfl rfl fun a hA => ?_
  rcases Bool.eq_false_or_eq_true ((n == 8)) with hb4 | hb4
  ·
   have hb4' := eq_of_beq hb4
   refine seq_do (v := .bool true) hA rfl rfl rfl (d_bin rfl rfl (fun w => (bin_eql w).trans (by rw [hb4]))) fun a hA => ?_
   refine seq_do (v := .bool true) hA rfl rfl rfl (d_pick rfl rfl rfl rfl) fun a hA => ?_
   refine mv hA rfl rfl rfl fun a hA => ?_
   refine seq_skip hA rfl rfl rfl fun a hA => ?_
   refine seq_skip hA rfl rfl rfl fun a hA => ?_
   refine seq_do (v := .bool true) hA rfl rfl rfl (d_pick rfl rfl rfl rfl) fun a hA => ?_
   refine mv hA rfl rfl rfl fun a hA => ?_
   refine seq_skip hA rfl rfl rfl fun a hA => ?_
   refine seq_skip hA rfl rfl rfl fun a hA => ?_
   refine seq_do (v := .bool true) hA rfl rfl rfl (d_pick rfl rfl rfl rfl) fun a hA => ?_
   refine seq_do hA rfl rfl rfl (d_assign rfl) fun a hA => ?_
   refine seq_end ?_
   refine hK2 _ _ ?_
   refine wp_ret ?_
   refine hret _ _ ?_
   refine ends (v := .bool true) hA rfl (.cons (res_tmp rfl) .nil) rfl ?_
   subst hc
   exact ⟨by rw [show radixB n = true from by unfold radixB; simp; omega], hS.bel⟩
  ·
   have hb4' := ne_of_beq_false hb4
   refine seq_do (v := .bool false) hA rfl rfl rfl (d_bin rfl rfl (fun w => (bin_eql w).trans (by rw [hb4]))) fun a hA => ?_
   refine seq_do (v := .bool false) hA rfl rfl rfl (d_pick rfl rfl rfl rfl) fun a hA => ?_
   refine mv hA rfl rfl rfl fun a hA => ?_
   refine mv hA rfl rfl rfl fun a hA => ?_
   rcases Bool.eq_false_or_eq_true ((n == 10)) with hb5 | hb5
   ·
    have hb5' := eq_of_beq hb5
    refine seq_do (v := .bool true) hA rfl rfl rfl (d_bin rfl rfl (fun w => (bin_eql w).trans (by rw [hb5]))) fun a hA => ?_
    refine seq_do (v := .bool true) hA rfl rfl rfl (d_pick rfl rfl rfl rfl) fun a hA => ?_
    refine mv hA rfl rfl rfl fun a hA => ?_
    refine seq_skip hA rfl rfl rfl fun a hA => ?_
    refine seq_skip hA rfl rfl rfl fun a hA => ?_
    refine seq_do (v := .bool true) hA rfl rfl rfl (d_pick rfl rfl rfl rfl) fun a hA => ?_
    refine seq_do hA rfl rfl rfl (d_assign rfl) fun a hA => ?_
    refine seq_end ?_
    refine hK2 _ _ ?_
    refine wp_ret ?_
    refine hret _ _ ?_
    refine ends (v := .bool true) hA rfl (.cons (res_tmp rfl) .nil) rfl ?_
    subst hc
    exact ⟨by rw [show radixB n = true from by unfold radixB; simp; omega], hS.bel⟩
   ·
    have hb5' := ne_of_beq_false hb5
    refine seq_do (v := .bool false) hA rfl rfl rfl (d_bin rfl rfl (fun w => (bin_eql w).trans (by rw [hb5]))) fun a hA => ?_
    refine seq_do (v := .bool false) hA rfl rfl rfl (d_pick rfl rfl rfl rfl) fun a hA => ?_
    refine mv hA rfl rfl rfl fun a hA => ?_
    refine mv hA rfl rfl rfl fun a hA => ?_
    rcases Bool.eq_false_or_eq_true ((n == 16)) with hb6 | hb6
    ·
     have hb6' := eq_of_beq hb6
     refine seq_do (v := .bool true) hA rfl rfl rfl (d_bin rfl rfl (fun w => (bin_eql w).trans (by rw [hb6]))) fun a hA => ?_
     refine seq_do (v := .bool true) hA rfl rfl rfl (d_pick rfl rfl rfl rfl) fun a hA => ?_
     refine seq_do hA rfl rfl rfl (d_assign rfl) fun a hA => ?_
     refine seq_end ?_
     refine hK2 _ _ ?_
     refine wp_ret ?_
     refine hret _ _ ?_
     refine ends (v := .bool true) hA rfl (.cons (res_tmp rfl) .nil) rfl ?_
     subst hc
     exact ⟨by rw [show radixB n = true from by unfold radixB; simp; omega], hS.bel⟩
    ·
     have hb6' := ne_of_beq_false hb6
     refine seq_do (v := .bool false) hA rfl rfl rfl (d_bin rfl rfl (fun w => (bin_eql w).trans (by rw [hb6]))) fun a hA => ?_
     refine seq_do (v := .bool false) hA rfl rfl rfl (d_pick rfl rfl rfl rfl) fun a hA => ?_
     refine seq_do hA rfl rfl rfl (d_assign rfl) fun a hA => ?_
     refine seq_end ?_
     refine hK2 _ _ ?_
     refine wp_ret ?_
     refine hret _ _ ?_
     refine ends (v := .bool false) hA rfl (.cons (res_tmp rfl) .nil) rfl ?_
     subst hc
     exact ⟨by rw [show radixB n = false from by unfold radixB; simp; omega], hS.bel⟩
theorem radixOf_any {w : World} {b k : Nat} (hk : radOf b = k) : Calls Tryz.prog 43 #[.int .u8 ((b : Nat) : Int)] w fun e w' => e = .returned (.int .i64 ((k : Nat) : Int)) ∧ Below w.heap.size w w' := by
 have hS : St w w [] [] [] := St.start w
 refine walk_of (l := [(0, .int .u8 (((b : Nat) : Int)))]) Tryz.func43 rfl Tryz.ntmps43 rfl rfl ?_
 intro Q hret hnorm hP a hA
 refine wp_seq_k (fun K1 hK1 => ?_)
 refine wp_region_lit ?_
 refine seq_do hA rfl rfl rfl (d_assign rfl) fun a hA => ?_
 refine seq_end ?_
 refine hK1 _ _ ?_
 refine wp_seq_k (fun K2 hK2 => ?_)
 refine wp_seq_k (fun K3 hK3 => ?_)
 refine wp_region_lit ?_
 refine mv hA rfl rfl rfl fun a hA => ?_
 refine seq_end ?_
 refine hK3 _ _ ?_
 refine wp_block ?_
 refine wp_seq_k (fun K4 hK4 => ?_)
 refine wp_seq_k (fun K5 hK5 => ?_)
 refine wp_region_lit ?_
 rcases Bool.eq_false_or_eq_true ((((b : Nat) : Int) == 98)) with hb6 | hb6
 ·
  have hb6' := eq_of_beq hb6
  refine seq_do (v := .bool true) hA rfl rfl rfl (d_bin rfl rfl (fun w => (bin_eql w).trans (by rw [hb6]))) fun a hA => ?_
  refine seq_do hA rfl rfl rfl (d_assign rfl) fun a hA => ?_
  refine seq_end ?_
  refine hK5 _ _ ?_
  refine wp_cond_true (hA.ev rfl) ?_
  refine wp_skip ?_
  refine hK4 _ _ ?_
  refine wp_cond_true (hA.ev rfl) ?_
  refine wp_seq_k (fun K7 hK7 => ?_)
  refine wp_region_lit ?_
  refine seq_do hA rfl rfl rfl (d_assign rfl) fun a hA => ?_
  refine seq_end ?_
  refine hK7 _ _ ?_
  refine wp_ret ?_
  refine hret _ _ ?_
  refine ends (v := .int .i64 2) hA rfl (.cons (res_tmp rfl) .nil) rfl ?_
  subst hk
  exact ⟨by rw [show radOf b = 2 from by unfold radOf; repeat (first | rfl | rw [if_pos (by omega)] | rw [if_neg (by omega)])]; rfl, hS.bel⟩
 ·
  have hb6' := ne_of_beq_false hb6
  refine seq_do (v := .bool false) hA rfl rfl rfl (d_bin rfl rfl (fun w => (bin_eql w).trans (by rw [hb6]))) fun a hA => ?_
  refine seq_do hA rfl rfl rfl (d_assign rfl) fun a hA => ?_
  refine seq_end ?_
  refine hK5 _ _ ?_
  refine wp_cond_false (hA.ev rfl) ?_
  refine wp_region_lit ?_
  rcases Bool.eq_false_or_eq_true ((((b : Nat) : Int) == 66)) with hb8 | hb8
  ·
   have hb8' := eq_of_beq hb8
   refine seq_do (v := .bool true) hA rfl rfl rfl (d_bin rfl rfl (fun w => (bin_eql w).trans (by rw [hb8]))) fun a hA => ?_
   refine seq_do hA rfl rfl rfl (d_assign rfl) fun a hA => ?_
   refine seq_end ?_
   refine hK4 _ _ ?_
   refine wp_cond_true (hA.ev rfl) ?_
   refine wp_seq_k (fun K9 hK9 => ?_)
   refine wp_region_lit ?_
   refine seq_do hA rfl rfl rfl (d_assign rfl) fun a hA => ?_
   refine seq_end ?_
   refine hK9 _ _ ?_
   refine wp_ret ?_
   refine hret _ _ ?_
   refine ends (v := .int .i64 2) hA rfl (.cons (res_tmp rfl) .nil) rfl ?_
   subst hk
   exact ⟨by rw [show radOf b = 2 from by unfold radOf; repeat (first | rfl | rw [if_pos (by omega)] | rw [if_neg (by omega)])]; rfl, hS.bel⟩
  ·
   have hb8' := ne_of_beq_false hb8
   refine seq_do (v := .bool false) hA rfl rfl rfl (d_bin rfl rfl (fun w => (bin_eql w).trans (by rw [hb8]))) fun a hA => ?_
   refine seq_do hA rfl rfl rfl (d_assign rfl) fun a hA => ?_
   refine seq_end ?_
   refine hK4 _ _ ?_
   refine wp_cond_false (hA.ev rfl) ?_
   refine wp_seq_k (fun K10 hK10 => ?_)
   refine wp_seq_k (fun K11 hK11 => ?_)
   refine wp_region_lit ?_
   rcases Bool.eq_false_or_eq_true ((((b : Nat) : Int) == 111)) with hb12 | hb12
   ·
    have hb12' := eq_of_beq hb12
    refine seq_do (v := .bool true) hA rfl rfl rfl (d_bin rfl rfl (fun w => (bin_eql w).trans (by rw [hb12]))) fun a hA => ?_
    refine seq_do hA rfl rfl rfl (d_assign rfl) fun a hA => ?_
    refine seq_end ?_
    refine hK11 _ _ ?_
    refine wp_cond_true (hA.ev rfl) ?_
    refine wp_skip ?_
    refine hK10 _ _ ?_
    refine wp_cond_true (hA.ev rfl) ?_
    refine wp_seq_k (fun K13 hK13 => ?_)
    refine wp_region_lit ?_
    refine seq_do hA rfl rfl rfl (d_assign rfl) fun a hA => ?_
    refine seq_end ?_
    refine hK13 _ _ ?_
    refine wp_ret ?_
    refine hret _ _ ?_
    refine ends (v := .int .i64 8) hA rfl (.cons (res_tmp rfl) .nil) rfl ?_
    subst hk
    exact ⟨by rw [show radOf b = 8 from by unfold radOf; repeat (first | rfl | rw [if_pos (by omega)] | rw [if_neg (by omega)])]; rfl, hS.bel⟩
   ·
    have hb12' := ne_of_beq_false hb12
    refine seq_do (v := .bool false) hA rfl rfl rfl (d_bin rfl rfl (fun w => (bin_eql w).trans (by rw [hb12]))) fun a hA => ?_
    refine seq_do hA rfl rfl rfl (d_assign rfl) fun a hA => ?_
    refine seq_end ?_
    refine hK11 _ _ ?_
    refine wp_cond_false (hA.ev rfl) ?_
    refine wp_region_lit ?_
    rcases Bool.eq_false_or_eq_true ((((b : Nat) : Int) == 79)) with hb14 | hb14
    ·
     have hb14' := eq_of_beq hb14
     refine seq_do (v := .bool true) hA rfl rfl rfl (d_bin rfl rfl (fun w => (bin_eql w).trans (by rw [hb14]))) fun a hA => ?_
     refine seq_do hA rfl rfl rfl (d_assign rfl) fun a hA => ?_
     refine seq_end ?_
     refine hK10 _ _ ?_
     refine wp_cond_true (hA.ev rfl) ?_
     refine wp_seq_k (fun K15 hK15 => ?_)
     refine wp_region_lit ?_
     refine seq_do hA rfl rfl rfl (d_assign rfl) fun a hA => ?_
     refine seq_end ?_
     refine hK15 _ _ ?_
     refine wp_ret ?_
     refine hret _ _ ?_
     refine ends (v := .int .i64 8) hA rfl (.cons (res_tmp rfl) .nil) rfl ?_
     subst hk
     exact ⟨by rw [show radOf b = 8 from by unfold radOf; repeat (first | rfl | rw [if_pos (by omega)] | rw [if_neg (by omega)])]; rfl, hS.bel⟩
    ·
     have hb14' := ne_of_beq_false hb14
     refine seq_do (v := .bool false) hA rfl rfl rfl (d_bin rfl rfl (fun w => (bin_eql w).trans (by rw [hb14]))) fun a hA => ?_
     refine seq_do hA rfl rfl rfl (d_assign rfl) fun a hA => ?_
     refine seq_end ?_
     refine hK10 _ _ ?_
     refine wp_cond_false (hA.ev rfl) ?_
     refine wp_seq_k (fun K16 hK16 => ?_)
     refine wp_seq_k (fun K17 hK17 => ?_)
     refine wp_region_lit ?_
     rcases Bool.eq_false_or_eq_true ((((b : Nat) : Int) == 100)) with hb18 | hb18
     ·
      have hb18' := eq_of_beq hb18
      refine seq_do (v := .bool true) hA rfl rfl rfl (d_bin rfl rfl (fun w => (bin_eql w).trans (by rw [hb18]))) fun a hA => ?_
      refine seq_do hA rfl rfl rfl (d_assign rfl) fun a hA => ?_
      refine seq_end ?_
      refine hK17 _ _ ?_
      refine wp_cond_true (hA.ev rfl) ?_
      refine wp_skip ?_
      refine hK16 _ _ ?_
      refine wp_cond_true (hA.ev rfl) ?_
      refine wp_seq_k (fun K19 hK19 => ?_)
      refine wp_region_lit ?_
      refine seq_do hA rfl rfl rfl (d_assign rfl) fun a hA => ?_
      refine seq_end ?_
      refine hK19 _ _ ?_
      refine wp_ret ?_
      refine hret _ _ ?_
      refine ends (v := .int .i64 10) hA rfl (.cons (res_tmp rfl) .nil) rfl ?_
      subst hk
      exact ⟨by rw [show radOf b = 10 from by unfold radOf; repeat (first | rfl | rw [if_pos (by omega)] | rw [if_neg (by omega)])]; rfl, hS.bel⟩
     ·
      have hb18' := ne_of_beq_false hb18
      refine seq_do (v := .bool false) hA rfl rfl rfl (d_bin rfl rfl (fun w => (bin_eql w).trans (by rw [hb18]))) fun a hA => ?_
      refine seq_do hA rfl rfl rfl (d_assign rfl) fun a hA => ?_
      refine seq_end ?_
      refine hK17 _ _ ?_
      refine wp_cond_false (hA.ev rfl) ?_
      refine wp_region_lit ?_
      rcases Bool.eq_false_or_eq_true ((((b : Nat) : Int) == 68)) with hb20 | hb20
      ·
       have hb20' := eq_of_beq hb20
       refine seq_do (v := .bool true) hA rfl rfl rfl (d_bin rfl rfl (fun w => (bin_eql w).trans (by rw [hb20]))) fun a hA => ?_
       refine seq_do hA rfl rfl rfl (d_assign rfl) fun a hA => ?_
       refine seq_end ?_
       refine hK16 _ _ ?_
       refine wp_cond_true (hA.ev rfl) ?_
       refine wp_seq_k (fun K21 hK21 => ?_)
       refine wp_region_lit ?_
       refine seq_do hA rfl rfl rfl (d_assign rfl) fun a hA => ?_
       refine seq_end ?_
       refine hK21 _ _ ?_
       refine wp_ret ?_
       refine hret _ _ ?_
       refine ends (v := .int .i64 10) hA rfl (.cons (res_tmp rfl) .nil) rfl ?_
       subst hk
       exact ⟨by rw [show radOf b = 10 from by unfold radOf; repeat (first | rfl | rw [if_pos (by omega)] | rw [if_neg (by omega)])]; rfl, hS.bel⟩
      ·
       have hb20' := ne_of_beq_false hb20
       refine seq_do (v := .bool false) hA rfl rfl rfl (d_bin rfl rfl (fun w => (bin_eql w).trans (by rw [hb20]))) fun a hA => ?_
       refine seq_do hA rfl rfl rfl (d_assign rfl) fun a hA => ?_
       refine seq_end ?_
       refine hK16 _ _ ?_
       refine wp_cond_false (hA.ev rfl) ?_
       refine wp_seq_k (fun K22 hK22 => ?_)
       refine wp_seq_k (fun K23 hK23 => ?_)
       refine wp_region_lit ?_
       rcases Bool.eq_false_or_eq_true ((((b : Nat) : Int) == 120)) with hb24 | hb24
       ·
        have hb24' := eq_of_beq hb24
        refine seq_do (v := .bool true) hA rfl rfl rfl (d_bin rfl rfl (fun w => (bin_eql w).trans (by rw [hb24]))) fun a hA => ?_
        refine seq_do hA rfl rfl rfl (d_assign rfl) fun a hA => ?_
        refine seq_end ?_
        refine hK23 _ _ ?_
        refine wp_cond_true (hA.ev rfl) ?_
        refine wp_skip ?_
        refine hK22 _ _ ?_
        refine wp_cond_true (hA.ev rfl) ?_
        refine wp_seq_k (fun K25 hK25 => ?_)
        refine wp_region_lit ?_
        refine seq_do hA rfl rfl rfl (d_assign rfl) fun a hA => ?_
        refine seq_end ?_
        refine hK25 _ _ ?_
        refine wp_ret ?_
        refine hret _ _ ?_
        refine ends (v := .int .i64 16) hA rfl (.cons (res_tmp rfl) .nil) rfl ?_
        subst hk
        exact ⟨by rw [show radOf b = 16 from by unfold radOf; repeat (first | rfl | rw [if_pos (by omega)] | rw [if_neg (by omega)])]; rfl, hS.bel⟩
       ·
        have hb24' := ne_of_beq_false hb24
        refine seq_do (v := .bool false) hA rfl rfl rfl (d_bin rfl rfl (fun w => (bin_eql w).trans (by rw [hb24]))) fun a hA => ?_
        refine seq_do hA rfl rfl rfl (d_assign rfl) fun a hA => ?_
        refine seq_end ?_
        refine hK23 _ _ ?_
        refine wp_cond_false (hA.ev rfl) ?_
        refine wp_region_lit ?_
        rcases Bool.eq_false_or_eq_true ((((b : Nat) : Int) == 88)) with hb26 | hb26
        ·
         have hb26' := eq_of_beq hb26
         refine seq_do (v := .bool true) hA rfl rfl rfl (d_bin rfl rfl (fun w => (bin_eql w).trans (by rw [hb26]))) fun a hA => ?_
         refine seq_do hA rfl rfl rfl (d_assign rfl) fun a hA => ?_
         refine seq_end ?_
         refine hK22 _ _ ?_
         refine wp_cond_true (hA.ev rfl) ?_
         refine wp_seq_k (fun K27 hK27 => ?_)
         refine wp_region_lit ?_
         refine seq_do hA rfl rfl rfl (d_assign rfl) fun a hA => ?_
         refine seq_end ?_
         refine hK27 _ _ ?_
         refine wp_ret ?_
         refine hret _ _ ?_
         refine ends (v := .int .i64 16) hA rfl (.cons (res_tmp rfl) .nil) rfl ?_
         subst hk
         exact ⟨by rw [show radOf b = 16 from by unfold radOf; repeat (first | rfl | rw [if_pos (by omega)] | rw [if_neg (by omega)])]; rfl, hS.bel⟩
        ·
         have hb26' := ne_of_beq_false hb26
         refine seq_do (v := .bool false) hA rfl rfl rfl (d_bin rfl rfl (fun w => (bin_eql w).trans (by rw [hb26]))) fun a hA => ?_
         refine seq_do hA rfl rfl rfl (d_assign rfl) fun a hA => ?_
         refine seq_end ?_
         refine hK22 _ _ ?_
         refine wp_cond_false (hA.ev rfl) ?_
         refine wp_skip ?_
         refine hK2 _ _ ?_
         refine wp_seq_k (fun K28 hK28 => ?_)
         refine wp_region_lit ?_
         refine seq_do hA rfl rfl rfl (d_assign rfl) fun a hA => ?_
         refine seq_end ?_
         refine hK28 _ _ ?_
         refine wp_ret ?_
         refine hret _ _ ?_
         refine ends (v := .int .i64 0) hA rfl (.cons (res_tmp rfl) .nil) rfl ?_
         subst hk
         exact ⟨by rw [show radOf b = 0 from by unfold radOf; repeat (first | rfl | rw [if_pos (by omega)] | rw [if_neg (by omega)])]; rfl, hS.bel⟩
theorem isUnit_any {w : World} {l : List UInt8} {c : Bool} (hc : unitB l = c) : Calls Tryz.prog 45 #[.string (bsL l)] w fun e w' => e = .returned (.bool c) ∧ Below w.heap.size w w' := by
 have hS : St w w [] [] [] := St.start w
 refine walk_of (l := [(0, .string (bsL l))]) Tryz.func45 rfl Tryz.ntmps45 rfl rfl ?_
 intro Q hret hnorm hP a hA
 refine wp_seq_k (fun K1 hK1 => ?_)
 refine wp_region_lit ?_
 refine seq_do hA rfl rfl rfl (d_assign rfl) fun a hA => ?_
 refine seq_end ?_
 refine hK1 _ _ ?_
 refine wp_seq_k (fun K2 hK2 => ?_)
 refine wp_region_lit ?_
 refine mv hA rfl rfl rfl fun a hA => ?_
 rcases Bool.eq_false_or_eq_true (decide (l = ([105] : List UInt8))) with hb3 | hb3
 ·
  have hb3' := of_decide_eq_true hb3
  refine seq_do (v := .bool true) hA rfl rfl rfl (d_bin rfl rfl (fun w => (bin_eqlT (a := l) (b := [105]) Tryz.underlying9 w).trans (by rw [hb3]; try rfl))) fun a hA => ?_
  refine mv hA rfl rfl rfl fun a hA => ?_
  refine seq_skip hA rfl rfl rfl fun a hA => ?_
  refine seq_skip hA rfl rfl rfl fun a hA => ?_
  refine seq_do (v := .bool true) hA rfl rfl rfl (d_pick rfl rfl rfl rfl) fun a hA => ?_
  refine seq_do hA rfl rfl rfl (d_assign rfl) fun a hA => ?_
  refine seq_end ?_
  refine hK2 _ _ ?_
  refine wp_ret ?_
  refine hret _ _ ?_
  refine ends (v := .bool true) hA rfl (.cons (res_tmp rfl) .nil) rfl ?_
  subst hc
  exact ⟨by unfold unitB; rw [hb3]; rfl, hS.bel⟩
 ·
  have hb3' := of_decide_eq_false hb3
  refine seq_do (v := .bool false) hA rfl rfl rfl (d_bin rfl rfl (fun w => (bin_eqlT (a := l) (b := [105]) Tryz.underlying9 w).trans (by rw [hb3]; try rfl))) fun a hA => ?_
  refine mv hA rfl rfl rfl fun a hA => ?_
  refine mv hA rfl rfl rfl fun a hA => ?_
  rcases Bool.eq_false_or_eq_true (decide (l = ([73] : List UInt8))) with hb4 | hb4
  ·
   have hb4' := of_decide_eq_true hb4
   refine seq_do (v := .bool true) hA rfl rfl rfl (d_bin rfl rfl (fun w => (bin_eqlT (a := l) (b := [73]) Tryz.underlying9 w).trans (by rw [hb4]; try rfl))) fun a hA => ?_
   refine seq_do (v := .bool true) hA rfl rfl rfl (d_pick rfl rfl rfl rfl) fun a hA => ?_
   refine seq_do hA rfl rfl rfl (d_assign rfl) fun a hA => ?_
   refine seq_end ?_
   refine hK2 _ _ ?_
   refine wp_ret ?_
   refine hret _ _ ?_
   refine ends (v := .bool true) hA rfl (.cons (res_tmp rfl) .nil) rfl ?_
   subst hc
   exact ⟨by unfold unitB; rw [hb3, hb4]; rfl, hS.bel⟩
  ·
   have hb4' := of_decide_eq_false hb4
   refine seq_do (v := .bool false) hA rfl rfl rfl (d_bin rfl rfl (fun w => (bin_eqlT (a := l) (b := [73]) Tryz.underlying9 w).trans (by rw [hb4]; try rfl))) fun a hA => ?_
   refine seq_do (v := .bool false) hA rfl rfl rfl (d_pick rfl rfl rfl rfl) fun a hA => ?_
   refine seq_do hA rfl rfl rfl (d_assign rfl) fun a hA => ?_
   refine seq_end ?_
   refine hK2 _ _ ?_
   refine wp_ret ?_
   refine hret _ _ ?_
   refine ends (v := .bool false) hA rfl (.cons (res_tmp rfl) .nil) rfl ?_
   subst hc
   exact ⟨by unfold unitB; rw [hb3, hb4]; rfl, hS.bel⟩
theorem isDigit_any {w : World} {r b : Nat} (hr : RadN r) (hb : b < 256) {c : Bool} (hc : decide (dvn 36 b < r) = c) : Calls Tryz.prog 97 #[.int .u8 ((b : Nat) : Int), .int .i64 ((r : Nat) : Int)] w fun e w' => e = .returned (.bool c) ∧ Below w.heap.size w w' := by
 have hr16 : r ≤ lowD.length := by rcases hr with h | h | h | h <;> subst h <;> decide
 have hr17 : r ≤ capD.length := by rcases hr with h | h | h | h <;> subst h <;> decide
 have hS : St w w [] [] [] := St.start w
 refine walk_of (l := [(0, .int .u8 (((b : Nat) : Int))), (1, .int .i64 (((r : Nat) : Int)))]) Tryz.func97 rfl Tryz.ntmps97 rfl rfl ?_
 intro Q hret hnorm hP a hA
 refine wp_seq_k (fun K1 hK1 => ?_)
 refine wp_region_lit ?_
 refine seq_do hA rfl rfl rfl (d_assign rfl) fun a hA => ?_
 refine seq_end ?_
 refine hK1 _ _ ?_
 refine wp_seq_k (fun K2 hK2 => ?_)
 refine wp_region_lit ?_
 refine mv hA rfl rfl rfl fun a hA => ?_
 refine seq_do (v := .string (bsL (lowD.take r))) hA rfl rfl rfl (d_slTo (p := r) (s := lowD) Tryz.underlying9 rfl rfl (by first | rfl | omega) (by first | omega | (simp only [List.length_drop, List.length_take]; omega))) fun a hA => ?_
 refine mv hA rfl rfl rfl fun a hA => ?_
 refine seq_call hA rfl rfl rfl (enters_func  rfl rfl (fun w => by kernel_rfl)) (indexT_any (lowD.take r) b _) ?_
 rintro _ w4 ⟨rfl, hb3⟩
 replace hb3 := below_eq hb3
 replace hS := hS.call hb3
 refine ⟨_, rfl, ?_⟩
 intro a hA
 rcases Bool.eq_false_or_eq_true (decide (0 ≤ Lib.indexByte (lowD.take r) b.toUInt8)) with hb5 | hb5
 ·
  have hb5' := of_decide_eq_true hb5
  refine seq_do (v := .bool true) hA rfl rfl rfl (d_bin rfl rfl (fun w => (bin_geq w).trans (by rw [hb5]))) fun a hA => ?_
  refine mv hA rfl rfl rfl fun a hA => ?_
  refine seq_skip hA rfl rfl rfl fun a hA => ?_
  refine seq_skip hA rfl rfl rfl fun a hA => ?_
  refine seq_skip hA rfl rfl rfl fun a hA => ?_
  refine seq_skip hA rfl rfl rfl fun a hA => ?_
  refine seq_skip hA rfl rfl rfl fun a hA => ?_
  refine seq_do (v := .bool true) hA rfl rfl rfl (d_pick rfl rfl rfl rfl) fun a hA => ?_
  refine seq_do hA rfl rfl rfl (d_assign rfl) fun a hA => ?_
  refine seq_end ?_
  refine hK2 _ _ ?_
  refine wp_ret ?_
  refine hret _ _ ?_
  refine ends (v := .bool true) hA rfl (.cons (res_tmp rfl) .nil) rfl ?_
  subst hc
  exact ⟨by rw [← dig_rad hr hb, hb5]; rfl, hS.bel⟩
 ·
  have hb5' := of_decide_eq_false hb5
  refine seq_do (v := .bool false) hA rfl rfl rfl (d_bin rfl rfl (fun w => (bin_geq w).trans (by rw [hb5]))) fun a hA => ?_
  refine mv hA rfl rfl rfl fun a hA => ?_
  refine mv hA rfl rfl rfl fun a hA => ?_
  refine seq_do (v := .string (bsL (capD.take r))) hA rfl rfl rfl (d_slTo (p := r) (s := capD) Tryz.underlying9 rfl rfl (by first | rfl | omega) (by first | omega | (simp only [List.length_drop, List.length_take]; omega))) fun a hA => ?_
  refine mv hA rfl rfl rfl fun a hA => ?_
  refine seq_call hA rfl rfl rfl (enters_func  rfl rfl (fun w => by kernel_rfl)) (indexT_any (capD.take r) b _) ?_
  rintro _ w7 ⟨rfl, hb6⟩
  replace hb6 := below_eq hb6
  replace hS := hS.call hb6
  refine ⟨_, rfl, ?_⟩
  intro a hA
  rcases Bool.eq_false_or_eq_true (decide (0 ≤ Lib.indexByte (capD.take r) b.toUInt8)) with hb8 | hb8
  ·
   have hb8' := of_decide_eq_true hb8
   refine seq_do (v := .bool true) hA rfl rfl rfl (d_bin rfl rfl (fun w => (bin_geq w).trans (by rw [hb8]))) fun a hA => ?_
   refine seq_do (v := .bool true) hA rfl rfl rfl (d_pick rfl rfl rfl rfl) fun a hA => ?_
   refine seq_do hA rfl rfl rfl (d_assign rfl) fun a hA => ?_
   refine seq_end ?_
   refine hK2 _ _ ?_
   refine wp_ret ?_
   refine hret _ _ ?_
   refine ends (v := .bool true) hA rfl (.cons (res_tmp rfl) .nil) rfl ?_
   subst hc
   exact ⟨by rw [← dig_rad hr hb, hb5, hb8]; rfl, hS.bel⟩
  ·
   have hb8' := of_decide_eq_false hb8
   refine seq_do (v := .bool false) hA rfl rfl rfl (d_bin rfl rfl (fun w => (bin_geq w).trans (by rw [hb8]))) fun a hA => ?_
   refine seq_do (v := .bool false) hA rfl rfl rfl (d_pick rfl rfl rfl rfl) fun a hA => ?_
   refine seq_do hA rfl rfl rfl (d_assign rfl) fun a hA => ?_
   refine seq_end ?_
   refine hK2 _ _ ?_
   refine wp_ret ?_
   refine hret _ _ ?_
   refine ends (v := .bool false) hA rfl (.cons (res_tmp rfl) .nil) rfl ?_
   subst hc
   exact ⟨by rw [← dig_rad hr hb, hb5, hb8]; rfl, hS.bel⟩
theorem cutDigits_any {w : World} {r : Nat} {l : List UInt8} (hr : RadN r) (hl : l.length ≤ 9223372036854775807) : Calls Tryz.prog 70 #[.string (bsL l), .int .i64 ((r : Nat) : Int)] w fun e w' => e = .returned (.tuple #[.string (bsL (l.take (nDg r l))), .string (bsL (l.drop (nDg r l)))]) ∧ Below w.heap.size w w' := by
 have hS : St w w [] [] [] := St.start w
 refine walk_of (l := [(0, .string (bsL l)), (1, .int .i64 (((r : Nat) : Int)))]) Tryz.func70 rfl Tryz.ntmps70 rfl rfl ?_
 intro Q hret hnorm hP a hA
 refine wp_seq_k (fun K1 hK1 => ?_)
 refine wp_region_lit ?_
 refine seq_do hA rfl rfl rfl (d_assign rfl) fun a hA => ?_
 refine seq_do hA rfl rfl rfl (d_assign rfl) fun a hA => ?_
 refine seq_end ?_
 refine hK1 _ _ ?_
 refine wp_seq_k (fun K2 hK2 => ?_)
 refine wp_region_lit ?_
 refine seq_do hA rfl rfl rfl (d_assign rfl) fun a hA => ?_
 refine seq_end ?_
 refine hK2 _ _ ?_
 refine wp_seq_k (fun K3 hK3 => ?_)
 refine wp_block ?_
 refine wp_loop_n (fun m a w1 => ∃ (n : Nat), m = l.length - n ∧ (n ≤ nDg r l) ∧ Sl a 26 [(0, .string (bsL l)), (1, .int .i64 (((r : Nat) : Int))), (4, .string (bsL [])), (5, .string (bsL [])), (6, .int .i64 (((n : Nat) : Int)))] ∧ St w w1 [] [] []) _ ⟨0, rfl, Nat.zero_le _, hA.keep _ ⟨rfl, rfl, rfl, rfl, rfl, trivial⟩, hS⟩ ?_
 clear hS hA
 rintro m a w4 ⟨n, rfl, hinv6, hA, hS⟩ K5 hK5
 have hq := nDg_le r l
 refine wp_seq_k (fun K7 hK7 => ?_)
 refine wp_seq_k (fun K8 hK8 => ?_)
 refine wp_region_lit ?_
 refine mv hA rfl rfl rfl fun a hA => ?_
 refine mv hA rfl rfl rfl fun a hA => ?_
 refine seq_do (v := .int .i64 (((l.length : Nat) : Int))) hA rfl rfl rfl (d_lenT Tryz.underlying9 rfl) fun a hA => ?_
 rcases Bool.eq_false_or_eq_true (decide (((n : Nat) : Int) < ((l.length : Nat) : Int))) with hb9 | hb9
 ·
  have hb9' := of_decide_eq_true hb9
  refine seq_do (v := .bool true) hA rfl rfl rfl (d_bin rfl rfl (fun w => (bin_lss w).trans (by rw [hb9]))) fun a hA => ?_
  refine mv hA rfl rfl rfl fun a hA => ?_
  refine mv hA rfl rfl rfl fun a hA => ?_
  refine mv hA rfl rfl rfl fun a hA => ?_
  refine seq_do (v := .int .u8 (((btL l n : Nat) : Int))) hA rfl rfl rfl (d_ixT (s := l) (i := n) Tryz.underlying9 rfl rfl (by first | rfl | omega) (by first | omega | (simp only [List.length_drop, List.length_take]; omega))) fun a hA => ?_
  refine mv hA rfl rfl rfl fun a hA => ?_
  rcases Bool.eq_false_or_eq_true (decide (dvn 36 (btL l n) < r)) with hb10 | hb10
  ·
   have hb10' := of_decide_eq_true hb10
   refine seq_call hA rfl rfl rfl (enters_func  rfl rfl (fun w => by kernel_rfl)) (isDigit_any hr (btL_lt _ _) hb10) ?_
   rintro _ w12 ⟨rfl, hb11⟩
   replace hS := hS.call hb11
   refine ⟨_, rfl, ?_⟩
   intro a hA
   refine seq_do (v := .bool true) hA rfl rfl rfl (d_pick rfl rfl rfl rfl) fun a hA => ?_
   refine seq_end ?_
   refine hK8 _ _ ?_
   refine wp_cond_true (hA.ev rfl) ?_
   refine wp_skip ?_
   refine hK7 _ _ ?_
   refine wp_block ?_
   refine wp_region_lit ?_
   refine mv hA rfl rfl rfl fun a hA => ?_
   refine seq_do (v := .int .i64 (((n + 1 : Nat) : Int))) hA rfl rfl rfl (d_bin rfl rfl (fun w => (bin_add (i64In (by omega) (by omega)) w).trans (by rw [show (((n : Nat) : Int) + 1 : Int) = ((n + 1 : Nat) : Int) from by omega]))) fun a hA => ?_
   refine seq_do hA rfl rfl rfl (d_assign rfl) fun a hA => ?_
   refine seq_end ?_
   refine hK5 _ _ _ (by omega) ⟨n + 1, rfl, nDg_more hinv6 (by omega) (by assumption), hA.keep _ ⟨rfl, rfl, rfl, rfl, rfl, trivial⟩, hS⟩
  ·
   have hb10' := of_decide_eq_false hb10
   refine seq_call hA rfl rfl rfl (enters_func  rfl rfl (fun w => by kernel_rfl)) (isDigit_any hr (btL_lt _ _) hb10) ?_
   rintro _ w14 ⟨rfl, hb13⟩
   replace hS := hS.call hb13
   refine ⟨_, rfl, ?_⟩
   intro a hA
   refine seq_do (v := .bool false) hA rfl rfl rfl (d_pick rfl rfl rfl rfl) fun a hA => ?_
   refine seq_end ?_
   refine hK8 _ _ ?_
   refine wp_cond_false (hA.ev rfl) ?_
   refine wp_exit ?_
   refine hK3 _ _ ?_
   refine wp_seq_k (fun K15 hK15 => ?_)
   refine wp_draw (S := fun w1 => St w w1 [] [] []) (by kernel_rfl) ?_
   replace hS := hS.drew
   refine any_tk hA 0 rfl rfl rfl rfl hP hS (fun w1 hS => d_move rfl) fun a hA => ?_
   refine any_tk hA 1 rfl rfl rfl rfl hP hS (fun w1 hS => d_move rfl) fun a hA => ?_
   refine any_tk (v := .string (bsL (l.take n))) hA 2 rfl rfl rfl rfl hP hS (fun w1 hS => d_slTo (p := n) (s := l) Tryz.underlying9 rfl rfl (by first | rfl | omega) (by first | omega | (simp only [List.length_drop, List.length_take]; omega))) fun a hA => ?_
   refine any_tk hA 3 rfl rfl rfl rfl hP hS (fun w1 hS => d_move rfl) fun a hA => ?_
   refine any_tk hA 4 rfl rfl rfl rfl hP hS (fun w1 hS => d_move rfl) fun a hA => ?_
   refine any_tk (v := .string (bsL (l.drop n))) hA 5 rfl rfl rfl rfl hP hS (fun w1 hS => d_slFrom (p := n) (s := l) Tryz.underlying9 rfl rfl (by first | rfl | omega) (by first | omega | (simp only [List.length_drop, List.length_take]; omega))) fun a hA => ?_
   refine any_tk hA 6 rfl rfl rfl rfl hP hS (fun w1 hS => d_assign rfl) fun a hA => ?_
   refine any_tk hA 7 rfl rfl rfl rfl hP hS (fun w1 hS => d_assign rfl) fun a hA => ?_
   refine any_end (by kernel_rfl) ?_
   refine hK15 _ _ ?_
   refine wp_ret ?_
   refine hret _ _ ?_
   refine ends (v := .tuple #[.string (bsL (l.take n)), .string (bsL (l.drop n))]) hA rfl (.cons (res_tmp rfl) (.cons (res_tmp rfl) .nil)) rfl ?_
   have e9 := nDg_stop hinv6 (by first | (left; omega) | (right; assumption))
   exact ⟨by rw [e9], hS.bel⟩
 ·
  have hb9' := of_decide_eq_false hb9
  refine seq_do (v := .bool false) hA rfl rfl rfl (d_bin rfl rfl (fun w => (bin_lss w).trans (by rw [hb9]))) fun a hA => ?_
  refine mv hA rfl rfl rfl fun a hA => ?_
  refine seq_skip hA rfl rfl rfl fun a hA => ?_
  refine seq_skip hA rfl rfl rfl fun a hA => ?_
  refine seq_skip hA rfl rfl rfl fun a hA => ?_
  refine seq_skip hA rfl rfl rfl fun a hA => ?_
  refine seq_skip hA rfl rfl rfl fun a hA => ?_
  refine seq_do (v := .bool false) hA rfl rfl rfl (d_pick rfl rfl rfl rfl) fun a hA => ?_
  refine seq_end ?_
  refine hK8 _ _ ?_
  refine wp_cond_false (hA.ev rfl) ?_
  refine wp_exit ?_
  refine hK3 _ _ ?_
  refine wp_seq_k (fun K16 hK16 => ?_)
  refine wp_draw (S := fun w1 => St w w1 [] [] []) (by kernel_rfl) ?_
  replace hS := hS.drew
  refine any_tk hA 0 rfl rfl rfl rfl hP hS (fun w1 hS => d_move rfl) fun a hA => ?_
  refine any_tk hA 1 rfl rfl rfl rfl hP hS (fun w1 hS => d_move rfl) fun a hA => ?_
  refine any_tk (v := .string (bsL (l.take n))) hA 2 rfl rfl rfl rfl hP hS (fun w1 hS => d_slTo (p := n) (s := l) Tryz.underlying9 rfl rfl (by first | rfl | omega) (by first | omega | (simp only [List.length_drop, List.length_take]; omega))) fun a hA => ?_
  refine any_tk hA 3 rfl rfl rfl rfl hP hS (fun w1 hS => d_move rfl) fun a hA => ?_
  refine any_tk hA 4 rfl rfl rfl rfl hP hS (fun w1 hS => d_move rfl) fun a hA => ?_
  refine any_tk (v := .string (bsL (l.drop n))) hA 5 rfl rfl rfl rfl hP hS (fun w1 hS => d_slFrom (p := n) (s := l) Tryz.underlying9 rfl rfl (by first | rfl | omega) (by first | omega | (simp only [List.length_drop, List.length_take]; omega))) fun a hA => ?_
  refine any_tk hA 6 rfl rfl rfl rfl hP hS (fun w1 hS => d_assign rfl) fun a hA => ?_
  refine any_tk hA 7 rfl rfl rfl rfl hP hS (fun w1 hS => d_assign rfl) fun a hA => ?_
  refine any_end (by kernel_rfl) ?_
  refine hK16 _ _ ?_
  refine wp_ret ?_
  refine hret _ _ ?_
  refine ends (v := .tuple #[.string (bsL (l.take n)), .string (bsL (l.drop n))]) hA rfl (.cons (res_tmp rfl) (.cons (res_tmp rfl) .nil)) rfl ?_
  have e9 := nDg_stop hinv6 (by first | (left; omega) | (right; assumption))
  exact ⟨by rw [e9], hS.bel⟩
theorem tk_nil {r : Nat} {m : List UInt8} (h : m.take (nDg r m) = []) : nDg r m = 0 := by
 have h1 := nDg_le r m
 have h2 : (m.take (nDg r m)).length = 0 := by rw [h]; rfl
 rw [List.length_take] at h2
 omega
theorem sl_no1 {r : Nat} {m : List UInt8} {b : Bool} (h : m.take (nDg r m) = []) : (decide (nDg r m ≠ 0) && b) = false := by rw [decide_eq_false (fun k => k (tk_nil h))]; rfl
theorem sl_no2 {b c : Bool} {m : List UInt8} (h : m = []) : (b && (decide (btL m 0 = 47) && c)) = false := by rw [h, show decide (btL ([] : List UInt8) 0 = 47) = false from rfl]; cases b <;> rfl
theorem sl_no3 {b c : Bool} {n : Nat} (h : n ≠ 47) : (b && (decide (n = 47) && c)) = false := by rw [decide_eq_false h]; cases b <;> rfl
theorem sl_no4 {r : Nat} {b c : Bool} {m : List UInt8} (h : m.take (nDg r m) = []) : (b && (c && decide (nDg r m ≠ 0))) = false := by rw [decide_eq_false (fun k => k (tk_nil h))]; cases b <;> cases c <;> rfl
theorem sl_yes {r n : Nat} {m k : List UInt8} (h1 : ¬ m.take (nDg r m) = []) (h2 : n = 47) (h3 : ¬ k.take (nDg r k) = []) : (decide (nDg r m ≠ 0) && (decide (n = 47) && decide (nDg r k ≠ 0))) = true := by
 rw [decide_eq_true h2, decide_eq_true (show nDg r m ≠ 0 from fun e => h1 (by rw [e]; rfl)), decide_eq_true (show nDg r k ≠ 0 from fun e => h3 (by rw [e]; rfl))]; rfl
theorem cutNumeral_any {w : World} {r : Nat} {l : List UInt8} (hr : RadN r) (hl : l.length ≤ 9223372036854775807) : Calls Tryz.prog 44 #[.string (bsL l), .int .i64 ((r : Nat) : Int)] w fun e w' => e = .returned (.tuple #[.agg #[.int .u8 ((sgB l : Nat) : Int), .string (bsL (tpD r l)), .string (bsL (boD r l))], .string (bsL (reD r l))]) ∧ Below w.heap.size w w' := by
 have hS : St w w [] [] [] := St.start w
 refine walk_of (l := [(0, .string (bsL l)), (1, .int .i64 (((r : Nat) : Int)))]) Tryz.func44 rfl Tryz.ntmps44 rfl rfl ?_
 intro Q hret hnorm hP a hA
 refine wp_seq_k (fun K1 hK1 => ?_)
 refine wp_region_lit ?_
 refine seq_new (vs := [.int .u8 0, .string (bsL []), .string (bsL [])]) (t := 48) hA hS rfl rfl rfl (fun g => .pointer (some ⟨g, 0, none⟩)) (d_alloc (z := .agg #[.int .u8 0, .string (bsL []), .string (bsL [])]) (by kernel_rfl) rfl) rfl ?_
 intro g2 w3 hS a hA
 refine seq_do hA rfl rfl rfl (d_assign rfl) fun a hA => ?_
 refine seq_end ?_
 refine hK1 _ _ ?_
 refine wp_seq_k (fun K4 hK4 => ?_)
 refine wp_seq_k (fun K5 hK5 => ?_)
 refine wp_region_lit ?_
 refine mv hA rfl rfl rfl fun a hA => ?_
 rcases Bool.eq_false_or_eq_true (decide (l = ([] : List UInt8))) with hb6 | hb6
 ·
  have hb6' := of_decide_eq_true hb6
  have hb6n : (l).length = 0 := by rw [hb6']; rfl
  refine seq_do (v := .bool false) hA rfl rfl rfl (d_bin rfl rfl (fun w => (bin_neqT (a := l) (b := []) Tryz.underlying9 w).trans (by rw [hb6]; try rfl))) fun a hA => ?_
  refine mv hA rfl rfl rfl fun a hA => ?_
  refine seq_skip hA rfl rfl rfl fun a hA => ?_
  refine seq_skip hA rfl rfl rfl fun a hA => ?_
  refine seq_skip hA rfl rfl rfl fun a hA => ?_
  refine seq_skip hA rfl rfl rfl fun a hA => ?_
  refine seq_skipU hA rfl rfl rfl fun a hA => ?_
  refine seq_skipU hA rfl rfl rfl fun a hA => ?_
  refine seq_skipU hA rfl rfl rfl fun a hA => ?_
  refine seq_skip hA rfl rfl rfl fun a hA => ?_
  refine seq_do (v := .bool false) hA rfl rfl rfl (d_pick rfl rfl rfl rfl) fun a hA => ?_
  refine seq_end ?_
  refine hK5 _ _ ?_
  refine wp_cond_false (hA.ev rfl) ?_
  refine wp_skip ?_
  refine hK4 _ _ ?_
  refine wp_seq_k (fun K7 hK7 => ?_)
  refine wp_region_lit ?_
  refine mv hA rfl rfl rfl fun a hA => ?_
  refine mv hA rfl rfl rfl fun a hA => ?_
  refine seq_call hA rfl rfl rfl (enters_func  rfl rfl (fun w => by kernel_rfl)) (cutDigits_any (l := l) hr (by first | omega | (simp only [List.length_drop, List.length_take]; omega))) ?_
  rintro _ w9 ⟨rfl, hb8⟩
  replace hS := hS.call hb8
  refine ⟨_, rfl, ?_⟩
  intro a hA
  refine mv hA rfl rfl rfl fun a hA => ?_
  refine seq_do (v := .string (bsL (l.take (nDg r l)))) hA rfl rfl rfl (d_extract (vs := [.string (bsL (l.take (nDg r l))), .string (bsL (l.drop (nDg r l)))]) rfl rfl) fun a hA => ?_
  refine seq_do (v := .string (bsL (l.drop (nDg r l)))) hA rfl rfl rfl (d_extract (vs := [.string (bsL (l.take (nDg r l))), .string (bsL (l.drop (nDg r l)))]) rfl rfl) fun a hA => ?_
  refine seq_do (v := .pointer (some ⟨g2, 1, none⟩)) hA rfl rfl rfl (d_field RxC_fld_48_1 rfl rfl) fun a hA => ?_
  refine seq_store (us := [.int .u8 0, .string (bsL (l.take (nDg r l))), .string (bsL [])]) hA hS rfl rfl (sets_store rfl rfl rfl (by kernel_rfl) hS 0 rfl rfl rfl) 0 rfl rfl rfl rfl ?_
  intro w10 hS
  refine seq_do hA rfl rfl rfl (d_assign rfl) fun a hA => ?_
  refine seq_end ?_
  refine hK7 _ _ ?_
  refine wp_seq_k (fun K11 hK11 => ?_)
  refine wp_seq_k (fun K12 hK12 => ?_)
  refine wp_region_lit ?_
  refine seq_do (v := .pointer (some ⟨g2, 1, none⟩)) hA rfl rfl rfl (d_field RxC_fld_48_1 rfl rfl) fun a hA => ?_
  refine seq_do hA rfl rfl rfl (d_load1 hS RxC_is1_9 rfl 0 rfl rfl) fun a hA => ?_
  rcases Bool.eq_false_or_eq_true (decide (l.take (nDg r l) = ([] : List UInt8))) with hb13 | hb13
  ·
   have hb13' := of_decide_eq_true hb13
   have hb13n : (l.take (nDg r l)).length = 0 := by rw [hb13']; rfl
   refine seq_do (v := .bool true) hA rfl rfl rfl (d_bin rfl rfl (fun w => (bin_eqlT (a := l.take (nDg r l)) (b := []) Tryz.underlying9 w).trans (by rw [hb13]; try rfl))) fun a hA => ?_
   refine mv hA rfl rfl rfl fun a hA => ?_
   refine seq_skip hA rfl rfl rfl fun a hA => ?_
   refine seq_skip hA rfl rfl rfl fun a hA => ?_
   refine seq_do (v := .bool true) hA rfl rfl rfl (d_pick rfl rfl rfl rfl) fun a hA => ?_
   refine mv hA rfl rfl rfl fun a hA => ?_
   refine seq_skip hA rfl rfl rfl fun a hA => ?_
   refine seq_skip hA rfl rfl rfl fun a hA => ?_
   refine seq_skip hA rfl rfl rfl fun a hA => ?_
   refine seq_do (v := .bool true) hA rfl rfl rfl (d_pick rfl rfl rfl rfl) fun a hA => ?_
   refine seq_end ?_
   refine hK12 _ _ ?_
   refine wp_cond_true (hA.ev rfl) ?_
   refine wp_seq_k (fun K14 hK14 => ?_)
   refine wp_region_lit ?_
   refine seq_do hA rfl rfl rfl (d_loadS hS RxC_isS_48 rfl 0 rfl (cs := [.int .u8 0, .string (bsL (l.take (nDg r l))), .string (bsL [])]) rfl rfl) fun a hA => ?_
   refine mv hA rfl rfl rfl fun a hA => ?_
   refine seq_store (us := [.int .u8 0, .string (bsL (l.take (nDg r l))), .string (bsL [])]) hA hS rfl rfl (sets_store rfl rfl rfl (by kernel_rfl) hS 0 rfl rfl rfl) 0 rfl rfl rfl rfl ?_
   intro w15 hS
   refine seq_do hA rfl rfl rfl (d_assign rfl) fun a hA => ?_
   refine seq_end ?_
   refine hK14 _ _ ?_
   refine wp_ret ?_
   refine hret _ _ ?_
   refine ends (v := .tuple #[.agg #[.int .u8 0, .string (bsL (l.take (nDg r l))), .string (bsL [])], .string (bsL (l.drop (nDg r l)))]) hA rfl (.cons (res_cell hS RxC_isS_48 rfl 0 rfl (cs := [.int .u8 0, .string (bsL (l.take (nDg r l))), .string (bsL [])]) rfl rfl) (.cons (res_tmp rfl) .nil)) rfl ?_
   have hs : signB l = false := by unfold signB; first | (simp; omega) | (subst_vars; decide)
   have hu : unS l = l := by unfold unS; rw [hs]; rfl
   have e1 : sgB l = 0 := by unfold sgB; rw [hs]; try rfl
   have e2 : tpD r l = l.take (nDg r l) := by unfold tpD; rw [hu]
   have eq : qD r l = (l).drop (nDg r (l)) := by unfold qD; rw [hu]
   have hsl : slD r l = false := by
    unfold slD; rw [hu, eq]; first | exact sl_no1 (by assumption) | exact sl_no2 (by assumption) | exact sl_no3 (by omega) | exact sl_no4 (by assumption)
   have e3 : boD r l = [] := by unfold boD; rw [hsl]; rfl
   have e4 : reD r l = l.drop (nDg r l) := by unfold reD; rw [hsl, eq]; rfl
   exact ⟨by rw [e1, e2, e3, e4] <;> try rfl, hS.bel⟩
  ·
   have hb13' := of_decide_eq_false hb13
   have hb13n : ¬ (l.take (nDg r l)).length = 0 := fun k => hb13' (List.length_eq_zero_iff.1 k)
   refine seq_do (v := .bool false) hA rfl rfl rfl (d_bin rfl rfl (fun w => (bin_eqlT (a := l.take (nDg r l)) (b := []) Tryz.underlying9 w).trans (by rw [hb13]; try rfl))) fun a hA => ?_
   refine mv hA rfl rfl rfl fun a hA => ?_
   refine mv hA rfl rfl rfl fun a hA => ?_
   rcases Bool.eq_false_or_eq_true (decide (l.drop (nDg r l) = ([] : List UInt8))) with hb16 | hb16
   ·
    have hb16' := of_decide_eq_true hb16
    have hb16n : (l.drop (nDg r l)).length = 0 := by rw [hb16']; rfl
    refine seq_do (v := .bool true) hA rfl rfl rfl (d_bin rfl rfl (fun w => (bin_eqlT (a := l.drop (nDg r l)) (b := []) Tryz.underlying9 w).trans (by rw [hb16]; try rfl))) fun a hA => ?_
    refine seq_do (v := .bool true) hA rfl rfl rfl (d_pick rfl rfl rfl rfl) fun a hA => ?_
    refine mv hA rfl rfl rfl fun a hA => ?_
    refine seq_skip hA rfl rfl rfl fun a hA => ?_
    refine seq_skip hA rfl rfl rfl fun a hA => ?_
    refine seq_skip hA rfl rfl rfl fun a hA => ?_
    refine seq_do (v := .bool true) hA rfl rfl rfl (d_pick rfl rfl rfl rfl) fun a hA => ?_
    refine seq_end ?_
    refine hK12 _ _ ?_
    refine wp_cond_true (hA.ev rfl) ?_
    refine wp_seq_k (fun K17 hK17 => ?_)
    refine wp_region_lit ?_
    refine seq_do hA rfl rfl rfl (d_loadS hS RxC_isS_48 rfl 0 rfl (cs := [.int .u8 0, .string (bsL (l.take (nDg r l))), .string (bsL [])]) rfl rfl) fun a hA => ?_
    refine mv hA rfl rfl rfl fun a hA => ?_
    refine seq_store (us := [.int .u8 0, .string (bsL (l.take (nDg r l))), .string (bsL [])]) hA hS rfl rfl (sets_store rfl rfl rfl (by kernel_rfl) hS 0 rfl rfl rfl) 0 rfl rfl rfl rfl ?_
    intro w18 hS
    refine seq_do hA rfl rfl rfl (d_assign rfl) fun a hA => ?_
    refine seq_end ?_
    refine hK17 _ _ ?_
    refine wp_ret ?_
    refine hret _ _ ?_
    refine ends (v := .tuple #[.agg #[.int .u8 0, .string (bsL (l.take (nDg r l))), .string (bsL [])], .string (bsL (l.drop (nDg r l)))]) hA rfl (.cons (res_cell hS RxC_isS_48 rfl 0 rfl (cs := [.int .u8 0, .string (bsL (l.take (nDg r l))), .string (bsL [])]) rfl rfl) (.cons (res_tmp rfl) .nil)) rfl ?_
    have hs : signB l = false := by unfold signB; first | (simp; omega) | (subst_vars; decide)
    have hu : unS l = l := by unfold unS; rw [hs]; rfl
    have e1 : sgB l = 0 := by unfold sgB; rw [hs]; try rfl
    have e2 : tpD r l = l.take (nDg r l) := by unfold tpD; rw [hu]
    have eq : qD r l = (l).drop (nDg r (l)) := by unfold qD; rw [hu]
    have hsl : slD r l = false := by
     unfold slD; rw [hu, eq]; first | exact sl_no1 (by assumption) | exact sl_no2 (by assumption) | exact sl_no3 (by omega) | exact sl_no4 (by assumption)
    have e3 : boD r l = [] := by unfold boD; rw [hsl]; rfl
    have e4 : reD r l = l.drop (nDg r l) := by unfold reD; rw [hsl, eq]; rfl
    exact ⟨by rw [e1, e2, e3, e4] <;> try rfl, hS.bel⟩
   ·
    have hb16' := of_decide_eq_false hb16
    have hb16n : ¬ (l.drop (nDg r l)).length = 0 := fun k => hb16' (List.length_eq_zero_iff.1 k)
    refine seq_do (v := .bool false) hA rfl rfl rfl (d_bin rfl rfl (fun w => (bin_eqlT (a := l.drop (nDg r l)) (b := []) Tryz.underlying9 w).trans (by rw [hb16]; try rfl))) fun a hA => ?_
    refine seq_do (v := .bool false) hA rfl rfl rfl (d_pick rfl rfl rfl rfl) fun a hA => ?_
    refine mv hA rfl rfl rfl fun a hA => ?_
    refine mv hA rfl rfl rfl fun a hA => ?_
    refine seq_do (v := .int .u8 (((btL (l.drop (nDg r l)) 0 : Nat) : Int))) hA rfl rfl rfl (d_ixT (s := l.drop (nDg r l)) (i := 0) Tryz.underlying9 rfl rfl (by first | rfl | omega) (by first | omega | (simp only [List.length_drop, List.length_take]; omega))) fun a hA => ?_
    rcases Bool.eq_false_or_eq_true ((((btL (l.drop (nDg r l)) 0 : Nat) : Int) != 47)) with hb19 | hb19
    ·
     have hb19' := bne_iff_ne.1 hb19
     refine seq_do (v := .bool true) hA rfl rfl rfl (d_bin rfl rfl (fun w => (bin_neq w).trans (by rw [hb19]))) fun a hA => ?_
     refine seq_do (v := .bool true) hA rfl rfl rfl (d_pick rfl rfl rfl rfl) fun a hA => ?_
     refine seq_end ?_
     refine hK12 _ _ ?_
     refine wp_cond_true (hA.ev rfl) ?_
     refine wp_seq_k (fun K20 hK20 => ?_)
     refine wp_region_lit ?_
     refine seq_do hA rfl rfl rfl (d_loadS hS RxC_isS_48 rfl 0 rfl (cs := [.int .u8 0, .string (bsL (l.take (nDg r l))), .string (bsL [])]) rfl rfl) fun a hA => ?_
     refine mv hA rfl rfl rfl fun a hA => ?_
     refine seq_store (us := [.int .u8 0, .string (bsL (l.take (nDg r l))), .string (bsL [])]) hA hS rfl rfl (sets_store rfl rfl rfl (by kernel_rfl) hS 0 rfl rfl rfl) 0 rfl rfl rfl rfl ?_
     intro w21 hS
     refine seq_do hA rfl rfl rfl (d_assign rfl) fun a hA => ?_
     refine seq_end ?_
     refine hK20 _ _ ?_
     refine wp_ret ?_
     refine hret _ _ ?_
     refine ends (v := .tuple #[.agg #[.int .u8 0, .string (bsL (l.take (nDg r l))), .string (bsL [])], .string (bsL (l.drop (nDg r l)))]) hA rfl (.cons (res_cell hS RxC_isS_48 rfl 0 rfl (cs := [.int .u8 0, .string (bsL (l.take (nDg r l))), .string (bsL [])]) rfl rfl) (.cons (res_tmp rfl) .nil)) rfl ?_
     have hs : signB l = false := by unfold signB; first | (simp; omega) | (subst_vars; decide)
     have hu : unS l = l := by unfold unS; rw [hs]; rfl
     have e1 : sgB l = 0 := by unfold sgB; rw [hs]; try rfl
     have e2 : tpD r l = l.take (nDg r l) := by unfold tpD; rw [hu]
     have eq : qD r l = (l).drop (nDg r (l)) := by unfold qD; rw [hu]
     have hsl : slD r l = false := by
      unfold slD; rw [hu, eq]; first | exact sl_no1 (by assumption) | exact sl_no2 (by assumption) | exact sl_no3 (by omega) | exact sl_no4 (by assumption)
     have e3 : boD r l = [] := by unfold boD; rw [hsl]; rfl
     have e4 : reD r l = l.drop (nDg r l) := by unfold reD; rw [hsl, eq]; rfl
     exact ⟨by rw [e1, e2, e3, e4] <;> try rfl, hS.bel⟩
    ·
     have hb19' := bne_eq_false_iff_eq.1 hb19
     refine seq_do (v := .bool false) hA rfl rfl rfl (d_bin rfl rfl (fun w => (bin_neq w).trans (by rw [hb19]))) fun a hA => ?_
     refine seq_do (v := .bool false) hA rfl rfl rfl (d_pick rfl rfl rfl rfl) fun a hA => ?_
     refine seq_end ?_
     refine hK12 _ _ ?_
     refine wp_cond_false (hA.ev rfl) ?_
     refine wp_skip ?_
     refine hK11 _ _ ?_
     refine wp_seq_k (fun K22 hK22 => ?_)
     refine wp_region_lit ?_
     refine mv hA rfl rfl rfl fun a hA => ?_
     refine seq_do (v := .string (bsL ((l.drop (nDg r l)).drop 1))) hA rfl rfl rfl (d_slFrom (p := 1) (s := l.drop (nDg r l)) Tryz.underlying9 rfl rfl (by first | rfl | omega) (by first | omega | (simp only [List.length_drop, List.length_take]; omega))) fun a hA => ?_
     refine mv hA rfl rfl rfl fun a hA => ?_
     refine seq_call hA rfl rfl rfl (enters_func  rfl rfl (fun w => by kernel_rfl)) (cutDigits_any (l := (l.drop (nDg r l)).drop 1) hr (by first | omega | (simp only [List.length_drop, List.length_take]; omega))) ?_
     rintro _ w24 ⟨rfl, hb23⟩
     replace hS := hS.call hb23
     refine ⟨_, rfl, ?_⟩
     intro a hA
     refine mv hA rfl rfl rfl fun a hA => ?_
     refine seq_do (v := .string (bsL (((l.drop (nDg r l)).drop 1).take (nDg r ((l.drop (nDg r l)).drop 1))))) hA rfl rfl rfl (d_extract (vs := [.string (bsL (((l.drop (nDg r l)).drop 1).take (nDg r ((l.drop (nDg r l)).drop 1)))), .string (bsL (((l.drop (nDg r l)).drop 1).drop (nDg r ((l.drop (nDg r l)).drop 1))))]) rfl rfl) fun a hA => ?_
     refine seq_do (v := .string (bsL (((l.drop (nDg r l)).drop 1).drop (nDg r ((l.drop (nDg r l)).drop 1))))) hA rfl rfl rfl (d_extract (vs := [.string (bsL (((l.drop (nDg r l)).drop 1).take (nDg r ((l.drop (nDg r l)).drop 1)))), .string (bsL (((l.drop (nDg r l)).drop 1).drop (nDg r ((l.drop (nDg r l)).drop 1))))]) rfl rfl) fun a hA => ?_
     refine seq_do hA rfl rfl rfl (d_assign rfl) fun a hA => ?_
     refine seq_do hA rfl rfl rfl (d_assign rfl) fun a hA => ?_
     refine seq_end ?_
     refine hK22 _ _ ?_
     refine wp_seq_k (fun K25 hK25 => ?_)
     refine wp_seq_k (fun K26 hK26 => ?_)
     refine wp_region_lit ?_
     refine mv hA rfl rfl rfl fun a hA => ?_
     rcases Bool.eq_false_or_eq_true (decide (((l.drop (nDg r l)).drop 1).take (nDg r ((l.drop (nDg r l)).drop 1)) = ([] : List UInt8))) with hb27 | hb27
     ·
      have hb27' := of_decide_eq_true hb27
      have hb27n : (((l.drop (nDg r l)).drop 1).take (nDg r ((l.drop (nDg r l)).drop 1))).length = 0 := by rw [hb27']; rfl
      refine seq_do (v := .bool true) hA rfl rfl rfl (d_bin rfl rfl (fun w => (bin_eqlT (a := ((l.drop (nDg r l)).drop 1).take (nDg r ((l.drop (nDg r l)).drop 1))) (b := []) Tryz.underlying9 w).trans (by rw [hb27]; try rfl))) fun a hA => ?_
      refine seq_end ?_
      refine hK26 _ _ ?_
      refine wp_cond_true (hA.ev rfl) ?_
      refine wp_seq_k (fun K28 hK28 => ?_)
      refine wp_region_lit ?_
      refine seq_do hA rfl rfl rfl (d_loadS hS RxC_isS_48 rfl 0 rfl (cs := [.int .u8 0, .string (bsL (l.take (nDg r l))), .string (bsL [])]) rfl rfl) fun a hA => ?_
      refine mv hA rfl rfl rfl fun a hA => ?_
      refine seq_store (us := [.int .u8 0, .string (bsL (l.take (nDg r l))), .string (bsL [])]) hA hS rfl rfl (sets_store rfl rfl rfl (by kernel_rfl) hS 0 rfl rfl rfl) 0 rfl rfl rfl rfl ?_
      intro w29 hS
      refine seq_do hA rfl rfl rfl (d_assign rfl) fun a hA => ?_
      refine seq_end ?_
      refine hK28 _ _ ?_
      refine wp_ret ?_
      refine hret _ _ ?_
      refine ends (v := .tuple #[.agg #[.int .u8 0, .string (bsL (l.take (nDg r l))), .string (bsL [])], .string (bsL (l.drop (nDg r l)))]) hA rfl (.cons (res_cell hS RxC_isS_48 rfl 0 rfl (cs := [.int .u8 0, .string (bsL (l.take (nDg r l))), .string (bsL [])]) rfl rfl) (.cons (res_tmp rfl) .nil)) rfl ?_
      have hs : signB l = false := by unfold signB; first | (simp; omega) | (subst_vars; decide)
      have hu : unS l = l := by unfold unS; rw [hs]; rfl
      have e1 : sgB l = 0 := by unfold sgB; rw [hs]; try rfl
      have e2 : tpD r l = l.take (nDg r l) := by unfold tpD; rw [hu]
      have eq : qD r l = (l).drop (nDg r (l)) := by unfold qD; rw [hu]
      have hsl : slD r l = false := by
       unfold slD; rw [hu, eq]; first | exact sl_no1 (by assumption) | exact sl_no2 (by assumption) | exact sl_no3 (by omega) | exact sl_no4 (by assumption)
      have e3 : boD r l = [] := by unfold boD; rw [hsl]; rfl
      have e4 : reD r l = l.drop (nDg r l) := by unfold reD; rw [hsl, eq]; rfl
      exact ⟨by rw [e1, e2, e3, e4] <;> try rfl, hS.bel⟩
     ·
      have hb27' := of_decide_eq_false hb27
      have hb27n : ¬ (((l.drop (nDg r l)).drop 1).take (nDg r ((l.drop (nDg r l)).drop 1))).length = 0 := fun k => hb27' (List.length_eq_zero_iff.1 k)
      refine seq_do (v := .bool false) hA rfl rfl rfl (d_bin rfl rfl (fun w => (bin_eqlT (a := ((l.drop (nDg r l)).drop 1).take (nDg r ((l.drop (nDg r l)).drop 1))) (b := []) Tryz.underlying9 w).trans (by rw [hb27]; try rfl))) fun a hA => ?_
      refine seq_end ?_
      refine hK26 _ _ ?_
      refine wp_cond_false (hA.ev rfl) ?_
      refine wp_skip ?_
      refine hK25 _ _ ?_
      refine wp_seq_k (fun K30 hK30 => ?_)
      refine wp_region_lit ?_
      refine mv hA rfl rfl rfl fun a hA => ?_
      refine seq_do (v := .pointer (some ⟨g2, 2, none⟩)) hA rfl rfl rfl (d_field RxC_fld_48_2 rfl rfl) fun a hA => ?_
      refine seq_store (us := [.int .u8 0, .string (bsL (l.take (nDg r l))), .string (bsL (((l.drop (nDg r l)).drop 1).take (nDg r ((l.drop (nDg r l)).drop 1))))]) hA hS rfl rfl (sets_store rfl rfl rfl (by kernel_rfl) hS 0 rfl rfl rfl) 0 rfl rfl rfl rfl ?_
      intro w31 hS
      refine seq_end ?_
      refine hK30 _ _ ?_
      refine wp_seq_k (fun K32 hK32 => ?_)
      refine wp_region_lit ?_
      refine seq_do hA rfl rfl rfl (d_loadS hS RxC_isS_48 rfl 0 rfl (cs := [.int .u8 0, .string (bsL (l.take (nDg r l))), .string (bsL (((l.drop (nDg r l)).drop 1).take (nDg r ((l.drop (nDg r l)).drop 1))))]) rfl rfl) fun a hA => ?_
      refine mv hA rfl rfl rfl fun a hA => ?_
      refine seq_store (us := [.int .u8 0, .string (bsL (l.take (nDg r l))), .string (bsL (((l.drop (nDg r l)).drop 1).take (nDg r ((l.drop (nDg r l)).drop 1))))]) hA hS rfl rfl (sets_store rfl rfl rfl (by kernel_rfl) hS 0 rfl rfl rfl) 0 rfl rfl rfl rfl ?_
      intro w33 hS
      refine seq_do hA rfl rfl rfl (d_assign rfl) fun a hA => ?_
      refine seq_end ?_
      refine hK32 _ _ ?_
      refine wp_ret ?_
      refine hret _ _ ?_
      refine ends (v := .tuple #[.agg #[.int .u8 0, .string (bsL (l.take (nDg r l))), .string (bsL (((l.drop (nDg r l)).drop 1).take (nDg r ((l.drop (nDg r l)).drop 1))))], .string (bsL (((l.drop (nDg r l)).drop 1).drop (nDg r ((l.drop (nDg r l)).drop 1))))]) hA rfl (.cons (res_cell hS RxC_isS_48 rfl 0 rfl (cs := [.int .u8 0, .string (bsL (l.take (nDg r l))), .string (bsL (((l.drop (nDg r l)).drop 1).take (nDg r ((l.drop (nDg r l)).drop 1))))]) rfl rfl) (.cons (res_tmp rfl) .nil)) rfl ?_
      have hs : signB l = false := by unfold signB; first | (simp; omega) | (subst_vars; decide)
      have hu : unS l = l := by unfold unS; rw [hs]; rfl
      have e1 : sgB l = 0 := by unfold sgB; rw [hs]; try rfl
      have e2 : tpD r l = l.take (nDg r l) := by unfold tpD; rw [hu]
      have eq : qD r l = (l).drop (nDg r (l)) := by unfold qD; rw [hu]
      have hsl : slD r l = true := by
       unfold slD; rw [hu, eq]; exact sl_yes (by assumption) (by omega) (by assumption)
      have e3 : boD r l = ((l.drop (nDg r l)).drop 1).take (nDg r ((l.drop (nDg r l)).drop 1)) := by unfold boD; rw [hsl, eq]; rfl
      have e4 : reD r l = ((l.drop (nDg r l)).drop 1).drop (nDg r ((l.drop (nDg r l)).drop 1)) := by unfold reD; rw [hsl, eq]; rfl
      exact ⟨by rw [e1, e2, e3, e4] <;> try rfl, hS.bel⟩
 ·
  have hb6' := of_decide_eq_false hb6
  have hb6n : ¬ (l).length = 0 := fun k => hb6' (List.length_eq_zero_iff.1 k)
  refine seq_do (v := .bool true) hA rfl rfl rfl (d_bin rfl rfl (fun w => (bin_neqT (a := l) (b := []) Tryz.underlying9 w).trans (by rw [hb6]; try rfl))) fun a hA => ?_
  refine mv hA rfl rfl rfl fun a hA => ?_
  refine mv hA rfl rfl rfl fun a hA => ?_
  refine seq_do (v := .int .u8 (((btL l 0 : Nat) : Int))) hA rfl rfl rfl (d_ixT (s := l) (i := 0) Tryz.underlying9 rfl rfl (by first | rfl | omega) (by first | omega | (simp only [List.length_drop, List.length_take]; omega))) fun a hA => ?_
  rcases Bool.eq_false_or_eq_true ((((btL l 0 : Nat) : Int) == 43)) with hb34 | hb34
  ·
   have hb34' := eq_of_beq hb34
   refine seq_do (v := .bool true) hA rfl rfl rfl (d_bin rfl rfl (fun w => (bin_eql w).trans (by rw [hb34]))) fun a hA => ?_
   refine mv hA rfl rfl rfl fun a hA => ?_
   refine seq_skip hA rfl rfl rfl fun a hA => ?_
   refine seq_skip hA rfl rfl rfl fun a hA => ?_
   refine seq_skip hA rfl rfl rfl fun a hA => ?_
   refine seq_do (v := .bool true) hA rfl rfl rfl (d_pick rfl rfl rfl rfl) fun a hA => ?_
   refine seq_do (v := .bool true) hA rfl rfl rfl (d_pick rfl rfl rfl rfl) fun a hA => ?_
   refine seq_end ?_
   refine hK5 _ _ ?_
   refine wp_cond_true (hA.ev rfl) ?_
   refine wp_draw (S := fun w1 => St w w1 [] [] []) (by kernel_rfl) ?_
   replace hS := hS.drew
   refine any_tk hA 0 rfl rfl rfl rfl hP (hS.partD (.cons _ .slnil) 0 rfl (.refl _)) (fun w1 hS => d_move rfl) fun a hA => ?_
   refine any_tk (v := .int .u8 (((btL l 0 : Nat) : Int))) hA 1 rfl rfl rfl rfl hP (hS.partD (.cons _ .slnil) 0 rfl (.refl _)) (fun w1 hS => d_ixT (s := l) (i := 0) Tryz.underlying9 rfl rfl (by first | rfl | omega) (by first | omega | (simp only [List.length_drop, List.length_take]; omega))) fun a hA => ?_
   refine any_tk hA 2 rfl rfl rfl rfl hP (hS.partD (.cons _ .slnil) 0 rfl (.refl _)) (fun w1 hS => d_move rfl) fun a hA => ?_
   refine any_tk (v := .string (bsL (l.drop 1))) hA 3 rfl rfl rfl rfl hP (hS.partD (.cons _ .slnil) 0 rfl (.refl _)) (fun w1 hS => d_slFrom (p := 1) (s := l) Tryz.underlying9 rfl rfl (by first | rfl | omega) (by first | omega | (simp only [List.length_drop, List.length_take]; omega))) fun a hA => ?_
   refine any_tk (v := .pointer (some ⟨g2, 0, none⟩)) hA 4 rfl rfl rfl rfl hP (hS.partD (.cons _ .slnil) 0 rfl (.refl _)) (fun w1 hS => d_field RxC_fld_48_0 rfl rfl) fun a hA => ?_
   refine any_one (by kernel_rfl) (op_store (us := [.int .u8 (((btL l 0 : Nat) : Int)), .string (bsL []), .string (bsL [])]) hA hS 5 rfl rfl rfl (sets_store rfl rfl rfl (by kernel_rfl) hS 0 rfl rfl rfl) 0 rfl rfl rfl rfl ?_)
   intro w35 hS
   refine ⟨(hS.partD (.cons _ .slnil) 0 rfl (.refl _)), ?_⟩
   refine any_tk hA 6 rfl rfl rfl rfl hP (hS.partD (.cons _ .slnil) 0 rfl (.refl _)) (fun w1 hS => d_assign rfl) fun a hA => ?_
   refine any_end (by kernel_rfl) ?_
   refine hK4 _ _ ?_
   refine wp_seq_k (fun K36 hK36 => ?_)
   refine wp_region_lit ?_
   refine mv hA rfl rfl rfl fun a hA => ?_
   refine mv hA rfl rfl rfl fun a hA => ?_
   refine seq_call hA rfl rfl rfl (enters_func  rfl rfl (fun w => by kernel_rfl)) (cutDigits_any (l := l.drop 1) hr (by first | omega | (simp only [List.length_drop, List.length_take]; omega))) ?_
   rintro _ w38 ⟨rfl, hb37⟩
   replace hS := hS.call hb37
   refine ⟨_, rfl, ?_⟩
   intro a hA
   refine mv hA rfl rfl rfl fun a hA => ?_
   refine seq_do (v := .string (bsL ((l.drop 1).take (nDg r (l.drop 1))))) hA rfl rfl rfl (d_extract (vs := [.string (bsL ((l.drop 1).take (nDg r (l.drop 1)))), .string (bsL ((l.drop 1).drop (nDg r (l.drop 1))))]) rfl rfl) fun a hA => ?_
   refine seq_do (v := .string (bsL ((l.drop 1).drop (nDg r (l.drop 1))))) hA rfl rfl rfl (d_extract (vs := [.string (bsL ((l.drop 1).take (nDg r (l.drop 1)))), .string (bsL ((l.drop 1).drop (nDg r (l.drop 1))))]) rfl rfl) fun a hA => ?_
   refine seq_do (v := .pointer (some ⟨g2, 1, none⟩)) hA rfl rfl rfl (d_field RxC_fld_48_1 rfl rfl) fun a hA => ?_
   refine seq_store (us := [.int .u8 (((btL l 0 : Nat) : Int)), .string (bsL ((l.drop 1).take (nDg r (l.drop 1)))), .string (bsL [])]) hA hS rfl rfl (sets_store rfl rfl rfl (by kernel_rfl) hS 0 rfl rfl rfl) 0 rfl rfl rfl rfl ?_
   intro w39 hS
   refine seq_do hA rfl rfl rfl (d_assign rfl) fun a hA => ?_
   refine seq_end ?_
   refine hK36 _ _ ?_
   refine wp_seq_k (fun K40 hK40 => ?_)
   refine wp_seq_k (fun K41 hK41 => ?_)
   refine wp_region_lit ?_
   refine seq_do (v := .pointer (some ⟨g2, 1, none⟩)) hA rfl rfl rfl (d_field RxC_fld_48_1 rfl rfl) fun a hA => ?_
   refine seq_do hA rfl rfl rfl (d_load1 hS RxC_is1_9 rfl 0 rfl rfl) fun a hA => ?_
   rcases Bool.eq_false_or_eq_true (decide ((l.drop 1).take (nDg r (l.drop 1)) = ([] : List UInt8))) with hb42 | hb42
   ·
    have hb42' := of_decide_eq_true hb42
    have hb42n : ((l.drop 1).take (nDg r (l.drop 1))).length = 0 := by rw [hb42']; rfl
    refine seq_do (v := .bool true) hA rfl rfl rfl (d_bin rfl rfl (fun w => (bin_eqlT (a := (l.drop 1).take (nDg r (l.drop 1))) (b := []) Tryz.underlying9 w).trans (by rw [hb42]; try rfl))) fun a hA => ?_
    refine mv hA rfl rfl rfl fun a hA => ?_
    refine seq_skip hA rfl rfl rfl fun a hA => ?_
    refine seq_skip hA rfl rfl rfl fun a hA => ?_
    refine seq_do (v := .bool true) hA rfl rfl rfl (d_pick rfl rfl rfl rfl) fun a hA => ?_
    refine mv hA rfl rfl rfl fun a hA => ?_
    refine seq_skip hA rfl rfl rfl fun a hA => ?_
    refine seq_skip hA rfl rfl rfl fun a hA => ?_
    refine seq_skip hA rfl rfl rfl fun a hA => ?_
    refine seq_do (v := .bool true) hA rfl rfl rfl (d_pick rfl rfl rfl rfl) fun a hA => ?_
    refine seq_end ?_
    refine hK41 _ _ ?_
    refine wp_cond_true (hA.ev rfl) ?_
    refine wp_seq_k (fun K43 hK43 => ?_)
    refine wp_region_lit ?_
    refine seq_do hA rfl rfl rfl (d_loadS hS RxC_isS_48 rfl 0 rfl (cs := [.int .u8 (((btL l 0 : Nat) : Int)), .string (bsL ((l.drop 1).take (nDg r (l.drop 1)))), .string (bsL [])]) rfl rfl) fun a hA => ?_
    refine mv hA rfl rfl rfl fun a hA => ?_
    refine seq_store (us := [.int .u8 (((btL l 0 : Nat) : Int)), .string (bsL ((l.drop 1).take (nDg r (l.drop 1)))), .string (bsL [])]) hA hS rfl rfl (sets_store rfl rfl rfl (by kernel_rfl) hS 0 rfl rfl rfl) 0 rfl rfl rfl rfl ?_
    intro w44 hS
    refine seq_do hA rfl rfl rfl (d_assign rfl) fun a hA => ?_
    refine seq_end ?_
    refine hK43 _ _ ?_
    refine wp_ret ?_
    refine hret _ _ ?_
    refine ends (v := .tuple #[.agg #[.int .u8 (((btL l 0 : Nat) : Int)), .string (bsL ((l.drop 1).take (nDg r (l.drop 1)))), .string (bsL [])], .string (bsL ((l.drop 1).drop (nDg r (l.drop 1))))]) hA rfl (.cons (res_cell hS RxC_isS_48 rfl 0 rfl (cs := [.int .u8 (((btL l 0 : Nat) : Int)), .string (bsL ((l.drop 1).take (nDg r (l.drop 1)))), .string (bsL [])]) rfl rfl) (.cons (res_tmp rfl) .nil)) rfl ?_
    have hs : signB l = true := by unfold signB; simp; omega
    have hu : unS l = l.drop 1 := by unfold unS; rw [hs]; rfl
    have e1 : sgB l = btL l 0 := by unfold sgB; rw [hs]; try rfl
    have e2 : tpD r l = (l.drop 1).take (nDg r (l.drop 1)) := by unfold tpD; rw [hu]
    have eq : qD r l = (l.drop 1).drop (nDg r (l.drop 1)) := by unfold qD; rw [hu]
    have hsl : slD r l = false := by
     unfold slD; rw [hu, eq]; first | exact sl_no1 (by assumption) | exact sl_no2 (by assumption) | exact sl_no3 (by omega) | exact sl_no4 (by assumption)
    have e3 : boD r l = [] := by unfold boD; rw [hsl]; rfl
    have e4 : reD r l = (l.drop 1).drop (nDg r (l.drop 1)) := by unfold reD; rw [hsl, eq]; rfl
    exact ⟨by rw [e1, e2, e3, e4] <;> try rfl, hS.bel⟩
   ·
    have hb42' := of_decide_eq_false hb42
    have hb42n : ¬ ((l.drop 1).take (nDg r (l.drop 1))).length = 0 := fun k => hb42' (List.length_eq_zero_iff.1 k)
    refine seq_do (v := .bool false) hA rfl rfl rfl (d_bin rfl rfl (fun w => (bin_eqlT (a := (l.drop 1).take (nDg r (l.drop 1))) (b := []) Tryz.underlying9 w).trans (by rw [hb42]; try rfl))) fun a hA => ?_
    refine mv hA rfl rfl rfl fun a hA => ?_
    refine mv hA rfl rfl rfl fun a hA => ?_
    rcases Bool.eq_false_or_eq_true (decide ((l.drop 1).drop (nDg r (l.drop 1)) = ([] : List UInt8))) with hb45 | hb45
    ·
     have hb45' := of_decide_eq_true hb45
     have hb45n : ((l.drop 1).drop (nDg r (l.drop 1))).length = 0 := by rw [hb45']; rfl
     refine seq_do (v := .bool true) hA rfl rfl rfl (d_bin rfl rfl (fun w => (bin_eqlT (a := (l.drop 1).drop (nDg r (l.drop 1))) (b := []) Tryz.underlying9 w).trans (by rw [hb45]; try rfl))) fun a hA => ?_
     refine seq_do (v := .bool true) hA rfl rfl rfl (d_pick rfl rfl rfl rfl) fun a hA => ?_
     refine mv hA rfl rfl rfl fun a hA => ?_
     refine seq_skip hA rfl rfl rfl fun a hA => ?_
     refine seq_skip hA rfl rfl rfl fun a hA => ?_
     refine seq_skip hA rfl rfl rfl fun a hA => ?_
     refine seq_do (v := .bool true) hA rfl rfl rfl (d_pick rfl rfl rfl rfl) fun a hA => ?_
     refine seq_end ?_
     refine hK41 _ _ ?_
     refine wp_cond_true (hA.ev rfl) ?_
     refine wp_seq_k (fun K46 hK46 => ?_)
     refine wp_region_lit ?_
     refine seq_do hA rfl rfl rfl (d_loadS hS RxC_isS_48 rfl 0 rfl (cs := [.int .u8 (((btL l 0 : Nat) : Int)), .string (bsL ((l.drop 1).take (nDg r (l.drop 1)))), .string (bsL [])]) rfl rfl) fun a hA => ?_
     refine mv hA rfl rfl rfl fun a hA => ?_
     refine seq_store (us := [.int .u8 (((btL l 0 : Nat) : Int)), .string (bsL ((l.drop 1).take (nDg r (l.drop 1)))), .string (bsL [])]) hA hS rfl rfl (sets_store rfl rfl rfl (by kernel_rfl) hS 0 rfl rfl rfl) 0 rfl rfl rfl rfl ?_
     intro w47 hS
     refine seq_do hA rfl rfl rfl (d_assign rfl) fun a hA => ?_
     refine seq_end ?_
     refine hK46 _ _ ?_
     refine wp_ret ?_
     refine hret _ _ ?_
     refine ends (v := .tuple #[.agg #[.int .u8 (((btL l 0 : Nat) : Int)), .string (bsL ((l.drop 1).take (nDg r (l.drop 1)))), .string (bsL [])], .string (bsL ((l.drop 1).drop (nDg r (l.drop 1))))]) hA rfl (.cons (res_cell hS RxC_isS_48 rfl 0 rfl (cs := [.int .u8 (((btL l 0 : Nat) : Int)), .string (bsL ((l.drop 1).take (nDg r (l.drop 1)))), .string (bsL [])]) rfl rfl) (.cons (res_tmp rfl) .nil)) rfl ?_
     have hs : signB l = true := by unfold signB; simp; omega
     have hu : unS l = l.drop 1 := by unfold unS; rw [hs]; rfl
     have e1 : sgB l = btL l 0 := by unfold sgB; rw [hs]; try rfl
     have e2 : tpD r l = (l.drop 1).take (nDg r (l.drop 1)) := by unfold tpD; rw [hu]
     have eq : qD r l = (l.drop 1).drop (nDg r (l.drop 1)) := by unfold qD; rw [hu]
     have hsl : slD r l = false := by
      unfold slD; rw [hu, eq]; first | exact sl_no1 (by assumption) | exact sl_no2 (by assumption) | exact sl_no3 (by omega) | exact sl_no4 (by assumption)
     have e3 : boD r l = [] := by unfold boD; rw [hsl]; rfl
     have e4 : reD r l = (l.drop 1).drop (nDg r (l.drop 1)) := by unfold reD; rw [hsl, eq]; rfl
     exact ⟨by rw [e1, e2, e3, e4] <;> try rfl, hS.bel⟩
    ·
     have hb45' := of_decide_eq_false hb45
     have hb45n : ¬ ((l.drop 1).drop (nDg r (l.drop 1))).length = 0 := fun k => hb45' (List.length_eq_zero_iff.1 k)
     refine seq_do (v := .bool false) hA rfl rfl rfl (d_bin rfl rfl (fun w => (bin_eqlT (a := (l.drop 1).drop (nDg r (l.drop 1))) (b := []) Tryz.underlying9 w).trans (by rw [hb45]; try rfl))) fun a hA => ?_
     refine seq_do (v := .bool false) hA rfl rfl rfl (d_pick rfl rfl rfl rfl) fun a hA => ?_
     refine mv hA rfl rfl rfl fun a hA => ?_
     refine mv hA rfl rfl rfl fun a hA => ?_
     refine seq_do (v := .int .u8 (((btL ((l.drop 1).drop (nDg r (l.drop 1))) 0 : Nat) : Int))) hA rfl rfl rfl (d_ixT (s := (l.drop 1).drop (nDg r (l.drop 1))) (i := 0) Tryz.underlying9 rfl rfl (by first | rfl | omega) (by first | omega | (simp only [List.length_drop, List.length_take]; omega))) fun a hA => ?_
     rcases Bool.eq_false_or_eq_true ((((btL ((l.drop 1).drop (nDg r (l.drop 1))) 0 : Nat) : Int) != 47)) with hb48 | hb48
     ·
      have hb48' := bne_iff_ne.1 hb48
      refine seq_do (v := .bool true) hA rfl rfl rfl (d_bin rfl rfl (fun w => (bin_neq w).trans (by rw [hb48]))) fun a hA => ?_
      refine seq_do (v := .bool true) hA rfl rfl rfl (d_pick rfl rfl rfl rfl) fun a hA => ?_
      refine seq_end ?_
      refine hK41 _ _ ?_
      refine wp_cond_true (hA.ev rfl) ?_
      refine wp_seq_k (fun K49 hK49 => ?_)
      refine wp_region_lit ?_
      refine seq_do hA rfl rfl rfl (d_loadS hS RxC_isS_48 rfl 0 rfl (cs := [.int .u8 (((btL l 0 : Nat) : Int)), .string (bsL ((l.drop 1).take (nDg r (l.drop 1)))), .string (bsL [])]) rfl rfl) fun a hA => ?_
      refine mv hA rfl rfl rfl fun a hA => ?_
      refine seq_store (us := [.int .u8 (((btL l 0 : Nat) : Int)), .string (bsL ((l.drop 1).take (nDg r (l.drop 1)))), .string (bsL [])]) hA hS rfl rfl (sets_store rfl rfl rfl (by kernel_rfl) hS 0 rfl rfl rfl) 0 rfl rfl rfl rfl ?_
      intro w50 hS
      refine seq_do hA rfl rfl rfl (d_assign rfl) fun a hA => ?_
      refine seq_end ?_
      refine hK49 _ _ ?_
      refine wp_ret ?_
      refine hret _ _ ?_
      refine ends (v := .tuple #[.agg #[.int .u8 (((btL l 0 : Nat) : Int)), .string (bsL ((l.drop 1).take (nDg r (l.drop 1)))), .string (bsL [])], .string (bsL ((l.drop 1).drop (nDg r (l.drop 1))))]) hA rfl (.cons (res_cell hS RxC_isS_48 rfl 0 rfl (cs := [.int .u8 (((btL l 0 : Nat) : Int)), .string (bsL ((l.drop 1).take (nDg r (l.drop 1)))), .string (bsL [])]) rfl rfl) (.cons (res_tmp rfl) .nil)) rfl ?_
      have hs : signB l = true := by unfold signB; simp; omega
      have hu : unS l = l.drop 1 := by unfold unS; rw [hs]; rfl
      have e1 : sgB l = btL l 0 := by unfold sgB; rw [hs]; try rfl
      have e2 : tpD r l = (l.drop 1).take (nDg r (l.drop 1)) := by unfold tpD; rw [hu]
      have eq : qD r l = (l.drop 1).drop (nDg r (l.drop 1)) := by unfold qD; rw [hu]
      have hsl : slD r l = false := by
       unfold slD; rw [hu, eq]; first | exact sl_no1 (by assumption) | exact sl_no2 (by assumption) | exact sl_no3 (by omega) | exact sl_no4 (by assumption)
      have e3 : boD r l = [] := by unfold boD; rw [hsl]; rfl
      have e4 : reD r l = (l.drop 1).drop (nDg r (l.drop 1)) := by unfold reD; rw [hsl, eq]; rfl
      exact ⟨by rw [e1, e2, e3, e4] <;> try rfl, hS.bel⟩
     ·
      have hb48' := bne_eq_false_iff_eq.1 hb48
      refine seq_do (v := .bool false) hA rfl rfl rfl (d_bin rfl rfl (fun w => (bin_neq w).trans (by rw [hb48]))) fun a hA => ?_
      refine seq_do (v := .bool false) hA rfl rfl rfl (d_pick rfl rfl rfl rfl) fun a hA => ?_
      refine seq_end ?_
      refine hK41 _ _ ?_
      refine wp_cond_false (hA.ev rfl) ?_
      refine wp_skip ?_
      refine hK40 _ _ ?_
      refine wp_seq_k (fun K51 hK51 => ?_)
      refine wp_region_lit ?_
      refine mv hA rfl rfl rfl fun a hA => ?_
      refine seq_do (v := .string (bsL (((l.drop 1).drop (nDg r (l.drop 1))).drop 1))) hA rfl rfl rfl (d_slFrom (p := 1) (s := (l.drop 1).drop (nDg r (l.drop 1))) Tryz.underlying9 rfl rfl (by first | rfl | omega) (by first | omega | (simp only [List.length_drop, List.length_take]; omega))) fun a hA => ?_
      refine mv hA rfl rfl rfl fun a hA => ?_
      refine seq_call hA rfl rfl rfl (enters_func  rfl rfl (fun w => by kernel_rfl)) (cutDigits_any (l := ((l.drop 1).drop (nDg r (l.drop 1))).drop 1) hr (by first | omega | (simp only [List.length_drop, List.length_take]; omega))) ?_
      rintro _ w53 ⟨rfl, hb52⟩
      replace hS := hS.call hb52
      refine ⟨_, rfl, ?_⟩
      intro a hA
      refine mv hA rfl rfl rfl fun a hA => ?_
      refine seq_do (v := .string (bsL ((((l.drop 1).drop (nDg r (l.drop 1))).drop 1).take (nDg r (((l.drop 1).drop (nDg r (l.drop 1))).drop 1))))) hA rfl rfl rfl (d_extract (vs := [.string (bsL ((((l.drop 1).drop (nDg r (l.drop 1))).drop 1).take (nDg r (((l.drop 1).drop (nDg r (l.drop 1))).drop 1)))), .string (bsL ((((l.drop 1).drop (nDg r (l.drop 1))).drop 1).drop (nDg r (((l.drop 1).drop (nDg r (l.drop 1))).drop 1))))]) rfl rfl) fun a hA => ?_
      refine seq_do (v := .string (bsL ((((l.drop 1).drop (nDg r (l.drop 1))).drop 1).drop (nDg r (((l.drop 1).drop (nDg r (l.drop 1))).drop 1))))) hA rfl rfl rfl (d_extract (vs := [.string (bsL ((((l.drop 1).drop (nDg r (l.drop 1))).drop 1).take (nDg r (((l.drop 1).drop (nDg r (l.drop 1))).drop 1)))), .string (bsL ((((l.drop 1).drop (nDg r (l.drop 1))).drop 1).drop (nDg r (((l.drop 1).drop (nDg r (l.drop 1))).drop 1))))]) rfl rfl) fun a hA => ?_
      refine seq_do hA rfl rfl rfl (d_assign rfl) fun a hA => ?_
      refine seq_do hA rfl rfl rfl (d_assign rfl) fun a hA => ?_
      refine seq_end ?_
      refine hK51 _ _ ?_
      refine wp_seq_k (fun K54 hK54 => ?_)
      refine wp_seq_k (fun K55 hK55 => ?_)
      refine wp_region_lit ?_
      refine mv hA rfl rfl rfl fun a hA => ?_
      rcases Bool.eq_false_or_eq_true (decide ((((l.drop 1).drop (nDg r (l.drop 1))).drop 1).take (nDg r (((l.drop 1).drop (nDg r (l.drop 1))).drop 1)) = ([] : List UInt8))) with hb56 | hb56
      ·
       have hb56' := of_decide_eq_true hb56
       have hb56n : ((((l.drop 1).drop (nDg r (l.drop 1))).drop 1).take (nDg r (((l.drop 1).drop (nDg r (l.drop 1))).drop 1))).length = 0 := by rw [hb56']; rfl
       refine seq_do (v := .bool true) hA rfl rfl rfl (d_bin rfl rfl (fun w => (bin_eqlT (a := (((l.drop 1).drop (nDg r (l.drop 1))).drop 1).take (nDg r (((l.drop 1).drop (nDg r (l.drop 1))).drop 1))) (b := []) Tryz.underlying9 w).trans (by rw [hb56]; try rfl))) fun a hA => ?_
       refine seq_end ?_
       refine hK55 _ _ ?_
       refine wp_cond_true (hA.ev rfl) ?_
       refine wp_seq_k (fun K57 hK57 => ?_)
       refine wp_region_lit ?_
       refine seq_do hA rfl rfl rfl (d_loadS hS RxC_isS_48 rfl 0 rfl (cs := [.int .u8 (((btL l 0 : Nat) : Int)), .string (bsL ((l.drop 1).take (nDg r (l.drop 1)))), .string (bsL [])]) rfl rfl) fun a hA => ?_
       refine mv hA rfl rfl rfl fun a hA => ?_
       refine seq_store (us := [.int .u8 (((btL l 0 : Nat) : Int)), .string (bsL ((l.drop 1).take (nDg r (l.drop 1)))), .string (bsL [])]) hA hS rfl rfl (sets_store rfl rfl rfl (by kernel_rfl) hS 0 rfl rfl rfl) 0 rfl rfl rfl rfl ?_
       intro w58 hS
       refine seq_do hA rfl rfl rfl (d_assign rfl) fun a hA => ?_
       refine seq_end ?_
       refine hK57 _ _ ?_
       refine wp_ret ?_
       refine hret _ _ ?_
       refine ends (v := .tuple #[.agg #[.int .u8 (((btL l 0 : Nat) : Int)), .string (bsL ((l.drop 1).take (nDg r (l.drop 1)))), .string (bsL [])], .string (bsL ((l.drop 1).drop (nDg r (l.drop 1))))]) hA rfl (.cons (res_cell hS RxC_isS_48 rfl 0 rfl (cs := [.int .u8 (((btL l 0 : Nat) : Int)), .string (bsL ((l.drop 1).take (nDg r (l.drop 1)))), .string (bsL [])]) rfl rfl) (.cons (res_tmp rfl) .nil)) rfl ?_
       have hs : signB l = true := by unfold signB; simp; omega
       have hu : unS l = l.drop 1 := by unfold unS; rw [hs]; rfl
       have e1 : sgB l = btL l 0 := by unfold sgB; rw [hs]; try rfl
       have e2 : tpD r l = (l.drop 1).take (nDg r (l.drop 1)) := by unfold tpD; rw [hu]
       have eq : qD r l = (l.drop 1).drop (nDg r (l.drop 1)) := by unfold qD; rw [hu]
       have hsl : slD r l = false := by
        unfold slD; rw [hu, eq]; first | exact sl_no1 (by assumption) | exact sl_no2 (by assumption) | exact sl_no3 (by omega) | exact sl_no4 (by assumption)
       have e3 : boD r l = [] := by unfold boD; rw [hsl]; rfl
       have e4 : reD r l = (l.drop 1).drop (nDg r (l.drop 1)) := by unfold reD; rw [hsl, eq]; rfl
       exact ⟨by rw [e1, e2, e3, e4] <;> try rfl, hS.bel⟩
      ·
       have hb56' := of_decide_eq_false hb56
       have hb56n : ¬ ((((l.drop 1).drop (nDg r (l.drop 1))).drop 1).take (nDg r (((l.drop 1).drop (nDg r (l.drop 1))).drop 1))).length = 0 := fun k => hb56' (List.length_eq_zero_iff.1 k)
       refine seq_do (v := .bool false) hA rfl rfl rfl (d_bin rfl rfl (fun w => (bin_eqlT (a := (((l.drop 1).drop (nDg r (l.drop 1))).drop 1).take (nDg r (((l.drop 1).drop (nDg r (l.drop 1))).drop 1))) (b := []) Tryz.underlying9 w).trans (by rw [hb56]; try rfl))) fun a hA => ?_
       refine seq_end ?_
       refine hK55 _ _ ?_
       refine wp_cond_false (hA.ev rfl) ?_
       refine wp_skip ?_
       refine hK54 _ _ ?_
       refine wp_seq_k (fun K59 hK59 => ?_)
       refine wp_region_lit ?_
       refine mv hA rfl rfl rfl fun a hA => ?_
       refine seq_do (v := .pointer (some ⟨g2, 2, none⟩)) hA rfl rfl rfl (d_field RxC_fld_48_2 rfl rfl) fun a hA => ?_
       refine seq_store (us := [.int .u8 (((btL l 0 : Nat) : Int)), .string (bsL ((l.drop 1).take (nDg r (l.drop 1)))), .string (bsL ((((l.drop 1).drop (nDg r (l.drop 1))).drop 1).take (nDg r (((l.drop 1).drop (nDg r (l.drop 1))).drop 1))))]) hA hS rfl rfl (sets_store rfl rfl rfl (by kernel_rfl) hS 0 rfl rfl rfl) 0 rfl rfl rfl rfl ?_
       intro w60 hS
       refine seq_end ?_
       refine hK59 _ _ ?_
       refine wp_seq_k (fun K61 hK61 => ?_)
       refine wp_region_lit ?_
       refine seq_do hA rfl rfl rfl (d_loadS hS RxC_isS_48 rfl 0 rfl (cs := [.int .u8 (((btL l 0 : Nat) : Int)), .string (bsL ((l.drop 1).take (nDg r (l.drop 1)))), .string (bsL ((((l.drop 1).drop (nDg r (l.drop 1))).drop 1).take (nDg r (((l.drop 1).drop (nDg r (l.drop 1))).drop 1))))]) rfl rfl) fun a hA => ?_
       refine mv hA rfl rfl rfl fun a hA => ?_
       refine seq_store (us := [.int .u8 (((btL l 0 : Nat) : Int)), .string (bsL ((l.drop 1).take (nDg r (l.drop 1)))), .string (bsL ((((l.drop 1).drop (nDg r (l.drop 1))).drop 1).take (nDg r (((l.drop 1).drop (nDg r (l.drop 1))).drop 1))))]) hA hS rfl rfl (sets_store rfl rfl rfl (by kernel_rfl) hS 0 rfl rfl rfl) 0 rfl rfl rfl rfl ?_
       intro w62 hS
       refine seq_do hA rfl rfl rfl (d_assign rfl) fun a hA => ?_
       refine seq_end ?_
       refine hK61 _ _ ?_
       refine wp_ret ?_
       refine hret _ _ ?_
       refine ends (v := .tuple #[.agg #[.int .u8 (((btL l 0 : Nat) : Int)), .string (bsL ((l.drop 1).take (nDg r (l.drop 1)))), .string (bsL ((((l.drop 1).drop (nDg r (l.drop 1))).drop 1).take (nDg r (((l.drop 1).drop (nDg r (l.drop 1))).drop 1))))], .string (bsL ((((l.drop 1).drop (nDg r (l.drop 1))).drop 1).drop (nDg r (((l.drop 1).drop (nDg r (l.drop 1))).drop 1))))]) hA rfl (.cons (res_cell hS RxC_isS_48 rfl 0 rfl (cs := [.int .u8 (((btL l 0 : Nat) : Int)), .string (bsL ((l.drop 1).take (nDg r (l.drop 1)))), .string (bsL ((((l.drop 1).drop (nDg r (l.drop 1))).drop 1).take (nDg r (((l.drop 1).drop (nDg r (l.drop 1))).drop 1))))]) rfl rfl) (.cons (res_tmp rfl) .nil)) rfl ?_
       have hs : signB l = true := by unfold signB; simp; omega
       have hu : unS l = l.drop 1 := by unfold unS; rw [hs]; rfl
       have e1 : sgB l = btL l 0 := by unfold sgB; rw [hs]; try rfl
       have e2 : tpD r l = (l.drop 1).take (nDg r (l.drop 1)) := by unfold tpD; rw [hu]
       have eq : qD r l = (l.drop 1).drop (nDg r (l.drop 1)) := by unfold qD; rw [hu]
       have hsl : slD r l = true := by
        unfold slD; rw [hu, eq]; exact sl_yes (by assumption) (by omega) (by assumption)
       have e3 : boD r l = (((l.drop 1).drop (nDg r (l.drop 1))).drop 1).take (nDg r (((l.drop 1).drop (nDg r (l.drop 1))).drop 1)) := by unfold boD; rw [hsl, eq]; rfl
       have e4 : reD r l = (((l.drop 1).drop (nDg r (l.drop 1))).drop 1).drop (nDg r (((l.drop 1).drop (nDg r (l.drop 1))).drop 1)) := by unfold reD; rw [hsl, eq]; rfl
       exact ⟨by rw [e1, e2, e3, e4] <;> try rfl, hS.bel⟩
  ·
   have hb34' := ne_of_beq_false hb34
   refine seq_do (v := .bool false) hA rfl rfl rfl (d_bin rfl rfl (fun w => (bin_eql w).trans (by rw [hb34]))) fun a hA => ?_
   refine mv hA rfl rfl rfl fun a hA => ?_
   refine mv hA rfl rfl rfl fun a hA => ?_
   refine seq_do (v := .int .u8 (((btL l 0 : Nat) : Int))) hA rfl rfl rfl (d_ixT (s := l) (i := 0) Tryz.underlying9 rfl rfl (by first | rfl | omega) (by first | omega | (simp only [List.length_drop, List.length_take]; omega))) fun a hA => ?_
   rcases Bool.eq_false_or_eq_true ((((btL l 0 : Nat) : Int) == 45)) with hb63 | hb63
   ·
    have hb63' := eq_of_beq hb63
    refine seq_do (v := .bool true) hA rfl rfl rfl (d_bin rfl rfl (fun w => (bin_eql w).trans (by rw [hb63]))) fun a hA => ?_
    refine seq_do (v := .bool true) hA rfl rfl rfl (d_pick rfl rfl rfl rfl) fun a hA => ?_
    refine seq_do (v := .bool true) hA rfl rfl rfl (d_pick rfl rfl rfl rfl) fun a hA => ?_
    refine seq_end ?_
    refine hK5 _ _ ?_
    refine wp_cond_true (hA.ev rfl) ?_
    refine wp_draw (S := fun w1 => St w w1 [] [] []) (by kernel_rfl) ?_
    replace hS := hS.drew
    refine any_tk hA 0 rfl rfl rfl rfl hP (hS.partD (.cons _ .slnil) 0 rfl (.refl _)) (fun w1 hS => d_move rfl) fun a hA => ?_
    refine any_tk (v := .int .u8 (((btL l 0 : Nat) : Int))) hA 1 rfl rfl rfl rfl hP (hS.partD (.cons _ .slnil) 0 rfl (.refl _)) (fun w1 hS => d_ixT (s := l) (i := 0) Tryz.underlying9 rfl rfl (by first | rfl | omega) (by first | omega | (simp only [List.length_drop, List.length_take]; omega))) fun a hA => ?_
    refine any_tk hA 2 rfl rfl rfl rfl hP (hS.partD (.cons _ .slnil) 0 rfl (.refl _)) (fun w1 hS => d_move rfl) fun a hA => ?_
    refine any_tk (v := .string (bsL (l.drop 1))) hA 3 rfl rfl rfl rfl hP (hS.partD (.cons _ .slnil) 0 rfl (.refl _)) (fun w1 hS => d_slFrom (p := 1) (s := l) Tryz.underlying9 rfl rfl (by first | rfl | omega) (by first | omega | (simp only [List.length_drop, List.length_take]; omega))) fun a hA => ?_
    refine any_tk (v := .pointer (some ⟨g2, 0, none⟩)) hA 4 rfl rfl rfl rfl hP (hS.partD (.cons _ .slnil) 0 rfl (.refl _)) (fun w1 hS => d_field RxC_fld_48_0 rfl rfl) fun a hA => ?_
    refine any_one (by kernel_rfl) (op_store (us := [.int .u8 (((btL l 0 : Nat) : Int)), .string (bsL []), .string (bsL [])]) hA hS 5 rfl rfl rfl (sets_store rfl rfl rfl (by kernel_rfl) hS 0 rfl rfl rfl) 0 rfl rfl rfl rfl ?_)
    intro w64 hS
    refine ⟨(hS.partD (.cons _ .slnil) 0 rfl (.refl _)), ?_⟩
    refine any_tk hA 6 rfl rfl rfl rfl hP (hS.partD (.cons _ .slnil) 0 rfl (.refl _)) (fun w1 hS => d_assign rfl) fun a hA => ?_
    refine any_end (by kernel_rfl) ?_
    refine hK4 _ _ ?_
    refine wp_seq_k (fun K65 hK65 => ?_)
    refine wp_region_lit ?_
    refine mv hA rfl rfl rfl fun a hA => ?_
    refine mv hA rfl rfl rfl fun a hA => ?_
    refine seq_call hA rfl rfl rfl (enters_func  rfl rfl (fun w => by kernel_rfl)) (cutDigits_any (l := l.drop 1) hr (by first | omega | (simp only [List.length_drop, List.length_take]; omega))) ?_
    rintro _ w67 ⟨rfl, hb66⟩
    replace hS := hS.call hb66
    refine ⟨_, rfl, ?_⟩
    intro a hA
    refine mv hA rfl rfl rfl fun a hA => ?_
    refine seq_do (v := .string (bsL ((l.drop 1).take (nDg r (l.drop 1))))) hA rfl rfl rfl (d_extract (vs := [.string (bsL ((l.drop 1).take (nDg r (l.drop 1)))), .string (bsL ((l.drop 1).drop (nDg r (l.drop 1))))]) rfl rfl) fun a hA => ?_
    refine seq_do (v := .string (bsL ((l.drop 1).drop (nDg r (l.drop 1))))) hA rfl rfl rfl (d_extract (vs := [.string (bsL ((l.drop 1).take (nDg r (l.drop 1)))), .string (bsL ((l.drop 1).drop (nDg r (l.drop 1))))]) rfl rfl) fun a hA => ?_
    refine seq_do (v := .pointer (some ⟨g2, 1, none⟩)) hA rfl rfl rfl (d_field RxC_fld_48_1 rfl rfl) fun a hA => ?_
    refine seq_store (us := [.int .u8 (((btL l 0 : Nat) : Int)), .string (bsL ((l.drop 1).take (nDg r (l.drop 1)))), .string (bsL [])]) hA hS rfl rfl (sets_store rfl rfl rfl (by kernel_rfl) hS 0 rfl rfl rfl) 0 rfl rfl rfl rfl ?_
    intro w68 hS
    refine seq_do hA rfl rfl rfl (d_assign rfl) fun a hA => ?_
    refine seq_end ?_
    refine hK65 _ _ ?_
    refine wp_seq_k (fun K69 hK69 => ?_)
    refine wp_seq_k (fun K70 hK70 => ?_)
    refine wp_region_lit ?_
    refine seq_do (v := .pointer (some ⟨g2, 1, none⟩)) hA rfl rfl rfl (d_field RxC_fld_48_1 rfl rfl) fun a hA => ?_
    refine seq_do hA rfl rfl rfl (d_load1 hS RxC_is1_9 rfl 0 rfl rfl) fun a hA => ?_
    rcases Bool.eq_false_or_eq_true (decide ((l.drop 1).take (nDg r (l.drop 1)) = ([] : List UInt8))) with hb71 | hb71
    ·
     have hb71' := of_decide_eq_true hb71
     have hb71n : ((l.drop 1).take (nDg r (l.drop 1))).length = 0 := by rw [hb71']; rfl
     refine seq_do (v := .bool true) hA rfl rfl rfl (d_bin rfl rfl (fun w => (bin_eqlT (a := (l.drop 1).take (nDg r (l.drop 1))) (b := []) Tryz.underlying9 w).trans (by rw [hb71]; try rfl))) fun a hA => ?_
     refine mv hA rfl rfl rfl fun a hA => ?_
     refine seq_skip hA rfl rfl rfl fun a hA => ?_
     refine seq_skip hA rfl rfl rfl fun a hA => ?_
     refine seq_do (v := .bool true) hA rfl rfl rfl (d_pick rfl rfl rfl rfl) fun a hA => ?_
     refine mv hA rfl rfl rfl fun a hA => ?_
     refine seq_skip hA rfl rfl rfl fun a hA => ?_
     refine seq_skip hA rfl rfl rfl fun a hA => ?_
     refine seq_skip hA rfl rfl rfl fun a hA => ?_
     refine seq_do (v := .bool true) hA rfl rfl rfl (d_pick rfl rfl rfl rfl) fun a hA => ?_
     refine seq_end ?_
     refine hK70 _ _ ?_
     refine wp_cond_true (hA.ev rfl) ?_
     refine wp_seq_k (fun K72 hK72 => ?_)
     refine wp_region_lit ?_
     refine seq_do hA rfl rfl rfl (d_loadS hS RxC_isS_48 rfl 0 rfl (cs := [.int .u8 (((btL l 0 : Nat) : Int)), .string (bsL ((l.drop 1).take (nDg r (l.drop 1)))), .string (bsL [])]) rfl rfl) fun a hA => ?_
     refine mv hA rfl rfl rfl fun a hA => ?_
     refine seq_store (us := [.int .u8 (((btL l 0 : Nat) : Int)), .string (bsL ((l.drop 1).take (nDg r (l.drop 1)))), .string (bsL [])]) hA hS rfl rfl (sets_store rfl rfl rfl (by kernel_rfl) hS 0 rfl rfl rfl) 0 rfl rfl rfl rfl ?_
     intro w73 hS
     refine seq_do hA rfl rfl rfl (d_assign rfl) fun a hA => ?_
     refine seq_end ?_
     refine hK72 _ _ ?_
     refine wp_ret ?_
     refine hret _ _ ?_
     refine ends (v := .tuple #[.agg #[.int .u8 (((btL l 0 : Nat) : Int)), .string (bsL ((l.drop 1).take (nDg r (l.drop 1)))), .string (bsL [])], .string (bsL ((l.drop 1).drop (nDg r (l.drop 1))))]) hA rfl (.cons (res_cell hS RxC_isS_48 rfl 0 rfl (cs := [.int .u8 (((btL l 0 : Nat) : Int)), .string (bsL ((l.drop 1).take (nDg r (l.drop 1)))), .string (bsL [])]) rfl rfl) (.cons (res_tmp rfl) .nil)) rfl ?_
     have hs : signB l = true := by unfold signB; simp; omega
     have hu : unS l = l.drop 1 := by unfold unS; rw [hs]; rfl
     have e1 : sgB l = btL l 0 := by unfold sgB; rw [hs]; try rfl
     have e2 : tpD r l = (l.drop 1).take (nDg r (l.drop 1)) := by unfold tpD; rw [hu]
     have eq : qD r l = (l.drop 1).drop (nDg r (l.drop 1)) := by unfold qD; rw [hu]
     have hsl : slD r l = false := by
      unfold slD; rw [hu, eq]; first | exact sl_no1 (by assumption) | exact sl_no2 (by assumption) | exact sl_no3 (by omega) | exact sl_no4 (by assumption)
     have e3 : boD r l = [] := by unfold boD; rw [hsl]; rfl
     have e4 : reD r l = (l.drop 1).drop (nDg r (l.drop 1)) := by unfold reD; rw [hsl, eq]; rfl
     exact ⟨by rw [e1, e2, e3, e4] <;> try rfl, hS.bel⟩
    ·
     have hb71' := of_decide_eq_false hb71
     have hb71n : ¬ ((l.drop 1).take (nDg r (l.drop 1))).length = 0 := fun k => hb71' (List.length_eq_zero_iff.1 k)
     refine seq_do (v := .bool false) hA rfl rfl rfl (d_bin rfl rfl (fun w => (bin_eqlT (a := (l.drop 1).take (nDg r (l.drop 1))) (b := []) Tryz.underlying9 w).trans (by rw [hb71]; try rfl))) fun a hA => ?_
     refine mv hA rfl rfl rfl fun a hA => ?_
     refine mv hA rfl rfl rfl fun a hA => ?_
     rcases Bool.eq_false_or_eq_true (decide ((l.drop 1).drop (nDg r (l.drop 1)) = ([] : List UInt8))) with hb74 | hb74
     ·
      have hb74' := of_decide_eq_true hb74
      have hb74n : ((l.drop 1).drop (nDg r (l.drop 1))).length = 0 := by rw [hb74']; rfl
      refine seq_do (v := .bool true) hA rfl rfl rfl (d_bin rfl rfl (fun w => (bin_eqlT (a := (l.drop 1).drop (nDg r (l.drop 1))) (b := []) Tryz.underlying9 w).trans (by rw [hb74]; try rfl))) fun a hA => ?_
      refine seq_do (v := .bool true) hA rfl rfl rfl (d_pick rfl rfl rfl rfl) fun a hA => ?_
      refine mv hA rfl rfl rfl fun a hA => ?_
      refine seq_skip hA rfl rfl rfl fun a hA => ?_
      refine seq_skip hA rfl rfl rfl fun a hA => ?_
      refine seq_skip hA rfl rfl rfl fun a hA => ?_
      refine seq_do (v := .bool true) hA rfl rfl rfl (d_pick rfl rfl rfl rfl) fun a hA => ?_
      refine seq_end ?_
      refine hK70 _ _ ?_
      refine wp_cond_true (hA.ev rfl) ?_
      refine wp_seq_k (fun K75 hK75 => ?_)
      refine wp_region_lit ?_
      refine seq_do hA rfl rfl rfl (d_loadS hS RxC_isS_48 rfl 0 rfl (cs := [.int .u8 (((btL l 0 : Nat) : Int)), .string (bsL ((l.drop 1).take (nDg r (l.drop 1)))), .string (bsL [])]) rfl rfl) fun a hA => ?_
      refine mv hA rfl rfl rfl fun a hA => ?_
      refine seq_store (us := [.int .u8 (((btL l 0 : Nat) : Int)), .string (bsL ((l.drop 1).take (nDg r (l.drop 1)))), .string (bsL [])]) hA hS rfl rfl (sets_store rfl rfl rfl (by kernel_rfl) hS 0 rfl rfl rfl) 0 rfl rfl rfl rfl ?_
      intro w76 hS
      refine seq_do hA rfl rfl rfl (d_assign rfl) fun a hA => ?_
      refine seq_end ?_
      refine hK75 _ _ ?_
      refine wp_ret ?_
      refine hret _ _ ?_
      refine ends (v := .tuple #[.agg #[.int .u8 (((btL l 0 : Nat) : Int)), .string (bsL ((l.drop 1).take (nDg r (l.drop 1)))), .string (bsL [])], .string (bsL ((l.drop 1).drop (nDg r (l.drop 1))))]) hA rfl (.cons (res_cell hS RxC_isS_48 rfl 0 rfl (cs := [.int .u8 (((btL l 0 : Nat) : Int)), .string (bsL ((l.drop 1).take (nDg r (l.drop 1)))), .string (bsL [])]) rfl rfl) (.cons (res_tmp rfl) .nil)) rfl ?_
      have hs : signB l = true := by unfold signB; simp; omega
      have hu : unS l = l.drop 1 := by unfold unS; rw [hs]; rfl
      have e1 : sgB l = btL l 0 := by unfold sgB; rw [hs]; try rfl
      have e2 : tpD r l = (l.drop 1).take (nDg r (l.drop 1)) := by unfold tpD; rw [hu]
      have eq : qD r l = (l.drop 1).drop (nDg r (l.drop 1)) := by unfold qD; rw [hu]
      have hsl : slD r l = false := by
       unfold slD; rw [hu, eq]; first | exact sl_no1 (by assumption) | exact sl_no2 (by assumption) | exact sl_no3 (by omega) | exact sl_no4 (by assumption)
      have e3 : boD r l = [] := by unfold boD; rw [hsl]; rfl
      have e4 : reD r l = (l.drop 1).drop (nDg r (l.drop 1)) := by unfold reD; rw [hsl, eq]; rfl
      exact ⟨by rw [e1, e2, e3, e4] <;> try rfl, hS.bel⟩
     ·
      have hb74' := of_decide_eq_false hb74
      have hb74n : ¬ ((l.drop 1).drop (nDg r (l.drop 1))).length = 0 := fun k => hb74' (List.length_eq_zero_iff.1 k)
      refine seq_do (v := .bool false) hA rfl rfl rfl (d_bin rfl rfl (fun w => (bin_eqlT (a := (l.drop 1).drop (nDg r (l.drop 1))) (b := []) Tryz.underlying9 w).trans (by rw [hb74]; try rfl))) fun a hA => ?_
      refine seq_do (v := .bool false) hA rfl rfl rfl (d_pick rfl rfl rfl rfl) fun a hA => ?_
      refine mv hA rfl rfl rfl fun a hA => ?_
      refine mv hA rfl rfl rfl fun a hA => ?_
      refine seq_do (v := .int .u8 (((btL ((l.drop 1).drop (nDg r (l.drop 1))) 0 : Nat) : Int))) hA rfl rfl rfl (d_ixT (s := (l.drop 1).drop (nDg r (l.drop 1))) (i := 0) Tryz.underlying9 rfl rfl (by first | rfl | omega) (by first | omega | (simp only [List.length_drop, List.length_take]; omega))) fun a hA => ?_
      rcases Bool.eq_false_or_eq_true ((((btL ((l.drop 1).drop (nDg r (l.drop 1))) 0 : Nat) : Int) != 47)) with hb77 | hb77
      ·
       have hb77' := bne_iff_ne.1 hb77
       refine seq_do (v := .bool true) hA rfl rfl rfl (d_bin rfl rfl (fun w => (bin_neq w).trans (by rw [hb77]))) fun a hA => ?_
       refine seq_do (v := .bool true) hA rfl rfl rfl (d_pick rfl rfl rfl rfl) fun a hA => ?_
       refine seq_end ?_
       refine hK70 _ _ ?_
       refine wp_cond_true (hA.ev rfl) ?_
       refine wp_seq_k (fun K78 hK78 => ?_)
       refine wp_region_lit ?_
       refine seq_do hA rfl rfl rfl (d_loadS hS RxC_isS_48 rfl 0 rfl (cs := [.int .u8 (((btL l 0 : Nat) : Int)), .string (bsL ((l.drop 1).take (nDg r (l.drop 1)))), .string (bsL [])]) rfl rfl) fun a hA => ?_
       refine mv hA rfl rfl rfl fun a hA => ?_
       refine seq_store (us := [.int .u8 (((btL l 0 : Nat) : Int)), .string (bsL ((l.drop 1).take (nDg r (l.drop 1)))), .string (bsL [])]) hA hS rfl rfl (sets_store rfl rfl rfl (by kernel_rfl) hS 0 rfl rfl rfl) 0 rfl rfl rfl rfl ?_
       intro w79 hS
       refine seq_do hA rfl rfl rfl (d_assign rfl) fun a hA => ?_
       refine seq_end ?_
       refine hK78 _ _ ?_
       refine wp_ret ?_
       refine hret _ _ ?_
       refine ends (v := .tuple #[.agg #[.int .u8 (((btL l 0 : Nat) : Int)), .string (bsL ((l.drop 1).take (nDg r (l.drop 1)))), .string (bsL [])], .string (bsL ((l.drop 1).drop (nDg r (l.drop 1))))]) hA rfl (.cons (res_cell hS RxC_isS_48 rfl 0 rfl (cs := [.int .u8 (((btL l 0 : Nat) : Int)), .string (bsL ((l.drop 1).take (nDg r (l.drop 1)))), .string (bsL [])]) rfl rfl) (.cons (res_tmp rfl) .nil)) rfl ?_
       have hs : signB l = true := by unfold signB; simp; omega
       have hu : unS l = l.drop 1 := by unfold unS; rw [hs]; rfl
       have e1 : sgB l = btL l 0 := by unfold sgB; rw [hs]; try rfl
       have e2 : tpD r l = (l.drop 1).take (nDg r (l.drop 1)) := by unfold tpD; rw [hu]
       have eq : qD r l = (l.drop 1).drop (nDg r (l.drop 1)) := by unfold qD; rw [hu]
       have hsl : slD r l = false := by
        unfold slD; rw [hu, eq]; first | exact sl_no1 (by assumption) | exact sl_no2 (by assumption) | exact sl_no3 (by omega) | exact sl_no4 (by assumption)
       have e3 : boD r l = [] := by unfold boD; rw [hsl]; rfl
       have e4 : reD r l = (l.drop 1).drop (nDg r (l.drop 1)) := by unfold reD; rw [hsl, eq]; rfl
       exact ⟨by rw [e1, e2, e3, e4] <;> try rfl, hS.bel⟩
      ·
       have hb77' := bne_eq_false_iff_eq.1 hb77
       refine seq_do (v := .bool false) hA rfl rfl rfl (d_bin rfl rfl (fun w => (bin_neq w).trans (by rw [hb77]))) fun a hA => ?_
       refine seq_do (v := .bool false) hA rfl rfl rfl (d_pick rfl rfl rfl rfl) fun a hA => ?_
       refine seq_end ?_
       refine hK70 _ _ ?_
       refine wp_cond_false (hA.ev rfl) ?_
       refine wp_skip ?_
       refine hK69 _ _ ?_
       refine wp_seq_k (fun K80 hK80 => ?_)
       refine wp_region_lit ?_
       refine mv hA rfl rfl rfl fun a hA => ?_
       refine seq_do (v := .string (bsL (((l.drop 1).drop (nDg r (l.drop 1))).drop 1))) hA rfl rfl rfl (d_slFrom (p := 1) (s := (l.drop 1).drop (nDg r (l.drop 1))) Tryz.underlying9 rfl rfl (by first | rfl | omega) (by first | omega | (simp only [List.length_drop, List.length_take]; omega))) fun a hA => ?_
       refine mv hA rfl rfl rfl fun a hA => ?_
       refine seq_call hA rfl rfl rfl (enters_func  rfl rfl (fun w => by kernel_rfl)) (cutDigits_any (l := ((l.drop 1).drop (nDg r (l.drop 1))).drop 1) hr (by first | omega | (simp only [List.length_drop, List.length_take]; omega))) ?_
       rintro _ w82 ⟨rfl, hb81⟩
       replace hS := hS.call hb81
       refine ⟨_, rfl, ?_⟩
       intro a hA
       refine mv hA rfl rfl rfl fun a hA => ?_
       refine seq_do (v := .string (bsL ((((l.drop 1).drop (nDg r (l.drop 1))).drop 1).take (nDg r (((l.drop 1).drop (nDg r (l.drop 1))).drop 1))))) hA rfl rfl rfl (d_extract (vs := [.string (bsL ((((l.drop 1).drop (nDg r (l.drop 1))).drop 1).take (nDg r (((l.drop 1).drop (nDg r (l.drop 1))).drop 1)))), .string (bsL ((((l.drop 1).drop (nDg r (l.drop 1))).drop 1).drop (nDg r (((l.drop 1).drop (nDg r (l.drop 1))).drop 1))))]) rfl rfl) fun a hA => ?_
       refine seq_do (v := .string (bsL ((((l.drop 1).drop (nDg r (l.drop 1))).drop 1).drop (nDg r (((l.drop 1).drop (nDg r (l.drop 1))).drop 1))))) hA rfl rfl rfl (d_extract (vs := [.string (bsL ((((l.drop 1).drop (nDg r (l.drop 1))).drop 1).take (nDg r (((l.drop 1).drop (nDg r (l.drop 1))).drop 1)))), .string (bsL ((((l.drop 1).drop (nDg r (l.drop 1))).drop 1).drop (nDg r (((l.drop 1).drop (nDg r (l.drop 1))).drop 1))))]) rfl rfl) fun a hA => ?_
       refine seq_do hA rfl rfl rfl (d_assign rfl) fun a hA => ?_
       refine seq_do hA rfl rfl rfl (d_assign rfl) fun a hA => ?_
       refine seq_end ?_
       refine hK80 _ _ ?_
       refine wp_seq_k (fun K83 hK83 => ?_)
       refine wp_seq_k (fun K84 hK84 => ?_)
       refine wp_region_lit ?_
       refine mv hA rfl rfl rfl fun a hA => ?_
       rcases Bool.eq_false_or_eq_true (decide ((((l.drop 1).drop (nDg r (l.drop 1))).drop 1).take (nDg r (((l.drop 1).drop (nDg r (l.drop 1))).drop 1)) = ([] : List UInt8))) with hb85 | hb85
       ·
        have hb85' := of_decide_eq_true hb85
        have hb85n : ((((l.drop 1).drop (nDg r (l.drop 1))).drop 1).take (nDg r (((l.drop 1).drop (nDg r (l.drop 1))).drop 1))).length = 0 := by rw [hb85']; rfl
        refine seq_do (v := .bool true) hA rfl rfl rfl (d_bin rfl rfl (fun w => (bin_eqlT (a := (((l.drop 1).drop (nDg r (l.drop 1))).drop 1).take (nDg r (((l.drop 1).drop (nDg r (l.drop 1))).drop 1))) (b := []) Tryz.underlying9 w).trans (by rw [hb85]; try rfl))) fun a hA => ?_
        refine seq_end ?_
        refine hK84 _ _ ?_
        refine wp_cond_true (hA.ev rfl) ?_
        refine wp_seq_k (fun K86 hK86 => ?_)
        refine wp_region_lit ?_
        refine seq_do hA rfl rfl rfl (d_loadS hS RxC_isS_48 rfl 0 rfl (cs := [.int .u8 (((btL l 0 : Nat) : Int)), .string (bsL ((l.drop 1).take (nDg r (l.drop 1)))), .string (bsL [])]) rfl rfl) fun a hA => ?_
        refine mv hA rfl rfl rfl fun a hA => ?_
        refine seq_store (us := [.int .u8 (((btL l 0 : Nat) : Int)), .string (bsL ((l.drop 1).take (nDg r (l.drop 1)))), .string (bsL [])]) hA hS rfl rfl (sets_store rfl rfl rfl (by kernel_rfl) hS 0 rfl rfl rfl) 0 rfl rfl rfl rfl ?_
        intro w87 hS
        refine seq_do hA rfl rfl rfl (d_assign rfl) fun a hA => ?_
        refine seq_end ?_
        refine hK86 _ _ ?_
        refine wp_ret ?_
        refine hret _ _ ?_
        refine ends (v := .tuple #[.agg #[.int .u8 (((btL l 0 : Nat) : Int)), .string (bsL ((l.drop 1).take (nDg r (l.drop 1)))), .string (bsL [])], .string (bsL ((l.drop 1).drop (nDg r (l.drop 1))))]) hA rfl (.cons (res_cell hS RxC_isS_48 rfl 0 rfl (cs := [.int .u8 (((btL l 0 : Nat) : Int)), .string (bsL ((l.drop 1).take (nDg r (l.drop 1)))), .string (bsL [])]) rfl rfl) (.cons (res_tmp rfl) .nil)) rfl ?_
        have hs : signB l = true := by unfold signB; simp; omega
        have hu : unS l = l.drop 1 := by unfold unS; rw [hs]; rfl
        have e1 : sgB l = btL l 0 := by unfold sgB; rw [hs]; try rfl
        have e2 : tpD r l = (l.drop 1).take (nDg r (l.drop 1)) := by unfold tpD; rw [hu]
        have eq : qD r l = (l.drop 1).drop (nDg r (l.drop 1)) := by unfold qD; rw [hu]
        have hsl : slD r l = false := by
         unfold slD; rw [hu, eq]; first | exact sl_no1 (by assumption) | exact sl_no2 (by assumption) | exact sl_no3 (by omega) | exact sl_no4 (by assumption)
        have e3 : boD r l = [] := by unfold boD; rw [hsl]; rfl
        have e4 : reD r l = (l.drop 1).drop (nDg r (l.drop 1)) := by unfold reD; rw [hsl, eq]; rfl
        exact ⟨by rw [e1, e2, e3, e4] <;> try rfl, hS.bel⟩
       ·
        have hb85' := of_decide_eq_false hb85
        have hb85n : ¬ ((((l.drop 1).drop (nDg r (l.drop 1))).drop 1).take (nDg r (((l.drop 1).drop (nDg r (l.drop 1))).drop 1))).length = 0 := fun k => hb85' (List.length_eq_zero_iff.1 k)
        refine seq_do (v := .bool false) hA rfl rfl rfl (d_bin rfl rfl (fun w => (bin_eqlT (a := (((l.drop 1).drop (nDg r (l.drop 1))).drop 1).take (nDg r (((l.drop 1).drop (nDg r (l.drop 1))).drop 1))) (b := []) Tryz.underlying9 w).trans (by rw [hb85]; try rfl))) fun a hA => ?_
        refine seq_end ?_
        refine hK84 _ _ ?_
        refine wp_cond_false (hA.ev rfl) ?_
        refine wp_skip ?_
        refine hK83 _ _ ?_
        refine wp_seq_k (fun K88 hK88 => ?_)
        refine wp_region_lit ?_
        refine mv hA rfl rfl rfl fun a hA => ?_
        refine seq_do (v := .pointer (some ⟨g2, 2, none⟩)) hA rfl rfl rfl (d_field RxC_fld_48_2 rfl rfl) fun a hA => ?_
        refine seq_store (us := [.int .u8 (((btL l 0 : Nat) : Int)), .string (bsL ((l.drop 1).take (nDg r (l.drop 1)))), .string (bsL ((((l.drop 1).drop (nDg r (l.drop 1))).drop 1).take (nDg r (((l.drop 1).drop (nDg r (l.drop 1))).drop 1))))]) hA hS rfl rfl (sets_store rfl rfl rfl (by kernel_rfl) hS 0 rfl rfl rfl) 0 rfl rfl rfl rfl ?_
        intro w89 hS
        refine seq_end ?_
        refine hK88 _ _ ?_
        refine wp_seq_k (fun K90 hK90 => ?_)
        refine wp_region_lit ?_
        refine seq_do hA rfl rfl rfl (d_loadS hS RxC_isS_48 rfl 0 rfl (cs := [.int .u8 (((btL l 0 : Nat) : Int)), .string (bsL ((l.drop 1).take (nDg r (l.drop 1)))), .string (bsL ((((l.drop 1).drop (nDg r (l.drop 1))).drop 1).take (nDg r (((l.drop 1).drop (nDg r (l.drop 1))).drop 1))))]) rfl rfl) fun a hA => ?_
        refine mv hA rfl rfl rfl fun a hA => ?_
        refine seq_store (us := [.int .u8 (((btL l 0 : Nat) : Int)), .string (bsL ((l.drop 1).take (nDg r (l.drop 1)))), .string (bsL ((((l.drop 1).drop (nDg r (l.drop 1))).drop 1).take (nDg r (((l.drop 1).drop (nDg r (l.drop 1))).drop 1))))]) hA hS rfl rfl (sets_store rfl rfl rfl (by kernel_rfl) hS 0 rfl rfl rfl) 0 rfl rfl rfl rfl ?_
        intro w91 hS
        refine seq_do hA rfl rfl rfl (d_assign rfl) fun a hA => ?_
        refine seq_end ?_
        refine hK90 _ _ ?_
        refine wp_ret ?_
        refine hret _ _ ?_
        refine ends (v := .tuple #[.agg #[.int .u8 (((btL l 0 : Nat) : Int)), .string (bsL ((l.drop 1).take (nDg r (l.drop 1)))), .string (bsL ((((l.drop 1).drop (nDg r (l.drop 1))).drop 1).take (nDg r (((l.drop 1).drop (nDg r (l.drop 1))).drop 1))))], .string (bsL ((((l.drop 1).drop (nDg r (l.drop 1))).drop 1).drop (nDg r (((l.drop 1).drop (nDg r (l.drop 1))).drop 1))))]) hA rfl (.cons (res_cell hS RxC_isS_48 rfl 0 rfl (cs := [.int .u8 (((btL l 0 : Nat) : Int)), .string (bsL ((l.drop 1).take (nDg r (l.drop 1)))), .string (bsL ((((l.drop 1).drop (nDg r (l.drop 1))).drop 1).take (nDg r (((l.drop 1).drop (nDg r (l.drop 1))).drop 1))))]) rfl rfl) (.cons (res_tmp rfl) .nil)) rfl ?_
        have hs : signB l = true := by unfold signB; simp; omega
        have hu : unS l = l.drop 1 := by unfold unS; rw [hs]; rfl
        have e1 : sgB l = btL l 0 := by unfold sgB; rw [hs]; try rfl
        have e2 : tpD r l = (l.drop 1).take (nDg r (l.drop 1)) := by unfold tpD; rw [hu]
        have eq : qD r l = (l.drop 1).drop (nDg r (l.drop 1)) := by unfold qD; rw [hu]
        have hsl : slD r l = true := by
         unfold slD; rw [hu, eq]; exact sl_yes (by assumption) (by omega) (by assumption)
        have e3 : boD r l = (((l.drop 1).drop (nDg r (l.drop 1))).drop 1).take (nDg r (((l.drop 1).drop (nDg r (l.drop 1))).drop 1)) := by unfold boD; rw [hsl, eq]; rfl
        have e4 : reD r l = (((l.drop 1).drop (nDg r (l.drop 1))).drop 1).drop (nDg r (((l.drop 1).drop (nDg r (l.drop 1))).drop 1)) := by unfold reD; rw [hsl, eq]; rfl
        exact ⟨by rw [e1, e2, e3, e4] <;> try rfl, hS.bel⟩
   ·
    have hb63' := ne_of_beq_false hb63
    refine seq_do (v := .bool false) hA rfl rfl rfl (d_bin rfl rfl (fun w => (bin_eql w).trans (by rw [hb63]))) fun a hA => ?_
    refine seq_do (v := .bool false) hA rfl rfl rfl (d_pick rfl rfl rfl rfl) fun a hA => ?_
    refine seq_do (v := .bool false) hA rfl rfl rfl (d_pick rfl rfl rfl rfl) fun a hA => ?_
    refine seq_end ?_
    refine hK5 _ _ ?_
    refine wp_cond_false (hA.ev rfl) ?_
    refine wp_skip ?_
    refine hK4 _ _ ?_
    refine wp_seq_k (fun K92 hK92 => ?_)
    refine wp_region_lit ?_
    refine mv hA rfl rfl rfl fun a hA => ?_
    refine mv hA rfl rfl rfl fun a hA => ?_
    refine seq_call hA rfl rfl rfl (enters_func  rfl rfl (fun w => by kernel_rfl)) (cutDigits_any (l := l) hr (by first | omega | (simp only [List.length_drop, List.length_take]; omega))) ?_
    rintro _ w94 ⟨rfl, hb93⟩
    replace hS := hS.call hb93
    refine ⟨_, rfl, ?_⟩
    intro a hA
    refine mv hA rfl rfl rfl fun a hA => ?_
    refine seq_do (v := .string (bsL (l.take (nDg r l)))) hA rfl rfl rfl (d_extract (vs := [.string (bsL (l.take (nDg r l))), .string (bsL (l.drop (nDg r l)))]) rfl rfl) fun a hA => ?_
    refine seq_do (v := .string (bsL (l.drop (nDg r l)))) hA rfl rfl rfl (d_extract (vs := [.string (bsL (l.take (nDg r l))), .string (bsL (l.drop (nDg r l)))]) rfl rfl) fun a hA => ?_
    refine seq_do (v := .pointer (some ⟨g2, 1, none⟩)) hA rfl rfl rfl (d_field RxC_fld_48_1 rfl rfl) fun a hA => ?_
    refine seq_store (us := [.int .u8 0, .string (bsL (l.take (nDg r l))), .string (bsL [])]) hA hS rfl rfl (sets_store rfl rfl rfl (by kernel_rfl) hS 0 rfl rfl rfl) 0 rfl rfl rfl rfl ?_
    intro w95 hS
    refine seq_do hA rfl rfl rfl (d_assign rfl) fun a hA => ?_
    refine seq_end ?_
    refine hK92 _ _ ?_
    refine wp_seq_k (fun K96 hK96 => ?_)
    refine wp_seq_k (fun K97 hK97 => ?_)
    refine wp_region_lit ?_
    refine seq_do (v := .pointer (some ⟨g2, 1, none⟩)) hA rfl rfl rfl (d_field RxC_fld_48_1 rfl rfl) fun a hA => ?_
    refine seq_do hA rfl rfl rfl (d_load1 hS RxC_is1_9 rfl 0 rfl rfl) fun a hA => ?_
    rcases Bool.eq_false_or_eq_true (decide (l.take (nDg r l) = ([] : List UInt8))) with hb98 | hb98
    ·
     have hb98' := of_decide_eq_true hb98
     have hb98n : (l.take (nDg r l)).length = 0 := by rw [hb98']; rfl
     refine seq_do (v := .bool true) hA rfl rfl rfl (d_bin rfl rfl (fun w => (bin_eqlT (a := l.take (nDg r l)) (b := []) Tryz.underlying9 w).trans (by rw [hb98]; try rfl))) fun a hA => ?_
     refine mv hA rfl rfl rfl fun a hA => ?_
     refine seq_skip hA rfl rfl rfl fun a hA => ?_
     refine seq_skip hA rfl rfl rfl fun a hA => ?_
     refine seq_do (v := .bool true) hA rfl rfl rfl (d_pick rfl rfl rfl rfl) fun a hA => ?_
     refine mv hA rfl rfl rfl fun a hA => ?_
     refine seq_skip hA rfl rfl rfl fun a hA => ?_
     refine seq_skip hA rfl rfl rfl fun a hA => ?_
     refine seq_skip hA rfl rfl rfl fun a hA => ?_
     refine seq_do (v := .bool true) hA rfl rfl rfl (d_pick rfl rfl rfl rfl) fun a hA => ?_
     refine seq_end ?_
     refine hK97 _ _ ?_
     refine wp_cond_true (hA.ev rfl) ?_
     refine wp_seq_k (fun K99 hK99 => ?_)
     refine wp_region_lit ?_
     refine seq_do hA rfl rfl rfl (d_loadS hS RxC_isS_48 rfl 0 rfl (cs := [.int .u8 0, .string (bsL (l.take (nDg r l))), .string (bsL [])]) rfl rfl) fun a hA => ?_
     refine mv hA rfl rfl rfl fun a hA => ?_
     refine seq_store (us := [.int .u8 0, .string (bsL (l.take (nDg r l))), .string (bsL [])]) hA hS rfl rfl (sets_store rfl rfl rfl (by kernel_rfl) hS 0 rfl rfl rfl) 0 rfl rfl rfl rfl ?_
     intro w100 hS
     refine seq_do hA rfl rfl rfl (d_assign rfl) fun a hA => ?_
     refine seq_end ?_
     refine hK99 _ _ ?_
     refine wp_ret ?_
     refine hret _ _ ?_
     refine ends (v := .tuple #[.agg #[.int .u8 0, .string (bsL (l.take (nDg r l))), .string (bsL [])], .string (bsL (l.drop (nDg r l)))]) hA rfl (.cons (res_cell hS RxC_isS_48 rfl 0 rfl (cs := [.int .u8 0, .string (bsL (l.take (nDg r l))), .string (bsL [])]) rfl rfl) (.cons (res_tmp rfl) .nil)) rfl ?_
     have hs : signB l = false := by unfold signB; first | (simp; omega) | (subst_vars; decide)
     have hu : unS l = l := by unfold unS; rw [hs]; rfl
     have e1 : sgB l = 0 := by unfold sgB; rw [hs]; try rfl
     have e2 : tpD r l = l.take (nDg r l) := by unfold tpD; rw [hu]
     have eq : qD r l = (l).drop (nDg r (l)) := by unfold qD; rw [hu]
     have hsl : slD r l = false := by
      unfold slD; rw [hu, eq]; first | exact sl_no1 (by assumption) | exact sl_no2 (by assumption) | exact sl_no3 (by omega) | exact sl_no4 (by assumption)
     have e3 : boD r l = [] := by unfold boD; rw [hsl]; rfl
     have e4 : reD r l = l.drop (nDg r l) := by unfold reD; rw [hsl, eq]; rfl
     exact ⟨by rw [e1, e2, e3, e4] <;> try rfl, hS.bel⟩
    ·
     have hb98' := of_decide_eq_false hb98
     have hb98n : ¬ (l.take (nDg r l)).length = 0 := fun k => hb98' (List.length_eq_zero_iff.1 k)
     refine seq_do (v := .bool false) hA rfl rfl rfl (d_bin rfl rfl (fun w => (bin_eqlT (a := l.take (nDg r l)) (b := []) Tryz.underlying9 w).trans (by rw [hb98]; try rfl))) fun a hA => ?_
     refine mv hA rfl rfl rfl fun a hA => ?_
     refine mv hA rfl rfl rfl fun a hA => ?_
     rcases Bool.eq_false_or_eq_true (decide (l.drop (nDg r l) = ([] : List UInt8))) with hb101 | hb101
     ·
      have hb101' := of_decide_eq_true hb101
      have hb101n : (l.drop (nDg r l)).length = 0 := by rw [hb101']; rfl
      refine seq_do (v := .bool true) hA rfl rfl rfl (d_bin rfl rfl (fun w => (bin_eqlT (a := l.drop (nDg r l)) (b := []) Tryz.underlying9 w).trans (by rw [hb101]; try rfl))) fun a hA => ?_
      refine seq_do (v := .bool true) hA rfl rfl rfl (d_pick rfl rfl rfl rfl) fun a hA => ?_
      refine mv hA rfl rfl rfl fun a hA => ?_
      refine seq_skip hA rfl rfl rfl fun a hA => ?_
      refine seq_skip hA rfl rfl rfl fun a hA => ?_
      refine seq_skip hA rfl rfl rfl fun a hA => ?_
      refine seq_do (v := .bool true) hA rfl rfl rfl (d_pick rfl rfl rfl rfl) fun a hA => ?_
      refine seq_end ?_
      refine hK97 _ _ ?_
      refine wp_cond_true (hA.ev rfl) ?_
      refine wp_seq_k (fun K102 hK102 => ?_)
      refine wp_region_lit ?_
      refine seq_do hA rfl rfl rfl (d_loadS hS RxC_isS_48 rfl 0 rfl (cs := [.int .u8 0, .string (bsL (l.take (nDg r l))), .string (bsL [])]) rfl rfl) fun a hA => ?_
      refine mv hA rfl rfl rfl fun a hA => ?_
      refine seq_store (us := [.int .u8 0, .string (bsL (l.take (nDg r l))), .string (bsL [])]) hA hS rfl rfl (sets_store rfl rfl rfl (by kernel_rfl) hS 0 rfl rfl rfl) 0 rfl rfl rfl rfl ?_
      intro w103 hS
      refine seq_do hA rfl rfl rfl (d_assign rfl) fun a hA => ?_
      refine seq_end ?_
      refine hK102 _ _ ?_
      refine wp_ret ?_
      refine hret _ _ ?_
      refine ends (v := .tuple #[.agg #[.int .u8 0, .string (bsL (l.take (nDg r l))), .string (bsL [])], .string (bsL (l.drop (nDg r l)))]) hA rfl (.cons (res_cell hS RxC_isS_48 rfl 0 rfl (cs := [.int .u8 0, .string (bsL (l.take (nDg r l))), .string (bsL [])]) rfl rfl) (.cons (res_tmp rfl) .nil)) rfl ?_
      have hs : signB l = false := by unfold signB; first | (simp; omega) | (subst_vars; decide)
      have hu : unS l = l := by unfold unS; rw [hs]; rfl
      have e1 : sgB l = 0 := by unfold sgB; rw [hs]; try rfl
      have e2 : tpD r l = l.take (nDg r l) := by unfold tpD; rw [hu]
      have eq : qD r l = (l).drop (nDg r (l)) := by unfold qD; rw [hu]
      have hsl : slD r l = false := by
       unfold slD; rw [hu, eq]; first | exact sl_no1 (by assumption) | exact sl_no2 (by assumption) | exact sl_no3 (by omega) | exact sl_no4 (by assumption)
      have e3 : boD r l = [] := by unfold boD; rw [hsl]; rfl
      have e4 : reD r l = l.drop (nDg r l) := by unfold reD; rw [hsl, eq]; rfl
      exact ⟨by rw [e1, e2, e3, e4] <;> try rfl, hS.bel⟩
     ·
      have hb101' := of_decide_eq_false hb101
      have hb101n : ¬ (l.drop (nDg r l)).length = 0 := fun k => hb101' (List.length_eq_zero_iff.1 k)
      refine seq_do (v := .bool false) hA rfl rfl rfl (d_bin rfl rfl (fun w => (bin_eqlT (a := l.drop (nDg r l)) (b := []) Tryz.underlying9 w).trans (by rw [hb101]; try rfl))) fun a hA => ?_
      refine seq_do (v := .bool false) hA rfl rfl rfl (d_pick rfl rfl rfl rfl) fun a hA => ?_
      refine mv hA rfl rfl rfl fun a hA => ?_
      refine mv hA rfl rfl rfl fun a hA => ?_
      refine seq_do (v := .int .u8 (((btL (l.drop (nDg r l)) 0 : Nat) : Int))) hA rfl rfl rfl (d_ixT (s := l.drop (nDg r l)) (i := 0) Tryz.underlying9 rfl rfl (by first | rfl | omega) (by first | omega | (simp only [List.length_drop, List.length_take]; omega))) fun a hA => ?_
      rcases Bool.eq_false_or_eq_true ((((btL (l.drop (nDg r l)) 0 : Nat) : Int) != 47)) with hb104 | hb104
      ·
       have hb104' := bne_iff_ne.1 hb104
       refine seq_do (v := .bool true) hA rfl rfl rfl (d_bin rfl rfl (fun w => (bin_neq w).trans (by rw [hb104]))) fun a hA => ?_
       refine seq_do (v := .bool true) hA rfl rfl rfl (d_pick rfl rfl rfl rfl) fun a hA => ?_
       refine seq_end ?_
       refine hK97 _ _ ?_
       refine wp_cond_true (hA.ev rfl) ?_
       refine wp_seq_k (fun K105 hK105 => ?_)
       refine wp_region_lit ?_
       refine seq_do hA rfl rfl rfl (d_loadS hS RxC_isS_48 rfl 0 rfl (cs := [.int .u8 0, .string (bsL (l.take (nDg r l))), .string (bsL [])]) rfl rfl) fun a hA => ?_
       refine mv hA rfl rfl rfl fun a hA => ?_
       refine seq_store (us := [.int .u8 0, .string (bsL (l.take (nDg r l))), .string (bsL [])]) hA hS rfl rfl (sets_store rfl rfl rfl (by kernel_rfl) hS 0 rfl rfl rfl) 0 rfl rfl rfl rfl ?_
       intro w106 hS
       refine seq_do hA rfl rfl rfl (d_assign rfl) fun a hA => ?_
       refine seq_end ?_
       refine hK105 _ _ ?_
       refine wp_ret ?_
       refine hret _ _ ?_
       refine ends (v := .tuple #[.agg #[.int .u8 0, .string (bsL (l.take (nDg r l))), .string (bsL [])], .string (bsL (l.drop (nDg r l)))]) hA rfl (.cons (res_cell hS RxC_isS_48 rfl 0 rfl (cs := [.int .u8 0, .string (bsL (l.take (nDg r l))), .string (bsL [])]) rfl rfl) (.cons (res_tmp rfl) .nil)) rfl ?_
       have hs : signB l = false := by unfold signB; first | (simp; omega) | (subst_vars; decide)
       have hu : unS l = l := by unfold unS; rw [hs]; rfl
       have e1 : sgB l = 0 := by unfold sgB; rw [hs]; try rfl
       have e2 : tpD r l = l.take (nDg r l) := by unfold tpD; rw [hu]
       have eq : qD r l = (l).drop (nDg r (l)) := by unfold qD; rw [hu]
       have hsl : slD r l = false := by
        unfold slD; rw [hu, eq]; first | exact sl_no1 (by assumption) | exact sl_no2 (by assumption) | exact sl_no3 (by omega) | exact sl_no4 (by assumption)
       have e3 : boD r l = [] := by unfold boD; rw [hsl]; rfl
       have e4 : reD r l = l.drop (nDg r l) := by unfold reD; rw [hsl, eq]; rfl
       exact ⟨by rw [e1, e2, e3, e4] <;> try rfl, hS.bel⟩
      ·
       have hb104' := bne_eq_false_iff_eq.1 hb104
       refine seq_do (v := .bool false) hA rfl rfl rfl (d_bin rfl rfl (fun w => (bin_neq w).trans (by rw [hb104]))) fun a hA => ?_
       refine seq_do (v := .bool false) hA rfl rfl rfl (d_pick rfl rfl rfl rfl) fun a hA => ?_
       refine seq_end ?_
       refine hK97 _ _ ?_
       refine wp_cond_false (hA.ev rfl) ?_
       refine wp_skip ?_
       refine hK96 _ _ ?_
       refine wp_seq_k (fun K107 hK107 => ?_)
       refine wp_region_lit ?_
       refine mv hA rfl rfl rfl fun a hA => ?_
       refine seq_do (v := .string (bsL ((l.drop (nDg r l)).drop 1))) hA rfl rfl rfl (d_slFrom (p := 1) (s := l.drop (nDg r l)) Tryz.underlying9 rfl rfl (by first | rfl | omega) (by first | omega | (simp only [List.length_drop, List.length_take]; omega))) fun a hA => ?_
       refine mv hA rfl rfl rfl fun a hA => ?_
       refine seq_call hA rfl rfl rfl (enters_func  rfl rfl (fun w => by kernel_rfl)) (cutDigits_any (l := (l.drop (nDg r l)).drop 1) hr (by first | omega | (simp only [List.length_drop, List.length_take]; omega))) ?_
       rintro _ w109 ⟨rfl, hb108⟩
       replace hS := hS.call hb108
       refine ⟨_, rfl, ?_⟩
       intro a hA
       refine mv hA rfl rfl rfl fun a hA => ?_
       refine seq_do (v := .string (bsL (((l.drop (nDg r l)).drop 1).take (nDg r ((l.drop (nDg r l)).drop 1))))) hA rfl rfl rfl (d_extract (vs := [.string (bsL (((l.drop (nDg r l)).drop 1).take (nDg r ((l.drop (nDg r l)).drop 1)))), .string (bsL (((l.drop (nDg r l)).drop 1).drop (nDg r ((l.drop (nDg r l)).drop 1))))]) rfl rfl) fun a hA => ?_
       refine seq_do (v := .string (bsL (((l.drop (nDg r l)).drop 1).drop (nDg r ((l.drop (nDg r l)).drop 1))))) hA rfl rfl rfl (d_extract (vs := [.string (bsL (((l.drop (nDg r l)).drop 1).take (nDg r ((l.drop (nDg r l)).drop 1)))), .string (bsL (((l.drop (nDg r l)).drop 1).drop (nDg r ((l.drop (nDg r l)).drop 1))))]) rfl rfl) fun a hA => ?_
       refine seq_do hA rfl rfl rfl (d_assign rfl) fun a hA => ?_
       refine seq_do hA rfl rfl rfl (d_assign rfl) fun a hA => ?_
       refine seq_end ?_
       refine hK107 _ _ ?_
       refine wp_seq_k (fun K110 hK110 => ?_)
       refine wp_seq_k (fun K111 hK111 => ?_)
       refine wp_region_lit ?_
       refine mv hA rfl rfl rfl fun a hA => ?_
       rcases Bool.eq_false_or_eq_true (decide (((l.drop (nDg r l)).drop 1).take (nDg r ((l.drop (nDg r l)).drop 1)) = ([] : List UInt8))) with hb112 | hb112
       ·
        have hb112' := of_decide_eq_true hb112
        have hb112n : (((l.drop (nDg r l)).drop 1).take (nDg r ((l.drop (nDg r l)).drop 1))).length = 0 := by rw [hb112']; rfl
        refine seq_do (v := .bool true) hA rfl rfl rfl (d_bin rfl rfl (fun w => (bin_eqlT (a := ((l.drop (nDg r l)).drop 1).take (nDg r ((l.drop (nDg r l)).drop 1))) (b := []) Tryz.underlying9 w).trans (by rw [hb112]; try rfl))) fun a hA => ?_
        refine seq_end ?_
        refine hK111 _ _ ?_
        refine wp_cond_true (hA.ev rfl) ?_
        refine wp_seq_k (fun K113 hK113 => ?_)
        refine wp_region_lit ?_
        refine seq_do hA rfl rfl rfl (d_loadS hS RxC_isS_48 rfl 0 rfl (cs := [.int .u8 0, .string (bsL (l.take (nDg r l))), .string (bsL [])]) rfl rfl) fun a hA => ?_
        refine mv hA rfl rfl rfl fun a hA => ?_
        refine seq_store (us := [.int .u8 0, .string (bsL (l.take (nDg r l))), .string (bsL [])]) hA hS rfl rfl (sets_store rfl rfl rfl (by kernel_rfl) hS 0 rfl rfl rfl) 0 rfl rfl rfl rfl ?_
        intro w114 hS
        refine seq_do hA rfl rfl rfl (d_assign rfl) fun a hA => ?_
        refine seq_end ?_
        refine hK113 _ _ ?_
        refine wp_ret ?_
        refine hret _ _ ?_
        refine ends (v := .tuple #[.agg #[.int .u8 0, .string (bsL (l.take (nDg r l))), .string (bsL [])], .string (bsL (l.drop (nDg r l)))]) hA rfl (.cons (res_cell hS RxC_isS_48 rfl 0 rfl (cs := [.int .u8 0, .string (bsL (l.take (nDg r l))), .string (bsL [])]) rfl rfl) (.cons (res_tmp rfl) .nil)) rfl ?_
        have hs : signB l = false := by unfold signB; first | (simp; omega) | (subst_vars; decide)
        have hu : unS l = l := by unfold unS; rw [hs]; rfl
        have e1 : sgB l = 0 := by unfold sgB; rw [hs]; try rfl
        have e2 : tpD r l = l.take (nDg r l) := by unfold tpD; rw [hu]
        have eq : qD r l = (l).drop (nDg r (l)) := by unfold qD; rw [hu]
        have hsl : slD r l = false := by
         unfold slD; rw [hu, eq]; first | exact sl_no1 (by assumption) | exact sl_no2 (by assumption) | exact sl_no3 (by omega) | exact sl_no4 (by assumption)
        have e3 : boD r l = [] := by unfold boD; rw [hsl]; rfl
        have e4 : reD r l = l.drop (nDg r l) := by unfold reD; rw [hsl, eq]; rfl
        exact ⟨by rw [e1, e2, e3, e4] <;> try rfl, hS.bel⟩
       ·
        have hb112' := of_decide_eq_false hb112
        have hb112n : ¬ (((l.drop (nDg r l)).drop 1).take (nDg r ((l.drop (nDg r l)).drop 1))).length = 0 := fun k => hb112' (List.length_eq_zero_iff.1 k)
        refine seq_do (v := .bool false) hA rfl rfl rfl (d_bin rfl rfl (fun w => (bin_eqlT (a := ((l.drop (nDg r l)).drop 1).take (nDg r ((l.drop (nDg r l)).drop 1))) (b := []) Tryz.underlying9 w).trans (by rw [hb112]; try rfl))) fun a hA => ?_
        refine seq_end ?_
        refine hK111 _ _ ?_
        refine wp_cond_false (hA.ev rfl) ?_
        refine wp_skip ?_
        refine hK110 _ _ ?_
        refine wp_seq_k (fun K115 hK115 => ?_)
        refine wp_region_lit ?_
        refine mv hA rfl rfl rfl fun a hA => ?_
        refine seq_do (v := .pointer (some ⟨g2, 2, none⟩)) hA rfl rfl rfl (d_field RxC_fld_48_2 rfl rfl) fun a hA => ?_
        refine seq_store (us := [.int .u8 0, .string (bsL (l.take (nDg r l))), .string (bsL (((l.drop (nDg r l)).drop 1).take (nDg r ((l.drop (nDg r l)).drop 1))))]) hA hS rfl rfl (sets_store rfl rfl rfl (by kernel_rfl) hS 0 rfl rfl rfl) 0 rfl rfl rfl rfl ?_
        intro w116 hS
        refine seq_end ?_
        refine hK115 _ _ ?_
        refine wp_seq_k (fun K117 hK117 => ?_)
        refine wp_region_lit ?_
        refine seq_do hA rfl rfl rfl (d_loadS hS RxC_isS_48 rfl 0 rfl (cs := [.int .u8 0, .string (bsL (l.take (nDg r l))), .string (bsL (((l.drop (nDg r l)).drop 1).take (nDg r ((l.drop (nDg r l)).drop 1))))]) rfl rfl) fun a hA => ?_
        refine mv hA rfl rfl rfl fun a hA => ?_
        refine seq_store (us := [.int .u8 0, .string (bsL (l.take (nDg r l))), .string (bsL (((l.drop (nDg r l)).drop 1).take (nDg r ((l.drop (nDg r l)).drop 1))))]) hA hS rfl rfl (sets_store rfl rfl rfl (by kernel_rfl) hS 0 rfl rfl rfl) 0 rfl rfl rfl rfl ?_
        intro w118 hS
        refine seq_do hA rfl rfl rfl (d_assign rfl) fun a hA => ?_
        refine seq_end ?_
        refine hK117 _ _ ?_
        refine wp_ret ?_
        refine hret _ _ ?_
        refine ends (v := .tuple #[.agg #[.int .u8 0, .string (bsL (l.take (nDg r l))), .string (bsL (((l.drop (nDg r l)).drop 1).take (nDg r ((l.drop (nDg r l)).drop 1))))], .string (bsL (((l.drop (nDg r l)).drop 1).drop (nDg r ((l.drop (nDg r l)).drop 1))))]) hA rfl (.cons (res_cell hS RxC_isS_48 rfl 0 rfl (cs := [.int .u8 0, .string (bsL (l.take (nDg r l))), .string (bsL (((l.drop (nDg r l)).drop 1).take (nDg r ((l.drop (nDg r l)).drop 1))))]) rfl rfl) (.cons (res_tmp rfl) .nil)) rfl ?_
        have hs : signB l = false := by unfold signB; first | (simp; omega) | (subst_vars; decide)
        have hu : unS l = l := by unfold unS; rw [hs]; rfl
        have e1 : sgB l = 0 := by unfold sgB; rw [hs]; try rfl
        have e2 : tpD r l = l.take (nDg r l) := by unfold tpD; rw [hu]
        have eq : qD r l = (l).drop (nDg r (l)) := by unfold qD; rw [hu]
        have hsl : slD r l = true := by
         unfold slD; rw [hu, eq]; exact sl_yes (by assumption) (by omega) (by assumption)
        have e3 : boD r l = ((l.drop (nDg r l)).drop 1).take (nDg r ((l.drop (nDg r l)).drop 1)) := by unfold boD; rw [hsl, eq]; rfl
        have e4 : reD r l = ((l.drop (nDg r l)).drop 1).drop (nDg r ((l.drop (nDg r l)).drop 1)) := by unfold reD; rw [hsl, eq]; rfl
        exact ⟨by rw [e1, e2, e3, e4] <;> try rfl, hS.bel⟩
end Go.Proofs.YtjmhdebfpnjceaaGreat
