/- Walks of numbers over one bottom. Sound numbers as pairs of rational numbers. Walks of sums, differences, products and quotients. -/
import Derived.Test.YtoafphdjdgaonaaPexactf10a
namespace Go.Proofs.Ytoafphdjdgaonaa
open Go.RowKit
set_option linter.unusedVariables false
set_option linter.unusedSimpArgs false
set_option maxRecDepth 100000
theorem ExJ_is1_22 : Is1 Try.prog 22 := ⟨⟨_, Try.underlying22, rfl⟩, by kernel_rfl⟩
theorem ExJ_fld_26_0 : FieldAt Try.prog 26 0 0 := ⟨_, _, Try.underlying26, rfl, rfl, by kernel_rfl⟩
theorem ExJ_fld_26_1 : FieldAt Try.prog 26 1 3 := ⟨_, _, Try.underlying26, rfl, rfl, by kernel_rfl⟩
theorem ExJ_fld_54_0 : FieldAt Try.prog 54 0 0 := ⟨_, _, Try.underlying54, rfl, rfl, by kernel_rfl⟩
theorem ExJ_fld_54_1 : FieldAt Try.prog 54 1 2 := ⟨_, _, Try.underlying54, rfl, rfl, by kernel_rfl⟩
theorem ExJ_fld_54_2 : FieldAt Try.prog 54 2 4 := ⟨_, _, Try.underlying54, rfl, rfl, by kernel_rfl⟩
theorem ExJ_isS_24 : IsS Try.prog 24 3 := ⟨⟨_, Try.underlying24⟩, by kernel_rfl⟩
theorem ExJ_isS_26 : IsS Try.prog 26 6 := ⟨⟨_, Try.underlying26⟩, by kernel_rfl⟩
theorem ExJ_isS_52 : IsS Try.prog 52 2 := ⟨⟨_, Try.underlying52⟩, by kernel_rfl⟩
theorem ExJ_isS_54 : IsS Try.prog 54 5 := ⟨⟨_, Try.underlying54⟩, by kernel_rfl⟩
theorem fitsB_any {w : World} {b : Bool} {n m : Nat} {o1 o2 : Option Addr} {c1 c2 : Nat} (h1 : Sc w o1 c1 (words n)) (h2 : Sc w o2 c2 (words m)) (l1 : (words n).length ≤ 9223372036854775807) (l2 : (words m).length ≤ 9223372036854775807) {r : Bool} (hr : (decide ((words n).length ≤ 512) && decide ((words m).length ≤ 512)) = r) :
    Calls Try.prog 69 #[.agg #[.bool b, .slice o1 (words n).length c1, .slice o2 (words m).length c2]] w fun e w' => e = .returned (.bool r) ∧ Below w.heap.size w w' := by
  subst hr
  rw [← sound_len, ← sound_len]
  exact fits_any c1 c2 h1.rd h2.rd l1 l2
theorem setQ_pos {x y : Int} {d : Nat} (h1 : (decide ((words (rt x d)).length ≤ 512) && decide ((words (rq x d)).length ≤ 512)) = true) (h2 : (decide ((words (rt y d)).length ≤ 512) && decide ((words (rq y d)).length ≤ 512)) = true) : setQ x y d = (⟨rb x, words (rt x d), words (rq x d), rb y, words (rt y d), words (rq y d)⟩, 0) := by
  simp only [Bool.and_eq_true, decide_eq_true_eq] at h1 h2
  unfold setQ
  rw [if_pos ⟨h1.1, h1.2, h2.1, h2.2⟩]
theorem setQ_neg1 {x y : Int} {d : Nat} (h1 : (decide ((words (rt x d)).length ≤ 512) && decide ((words (rq x d)).length ≤ 512)) = false) : setQ x y d = (Q6.zero, 4) := by
  unfold setQ
  rw [if_neg]
  rintro ⟨a, b, _⟩
  rw [decide_eq_true a, decide_eq_true b] at h1
  cases h1
theorem setQ_neg2 {x y : Int} {d : Nat} (h1 : (decide ((words (rt y d)).length ≤ 512) && decide ((words (rq y d)).length ≤ 512)) = false) : setQ x y d = (Q6.zero, 4) := by
  unfold setQ
  rw [if_neg]
  rintro ⟨_, _, a, b⟩
  rw [decide_eq_true a, decide_eq_true b] at h1
  cases h1
theorem zsettle_any {w : World} {x y : Int} {d : Nat} {a1 a2 a3 : Option Addr} {ac1 ac2 ac3 : Nat} (ha1 : Sc w a1 ac1 (words x.natAbs)) (ha2 : Sc w a2 ac2 (words y.natAbs)) (ha3 : Sc w a3 ac3 (words d)) (l1 : (words x.natAbs).length ≤ 50000) (l2 : (words y.natAbs).length ≤ 50000) (l3 : (words d).length ≤ 50000) (hd : d ≠ 0) : Calls Try.prog 35 #[.agg #[.bool (rb x), .slice a1 (words x.natAbs).length ac1, .bool (rb y), .slice a2 (words y.natAbs).length ac2, .slice a3 (words d).length ac3]] w (AnsN w (setQ x y d)) := by
  have hS : St w w [] [(a3, words d), (a2, words y.natAbs), (a1, words x.natAbs)] [] := (((St.start w).addR ha1.rd).addR ha2.rd).addR ha3.rd
  refine walk_of (l := [(0, .agg #[.bool ((rb x)), .slice a1 ((words x.natAbs).length) ac1, .bool ((rb y)), .slice a2 ((words y.natAbs).length) ac2, .slice a3 ((words d).length) ac3])]) Try.func35 rfl Try.ntmps35 rfl rfl ?_
  intro Q hret hnorm hP a hA
  refine wp_seq_k (fun K1 hK1 => ?_)
  refine wp_region_lit ?_
  refine seq_new (vs := [.bool ((rb x)), .slice a1 ((words x.natAbs).length) ac1, .bool ((rb y)), .slice a2 ((words y.natAbs).length) ac2, .slice a3 ((words d).length) ac3]) (t := 54) hA hS rfl rfl rfl (fun g => .pointer (some ⟨g, 0, none⟩)) (does_box rfl rfl) rfl ?_
  intro g2 w3 hS a hA
  refine seq_new (vs := [.bool false, .slice none 0 0, .slice none 0 0, .bool false, .slice none 0 0, .slice none 0 0]) (t := 26) hA hS rfl rfl rfl (fun g => .pointer (some ⟨g, 0, none⟩)) (does_alloc (z := .agg #[.bool false, .slice none 0 0, .slice none 0 0, .bool false, .slice none 0 0, .slice none 0 0]) (by kernel_rfl) rfl) rfl ?_
  intro g4 w5 hS a hA
  refine seq_do hA rfl rfl rfl (does_assign rfl) ?_
  intro a hA
  refine seq_end ?_
  refine hK1 _ _ ?_
  refine wp_seq_k (fun K6 hK6 => ?_)
  have hJ37 : ∀ a w1, (∃ (J20g : Nat) (J21 : Option Addr) (J22 : Nat) (J23 : Option Addr) (J24 : Nat) (J25 : Option Addr) (J26 : Nat) (J27 : Option Addr) (J28 : Nat), Sl a 28 [(0, .agg #[.bool ((rb x)), .slice a1 ((words x.natAbs).length) ac1, .bool ((rb y)), .slice a2 ((words y.natAbs).length) ac2, .slice a3 ((words d).length) ac3]), (1, .pointer (some ⟨g2, 0, none⟩)), (2, .pointer (some ⟨g4, 0, none⟩)), (3, .int .i64 0), (4, .pointer (some ⟨J20g, 0, none⟩)), (5, .pointer (some ⟨g2, 0, none⟩)), (6, .agg #[.bool ((rb x)), .slice a1 ((words x.natAbs).length) ac1]), (7, .pointer (some ⟨g2, 4, none⟩)), (8, .slice a3 ((words d).length) ac3), (9, .agg #[.bool ((rb x)), .slice J21 ((words (rt x d)).length) J22, .slice J23 ((words (rq x d)).length) J24]), (10, .pointer (some ⟨g2, 2, none⟩)), (11, .agg #[.bool ((rb y)), .slice a2 ((words y.natAbs).length) ac2]), (12, .pointer (some ⟨g2, 4, none⟩)), (13, .slice a3 ((words d).length) ac3), (14, .agg #[.bool ((rb y)), .slice J25 ((words (rt y d)).length) J26, .slice J27 ((words (rq y d)).length) J28]), (15, .agg #[.bool ((rb x)), .slice J21 ((words (rt x d)).length) J22, .slice J23 ((words (rq x d)).length) J24, .bool ((rb y)), .slice J25 ((words (rt y d)).length) J26, .slice J27 ((words (rq y d)).length) J28])] ∧ St w w1 [(J20g, [.bool ((rb x)), .slice J21 ((words (rt x d)).length) J22, .slice J23 ((words (rq x d)).length) J24, .bool ((rb y)), .slice J25 ((words (rt y d)).length) J26, .slice J27 ((words (rq y d)).length) J28]), (g4, [.bool false, .slice none 0 0, .slice none 0 0, .bool false, .slice none 0 0, .slice none 0 0]), (g2, [.bool ((rb x)), .slice a1 ((words x.natAbs).length) ac1, .bool ((rb y)), .slice a2 ((words y.natAbs).length) ac2, .slice a3 ((words d).length) ac3])] [(J27, words (rq y d)), (J25, words (rt y d)), (J23, words (rq x d)), (J21, words (rt x d)), (a3, words d), (a2, words y.natAbs), (a1, words x.natAbs)] [] ∧ (J27 = none → J28 = 0) ∧ (words (rq y d) : List Nat).length ≤ J28 ∧ (J25 = none → J26 = 0) ∧ (words (rt y d) : List Nat).length ≤ J26 ∧ (J23 = none → J24 = 0) ∧ (words (rq x d) : List Nat).length ≤ J24 ∧ (J21 = none → J22 = 0) ∧ (words (rt x d) : List Nat).length ≤ J22) → K6 a w1 := by
    clear hA hS
    rintro a w38 ⟨J20g, J21, J22, J23, J24, J25, J26, J27, J28, hA, hS, hn29, hc30, hn31, hc32, hn33, hc34, hn35, hc36⟩
    refine hK6 _ _ ?_
    refine wp_seq_k (fun K39 hK39 => ?_)
    refine wp_seq_k (fun K40 hK40 => ?_)
    refine wp_region_lit ?_
    refine seq_do (v := .pointer (some ⟨J20g, 0, none⟩)) hA rfl rfl rfl (does_field ExJ_fld_26_0 rfl rfl) ?_
    intro a hA
    refine seq_do (v := .agg #[.bool ((rb x)), .slice J21 ((words (rt x d)).length) J22, .slice J23 ((words (rq x d)).length) J24]) hA rfl rfl rfl (does_loadS hS ExJ_isS_24 rfl 0 rfl (cs := [.bool ((rb x)), .slice J21 ((words (rt x d)).length) J22, .slice J23 ((words (rq x d)).length) J24]) rfl rfl) ?_
    intro a hA
    rcases Bool.eq_false_or_eq_true ((decide ((words (rt x d)).length ≤ 512) && decide ((words (rq x d)).length ≤ 512))) with hb41 | hb41
    · refine seq_call hA rfl rfl rfl (enters_func  rfl rfl (fun w => by kernel_rfl)) (fitsB_any ⟨(hS.rd 3 rfl), hn35, hc36⟩ ⟨(hS.rd 2 rfl), hn33, hc34⟩ (by have h9 := div_len (g := Nat.gcd x.natAbs d) l1; unfold rt; omega) (by have h9 := div_len (g := Nat.gcd x.natAbs d) l3; unfold rq; omega) hb41) ?_
      rintro _ w43 ⟨rfl, hb42⟩
      replace hS := hS.call hb42
      refine ⟨_, rfl, ?_⟩
      intro a hA
      refine seq_do (v := .bool false) hA rfl rfl rfl (does_un rfl un_not) ?_
      intro a hA
      refine seq_do hA rfl rfl rfl (does_move rfl) ?_
      intro a hA
      refine seq_do (v := .pointer (some ⟨J20g, 3, none⟩)) hA rfl rfl rfl (does_field ExJ_fld_26_1 rfl rfl) ?_
      intro a hA
      refine seq_do (v := .agg #[.bool ((rb y)), .slice J25 ((words (rt y d)).length) J26, .slice J27 ((words (rq y d)).length) J28]) hA rfl rfl rfl (does_loadS hS ExJ_isS_24 rfl 0 rfl (cs := [.bool ((rb y)), .slice J25 ((words (rt y d)).length) J26, .slice J27 ((words (rq y d)).length) J28]) rfl rfl) ?_
      intro a hA
      rcases Bool.eq_false_or_eq_true ((decide ((words (rt y d)).length ≤ 512) && decide ((words (rq y d)).length ≤ 512))) with hb44 | hb44
      · refine seq_call hA rfl rfl rfl (enters_func  rfl rfl (fun w => by kernel_rfl)) (fitsB_any ⟨(hS.rd 1 rfl), hn31, hc32⟩ ⟨(hS.rd 0 rfl), hn29, hc30⟩ (by have h9 := div_len (g := Nat.gcd y.natAbs d) l2; unfold rt; omega) (by have h9 := div_len (g := Nat.gcd y.natAbs d) l3; unfold rq; omega) hb44) ?_
        rintro _ w46 ⟨rfl, hb45⟩
        replace hS := hS.call hb45
        refine ⟨_, rfl, ?_⟩
        intro a hA
        refine seq_do (v := .bool false) hA rfl rfl rfl (does_un rfl un_not) ?_
        intro a hA
        refine seq_do (v := .bool false) hA rfl rfl rfl (does_pick rfl rfl rfl rfl) ?_
        intro a hA
        refine seq_end ?_
        refine hK40 _ _ ?_
        refine wp_cond_false (hA.ev rfl) ?_
        refine wp_skip ?_
        refine hK39 _ _ ?_
        refine wp_seq_k (fun K47 hK47 => ?_)
        refine wp_region_lit ?_
        refine seq_do (v := .agg #[.bool ((rb x)), .slice J21 ((words (rt x d)).length) J22, .slice J23 ((words (rq x d)).length) J24, .bool ((rb y)), .slice J25 ((words (rt y d)).length) J26, .slice J27 ((words (rq y d)).length) J28]) hA rfl rfl rfl (does_loadS hS ExJ_isS_26 rfl 0 rfl (cs := [.bool ((rb x)), .slice J21 ((words (rt x d)).length) J22, .slice J23 ((words (rq x d)).length) J24, .bool ((rb y)), .slice J25 ((words (rt y d)).length) J26, .slice J27 ((words (rq y d)).length) J28]) rfl rfl) ?_
        intro a hA
        refine seq_store (us := [.bool ((rb x)), .slice J21 ((words (rt x d)).length) J22, .slice J23 ((words (rq x d)).length) J24, .bool ((rb y)), .slice J25 ((words (rt y d)).length) J26, .slice J27 ((words (rq y d)).length) J28]) hA hS rfl rfl (sets_store (cs := [.bool ((rb x)), .slice J21 ((words (rt x d)).length) J22, .slice J23 ((words (rq x d)).length) J24, .bool ((rb y)), .slice J25 ((words (rt y d)).length) J26, .slice J27 ((words (rq y d)).length) J28]) rfl rfl rfl (by kernel_rfl) hS 1 rfl rfl rfl) 1 rfl rfl rfl rfl ?_
        intro w48 hS
        refine seq_do hA rfl rfl rfl (does_assign rfl) ?_
        intro a hA
        refine seq_end ?_
        refine hK47 _ _ ?_
        refine wp_ret ?_
        refine hret _ _ ?_
        refine ends (v := .tuple #[.agg #[.bool ((rb x)), .slice J21 ((words (rt x d)).length) J22, .slice J23 ((words (rq x d)).length) J24, .bool ((rb y)), .slice J25 ((words (rt y d)).length) J26, .slice J27 ((words (rq y d)).length) J28], .int .i64 0]) hA rfl (.cons (res_cell hS ExJ_isS_26 rfl 1 rfl (cs := [.bool ((rb x)), .slice J21 ((words (rt x d)).length) J22, .slice J23 ((words (rq x d)).length) J24, .bool ((rb y)), .slice J25 ((words (rt y d)).length) J26, .slice J27 ((words (rq y d)).length) J28]) rfl rfl) (.cons (res_tmp rfl) .nil)) rfl ?_
        rw [setQ_pos hb41 hb44]
        exact ⟨J21, J22, J23, J24, J25, J26, J27, J28, rfl, ⟨⟨(hS.rd 3 rfl), hn35, hc36⟩, ⟨(hS.rd 2 rfl), hn33, hc34⟩, ⟨(hS.rd 1 rfl), hn31, hc32⟩, ⟨(hS.rd 0 rfl), hn29, hc30⟩⟩, hS.bel⟩
      · refine seq_call hA rfl rfl rfl (enters_func  rfl rfl (fun w => by kernel_rfl)) (fitsB_any ⟨(hS.rd 1 rfl), hn31, hc32⟩ ⟨(hS.rd 0 rfl), hn29, hc30⟩ (by have h9 := div_len (g := Nat.gcd y.natAbs d) l2; unfold rt; omega) (by have h9 := div_len (g := Nat.gcd y.natAbs d) l3; unfold rq; omega) hb44) ?_
        rintro _ w50 ⟨rfl, hb49⟩
        replace hS := hS.call hb49
        refine ⟨_, rfl, ?_⟩
        intro a hA
        refine seq_do (v := .bool true) hA rfl rfl rfl (does_un rfl un_not) ?_
        intro a hA
        refine seq_do (v := .bool true) hA rfl rfl rfl (does_pick rfl rfl rfl rfl) ?_
        intro a hA
        refine seq_end ?_
        refine hK40 _ _ ?_
        refine wp_cond_true (hA.ev rfl) ?_
        refine wp_seq_k (fun K51 hK51 => ?_)
        refine wp_region_lit ?_
        refine seq_do (v := .agg #[.bool false, .slice none 0 0, .slice none 0 0, .bool false, .slice none 0 0, .slice none 0 0]) hA rfl rfl rfl (does_build rfl (fun w => by kernel_rfl)) ?_
        intro a hA
        refine seq_store (us := [.bool false, .slice none 0 0, .slice none 0 0, .bool false, .slice none 0 0, .slice none 0 0]) hA hS rfl rfl (sets_store (cs := [.bool false, .slice none 0 0, .slice none 0 0, .bool false, .slice none 0 0, .slice none 0 0]) rfl rfl rfl (by kernel_rfl) hS 1 rfl rfl rfl) 1 rfl rfl rfl rfl ?_
        intro w52 hS
        refine seq_do hA rfl rfl rfl (does_assign rfl) ?_
        intro a hA
        refine seq_end ?_
        refine hK51 _ _ ?_
        refine wp_ret ?_
        refine hret _ _ ?_
        refine ends (v := .tuple #[.agg #[.bool false, .slice none 0 0, .slice none 0 0, .bool false, .slice none 0 0, .slice none 0 0], .int .i64 4]) hA rfl (.cons (res_cell hS ExJ_isS_26 rfl 1 rfl (cs := [.bool false, .slice none 0 0, .slice none 0 0, .bool false, .slice none 0 0, .slice none 0 0]) rfl rfl) (.cons (res_tmp rfl) .nil)) rfl ?_
        rw [setQ_neg2 hb44]
        exact ⟨none, 0, none, 0, none, 0, none, 0, rfl, ⟨(Sc.none _), (Sc.none _), (Sc.none _), (Sc.none _)⟩, hS.bel⟩
    · refine seq_call hA rfl rfl rfl (enters_func  rfl rfl (fun w => by kernel_rfl)) (fitsB_any ⟨(hS.rd 3 rfl), hn35, hc36⟩ ⟨(hS.rd 2 rfl), hn33, hc34⟩ (by have h9 := div_len (g := Nat.gcd x.natAbs d) l1; unfold rt; omega) (by have h9 := div_len (g := Nat.gcd x.natAbs d) l3; unfold rq; omega) hb41) ?_
      rintro _ w54 ⟨rfl, hb53⟩
      replace hS := hS.call hb53
      refine ⟨_, rfl, ?_⟩
      intro a hA
      refine seq_do (v := .bool true) hA rfl rfl rfl (does_un rfl un_not) ?_
      intro a hA
      refine seq_do hA rfl rfl rfl (does_move rfl) ?_
      intro a hA
      refine seq_skip hA rfl rfl rfl ?_
      intro a hA
      refine seq_skip hA rfl rfl rfl ?_
      intro a hA
      refine seq_skip hA rfl rfl rfl ?_
      intro a hA
      refine seq_skip hA rfl rfl rfl ?_
      intro a hA
      refine seq_do (v := .bool true) hA rfl rfl rfl (does_pick rfl rfl rfl rfl) ?_
      intro a hA
      refine seq_end ?_
      refine hK40 _ _ ?_
      refine wp_cond_true (hA.ev rfl) ?_
      refine wp_seq_k (fun K55 hK55 => ?_)
      refine wp_region_lit ?_
      refine seq_do (v := .agg #[.bool false, .slice none 0 0, .slice none 0 0, .bool false, .slice none 0 0, .slice none 0 0]) hA rfl rfl rfl (does_build rfl (fun w => by kernel_rfl)) ?_
      intro a hA
      refine seq_store (us := [.bool false, .slice none 0 0, .slice none 0 0, .bool false, .slice none 0 0, .slice none 0 0]) hA hS rfl rfl (sets_store (cs := [.bool false, .slice none 0 0, .slice none 0 0, .bool false, .slice none 0 0, .slice none 0 0]) rfl rfl rfl (by kernel_rfl) hS 1 rfl rfl rfl) 1 rfl rfl rfl rfl ?_
      intro w56 hS
      refine seq_do hA rfl rfl rfl (does_assign rfl) ?_
      intro a hA
      refine seq_end ?_
      refine hK55 _ _ ?_
      refine wp_ret ?_
      refine hret _ _ ?_
      refine ends (v := .tuple #[.agg #[.bool false, .slice none 0 0, .slice none 0 0, .bool false, .slice none 0 0, .slice none 0 0], .int .i64 4]) hA rfl (.cons (res_cell hS ExJ_isS_26 rfl 1 rfl (cs := [.bool false, .slice none 0 0, .slice none 0 0, .bool false, .slice none 0 0, .slice none 0 0]) rfl rfl) (.cons (res_tmp rfl) .nil)) rfl ?_
      rw [setQ_neg1 hb41]
      exact ⟨none, 0, none, 0, none, 0, none, 0, rfl, ⟨(Sc.none _), (Sc.none _), (Sc.none _), (Sc.none _)⟩, hS.bel⟩
  refine wp_draw (S := fun w1 => St w w1 [(g4, [.bool false, .slice none 0 0, .slice none 0 0, .bool false, .slice none 0 0, .slice none 0 0]), (g2, [.bool ((rb x)), .slice a1 ((words x.natAbs).length) ac1, .bool ((rb y)), .slice a2 ((words y.natAbs).length) ac2, .slice a3 ((words d).length) ac3])] [(a3, words d), (a2, words y.natAbs), (a1, words x.natAbs)] []) (by kernel_rfl) ?_
  replace hS := hS.drew
  refine any_take (v := .pointer (some ⟨g2, 0, none⟩)) hA 0 rfl rfl rfl rfl (by kernel_rfl) (by kernel_rfl) (by kernel_rfl) (fun c a w h => hP c a _ _ w h) (hS.part (.cons_cons _ (.cons_cons _ .slnil)) ⟨⟨0, rfl⟩, ⟨⟨1, rfl⟩, ⟨⟨2, rfl⟩, trivial⟩⟩⟩ .slnil) (fun w1 hS => does_field ExJ_fld_54_0 rfl rfl) ?_
  intro a hA
  refine any_take (v := .agg #[.bool ((rb x)), .slice a1 ((words x.natAbs).length) ac1]) hA 1 rfl rfl rfl rfl (by kernel_rfl) (by kernel_rfl) (by kernel_rfl) (fun c a w h => hP c a _ _ w h) (hS.part (.cons_cons _ (.cons_cons _ .slnil)) ⟨⟨0, rfl⟩, ⟨⟨1, rfl⟩, ⟨⟨2, rfl⟩, trivial⟩⟩⟩ .slnil) (fun w1 hS => does_loadS hS ExJ_isS_52 rfl 1 rfl (cs := [.bool ((rb x)), .slice a1 ((words x.natAbs).length) ac1]) rfl rfl) ?_
  intro a hA
  refine any_take (v := .pointer (some ⟨g2, 4, none⟩)) hA 2 rfl rfl rfl rfl (by kernel_rfl) (by kernel_rfl) (by kernel_rfl) (fun c a w h => hP c a _ _ w h) (hS.part (.cons_cons _ (.cons_cons _ .slnil)) ⟨⟨0, rfl⟩, ⟨⟨1, rfl⟩, ⟨⟨2, rfl⟩, trivial⟩⟩⟩ .slnil) (fun w1 hS => does_field ExJ_fld_54_2 rfl rfl) ?_
  intro a hA
  refine any_take hA 3 rfl rfl rfl rfl (by kernel_rfl) (by kernel_rfl) (by kernel_rfl) (fun c a w h => hP c a _ _ w h) (hS.part (.cons_cons _ (.cons_cons _ .slnil)) ⟨⟨0, rfl⟩, ⟨⟨1, rfl⟩, ⟨⟨2, rfl⟩, trivial⟩⟩⟩ .slnil) (fun w1 hS => does_load1 hS ExJ_is1_22 rfl 1 rfl rfl) ?_
  intro a hA
  refine any_take (v := .pointer (some ⟨g2, 2, none⟩)) hA 5 rfl rfl rfl rfl (by kernel_rfl) (by kernel_rfl) (by kernel_rfl) (fun c a w h => hP c a _ _ w h) (hS.part (.cons_cons _ (.cons_cons _ .slnil)) ⟨⟨0, rfl⟩, ⟨⟨1, rfl⟩, ⟨⟨2, rfl⟩, trivial⟩⟩⟩ .slnil) (fun w1 hS => does_field ExJ_fld_54_1 rfl rfl) ?_
  intro a hA
  refine any_take (v := .agg #[.bool ((rb y)), .slice a2 ((words y.natAbs).length) ac2]) hA 6 rfl rfl rfl rfl (by kernel_rfl) (by kernel_rfl) (by kernel_rfl) (fun c a w h => hP c a _ _ w h) (hS.part (.cons_cons _ (.cons_cons _ .slnil)) ⟨⟨0, rfl⟩, ⟨⟨1, rfl⟩, ⟨⟨2, rfl⟩, trivial⟩⟩⟩ .slnil) (fun w1 hS => does_loadS hS ExJ_isS_52 rfl 1 rfl (cs := [.bool ((rb y)), .slice a2 ((words y.natAbs).length) ac2]) rfl rfl) ?_
  intro a hA
  refine any_take (v := .pointer (some ⟨g2, 4, none⟩)) hA 7 rfl rfl rfl rfl (by kernel_rfl) (by kernel_rfl) (by kernel_rfl) (fun c a w h => hP c a _ _ w h) (hS.part (.cons_cons _ (.cons_cons _ .slnil)) ⟨⟨0, rfl⟩, ⟨⟨1, rfl⟩, ⟨⟨2, rfl⟩, trivial⟩⟩⟩ .slnil) (fun w1 hS => does_field ExJ_fld_54_2 rfl rfl) ?_
  intro a hA
  refine any_take hA 8 rfl rfl rfl rfl (by kernel_rfl) (by kernel_rfl) (by kernel_rfl) (fun c a w h => hP c a _ _ w h) (hS.part (.cons_cons _ (.cons_cons _ .slnil)) ⟨⟨0, rfl⟩, ⟨⟨1, rfl⟩, ⟨⟨2, rfl⟩, trivial⟩⟩⟩ .slnil) (fun w1 hS => does_load1 hS ExJ_is1_22 rfl 1 rfl rfl) ?_
  intro a hA
  refine any_many (rs := [4, 11]) (by kernel_rfl) (by simp) ⟨?_, ?_, trivial⟩
  · refine op_call hA 4 rfl rfl rfl rfl (enters_func  rfl rfl (fun w => by kernel_rfl)) (zlowest_any ⟨(hS.rd 2 rfl), ha1.nil, ha1.cap⟩ ⟨(hS.rd 0 rfl), ha3.nil, ha3.cap⟩ l1 l3 hd) ?_
    rintro _ w61 ⟨f57_1, f57_c1, f57_2, f57_c2, rfl, hs58, hs59, hb60⟩
    replace hS := hS.call hb60
    replace hS := hS.addR hs58.rd
    replace hS := hS.addR hs59.rd
    refine ⟨_, rfl, (hS.part (.cons_cons _ (.cons_cons _ .slnil)) ⟨⟨2, rfl⟩, ⟨⟨3, rfl⟩, ⟨⟨4, rfl⟩, trivial⟩⟩⟩ .slnil), ?_⟩
    intro a hA
    refine any_many (rs := [9, 11]) (by kernel_rfl) (by simp) ⟨?_, ?_, trivial⟩
    · refine op_call hA 9 rfl rfl rfl rfl (enters_func  rfl rfl (fun w => by kernel_rfl)) (zlowest_any ⟨(hS.rd 3 rfl), ha2.nil, ha2.cap⟩ ⟨(hS.rd 2 rfl), ha3.nil, ha3.cap⟩ l2 l3 hd) ?_
      rintro _ w66 ⟨f62_1, f62_c1, f62_2, f62_c2, rfl, hs63, hs64, hb65⟩
      replace hS := hS.call hb65
      replace hS := hS.addR hs63.rd
      replace hS := hS.addR hs64.rd
      refine ⟨_, rfl, (hS.part (.cons_cons _ (.cons_cons _ .slnil)) ⟨⟨4, rfl⟩, ⟨⟨5, rfl⟩, ⟨⟨6, rfl⟩, trivial⟩⟩⟩ .slnil), ?_⟩
      intro a hA
      refine any_take (v := .agg #[.bool ((rb x)), .slice f57_1 ((words (rt x d)).length) f57_c1, .slice f57_2 ((words (rq x d)).length) f57_c2, .bool ((rb y)), .slice f62_1 ((words (rt y d)).length) f62_c1, .slice f62_2 ((words (rq y d)).length) f62_c2]) hA 10 rfl rfl rfl rfl (by kernel_rfl) (by kernel_rfl) (by kernel_rfl) (fun c a w h => hP c a _ _ w h) (hS.part (.cons_cons _ (.cons_cons _ .slnil)) ⟨⟨4, rfl⟩, ⟨⟨5, rfl⟩, ⟨⟨6, rfl⟩, trivial⟩⟩⟩ .slnil) (fun w1 hS => does_build rfl (fun w => by kernel_rfl)) ?_
      intro a hA
      refine any_one (by kernel_rfl) (op_new (vs := [.bool false, .slice none 0 0, .slice none 0 0, .bool false, .slice none 0 0, .slice none 0 0]) (t := 26) hA hS 11 rfl rfl rfl rfl (fun g => .pointer (some ⟨g, 0, none⟩)) (does_alloc (z := .agg #[.bool false, .slice none 0 0, .slice none 0 0, .bool false, .slice none 0 0, .slice none 0 0]) (by kernel_rfl) rfl) rfl ?_)
      intro g67 w68 hS
      refine ⟨(hS.part (.cons _ (.cons_cons _ (.cons_cons _ .slnil))) ⟨⟨4, rfl⟩, ⟨⟨5, rfl⟩, ⟨⟨6, rfl⟩, trivial⟩⟩⟩ .slnil), ?_⟩
      intro a hA
      refine any_one (by kernel_rfl) (op_store (us := [.bool ((rb x)), .slice f57_1 ((words (rt x d)).length) f57_c1, .slice f57_2 ((words (rq x d)).length) f57_c2, .bool ((rb y)), .slice f62_1 ((words (rt y d)).length) f62_c1, .slice f62_2 ((words (rq y d)).length) f62_c2]) hA hS 12 rfl rfl rfl (sets_store (cs := [.bool ((rb x)), .slice f57_1 ((words (rt x d)).length) f57_c1, .slice f57_2 ((words (rq x d)).length) f57_c2, .bool ((rb y)), .slice f62_1 ((words (rt y d)).length) f62_c1, .slice f62_2 ((words (rq y d)).length) f62_c2]) rfl rfl rfl (by kernel_rfl) hS 0 rfl rfl rfl) 0 rfl rfl rfl rfl ?_)
      intro w69 hS
      refine ⟨(hS.part (.cons _ (.cons_cons _ (.cons_cons _ .slnil))) ⟨⟨4, rfl⟩, ⟨⟨5, rfl⟩, ⟨⟨6, rfl⟩, trivial⟩⟩⟩ .slnil), ?_⟩
      refine any_end (by kernel_rfl) ?_
      refine hJ37 _ _ ⟨g67, f57_1, f57_c1, f57_2, f57_c2, f62_1, f62_c1, f62_2, f62_c2, hA.keep _ ⟨rfl, rfl, rfl, rfl, rfl, rfl, rfl, rfl, rfl, rfl, rfl, rfl, rfl, rfl, rfl, rfl, trivial⟩, ((hS.pickR [(f62_2, words (rq y d)), (f62_1, words (rt y d)), (f57_2, words (rq x d)), (f57_1, words (rt x d)), (a3, words d), (a2, words y.natAbs), (a1, words x.natAbs)] ⟨⟨0, rfl⟩, ⟨⟨1, rfl⟩, ⟨⟨2, rfl⟩, ⟨⟨3, rfl⟩, ⟨⟨4, rfl⟩, ⟨⟨5, rfl⟩, ⟨⟨6, rfl⟩, trivial⟩⟩⟩⟩⟩⟩⟩).pickL [(g67, [.bool ((rb x)), .slice f57_1 ((words (rt x d)).length) f57_c1, .slice f57_2 ((words (rq x d)).length) f57_c2, .bool ((rb y)), .slice f62_1 ((words (rt y d)).length) f62_c1, .slice f62_2 ((words (rq y d)).length) f62_c2]), (g4, [.bool false, .slice none 0 0, .slice none 0 0, .bool false, .slice none 0 0, .slice none 0 0]), (g2, [.bool ((rb x)), .slice a1 ((words x.natAbs).length) ac1, .bool ((rb y)), .slice a2 ((words y.natAbs).length) ac2, .slice a3 ((words d).length) ac3])] [0, 1, 2] rfl (by decide)), hs64.nil, hs64.cap, hs63.nil, hs63.cap, hs59.nil, hs59.cap, hs58.nil, hs58.cap⟩
    · refine op_new (vs := [.bool false, .slice none 0 0, .slice none 0 0, .bool false, .slice none 0 0, .slice none 0 0]) (t := 26) hA hS 11 rfl rfl rfl rfl (fun g => .pointer (some ⟨g, 0, none⟩)) (does_alloc (z := .agg #[.bool false, .slice none 0 0, .slice none 0 0, .bool false, .slice none 0 0, .slice none 0 0]) (by kernel_rfl) rfl) rfl ?_
      intro g70 w71 hS
      refine ⟨(hS.part (.cons _ (.cons_cons _ (.cons_cons _ .slnil))) ⟨⟨2, rfl⟩, ⟨⟨3, rfl⟩, ⟨⟨4, rfl⟩, trivial⟩⟩⟩ .slnil), ?_⟩
      intro a hA
      refine any_one (by kernel_rfl) (op_call hA 9 rfl rfl rfl rfl (enters_func  rfl rfl (fun w => by kernel_rfl)) (zlowest_any ⟨(hS.rd 3 rfl), ha2.nil, ha2.cap⟩ ⟨(hS.rd 2 rfl), ha3.nil, ha3.cap⟩ l2 l3 hd) ?_)
      rintro _ w76 ⟨f72_1, f72_c1, f72_2, f72_c2, rfl, hs73, hs74, hb75⟩
      replace hS := hS.call hb75
      replace hS := hS.addR hs73.rd
      replace hS := hS.addR hs74.rd
      refine ⟨_, rfl, (hS.part (.cons _ (.cons_cons _ (.cons_cons _ .slnil))) ⟨⟨4, rfl⟩, ⟨⟨5, rfl⟩, ⟨⟨6, rfl⟩, trivial⟩⟩⟩ .slnil), ?_⟩
      intro a hA
      refine any_take (v := .agg #[.bool ((rb x)), .slice f57_1 ((words (rt x d)).length) f57_c1, .slice f57_2 ((words (rq x d)).length) f57_c2, .bool ((rb y)), .slice f72_1 ((words (rt y d)).length) f72_c1, .slice f72_2 ((words (rq y d)).length) f72_c2]) hA 10 rfl rfl rfl rfl (by kernel_rfl) (by kernel_rfl) (by kernel_rfl) (fun c a w h => hP c a _ _ w h) (hS.part (.cons _ (.cons_cons _ (.cons_cons _ .slnil))) ⟨⟨4, rfl⟩, ⟨⟨5, rfl⟩, ⟨⟨6, rfl⟩, trivial⟩⟩⟩ .slnil) (fun w1 hS => does_build rfl (fun w => by kernel_rfl)) ?_
      intro a hA
      refine any_one (by kernel_rfl) (op_store (us := [.bool ((rb x)), .slice f57_1 ((words (rt x d)).length) f57_c1, .slice f57_2 ((words (rq x d)).length) f57_c2, .bool ((rb y)), .slice f72_1 ((words (rt y d)).length) f72_c1, .slice f72_2 ((words (rq y d)).length) f72_c2]) hA hS 12 rfl rfl rfl (sets_store (cs := [.bool ((rb x)), .slice f57_1 ((words (rt x d)).length) f57_c1, .slice f57_2 ((words (rq x d)).length) f57_c2, .bool ((rb y)), .slice f72_1 ((words (rt y d)).length) f72_c1, .slice f72_2 ((words (rq y d)).length) f72_c2]) rfl rfl rfl (by kernel_rfl) hS 0 rfl rfl rfl) 0 rfl rfl rfl rfl ?_)
      intro w77 hS
      refine ⟨(hS.part (.cons _ (.cons_cons _ (.cons_cons _ .slnil))) ⟨⟨4, rfl⟩, ⟨⟨5, rfl⟩, ⟨⟨6, rfl⟩, trivial⟩⟩⟩ .slnil), ?_⟩
      refine any_end (by kernel_rfl) ?_
      refine hJ37 _ _ ⟨g70, f57_1, f57_c1, f57_2, f57_c2, f72_1, f72_c1, f72_2, f72_c2, hA.keep _ ⟨rfl, rfl, rfl, rfl, rfl, rfl, rfl, rfl, rfl, rfl, rfl, rfl, rfl, rfl, rfl, rfl, trivial⟩, ((hS.pickR [(f72_2, words (rq y d)), (f72_1, words (rt y d)), (f57_2, words (rq x d)), (f57_1, words (rt x d)), (a3, words d), (a2, words y.natAbs), (a1, words x.natAbs)] ⟨⟨0, rfl⟩, ⟨⟨1, rfl⟩, ⟨⟨2, rfl⟩, ⟨⟨3, rfl⟩, ⟨⟨4, rfl⟩, ⟨⟨5, rfl⟩, ⟨⟨6, rfl⟩, trivial⟩⟩⟩⟩⟩⟩⟩).pickL [(g70, [.bool ((rb x)), .slice f57_1 ((words (rt x d)).length) f57_c1, .slice f57_2 ((words (rq x d)).length) f57_c2, .bool ((rb y)), .slice f72_1 ((words (rt y d)).length) f72_c1, .slice f72_2 ((words (rq y d)).length) f72_c2]), (g4, [.bool false, .slice none 0 0, .slice none 0 0, .bool false, .slice none 0 0, .slice none 0 0]), (g2, [.bool ((rb x)), .slice a1 ((words x.natAbs).length) ac1, .bool ((rb y)), .slice a2 ((words y.natAbs).length) ac2, .slice a3 ((words d).length) ac3])] [0, 1, 2] rfl (by decide)), hs74.nil, hs74.cap, hs73.nil, hs73.cap, hs59.nil, hs59.cap, hs58.nil, hs58.cap⟩
  · refine op_new (vs := [.bool false, .slice none 0 0, .slice none 0 0, .bool false, .slice none 0 0, .slice none 0 0]) (t := 26) hA hS 11 rfl rfl rfl rfl (fun g => .pointer (some ⟨g, 0, none⟩)) (does_alloc (z := .agg #[.bool false, .slice none 0 0, .slice none 0 0, .bool false, .slice none 0 0, .slice none 0 0]) (by kernel_rfl) rfl) rfl ?_
    intro g78 w79 hS
    refine ⟨(hS.part (.cons _ (.cons_cons _ (.cons_cons _ .slnil))) ⟨⟨0, rfl⟩, ⟨⟨1, rfl⟩, ⟨⟨2, rfl⟩, trivial⟩⟩⟩ .slnil), ?_⟩
    intro a hA
    refine any_one (by kernel_rfl) (op_call hA 4 rfl rfl rfl rfl (enters_func  rfl rfl (fun w => by kernel_rfl)) (zlowest_any ⟨(hS.rd 2 rfl), ha1.nil, ha1.cap⟩ ⟨(hS.rd 0 rfl), ha3.nil, ha3.cap⟩ l1 l3 hd) ?_)
    rintro _ w84 ⟨f80_1, f80_c1, f80_2, f80_c2, rfl, hs81, hs82, hb83⟩
    replace hS := hS.call hb83
    replace hS := hS.addR hs81.rd
    replace hS := hS.addR hs82.rd
    refine ⟨_, rfl, (hS.part (.cons _ (.cons_cons _ (.cons_cons _ .slnil))) ⟨⟨2, rfl⟩, ⟨⟨3, rfl⟩, ⟨⟨4, rfl⟩, trivial⟩⟩⟩ .slnil), ?_⟩
    intro a hA
    refine any_one (by kernel_rfl) (op_call hA 9 rfl rfl rfl rfl (enters_func  rfl rfl (fun w => by kernel_rfl)) (zlowest_any ⟨(hS.rd 3 rfl), ha2.nil, ha2.cap⟩ ⟨(hS.rd 2 rfl), ha3.nil, ha3.cap⟩ l2 l3 hd) ?_)
    rintro _ w89 ⟨f85_1, f85_c1, f85_2, f85_c2, rfl, hs86, hs87, hb88⟩
    replace hS := hS.call hb88
    replace hS := hS.addR hs86.rd
    replace hS := hS.addR hs87.rd
    refine ⟨_, rfl, (hS.part (.cons _ (.cons_cons _ (.cons_cons _ .slnil))) ⟨⟨4, rfl⟩, ⟨⟨5, rfl⟩, ⟨⟨6, rfl⟩, trivial⟩⟩⟩ .slnil), ?_⟩
    intro a hA
    refine any_take (v := .agg #[.bool ((rb x)), .slice f80_1 ((words (rt x d)).length) f80_c1, .slice f80_2 ((words (rq x d)).length) f80_c2, .bool ((rb y)), .slice f85_1 ((words (rt y d)).length) f85_c1, .slice f85_2 ((words (rq y d)).length) f85_c2]) hA 10 rfl rfl rfl rfl (by kernel_rfl) (by kernel_rfl) (by kernel_rfl) (fun c a w h => hP c a _ _ w h) (hS.part (.cons _ (.cons_cons _ (.cons_cons _ .slnil))) ⟨⟨4, rfl⟩, ⟨⟨5, rfl⟩, ⟨⟨6, rfl⟩, trivial⟩⟩⟩ .slnil) (fun w1 hS => does_build rfl (fun w => by kernel_rfl)) ?_
    intro a hA
    refine any_one (by kernel_rfl) (op_store (us := [.bool ((rb x)), .slice f80_1 ((words (rt x d)).length) f80_c1, .slice f80_2 ((words (rq x d)).length) f80_c2, .bool ((rb y)), .slice f85_1 ((words (rt y d)).length) f85_c1, .slice f85_2 ((words (rq y d)).length) f85_c2]) hA hS 12 rfl rfl rfl (sets_store (cs := [.bool ((rb x)), .slice f80_1 ((words (rt x d)).length) f80_c1, .slice f80_2 ((words (rq x d)).length) f80_c2, .bool ((rb y)), .slice f85_1 ((words (rt y d)).length) f85_c1, .slice f85_2 ((words (rq y d)).length) f85_c2]) rfl rfl rfl (by kernel_rfl) hS 0 rfl rfl rfl) 0 rfl rfl rfl rfl ?_)
    intro w90 hS
    refine ⟨(hS.part (.cons _ (.cons_cons _ (.cons_cons _ .slnil))) ⟨⟨4, rfl⟩, ⟨⟨5, rfl⟩, ⟨⟨6, rfl⟩, trivial⟩⟩⟩ .slnil), ?_⟩
    refine any_end (by kernel_rfl) ?_
    refine hJ37 _ _ ⟨g78, f80_1, f80_c1, f80_2, f80_c2, f85_1, f85_c1, f85_2, f85_c2, hA.keep _ ⟨rfl, rfl, rfl, rfl, rfl, rfl, rfl, rfl, rfl, rfl, rfl, rfl, rfl, rfl, rfl, rfl, trivial⟩, ((hS.pickR [(f85_2, words (rq y d)), (f85_1, words (rt y d)), (f80_2, words (rq x d)), (f80_1, words (rt x d)), (a3, words d), (a2, words y.natAbs), (a1, words x.natAbs)] ⟨⟨0, rfl⟩, ⟨⟨1, rfl⟩, ⟨⟨2, rfl⟩, ⟨⟨3, rfl⟩, ⟨⟨4, rfl⟩, ⟨⟨5, rfl⟩, ⟨⟨6, rfl⟩, trivial⟩⟩⟩⟩⟩⟩⟩).pickL [(g78, [.bool ((rb x)), .slice f80_1 ((words (rt x d)).length) f80_c1, .slice f80_2 ((words (rq x d)).length) f80_c2, .bool ((rb y)), .slice f85_1 ((words (rt y d)).length) f85_c1, .slice f85_2 ((words (rq y d)).length) f85_c2]), (g4, [.bool false, .slice none 0 0, .slice none 0 0, .bool false, .slice none 0 0, .slice none 0 0]), (g2, [.bool ((rb x)), .slice a1 ((words x.natAbs).length) ac1, .bool ((rb y)), .slice a2 ((words y.natAbs).length) ac2, .slice a3 ((words d).length) ac3])] [0, 1, 2] rfl (by decide)), hs87.nil, hs87.cap, hs86.nil, hs86.cap, hs82.nil, hs82.cap, hs81.nil, hs81.cap⟩
theorem zproduct_any {w : World} {x1 y1 x2 y2 : Int} {d1 d2 : Nat} {a1 a2 a3 : Option Addr} {ac1 ac2 ac3 : Nat} (ha1 : Sc w a1 ac1 (words x1.natAbs)) (ha2 : Sc w a2 ac2 (words y1.natAbs)) (ha3 : Sc w a3 ac3 (words d1)) {u1 u2 u3 : Option Addr} {uc1 uc2 uc3 : Nat} (hu1 : Sc w u1 uc1 (words x2.natAbs)) (hu2 : Sc w u2 uc2 (words y2.natAbs)) (hu3 : Sc w u3 uc3 (words d2)) (la1 : (words x1.natAbs).length ≤ 10000) (la2 : (words y1.natAbs).length ≤ 10000) (la3 : (words d1).length ≤ 10000) (lu1 : (words x2.natAbs).length ≤ 10000) (lu2 : (words y2.natAbs).length ≤ 10000) (lu3 : (words d2).length ≤ 10000) : Calls Try.prog 31 #[.agg #[.bool (rb x1), .slice a1 (words x1.natAbs).length ac1, .bool (rb y1), .slice a2 (words y1.natAbs).length ac2, .slice a3 (words d1).length ac3], .agg #[.bool (rb x2), .slice u1 (words x2.natAbs).length uc1, .bool (rb y2), .slice u2 (words y2.natAbs).length uc2, .slice u3 (words d2).length uc3]] w (AnsR w (x1 * x2 + -(y1 * y2)) (x1 * y2 + y1 * x2) (d1 * d2)) := by
  have k1 := abs_mul_len la1 lu1
  have k2 := abs_mul_len la2 lu2
  have k3 := abs_mul_len la1 lu2
  have k4 := abs_mul_len la2 lu1
  have k5 : (words (-(y1 * y2)).natAbs).length ≤ 10000 + 10000 := by rw [Int.natAbs_neg]; exact k2
  have hS : St w w [] [(u3, words d2), (u2, words y2.natAbs), (u1, words x2.natAbs), (a3, words d1), (a2, words y1.natAbs), (a1, words x1.natAbs)] [] := ((((((St.start w).addR ha1.rd).addR ha2.rd).addR ha3.rd).addR hu1.rd).addR hu2.rd).addR hu3.rd
  refine walk_of (l := [(0, .agg #[.bool ((rb x1)), .slice a1 ((words x1.natAbs).length) ac1, .bool ((rb y1)), .slice a2 ((words y1.natAbs).length) ac2, .slice a3 ((words d1).length) ac3]), (1, .agg #[.bool ((rb x2)), .slice u1 ((words x2.natAbs).length) uc1, .bool ((rb y2)), .slice u2 ((words y2.natAbs).length) uc2, .slice u3 ((words d2).length) uc3])]) Try.func31 rfl Try.ntmps31 rfl rfl ?_
  intro Q hret hnorm hP a hA
  refine wp_seq_k (fun K1 hK1 => ?_)
  refine wp_region_lit ?_
  refine seq_new (vs := [.bool ((rb x1)), .slice a1 ((words x1.natAbs).length) ac1, .bool ((rb y1)), .slice a2 ((words y1.natAbs).length) ac2, .slice a3 ((words d1).length) ac3]) (t := 54) hA hS rfl rfl rfl (fun g => .pointer (some ⟨g, 0, none⟩)) (does_box rfl rfl) rfl ?_
  intro g2 w3 hS a hA
  refine seq_new (vs := [.bool ((rb x2)), .slice u1 ((words x2.natAbs).length) uc1, .bool ((rb y2)), .slice u2 ((words y2.natAbs).length) uc2, .slice u3 ((words d2).length) uc3]) (t := 54) hA hS rfl rfl rfl (fun g => .pointer (some ⟨g, 0, none⟩)) (does_box rfl rfl) rfl ?_
  intro g4 w5 hS a hA
  refine seq_new (vs := [.bool false, .slice none 0 0, .bool false, .slice none 0 0, .slice none 0 0]) (t := 54) hA hS rfl rfl rfl (fun g => .pointer (some ⟨g, 0, none⟩)) (does_alloc (z := .agg #[.bool false, .slice none 0 0, .bool false, .slice none 0 0, .slice none 0 0]) (by kernel_rfl) rfl) rfl ?_
  intro g6 w7 hS a hA
  refine seq_end ?_
  refine hK1 _ _ ?_
  refine wp_seq_k (fun K8 hK8 => ?_)
  refine wp_draw (S := fun w1 => St w w1 [(g4, [.bool ((rb x2)), .slice u1 ((words x2.natAbs).length) uc1, .bool ((rb y2)), .slice u2 ((words y2.natAbs).length) uc2, .slice u3 ((words d2).length) uc3]), (g2, [.bool ((rb x1)), .slice a1 ((words x1.natAbs).length) ac1, .bool ((rb y1)), .slice a2 ((words y1.natAbs).length) ac2, .slice a3 ((words d1).length) ac3])] [(u3, words d2), (u2, words y2.natAbs), (u1, words x2.natAbs), (a3, words d1), (a2, words y1.natAbs), (a1, words x1.natAbs)] []) (by kernel_rfl) ?_
  replace hS := hS.drew
  refine any_take (v := .pointer (some ⟨g2, 0, none⟩)) hA 0 rfl rfl rfl rfl (by kernel_rfl) (by kernel_rfl) (by kernel_rfl) (fun c a w h => hP c a _ _ w h) (hS.part (.cons _ (.cons_cons _ (.cons_cons _ .slnil))) ⟨⟨0, rfl⟩, ⟨⟨1, rfl⟩, ⟨⟨2, rfl⟩, ⟨⟨3, rfl⟩, ⟨⟨4, rfl⟩, ⟨⟨5, rfl⟩, trivial⟩⟩⟩⟩⟩⟩ .slnil) (fun w1 hS => does_field ExJ_fld_54_0 rfl rfl) ?_
  intro a hA
  refine any_take (v := .agg #[.bool ((rb x1)), .slice a1 ((words x1.natAbs).length) ac1]) hA 1 rfl rfl rfl rfl (by kernel_rfl) (by kernel_rfl) (by kernel_rfl) (fun c a w h => hP c a _ _ w h) (hS.part (.cons _ (.cons_cons _ (.cons_cons _ .slnil))) ⟨⟨0, rfl⟩, ⟨⟨1, rfl⟩, ⟨⟨2, rfl⟩, ⟨⟨3, rfl⟩, ⟨⟨4, rfl⟩, ⟨⟨5, rfl⟩, trivial⟩⟩⟩⟩⟩⟩ .slnil) (fun w1 hS => does_loadS hS ExJ_isS_52 rfl 1 rfl (cs := [.bool ((rb x1)), .slice a1 ((words x1.natAbs).length) ac1]) rfl rfl) ?_
  intro a hA
  refine any_take (v := .pointer (some ⟨g4, 0, none⟩)) hA 2 rfl rfl rfl rfl (by kernel_rfl) (by kernel_rfl) (by kernel_rfl) (fun c a w h => hP c a _ _ w h) (hS.part (.cons _ (.cons_cons _ (.cons_cons _ .slnil))) ⟨⟨0, rfl⟩, ⟨⟨1, rfl⟩, ⟨⟨2, rfl⟩, ⟨⟨3, rfl⟩, ⟨⟨4, rfl⟩, ⟨⟨5, rfl⟩, trivial⟩⟩⟩⟩⟩⟩ .slnil) (fun w1 hS => does_field ExJ_fld_54_0 rfl rfl) ?_
  intro a hA
  refine any_take (v := .agg #[.bool ((rb x2)), .slice u1 ((words x2.natAbs).length) uc1]) hA 3 rfl rfl rfl rfl (by kernel_rfl) (by kernel_rfl) (by kernel_rfl) (fun c a w h => hP c a _ _ w h) (hS.part (.cons _ (.cons_cons _ (.cons_cons _ .slnil))) ⟨⟨0, rfl⟩, ⟨⟨1, rfl⟩, ⟨⟨2, rfl⟩, ⟨⟨3, rfl⟩, ⟨⟨4, rfl⟩, ⟨⟨5, rfl⟩, trivial⟩⟩⟩⟩⟩⟩ .slnil) (fun w1 hS => does_loadS hS ExJ_isS_52 rfl 0 rfl (cs := [.bool ((rb x2)), .slice u1 ((words x2.natAbs).length) uc1]) rfl rfl) ?_
  intro a hA
  refine any_take (v := .pointer (some ⟨g2, 2, none⟩)) hA 5 rfl rfl rfl rfl (by kernel_rfl) (by kernel_rfl) (by kernel_rfl) (fun c a w h => hP c a _ _ w h) (hS.part (.cons _ (.cons_cons _ (.cons_cons _ .slnil))) ⟨⟨0, rfl⟩, ⟨⟨1, rfl⟩, ⟨⟨2, rfl⟩, ⟨⟨3, rfl⟩, ⟨⟨4, rfl⟩, ⟨⟨5, rfl⟩, trivial⟩⟩⟩⟩⟩⟩ .slnil) (fun w1 hS => does_field ExJ_fld_54_1 rfl rfl) ?_
  intro a hA
  refine any_take (v := .agg #[.bool ((rb y1)), .slice a2 ((words y1.natAbs).length) ac2]) hA 6 rfl rfl rfl rfl (by kernel_rfl) (by kernel_rfl) (by kernel_rfl) (fun c a w h => hP c a _ _ w h) (hS.part (.cons _ (.cons_cons _ (.cons_cons _ .slnil))) ⟨⟨0, rfl⟩, ⟨⟨1, rfl⟩, ⟨⟨2, rfl⟩, ⟨⟨3, rfl⟩, ⟨⟨4, rfl⟩, ⟨⟨5, rfl⟩, trivial⟩⟩⟩⟩⟩⟩ .slnil) (fun w1 hS => does_loadS hS ExJ_isS_52 rfl 1 rfl (cs := [.bool ((rb y1)), .slice a2 ((words y1.natAbs).length) ac2]) rfl rfl) ?_
  intro a hA
  refine any_take (v := .pointer (some ⟨g4, 2, none⟩)) hA 7 rfl rfl rfl rfl (by kernel_rfl) (by kernel_rfl) (by kernel_rfl) (fun c a w h => hP c a _ _ w h) (hS.part (.cons _ (.cons_cons _ (.cons_cons _ .slnil))) ⟨⟨0, rfl⟩, ⟨⟨1, rfl⟩, ⟨⟨2, rfl⟩, ⟨⟨3, rfl⟩, ⟨⟨4, rfl⟩, ⟨⟨5, rfl⟩, trivial⟩⟩⟩⟩⟩⟩ .slnil) (fun w1 hS => does_field ExJ_fld_54_1 rfl rfl) ?_
  intro a hA
  refine any_take (v := .agg #[.bool ((rb y2)), .slice u2 ((words y2.natAbs).length) uc2]) hA 8 rfl rfl rfl rfl (by kernel_rfl) (by kernel_rfl) (by kernel_rfl) (fun c a w h => hP c a _ _ w h) (hS.part (.cons _ (.cons_cons _ (.cons_cons _ .slnil))) ⟨⟨0, rfl⟩, ⟨⟨1, rfl⟩, ⟨⟨2, rfl⟩, ⟨⟨3, rfl⟩, ⟨⟨4, rfl⟩, ⟨⟨5, rfl⟩, trivial⟩⟩⟩⟩⟩⟩ .slnil) (fun w1 hS => does_loadS hS ExJ_isS_52 rfl 0 rfl (cs := [.bool ((rb y2)), .slice u2 ((words y2.natAbs).length) uc2]) rfl rfl) ?_
  intro a hA
  refine any_take (v := .pointer (some ⟨g2, 0, none⟩)) hA 12 rfl rfl rfl rfl (by kernel_rfl) (by kernel_rfl) (by kernel_rfl) (fun c a w h => hP c a _ _ w h) (hS.part (.cons _ (.cons_cons _ (.cons_cons _ .slnil))) ⟨⟨0, rfl⟩, ⟨⟨1, rfl⟩, ⟨⟨2, rfl⟩, ⟨⟨3, rfl⟩, ⟨⟨4, rfl⟩, ⟨⟨5, rfl⟩, trivial⟩⟩⟩⟩⟩⟩ .slnil) (fun w1 hS => does_field ExJ_fld_54_0 rfl rfl) ?_
  intro a hA
  refine any_take (v := .agg #[.bool ((rb x1)), .slice a1 ((words x1.natAbs).length) ac1]) hA 13 rfl rfl rfl rfl (by kernel_rfl) (by kernel_rfl) (by kernel_rfl) (fun c a w h => hP c a _ _ w h) (hS.part (.cons _ (.cons_cons _ (.cons_cons _ .slnil))) ⟨⟨0, rfl⟩, ⟨⟨1, rfl⟩, ⟨⟨2, rfl⟩, ⟨⟨3, rfl⟩, ⟨⟨4, rfl⟩, ⟨⟨5, rfl⟩, trivial⟩⟩⟩⟩⟩⟩ .slnil) (fun w1 hS => does_loadS hS ExJ_isS_52 rfl 1 rfl (cs := [.bool ((rb x1)), .slice a1 ((words x1.natAbs).length) ac1]) rfl rfl) ?_
  intro a hA
  refine any_take (v := .pointer (some ⟨g4, 2, none⟩)) hA 14 rfl rfl rfl rfl (by kernel_rfl) (by kernel_rfl) (by kernel_rfl) (fun c a w h => hP c a _ _ w h) (hS.part (.cons _ (.cons_cons _ (.cons_cons _ .slnil))) ⟨⟨0, rfl⟩, ⟨⟨1, rfl⟩, ⟨⟨2, rfl⟩, ⟨⟨3, rfl⟩, ⟨⟨4, rfl⟩, ⟨⟨5, rfl⟩, trivial⟩⟩⟩⟩⟩⟩ .slnil) (fun w1 hS => does_field ExJ_fld_54_1 rfl rfl) ?_
  intro a hA
  refine any_take (v := .agg #[.bool ((rb y2)), .slice u2 ((words y2.natAbs).length) uc2]) hA 15 rfl rfl rfl rfl (by kernel_rfl) (by kernel_rfl) (by kernel_rfl) (fun c a w h => hP c a _ _ w h) (hS.part (.cons _ (.cons_cons _ (.cons_cons _ .slnil))) ⟨⟨0, rfl⟩, ⟨⟨1, rfl⟩, ⟨⟨2, rfl⟩, ⟨⟨3, rfl⟩, ⟨⟨4, rfl⟩, ⟨⟨5, rfl⟩, trivial⟩⟩⟩⟩⟩⟩ .slnil) (fun w1 hS => does_loadS hS ExJ_isS_52 rfl 0 rfl (cs := [.bool ((rb y2)), .slice u2 ((words y2.natAbs).length) uc2]) rfl rfl) ?_
  intro a hA
  refine any_take (v := .pointer (some ⟨g2, 2, none⟩)) hA 17 rfl rfl rfl rfl (by kernel_rfl) (by kernel_rfl) (by kernel_rfl) (fun c a w h => hP c a _ _ w h) (hS.part (.cons _ (.cons_cons _ (.cons_cons _ .slnil))) ⟨⟨0, rfl⟩, ⟨⟨1, rfl⟩, ⟨⟨2, rfl⟩, ⟨⟨3, rfl⟩, ⟨⟨4, rfl⟩, ⟨⟨5, rfl⟩, trivial⟩⟩⟩⟩⟩⟩ .slnil) (fun w1 hS => does_field ExJ_fld_54_1 rfl rfl) ?_
  intro a hA
  refine any_take (v := .agg #[.bool ((rb y1)), .slice a2 ((words y1.natAbs).length) ac2]) hA 18 rfl rfl rfl rfl (by kernel_rfl) (by kernel_rfl) (by kernel_rfl) (fun c a w h => hP c a _ _ w h) (hS.part (.cons _ (.cons_cons _ (.cons_cons _ .slnil))) ⟨⟨0, rfl⟩, ⟨⟨1, rfl⟩, ⟨⟨2, rfl⟩, ⟨⟨3, rfl⟩, ⟨⟨4, rfl⟩, ⟨⟨5, rfl⟩, trivial⟩⟩⟩⟩⟩⟩ .slnil) (fun w1 hS => does_loadS hS ExJ_isS_52 rfl 1 rfl (cs := [.bool ((rb y1)), .slice a2 ((words y1.natAbs).length) ac2]) rfl rfl) ?_
  intro a hA
  refine any_take (v := .pointer (some ⟨g4, 0, none⟩)) hA 19 rfl rfl rfl rfl (by kernel_rfl) (by kernel_rfl) (by kernel_rfl) (fun c a w h => hP c a _ _ w h) (hS.part (.cons _ (.cons_cons _ (.cons_cons _ .slnil))) ⟨⟨0, rfl⟩, ⟨⟨1, rfl⟩, ⟨⟨2, rfl⟩, ⟨⟨3, rfl⟩, ⟨⟨4, rfl⟩, ⟨⟨5, rfl⟩, trivial⟩⟩⟩⟩⟩⟩ .slnil) (fun w1 hS => does_field ExJ_fld_54_0 rfl rfl) ?_
  intro a hA
  refine any_take (v := .agg #[.bool ((rb x2)), .slice u1 ((words x2.natAbs).length) uc1]) hA 20 rfl rfl rfl rfl (by kernel_rfl) (by kernel_rfl) (by kernel_rfl) (fun c a w h => hP c a _ _ w h) (hS.part (.cons _ (.cons_cons _ (.cons_cons _ .slnil))) ⟨⟨0, rfl⟩, ⟨⟨1, rfl⟩, ⟨⟨2, rfl⟩, ⟨⟨3, rfl⟩, ⟨⟨4, rfl⟩, ⟨⟨5, rfl⟩, trivial⟩⟩⟩⟩⟩⟩ .slnil) (fun w1 hS => does_loadS hS ExJ_isS_52 rfl 0 rfl (cs := [.bool ((rb x2)), .slice u1 ((words x2.natAbs).length) uc1]) rfl rfl) ?_
  intro a hA
  refine any_take (v := .pointer (some ⟨g2, 4, none⟩)) hA 23 rfl rfl rfl rfl (by kernel_rfl) (by kernel_rfl) (by kernel_rfl) (fun c a w h => hP c a _ _ w h) (hS.part (.cons _ (.cons_cons _ (.cons_cons _ .slnil))) ⟨⟨0, rfl⟩, ⟨⟨1, rfl⟩, ⟨⟨2, rfl⟩, ⟨⟨3, rfl⟩, ⟨⟨4, rfl⟩, ⟨⟨5, rfl⟩, trivial⟩⟩⟩⟩⟩⟩ .slnil) (fun w1 hS => does_field ExJ_fld_54_2 rfl rfl) ?_
  intro a hA
  refine any_take hA 24 rfl rfl rfl rfl (by kernel_rfl) (by kernel_rfl) (by kernel_rfl) (fun c a w h => hP c a _ _ w h) (hS.part (.cons _ (.cons_cons _ (.cons_cons _ .slnil))) ⟨⟨0, rfl⟩, ⟨⟨1, rfl⟩, ⟨⟨2, rfl⟩, ⟨⟨3, rfl⟩, ⟨⟨4, rfl⟩, ⟨⟨5, rfl⟩, trivial⟩⟩⟩⟩⟩⟩ .slnil) (fun w1 hS => does_load1 hS ExJ_is1_22 rfl 1 rfl rfl) ?_
  intro a hA
  refine any_take (v := .pointer (some ⟨g4, 4, none⟩)) hA 25 rfl rfl rfl rfl (by kernel_rfl) (by kernel_rfl) (by kernel_rfl) (fun c a w h => hP c a _ _ w h) (hS.part (.cons _ (.cons_cons _ (.cons_cons _ .slnil))) ⟨⟨0, rfl⟩, ⟨⟨1, rfl⟩, ⟨⟨2, rfl⟩, ⟨⟨3, rfl⟩, ⟨⟨4, rfl⟩, ⟨⟨5, rfl⟩, trivial⟩⟩⟩⟩⟩⟩ .slnil) (fun w1 hS => does_field ExJ_fld_54_2 rfl rfl) ?_
  intro a hA
  refine any_take hA 26 rfl rfl rfl rfl (by kernel_rfl) (by kernel_rfl) (by kernel_rfl) (fun c a w h => hP c a _ _ w h) (hS.part (.cons _ (.cons_cons _ (.cons_cons _ .slnil))) ⟨⟨0, rfl⟩, ⟨⟨1, rfl⟩, ⟨⟨2, rfl⟩, ⟨⟨3, rfl⟩, ⟨⟨4, rfl⟩, ⟨⟨5, rfl⟩, trivial⟩⟩⟩⟩⟩⟩ .slnil) (fun w1 hS => does_load1 hS ExJ_is1_22 rfl 0 rfl rfl) ?_
  intro a hA
  refine any_one (by kernel_rfl) (op_call hA 4 rfl rfl rfl rfl (enters_func  rfl rfl (fun w => by kernel_rfl)) (ztimes_any ⟨(hS.rd 5 rfl), ha1.nil, ha1.cap⟩ ⟨(hS.rd 2 rfl), hu1.nil, hu1.cap⟩ (by omega) (by omega)) ?_)
  rintro _ w13 ⟨zo9, zc10, rfl, hs11, hb12⟩
  replace hS := hS.call hb12
  replace hS := hS.addR hs11.rd
  refine ⟨_, rfl, (hS.part (.cons _ (.cons_cons _ (.cons_cons _ .slnil))) ⟨⟨1, rfl⟩, ⟨⟨2, rfl⟩, ⟨⟨3, rfl⟩, ⟨⟨4, rfl⟩, ⟨⟨5, rfl⟩, ⟨⟨6, rfl⟩, trivial⟩⟩⟩⟩⟩⟩ .slnil), ?_⟩
  intro a hA
  refine any_one (by kernel_rfl) (op_call hA 9 rfl rfl rfl rfl (enters_func  rfl rfl (fun w => by kernel_rfl)) (ztimes_any ⟨(hS.rd 5 rfl), ha2.nil, ha2.cap⟩ ⟨(hS.rd 2 rfl), hu2.nil, hu2.cap⟩ (by omega) (by omega)) ?_)
  rintro _ w18 ⟨zo14, zc15, rfl, hs16, hb17⟩
  replace hS := hS.call hb17
  replace hS := hS.addR hs16.rd
  refine ⟨_, rfl, (hS.part (.cons _ (.cons_cons _ (.cons_cons _ .slnil))) ⟨⟨2, rfl⟩, ⟨⟨3, rfl⟩, ⟨⟨4, rfl⟩, ⟨⟨5, rfl⟩, ⟨⟨6, rfl⟩, ⟨⟨7, rfl⟩, trivial⟩⟩⟩⟩⟩⟩ .slnil), ?_⟩
  intro a hA
  refine any_one (by kernel_rfl) (op_call hA 10 rfl rfl rfl rfl (enters_func  rfl rfl (fun w => by kernel_rfl)) (zopp_any ⟨(hS.rd 0 rfl), hs16.nil, hs16.cap⟩) ?_)
  rintro _ w23 ⟨zo19, zc20, rfl, hs21, hb22⟩
  replace hS := hS.call hb22
  replace hS := hS.addR hs21.rd
  refine ⟨_, rfl, (hS.part (.cons _ (.cons_cons _ (.cons_cons _ .slnil))) ⟨⟨3, rfl⟩, ⟨⟨4, rfl⟩, ⟨⟨5, rfl⟩, ⟨⟨6, rfl⟩, ⟨⟨7, rfl⟩, ⟨⟨8, rfl⟩, trivial⟩⟩⟩⟩⟩⟩ .slnil), ?_⟩
  intro a hA
  refine any_one (by kernel_rfl) (op_call hA 11 rfl rfl rfl rfl (enters_func  rfl rfl (fun w => by kernel_rfl)) (zplus_any ⟨(hS.rd 2 rfl), hs11.nil, hs11.cap⟩ ⟨(hS.rd 0 rfl), hs21.nil, hs21.cap⟩ (by omega) (by omega)) ?_)
  rintro _ w28 ⟨zo24, zc25, rfl, hs26, hb27⟩
  replace hS := hS.call hb27
  replace hS := hS.addR hs26.rd
  refine ⟨_, rfl, (hS.part (.cons _ (.cons_cons _ (.cons_cons _ .slnil))) ⟨⟨4, rfl⟩, ⟨⟨5, rfl⟩, ⟨⟨6, rfl⟩, ⟨⟨7, rfl⟩, ⟨⟨8, rfl⟩, ⟨⟨9, rfl⟩, trivial⟩⟩⟩⟩⟩⟩ .slnil), ?_⟩
  intro a hA
  refine any_one (by kernel_rfl) (op_call hA 16 rfl rfl rfl rfl (enters_func  rfl rfl (fun w => by kernel_rfl)) (ztimes_any ⟨(hS.rd 9 rfl), ha1.nil, ha1.cap⟩ ⟨(hS.rd 5 rfl), hu2.nil, hu2.cap⟩ (by omega) (by omega)) ?_)
  rintro _ w33 ⟨zo29, zc30, rfl, hs31, hb32⟩
  replace hS := hS.call hb32
  replace hS := hS.addR hs31.rd
  refine ⟨_, rfl, (hS.part (.cons _ (.cons_cons _ (.cons_cons _ .slnil))) ⟨⟨5, rfl⟩, ⟨⟨6, rfl⟩, ⟨⟨7, rfl⟩, ⟨⟨8, rfl⟩, ⟨⟨9, rfl⟩, ⟨⟨10, rfl⟩, trivial⟩⟩⟩⟩⟩⟩ .slnil), ?_⟩
  intro a hA
  refine any_one (by kernel_rfl) (op_call hA 21 rfl rfl rfl rfl (enters_func  rfl rfl (fun w => by kernel_rfl)) (ztimes_any ⟨(hS.rd 9 rfl), ha2.nil, ha2.cap⟩ ⟨(hS.rd 7 rfl), hu1.nil, hu1.cap⟩ (by omega) (by omega)) ?_)
  rintro _ w38 ⟨zo34, zc35, rfl, hs36, hb37⟩
  replace hS := hS.call hb37
  replace hS := hS.addR hs36.rd
  refine ⟨_, rfl, (hS.part (.cons _ (.cons_cons _ (.cons_cons _ .slnil))) ⟨⟨6, rfl⟩, ⟨⟨7, rfl⟩, ⟨⟨8, rfl⟩, ⟨⟨9, rfl⟩, ⟨⟨10, rfl⟩, ⟨⟨11, rfl⟩, trivial⟩⟩⟩⟩⟩⟩ .slnil), ?_⟩
  intro a hA
  refine any_one (by kernel_rfl) (op_call hA 22 rfl rfl rfl rfl (enters_func  rfl rfl (fun w => by kernel_rfl)) (zplus_any ⟨(hS.rd 1 rfl), hs31.nil, hs31.cap⟩ ⟨(hS.rd 0 rfl), hs36.nil, hs36.cap⟩ (by omega) (by omega)) ?_)
  rintro _ w43 ⟨zo39, zc40, rfl, hs41, hb42⟩
  replace hS := hS.call hb42
  replace hS := hS.addR hs41.rd
  refine ⟨_, rfl, (hS.part (.cons _ (.cons_cons _ (.cons_cons _ .slnil))) ⟨⟨7, rfl⟩, ⟨⟨8, rfl⟩, ⟨⟨9, rfl⟩, ⟨⟨10, rfl⟩, ⟨⟨11, rfl⟩, ⟨⟨12, rfl⟩, trivial⟩⟩⟩⟩⟩⟩ .slnil), ?_⟩
  intro a hA
  refine any_one (by kernel_rfl) (op_call hA 27 rfl rfl rfl rfl (enters_func  rfl rfl (fun w => by kernel_rfl)) (product_any _ _ (hS.rd 10 rfl) (hS.rd 7 rfl) (by omega) (by omega)) ?_)
  rintro _ w48 ⟨ro44, rc45, rfl, ho46, hb47⟩
  replace hS := hS.call hb47
  replace hS := hS.addR ho46.rd
  refine ⟨_, rfl, (hS.part (.cons _ (.cons_cons _ (.cons_cons _ .slnil))) ⟨⟨8, rfl⟩, ⟨⟨9, rfl⟩, ⟨⟨10, rfl⟩, ⟨⟨11, rfl⟩, ⟨⟨12, rfl⟩, ⟨⟨13, rfl⟩, trivial⟩⟩⟩⟩⟩⟩ .slnil), ?_⟩
  intro a hA
  refine any_take (v := .agg #[.bool ((rb (x1 * x2 + (-(y1 * y2))))), .slice zo24 ((words (x1 * x2 + (-(y1 * y2))).natAbs).length) zc25, .bool ((rb (x1 * y2 + (y1 * x2)))), .slice zo39 ((words (x1 * y2 + (y1 * x2)).natAbs).length) zc40, .slice ro44 ((words (d1 * d2)).length) rc45]) hA 28 rfl rfl rfl rfl (by kernel_rfl) (by kernel_rfl) (by kernel_rfl) (fun c a w h => hP c a _ _ w h) (hS.part (.cons _ (.cons_cons _ (.cons_cons _ .slnil))) ⟨⟨8, rfl⟩, ⟨⟨9, rfl⟩, ⟨⟨10, rfl⟩, ⟨⟨11, rfl⟩, ⟨⟨12, rfl⟩, ⟨⟨13, rfl⟩, trivial⟩⟩⟩⟩⟩⟩ .slnil) (fun w1 hS => does_build rfl (fun w => by kernel_rfl)) ?_
  intro a hA
  refine any_one (by kernel_rfl) (op_store (us := [.bool ((rb (x1 * x2 + (-(y1 * y2))))), .slice zo24 ((words (x1 * x2 + (-(y1 * y2))).natAbs).length) zc25, .bool ((rb (x1 * y2 + (y1 * x2)))), .slice zo39 ((words (x1 * y2 + (y1 * x2)).natAbs).length) zc40, .slice ro44 ((words (d1 * d2)).length) rc45]) hA hS 29 rfl rfl rfl (sets_store (cs := [.bool ((rb (x1 * x2 + (-(y1 * y2))))), .slice zo24 ((words (x1 * x2 + (-(y1 * y2))).natAbs).length) zc25, .bool ((rb (x1 * y2 + (y1 * x2)))), .slice zo39 ((words (x1 * y2 + (y1 * x2)).natAbs).length) zc40, .slice ro44 ((words (d1 * d2)).length) rc45]) rfl rfl rfl (by kernel_rfl) hS 0 rfl rfl rfl) 0 rfl rfl rfl rfl ?_)
  intro w49 hS
  refine ⟨(hS.part (.cons _ (.cons_cons _ (.cons_cons _ .slnil))) ⟨⟨8, rfl⟩, ⟨⟨9, rfl⟩, ⟨⟨10, rfl⟩, ⟨⟨11, rfl⟩, ⟨⟨12, rfl⟩, ⟨⟨13, rfl⟩, trivial⟩⟩⟩⟩⟩⟩ .slnil), ?_⟩
  refine any_end (by kernel_rfl) ?_
  refine hK8 _ _ ?_
  refine wp_ret ?_
  refine hret _ _ ?_
  refine ends (v := .agg #[.bool ((rb (x1 * x2 + (-(y1 * y2))))), .slice zo24 ((words (x1 * x2 + (-(y1 * y2))).natAbs).length) zc25, .bool ((rb (x1 * y2 + (y1 * x2)))), .slice zo39 ((words (x1 * y2 + (y1 * x2)).natAbs).length) zc40, .slice ro44 ((words (d1 * d2)).length) rc45]) hA rfl (.cons (res_cell hS ExJ_isS_54 rfl 0 rfl (cs := [.bool ((rb (x1 * x2 + (-(y1 * y2))))), .slice zo24 ((words (x1 * x2 + (-(y1 * y2))).natAbs).length) zc25, .bool ((rb (x1 * y2 + (y1 * x2)))), .slice zo39 ((words (x1 * y2 + (y1 * x2)).natAbs).length) zc40, .slice ro44 ((words (d1 * d2)).length) rc45]) rfl rfl) .nil) rfl ?_
  exact ⟨zo24, zc25, zo39, zc40, ro44, rc45, rfl, ⟨(hS.rd 4 rfl), hs26.nil, hs26.cap⟩, ⟨(hS.rd 1 rfl), hs41.nil, hs41.cap⟩, ⟨(hS.rd 0 rfl), ho46.nocap, ho46.caps⟩, hS.bel⟩
theorem zsum_any {w : World} {x1 y1 x2 y2 : Int} {d1 d2 : Nat} {a1 a2 a3 : Option Addr} {ac1 ac2 ac3 : Nat} (ha1 : Sc w a1 ac1 (words x1.natAbs)) (ha2 : Sc w a2 ac2 (words y1.natAbs)) (ha3 : Sc w a3 ac3 (words d1)) {u1 u2 u3 : Option Addr} {uc1 uc2 uc3 : Nat} (hu1 : Sc w u1 uc1 (words x2.natAbs)) (hu2 : Sc w u2 uc2 (words y2.natAbs)) (hu3 : Sc w u3 uc3 (words d2)) (la1 : (words x1.natAbs).length ≤ 10000) (la2 : (words y1.natAbs).length ≤ 10000) (la3 : (words d1).length ≤ 10000) (lu1 : (words x2.natAbs).length ≤ 10000) (lu2 : (words y2.natAbs).length ≤ 10000) (lu3 : (words d2).length ≤ 10000) : Calls Try.prog 30 #[.agg #[.bool (rb x1), .slice a1 (words x1.natAbs).length ac1, .bool (rb y1), .slice a2 (words y1.natAbs).length ac2, .slice a3 (words d1).length ac3], .agg #[.bool (rb x2), .slice u1 (words x2.natAbs).length uc1, .bool (rb y2), .slice u2 (words y2.natAbs).length uc2, .slice u3 (words d2).length uc3]] w (AnsR w (x1 * ((d2 : Nat) : Int) + x2 * ((d1 : Nat) : Int)) (y1 * ((d2 : Nat) : Int) + y2 * ((d1 : Nat) : Int)) (d1 * d2)) := by
  have n1 : (words ((d1 : Nat) : Int).natAbs).length ≤ 10000 := by rw [Int.natAbs_natCast]; exact la3
  have n2 : (words ((d2 : Nat) : Int).natAbs).length ≤ 10000 := by rw [Int.natAbs_natCast]; exact lu3
  have k1 := abs_mul_len la1 n2
  have k2 := abs_mul_len lu1 n1
  have k3 := abs_mul_len la2 n2
  have k4 := abs_mul_len lu2 n1
  have hS : St w w [] [(u3, words d2), (u2, words y2.natAbs), (u1, words x2.natAbs), (a3, words d1), (a2, words y1.natAbs), (a1, words x1.natAbs)] [] := ((((((St.start w).addR ha1.rd).addR ha2.rd).addR ha3.rd).addR hu1.rd).addR hu2.rd).addR hu3.rd
  refine walk_of (l := [(0, .agg #[.bool ((rb x1)), .slice a1 ((words x1.natAbs).length) ac1, .bool ((rb y1)), .slice a2 ((words y1.natAbs).length) ac2, .slice a3 ((words d1).length) ac3]), (1, .agg #[.bool ((rb x2)), .slice u1 ((words x2.natAbs).length) uc1, .bool ((rb y2)), .slice u2 ((words y2.natAbs).length) uc2, .slice u3 ((words d2).length) uc3])]) Try.func30 rfl Try.ntmps30 rfl rfl ?_
  intro Q hret hnorm hP a hA
  refine wp_seq_k (fun K1 hK1 => ?_)
  refine wp_region_lit ?_
  refine seq_new (vs := [.bool ((rb x1)), .slice a1 ((words x1.natAbs).length) ac1, .bool ((rb y1)), .slice a2 ((words y1.natAbs).length) ac2, .slice a3 ((words d1).length) ac3]) (t := 54) hA hS rfl rfl rfl (fun g => .pointer (some ⟨g, 0, none⟩)) (does_box rfl rfl) rfl ?_
  intro g2 w3 hS a hA
  refine seq_new (vs := [.bool ((rb x2)), .slice u1 ((words x2.natAbs).length) uc1, .bool ((rb y2)), .slice u2 ((words y2.natAbs).length) uc2, .slice u3 ((words d2).length) uc3]) (t := 54) hA hS rfl rfl rfl (fun g => .pointer (some ⟨g, 0, none⟩)) (does_box rfl rfl) rfl ?_
  intro g4 w5 hS a hA
  refine seq_new (vs := [.bool false, .slice none 0 0, .bool false, .slice none 0 0, .slice none 0 0]) (t := 54) hA hS rfl rfl rfl (fun g => .pointer (some ⟨g, 0, none⟩)) (does_alloc (z := .agg #[.bool false, .slice none 0 0, .bool false, .slice none 0 0, .slice none 0 0]) (by kernel_rfl) rfl) rfl ?_
  intro g6 w7 hS a hA
  refine seq_end ?_
  refine hK1 _ _ ?_
  refine wp_seq_k (fun K8 hK8 => ?_)
  refine wp_draw (S := fun w1 => St w w1 [(g4, [.bool ((rb x2)), .slice u1 ((words x2.natAbs).length) uc1, .bool ((rb y2)), .slice u2 ((words y2.natAbs).length) uc2, .slice u3 ((words d2).length) uc3]), (g2, [.bool ((rb x1)), .slice a1 ((words x1.natAbs).length) ac1, .bool ((rb y1)), .slice a2 ((words y1.natAbs).length) ac2, .slice a3 ((words d1).length) ac3])] [(u3, words d2), (u2, words y2.natAbs), (u1, words x2.natAbs), (a3, words d1), (a2, words y1.natAbs), (a1, words x1.natAbs)] []) (by kernel_rfl) ?_
  replace hS := hS.drew
  refine any_take (v := .pointer (some ⟨g2, 0, none⟩)) hA 0 rfl rfl rfl rfl (by kernel_rfl) (by kernel_rfl) (by kernel_rfl) (fun c a w h => hP c a _ _ w h) (hS.part (.cons _ (.cons_cons _ (.cons_cons _ .slnil))) ⟨⟨0, rfl⟩, ⟨⟨1, rfl⟩, ⟨⟨2, rfl⟩, ⟨⟨3, rfl⟩, ⟨⟨4, rfl⟩, ⟨⟨5, rfl⟩, trivial⟩⟩⟩⟩⟩⟩ .slnil) (fun w1 hS => does_field ExJ_fld_54_0 rfl rfl) ?_
  intro a hA
  refine any_take (v := .agg #[.bool ((rb x1)), .slice a1 ((words x1.natAbs).length) ac1]) hA 1 rfl rfl rfl rfl (by kernel_rfl) (by kernel_rfl) (by kernel_rfl) (fun c a w h => hP c a _ _ w h) (hS.part (.cons _ (.cons_cons _ (.cons_cons _ .slnil))) ⟨⟨0, rfl⟩, ⟨⟨1, rfl⟩, ⟨⟨2, rfl⟩, ⟨⟨3, rfl⟩, ⟨⟨4, rfl⟩, ⟨⟨5, rfl⟩, trivial⟩⟩⟩⟩⟩⟩ .slnil) (fun w1 hS => does_loadS hS ExJ_isS_52 rfl 1 rfl (cs := [.bool ((rb x1)), .slice a1 ((words x1.natAbs).length) ac1]) rfl rfl) ?_
  intro a hA
  refine any_take (v := .pointer (some ⟨g4, 4, none⟩)) hA 2 rfl rfl rfl rfl (by kernel_rfl) (by kernel_rfl) (by kernel_rfl) (fun c a w h => hP c a _ _ w h) (hS.part (.cons _ (.cons_cons _ (.cons_cons _ .slnil))) ⟨⟨0, rfl⟩, ⟨⟨1, rfl⟩, ⟨⟨2, rfl⟩, ⟨⟨3, rfl⟩, ⟨⟨4, rfl⟩, ⟨⟨5, rfl⟩, trivial⟩⟩⟩⟩⟩⟩ .slnil) (fun w1 hS => does_field ExJ_fld_54_2 rfl rfl) ?_
  intro a hA
  refine any_take hA 3 rfl rfl rfl rfl (by kernel_rfl) (by kernel_rfl) (by kernel_rfl) (fun c a w h => hP c a _ _ w h) (hS.part (.cons _ (.cons_cons _ (.cons_cons _ .slnil))) ⟨⟨0, rfl⟩, ⟨⟨1, rfl⟩, ⟨⟨2, rfl⟩, ⟨⟨3, rfl⟩, ⟨⟨4, rfl⟩, ⟨⟨5, rfl⟩, trivial⟩⟩⟩⟩⟩⟩ .slnil) (fun w1 hS => does_load1 hS ExJ_is1_22 rfl 0 rfl rfl) ?_
  intro a hA
  refine any_take (v := .pointer (some ⟨g4, 0, none⟩)) hA 5 rfl rfl rfl rfl (by kernel_rfl) (by kernel_rfl) (by kernel_rfl) (fun c a w h => hP c a _ _ w h) (hS.part (.cons _ (.cons_cons _ (.cons_cons _ .slnil))) ⟨⟨0, rfl⟩, ⟨⟨1, rfl⟩, ⟨⟨2, rfl⟩, ⟨⟨3, rfl⟩, ⟨⟨4, rfl⟩, ⟨⟨5, rfl⟩, trivial⟩⟩⟩⟩⟩⟩ .slnil) (fun w1 hS => does_field ExJ_fld_54_0 rfl rfl) ?_
  intro a hA
  refine any_take (v := .agg #[.bool ((rb x2)), .slice u1 ((words x2.natAbs).length) uc1]) hA 6 rfl rfl rfl rfl (by kernel_rfl) (by kernel_rfl) (by kernel_rfl) (fun c a w h => hP c a _ _ w h) (hS.part (.cons _ (.cons_cons _ (.cons_cons _ .slnil))) ⟨⟨0, rfl⟩, ⟨⟨1, rfl⟩, ⟨⟨2, rfl⟩, ⟨⟨3, rfl⟩, ⟨⟨4, rfl⟩, ⟨⟨5, rfl⟩, trivial⟩⟩⟩⟩⟩⟩ .slnil) (fun w1 hS => does_loadS hS ExJ_isS_52 rfl 0 rfl (cs := [.bool ((rb x2)), .slice u1 ((words x2.natAbs).length) uc1]) rfl rfl) ?_
  intro a hA
  refine any_take (v := .pointer (some ⟨g2, 4, none⟩)) hA 7 rfl rfl rfl rfl (by kernel_rfl) (by kernel_rfl) (by kernel_rfl) (fun c a w h => hP c a _ _ w h) (hS.part (.cons _ (.cons_cons _ (.cons_cons _ .slnil))) ⟨⟨0, rfl⟩, ⟨⟨1, rfl⟩, ⟨⟨2, rfl⟩, ⟨⟨3, rfl⟩, ⟨⟨4, rfl⟩, ⟨⟨5, rfl⟩, trivial⟩⟩⟩⟩⟩⟩ .slnil) (fun w1 hS => does_field ExJ_fld_54_2 rfl rfl) ?_
  intro a hA
  refine any_take hA 8 rfl rfl rfl rfl (by kernel_rfl) (by kernel_rfl) (by kernel_rfl) (fun c a w h => hP c a _ _ w h) (hS.part (.cons _ (.cons_cons _ (.cons_cons _ .slnil))) ⟨⟨0, rfl⟩, ⟨⟨1, rfl⟩, ⟨⟨2, rfl⟩, ⟨⟨3, rfl⟩, ⟨⟨4, rfl⟩, ⟨⟨5, rfl⟩, trivial⟩⟩⟩⟩⟩⟩ .slnil) (fun w1 hS => does_load1 hS ExJ_is1_22 rfl 1 rfl rfl) ?_
  intro a hA
  refine any_take (v := .pointer (some ⟨g2, 2, none⟩)) hA 11 rfl rfl rfl rfl (by kernel_rfl) (by kernel_rfl) (by kernel_rfl) (fun c a w h => hP c a _ _ w h) (hS.part (.cons _ (.cons_cons _ (.cons_cons _ .slnil))) ⟨⟨0, rfl⟩, ⟨⟨1, rfl⟩, ⟨⟨2, rfl⟩, ⟨⟨3, rfl⟩, ⟨⟨4, rfl⟩, ⟨⟨5, rfl⟩, trivial⟩⟩⟩⟩⟩⟩ .slnil) (fun w1 hS => does_field ExJ_fld_54_1 rfl rfl) ?_
  intro a hA
  refine any_take (v := .agg #[.bool ((rb y1)), .slice a2 ((words y1.natAbs).length) ac2]) hA 12 rfl rfl rfl rfl (by kernel_rfl) (by kernel_rfl) (by kernel_rfl) (fun c a w h => hP c a _ _ w h) (hS.part (.cons _ (.cons_cons _ (.cons_cons _ .slnil))) ⟨⟨0, rfl⟩, ⟨⟨1, rfl⟩, ⟨⟨2, rfl⟩, ⟨⟨3, rfl⟩, ⟨⟨4, rfl⟩, ⟨⟨5, rfl⟩, trivial⟩⟩⟩⟩⟩⟩ .slnil) (fun w1 hS => does_loadS hS ExJ_isS_52 rfl 1 rfl (cs := [.bool ((rb y1)), .slice a2 ((words y1.natAbs).length) ac2]) rfl rfl) ?_
  intro a hA
  refine any_take (v := .pointer (some ⟨g4, 4, none⟩)) hA 13 rfl rfl rfl rfl (by kernel_rfl) (by kernel_rfl) (by kernel_rfl) (fun c a w h => hP c a _ _ w h) (hS.part (.cons _ (.cons_cons _ (.cons_cons _ .slnil))) ⟨⟨0, rfl⟩, ⟨⟨1, rfl⟩, ⟨⟨2, rfl⟩, ⟨⟨3, rfl⟩, ⟨⟨4, rfl⟩, ⟨⟨5, rfl⟩, trivial⟩⟩⟩⟩⟩⟩ .slnil) (fun w1 hS => does_field ExJ_fld_54_2 rfl rfl) ?_
  intro a hA
  refine any_take hA 14 rfl rfl rfl rfl (by kernel_rfl) (by kernel_rfl) (by kernel_rfl) (fun c a w h => hP c a _ _ w h) (hS.part (.cons _ (.cons_cons _ (.cons_cons _ .slnil))) ⟨⟨0, rfl⟩, ⟨⟨1, rfl⟩, ⟨⟨2, rfl⟩, ⟨⟨3, rfl⟩, ⟨⟨4, rfl⟩, ⟨⟨5, rfl⟩, trivial⟩⟩⟩⟩⟩⟩ .slnil) (fun w1 hS => does_load1 hS ExJ_is1_22 rfl 0 rfl rfl) ?_
  intro a hA
  refine any_take (v := .pointer (some ⟨g4, 2, none⟩)) hA 16 rfl rfl rfl rfl (by kernel_rfl) (by kernel_rfl) (by kernel_rfl) (fun c a w h => hP c a _ _ w h) (hS.part (.cons _ (.cons_cons _ (.cons_cons _ .slnil))) ⟨⟨0, rfl⟩, ⟨⟨1, rfl⟩, ⟨⟨2, rfl⟩, ⟨⟨3, rfl⟩, ⟨⟨4, rfl⟩, ⟨⟨5, rfl⟩, trivial⟩⟩⟩⟩⟩⟩ .slnil) (fun w1 hS => does_field ExJ_fld_54_1 rfl rfl) ?_
  intro a hA
  refine any_take (v := .agg #[.bool ((rb y2)), .slice u2 ((words y2.natAbs).length) uc2]) hA 17 rfl rfl rfl rfl (by kernel_rfl) (by kernel_rfl) (by kernel_rfl) (fun c a w h => hP c a _ _ w h) (hS.part (.cons _ (.cons_cons _ (.cons_cons _ .slnil))) ⟨⟨0, rfl⟩, ⟨⟨1, rfl⟩, ⟨⟨2, rfl⟩, ⟨⟨3, rfl⟩, ⟨⟨4, rfl⟩, ⟨⟨5, rfl⟩, trivial⟩⟩⟩⟩⟩⟩ .slnil) (fun w1 hS => does_loadS hS ExJ_isS_52 rfl 0 rfl (cs := [.bool ((rb y2)), .slice u2 ((words y2.natAbs).length) uc2]) rfl rfl) ?_
  intro a hA
  refine any_take (v := .pointer (some ⟨g2, 4, none⟩)) hA 18 rfl rfl rfl rfl (by kernel_rfl) (by kernel_rfl) (by kernel_rfl) (fun c a w h => hP c a _ _ w h) (hS.part (.cons _ (.cons_cons _ (.cons_cons _ .slnil))) ⟨⟨0, rfl⟩, ⟨⟨1, rfl⟩, ⟨⟨2, rfl⟩, ⟨⟨3, rfl⟩, ⟨⟨4, rfl⟩, ⟨⟨5, rfl⟩, trivial⟩⟩⟩⟩⟩⟩ .slnil) (fun w1 hS => does_field ExJ_fld_54_2 rfl rfl) ?_
  intro a hA
  refine any_take hA 19 rfl rfl rfl rfl (by kernel_rfl) (by kernel_rfl) (by kernel_rfl) (fun c a w h => hP c a _ _ w h) (hS.part (.cons _ (.cons_cons _ (.cons_cons _ .slnil))) ⟨⟨0, rfl⟩, ⟨⟨1, rfl⟩, ⟨⟨2, rfl⟩, ⟨⟨3, rfl⟩, ⟨⟨4, rfl⟩, ⟨⟨5, rfl⟩, trivial⟩⟩⟩⟩⟩⟩ .slnil) (fun w1 hS => does_load1 hS ExJ_is1_22 rfl 1 rfl rfl) ?_
  intro a hA
  refine any_take (v := .pointer (some ⟨g2, 4, none⟩)) hA 22 rfl rfl rfl rfl (by kernel_rfl) (by kernel_rfl) (by kernel_rfl) (fun c a w h => hP c a _ _ w h) (hS.part (.cons _ (.cons_cons _ (.cons_cons _ .slnil))) ⟨⟨0, rfl⟩, ⟨⟨1, rfl⟩, ⟨⟨2, rfl⟩, ⟨⟨3, rfl⟩, ⟨⟨4, rfl⟩, ⟨⟨5, rfl⟩, trivial⟩⟩⟩⟩⟩⟩ .slnil) (fun w1 hS => does_field ExJ_fld_54_2 rfl rfl) ?_
  intro a hA
  refine any_take hA 23 rfl rfl rfl rfl (by kernel_rfl) (by kernel_rfl) (by kernel_rfl) (fun c a w h => hP c a _ _ w h) (hS.part (.cons _ (.cons_cons _ (.cons_cons _ .slnil))) ⟨⟨0, rfl⟩, ⟨⟨1, rfl⟩, ⟨⟨2, rfl⟩, ⟨⟨3, rfl⟩, ⟨⟨4, rfl⟩, ⟨⟨5, rfl⟩, trivial⟩⟩⟩⟩⟩⟩ .slnil) (fun w1 hS => does_load1 hS ExJ_is1_22 rfl 1 rfl rfl) ?_
  intro a hA
  refine any_take (v := .pointer (some ⟨g4, 4, none⟩)) hA 24 rfl rfl rfl rfl (by kernel_rfl) (by kernel_rfl) (by kernel_rfl) (fun c a w h => hP c a _ _ w h) (hS.part (.cons _ (.cons_cons _ (.cons_cons _ .slnil))) ⟨⟨0, rfl⟩, ⟨⟨1, rfl⟩, ⟨⟨2, rfl⟩, ⟨⟨3, rfl⟩, ⟨⟨4, rfl⟩, ⟨⟨5, rfl⟩, trivial⟩⟩⟩⟩⟩⟩ .slnil) (fun w1 hS => does_field ExJ_fld_54_2 rfl rfl) ?_
  intro a hA
  refine any_take hA 25 rfl rfl rfl rfl (by kernel_rfl) (by kernel_rfl) (by kernel_rfl) (fun c a w h => hP c a _ _ w h) (hS.part (.cons _ (.cons_cons _ (.cons_cons _ .slnil))) ⟨⟨0, rfl⟩, ⟨⟨1, rfl⟩, ⟨⟨2, rfl⟩, ⟨⟨3, rfl⟩, ⟨⟨4, rfl⟩, ⟨⟨5, rfl⟩, trivial⟩⟩⟩⟩⟩⟩ .slnil) (fun w1 hS => does_load1 hS ExJ_is1_22 rfl 0 rfl rfl) ?_
  intro a hA
  refine any_one (by kernel_rfl) (op_call hA 4 rfl rfl rfl rfl (enters_func  rfl rfl (fun w => by kernel_rfl)) (zscaled_any ⟨(hS.rd 5 rfl), ha1.nil, ha1.cap⟩ ⟨(hS.rd 0 rfl), hu3.nil, hu3.cap⟩ (by omega) (by omega)) ?_)
  rintro _ w13 ⟨zo9, zc10, rfl, hs11, hb12⟩
  replace hS := hS.call hb12
  replace hS := hS.addR hs11.rd
  refine ⟨_, rfl, (hS.part (.cons _ (.cons_cons _ (.cons_cons _ .slnil))) ⟨⟨1, rfl⟩, ⟨⟨2, rfl⟩, ⟨⟨3, rfl⟩, ⟨⟨4, rfl⟩, ⟨⟨5, rfl⟩, ⟨⟨6, rfl⟩, trivial⟩⟩⟩⟩⟩⟩ .slnil), ?_⟩
  intro a hA
  refine any_one (by kernel_rfl) (op_call hA 9 rfl rfl rfl rfl (enters_func  rfl rfl (fun w => by kernel_rfl)) (zscaled_any ⟨(hS.rd 3 rfl), hu1.nil, hu1.cap⟩ ⟨(hS.rd 4 rfl), ha3.nil, ha3.cap⟩ (by omega) (by omega)) ?_)
  rintro _ w18 ⟨zo14, zc15, rfl, hs16, hb17⟩
  replace hS := hS.call hb17
  replace hS := hS.addR hs16.rd
  refine ⟨_, rfl, (hS.part (.cons _ (.cons_cons _ (.cons_cons _ .slnil))) ⟨⟨2, rfl⟩, ⟨⟨3, rfl⟩, ⟨⟨4, rfl⟩, ⟨⟨5, rfl⟩, ⟨⟨6, rfl⟩, ⟨⟨7, rfl⟩, trivial⟩⟩⟩⟩⟩⟩ .slnil), ?_⟩
  intro a hA
  refine any_one (by kernel_rfl) (op_call hA 10 rfl rfl rfl rfl (enters_func  rfl rfl (fun w => by kernel_rfl)) (zplus_any ⟨(hS.rd 1 rfl), hs11.nil, hs11.cap⟩ ⟨(hS.rd 0 rfl), hs16.nil, hs16.cap⟩ (by omega) (by omega)) ?_)
  rintro _ w23 ⟨zo19, zc20, rfl, hs21, hb22⟩
  replace hS := hS.call hb22
  replace hS := hS.addR hs21.rd
  refine ⟨_, rfl, (hS.part (.cons _ (.cons_cons _ (.cons_cons _ .slnil))) ⟨⟨3, rfl⟩, ⟨⟨4, rfl⟩, ⟨⟨5, rfl⟩, ⟨⟨6, rfl⟩, ⟨⟨7, rfl⟩, ⟨⟨8, rfl⟩, trivial⟩⟩⟩⟩⟩⟩ .slnil), ?_⟩
  intro a hA
  refine any_one (by kernel_rfl) (op_call hA 15 rfl rfl rfl rfl (enters_func  rfl rfl (fun w => by kernel_rfl)) (zscaled_any ⟨(hS.rd 7 rfl), ha2.nil, ha2.cap⟩ ⟨(hS.rd 3 rfl), hu3.nil, hu3.cap⟩ (by omega) (by omega)) ?_)
  rintro _ w28 ⟨zo24, zc25, rfl, hs26, hb27⟩
  replace hS := hS.call hb27
  replace hS := hS.addR hs26.rd
  refine ⟨_, rfl, (hS.part (.cons _ (.cons_cons _ (.cons_cons _ .slnil))) ⟨⟨4, rfl⟩, ⟨⟨5, rfl⟩, ⟨⟨6, rfl⟩, ⟨⟨7, rfl⟩, ⟨⟨8, rfl⟩, ⟨⟨9, rfl⟩, trivial⟩⟩⟩⟩⟩⟩ .slnil), ?_⟩
  intro a hA
  refine any_one (by kernel_rfl) (op_call hA 20 rfl rfl rfl rfl (enters_func  rfl rfl (fun w => by kernel_rfl)) (zscaled_any ⟨(hS.rd 5 rfl), hu2.nil, hu2.cap⟩ ⟨(hS.rd 7 rfl), ha3.nil, ha3.cap⟩ (by omega) (by omega)) ?_)
  rintro _ w33 ⟨zo29, zc30, rfl, hs31, hb32⟩
  replace hS := hS.call hb32
  replace hS := hS.addR hs31.rd
  refine ⟨_, rfl, (hS.part (.cons _ (.cons_cons _ (.cons_cons _ .slnil))) ⟨⟨5, rfl⟩, ⟨⟨6, rfl⟩, ⟨⟨7, rfl⟩, ⟨⟨8, rfl⟩, ⟨⟨9, rfl⟩, ⟨⟨10, rfl⟩, trivial⟩⟩⟩⟩⟩⟩ .slnil), ?_⟩
  intro a hA
  refine any_one (by kernel_rfl) (op_call hA 21 rfl rfl rfl rfl (enters_func  rfl rfl (fun w => by kernel_rfl)) (zplus_any ⟨(hS.rd 1 rfl), hs26.nil, hs26.cap⟩ ⟨(hS.rd 0 rfl), hs31.nil, hs31.cap⟩ (by omega) (by omega)) ?_)
  rintro _ w38 ⟨zo34, zc35, rfl, hs36, hb37⟩
  replace hS := hS.call hb37
  replace hS := hS.addR hs36.rd
  refine ⟨_, rfl, (hS.part (.cons _ (.cons_cons _ (.cons_cons _ .slnil))) ⟨⟨6, rfl⟩, ⟨⟨7, rfl⟩, ⟨⟨8, rfl⟩, ⟨⟨9, rfl⟩, ⟨⟨10, rfl⟩, ⟨⟨11, rfl⟩, trivial⟩⟩⟩⟩⟩⟩ .slnil), ?_⟩
  intro a hA
  refine any_one (by kernel_rfl) (op_call hA 26 rfl rfl rfl rfl (enters_func  rfl rfl (fun w => by kernel_rfl)) (product_any _ _ (hS.rd 9 rfl) (hS.rd 6 rfl) (by omega) (by omega)) ?_)
  rintro _ w43 ⟨ro39, rc40, rfl, ho41, hb42⟩
  replace hS := hS.call hb42
  replace hS := hS.addR ho41.rd
  refine ⟨_, rfl, (hS.part (.cons _ (.cons_cons _ (.cons_cons _ .slnil))) ⟨⟨7, rfl⟩, ⟨⟨8, rfl⟩, ⟨⟨9, rfl⟩, ⟨⟨10, rfl⟩, ⟨⟨11, rfl⟩, ⟨⟨12, rfl⟩, trivial⟩⟩⟩⟩⟩⟩ .slnil), ?_⟩
  intro a hA
  refine any_take (v := .agg #[.bool ((rb (x1 * ((d2 : Nat) : Int) + (x2 * ((d1 : Nat) : Int))))), .slice zo19 ((words (x1 * ((d2 : Nat) : Int) + (x2 * ((d1 : Nat) : Int))).natAbs).length) zc20, .bool ((rb (y1 * ((d2 : Nat) : Int) + (y2 * ((d1 : Nat) : Int))))), .slice zo34 ((words (y1 * ((d2 : Nat) : Int) + (y2 * ((d1 : Nat) : Int))).natAbs).length) zc35, .slice ro39 ((words (d1 * d2)).length) rc40]) hA 27 rfl rfl rfl rfl (by kernel_rfl) (by kernel_rfl) (by kernel_rfl) (fun c a w h => hP c a _ _ w h) (hS.part (.cons _ (.cons_cons _ (.cons_cons _ .slnil))) ⟨⟨7, rfl⟩, ⟨⟨8, rfl⟩, ⟨⟨9, rfl⟩, ⟨⟨10, rfl⟩, ⟨⟨11, rfl⟩, ⟨⟨12, rfl⟩, trivial⟩⟩⟩⟩⟩⟩ .slnil) (fun w1 hS => does_build rfl (fun w => by kernel_rfl)) ?_
  intro a hA
  refine any_one (by kernel_rfl) (op_store (us := [.bool ((rb (x1 * ((d2 : Nat) : Int) + (x2 * ((d1 : Nat) : Int))))), .slice zo19 ((words (x1 * ((d2 : Nat) : Int) + (x2 * ((d1 : Nat) : Int))).natAbs).length) zc20, .bool ((rb (y1 * ((d2 : Nat) : Int) + (y2 * ((d1 : Nat) : Int))))), .slice zo34 ((words (y1 * ((d2 : Nat) : Int) + (y2 * ((d1 : Nat) : Int))).natAbs).length) zc35, .slice ro39 ((words (d1 * d2)).length) rc40]) hA hS 28 rfl rfl rfl (sets_store (cs := [.bool ((rb (x1 * ((d2 : Nat) : Int) + (x2 * ((d1 : Nat) : Int))))), .slice zo19 ((words (x1 * ((d2 : Nat) : Int) + (x2 * ((d1 : Nat) : Int))).natAbs).length) zc20, .bool ((rb (y1 * ((d2 : Nat) : Int) + (y2 * ((d1 : Nat) : Int))))), .slice zo34 ((words (y1 * ((d2 : Nat) : Int) + (y2 * ((d1 : Nat) : Int))).natAbs).length) zc35, .slice ro39 ((words (d1 * d2)).length) rc40]) rfl rfl rfl (by kernel_rfl) hS 0 rfl rfl rfl) 0 rfl rfl rfl rfl ?_)
  intro w44 hS
  refine ⟨(hS.part (.cons _ (.cons_cons _ (.cons_cons _ .slnil))) ⟨⟨7, rfl⟩, ⟨⟨8, rfl⟩, ⟨⟨9, rfl⟩, ⟨⟨10, rfl⟩, ⟨⟨11, rfl⟩, ⟨⟨12, rfl⟩, trivial⟩⟩⟩⟩⟩⟩ .slnil), ?_⟩
  refine any_end (by kernel_rfl) ?_
  refine hK8 _ _ ?_
  refine wp_ret ?_
  refine hret _ _ ?_
  refine ends (v := .agg #[.bool ((rb (x1 * ((d2 : Nat) : Int) + (x2 * ((d1 : Nat) : Int))))), .slice zo19 ((words (x1 * ((d2 : Nat) : Int) + (x2 * ((d1 : Nat) : Int))).natAbs).length) zc20, .bool ((rb (y1 * ((d2 : Nat) : Int) + (y2 * ((d1 : Nat) : Int))))), .slice zo34 ((words (y1 * ((d2 : Nat) : Int) + (y2 * ((d1 : Nat) : Int))).natAbs).length) zc35, .slice ro39 ((words (d1 * d2)).length) rc40]) hA rfl (.cons (res_cell hS ExJ_isS_54 rfl 0 rfl (cs := [.bool ((rb (x1 * ((d2 : Nat) : Int) + (x2 * ((d1 : Nat) : Int))))), .slice zo19 ((words (x1 * ((d2 : Nat) : Int) + (x2 * ((d1 : Nat) : Int))).natAbs).length) zc20, .bool ((rb (y1 * ((d2 : Nat) : Int) + (y2 * ((d1 : Nat) : Int))))), .slice zo34 ((words (y1 * ((d2 : Nat) : Int) + (y2 * ((d1 : Nat) : Int))).natAbs).length) zc35, .slice ro39 ((words (d1 * d2)).length) rc40]) rfl rfl) .nil) rfl ?_
  exact ⟨zo19, zc20, zo34, zc35, ro39, rc40, rfl, ⟨(hS.rd 4 rfl), hs21.nil, hs21.cap⟩, ⟨(hS.rd 1 rfl), hs36.nil, hs36.cap⟩, ⟨(hS.rd 0 rfl), ho41.nocap, ho41.caps⟩, hS.bel⟩
theorem zdiff_any {w : World} {x1 y1 x2 y2 : Int} {d1 d2 : Nat} {a1 a2 a3 : Option Addr} {ac1 ac2 ac3 : Nat} (ha1 : Sc w a1 ac1 (words x1.natAbs)) (ha2 : Sc w a2 ac2 (words y1.natAbs)) (ha3 : Sc w a3 ac3 (words d1)) {u1 u2 u3 : Option Addr} {uc1 uc2 uc3 : Nat} (hu1 : Sc w u1 uc1 (words x2.natAbs)) (hu2 : Sc w u2 uc2 (words y2.natAbs)) (hu3 : Sc w u3 uc3 (words d2)) (la1 : (words x1.natAbs).length ≤ 10000) (la2 : (words y1.natAbs).length ≤ 10000) (la3 : (words d1).length ≤ 10000) (lu1 : (words x2.natAbs).length ≤ 10000) (lu2 : (words y2.natAbs).length ≤ 10000) (lu3 : (words d2).length ≤ 10000) : Calls Try.prog 32 #[.agg #[.bool (rb x1), .slice a1 (words x1.natAbs).length ac1, .bool (rb y1), .slice a2 (words y1.natAbs).length ac2, .slice a3 (words d1).length ac3], .agg #[.bool (rb x2), .slice u1 (words x2.natAbs).length uc1, .bool (rb y2), .slice u2 (words y2.natAbs).length uc2, .slice u3 (words d2).length uc3]] w (AnsR w (x1 * ((d2 : Nat) : Int) + -x2 * ((d1 : Nat) : Int)) (y1 * ((d2 : Nat) : Int) + -y2 * ((d1 : Nat) : Int)) (d1 * d2)) := by
  have hS : St w w [] [(u3, words d2), (u2, words y2.natAbs), (u1, words x2.natAbs), (a3, words d1), (a2, words y1.natAbs), (a1, words x1.natAbs)] [] := ((((((St.start w).addR ha1.rd).addR ha2.rd).addR ha3.rd).addR hu1.rd).addR hu2.rd).addR hu3.rd
  refine walk_of (l := [(0, .agg #[.bool ((rb x1)), .slice a1 ((words x1.natAbs).length) ac1, .bool ((rb y1)), .slice a2 ((words y1.natAbs).length) ac2, .slice a3 ((words d1).length) ac3]), (1, .agg #[.bool ((rb x2)), .slice u1 ((words x2.natAbs).length) uc1, .bool ((rb y2)), .slice u2 ((words y2.natAbs).length) uc2, .slice u3 ((words d2).length) uc3])]) Try.func32 rfl Try.ntmps32 rfl rfl ?_
  intro Q hret hnorm hP a hA
  refine wp_seq_k (fun K1 hK1 => ?_)
  refine wp_region_lit ?_
  refine seq_new (vs := [.bool ((rb x1)), .slice a1 ((words x1.natAbs).length) ac1, .bool ((rb y1)), .slice a2 ((words y1.natAbs).length) ac2, .slice a3 ((words d1).length) ac3]) (t := 54) hA hS rfl rfl rfl (fun g => .pointer (some ⟨g, 0, none⟩)) (does_box rfl rfl) rfl ?_
  intro g2 w3 hS a hA
  refine seq_new (vs := [.bool ((rb x2)), .slice u1 ((words x2.natAbs).length) uc1, .bool ((rb y2)), .slice u2 ((words y2.natAbs).length) uc2, .slice u3 ((words d2).length) uc3]) (t := 54) hA hS rfl rfl rfl (fun g => .pointer (some ⟨g, 0, none⟩)) (does_box rfl rfl) rfl ?_
  intro g4 w5 hS a hA
  refine seq_new (vs := [.bool false, .slice none 0 0, .bool false, .slice none 0 0, .slice none 0 0]) (t := 54) hA hS rfl rfl rfl (fun g => .pointer (some ⟨g, 0, none⟩)) (does_alloc (z := .agg #[.bool false, .slice none 0 0, .bool false, .slice none 0 0, .slice none 0 0]) (by kernel_rfl) rfl) rfl ?_
  intro g6 w7 hS a hA
  refine seq_end ?_
  refine hK1 _ _ ?_
  refine wp_seq_k (fun K8 hK8 => ?_)
  refine wp_draw (S := fun w1 => St w w1 [(g4, [.bool ((rb x2)), .slice u1 ((words x2.natAbs).length) uc1, .bool ((rb y2)), .slice u2 ((words y2.natAbs).length) uc2, .slice u3 ((words d2).length) uc3]), (g2, [.bool ((rb x1)), .slice a1 ((words x1.natAbs).length) ac1, .bool ((rb y1)), .slice a2 ((words y1.natAbs).length) ac2, .slice a3 ((words d1).length) ac3])] [(u3, words d2), (u2, words y2.natAbs), (u1, words x2.natAbs), (a3, words d1), (a2, words y1.natAbs), (a1, words x1.natAbs)] []) (by kernel_rfl) ?_
  replace hS := hS.drew
  refine any_take (v := .agg #[.bool ((rb x1)), .slice a1 ((words x1.natAbs).length) ac1, .bool ((rb y1)), .slice a2 ((words y1.natAbs).length) ac2, .slice a3 ((words d1).length) ac3]) hA 0 rfl rfl rfl rfl (by kernel_rfl) (by kernel_rfl) (by kernel_rfl) (fun c a w h => hP c a _ _ w h) (hS.part (.cons _ (.cons_cons _ (.cons_cons _ .slnil))) ⟨⟨0, rfl⟩, ⟨⟨1, rfl⟩, ⟨⟨2, rfl⟩, ⟨⟨3, rfl⟩, ⟨⟨4, rfl⟩, ⟨⟨5, rfl⟩, trivial⟩⟩⟩⟩⟩⟩ .slnil) (fun w1 hS => does_loadS hS ExJ_isS_54 rfl 1 rfl (cs := [.bool ((rb x1)), .slice a1 ((words x1.natAbs).length) ac1, .bool ((rb y1)), .slice a2 ((words y1.natAbs).length) ac2, .slice a3 ((words d1).length) ac3]) rfl rfl) ?_
  intro a hA
  refine any_take (v := .pointer (some ⟨g4, 0, none⟩)) hA 1 rfl rfl rfl rfl (by kernel_rfl) (by kernel_rfl) (by kernel_rfl) (fun c a w h => hP c a _ _ w h) (hS.part (.cons _ (.cons_cons _ (.cons_cons _ .slnil))) ⟨⟨0, rfl⟩, ⟨⟨1, rfl⟩, ⟨⟨2, rfl⟩, ⟨⟨3, rfl⟩, ⟨⟨4, rfl⟩, ⟨⟨5, rfl⟩, trivial⟩⟩⟩⟩⟩⟩ .slnil) (fun w1 hS => does_field ExJ_fld_54_0 rfl rfl) ?_
  intro a hA
  refine any_take (v := .agg #[.bool ((rb x2)), .slice u1 ((words x2.natAbs).length) uc1]) hA 2 rfl rfl rfl rfl (by kernel_rfl) (by kernel_rfl) (by kernel_rfl) (fun c a w h => hP c a _ _ w h) (hS.part (.cons _ (.cons_cons _ (.cons_cons _ .slnil))) ⟨⟨0, rfl⟩, ⟨⟨1, rfl⟩, ⟨⟨2, rfl⟩, ⟨⟨3, rfl⟩, ⟨⟨4, rfl⟩, ⟨⟨5, rfl⟩, trivial⟩⟩⟩⟩⟩⟩ .slnil) (fun w1 hS => does_loadS hS ExJ_isS_52 rfl 0 rfl (cs := [.bool ((rb x2)), .slice u1 ((words x2.natAbs).length) uc1]) rfl rfl) ?_
  intro a hA
  refine any_take (v := .pointer (some ⟨g4, 2, none⟩)) hA 4 rfl rfl rfl rfl (by kernel_rfl) (by kernel_rfl) (by kernel_rfl) (fun c a w h => hP c a _ _ w h) (hS.part (.cons _ (.cons_cons _ (.cons_cons _ .slnil))) ⟨⟨0, rfl⟩, ⟨⟨1, rfl⟩, ⟨⟨2, rfl⟩, ⟨⟨3, rfl⟩, ⟨⟨4, rfl⟩, ⟨⟨5, rfl⟩, trivial⟩⟩⟩⟩⟩⟩ .slnil) (fun w1 hS => does_field ExJ_fld_54_1 rfl rfl) ?_
  intro a hA
  refine any_take (v := .agg #[.bool ((rb y2)), .slice u2 ((words y2.natAbs).length) uc2]) hA 5 rfl rfl rfl rfl (by kernel_rfl) (by kernel_rfl) (by kernel_rfl) (fun c a w h => hP c a _ _ w h) (hS.part (.cons _ (.cons_cons _ (.cons_cons _ .slnil))) ⟨⟨0, rfl⟩, ⟨⟨1, rfl⟩, ⟨⟨2, rfl⟩, ⟨⟨3, rfl⟩, ⟨⟨4, rfl⟩, ⟨⟨5, rfl⟩, trivial⟩⟩⟩⟩⟩⟩ .slnil) (fun w1 hS => does_loadS hS ExJ_isS_52 rfl 0 rfl (cs := [.bool ((rb y2)), .slice u2 ((words y2.natAbs).length) uc2]) rfl rfl) ?_
  intro a hA
  refine any_take (v := .pointer (some ⟨g4, 4, none⟩)) hA 7 rfl rfl rfl rfl (by kernel_rfl) (by kernel_rfl) (by kernel_rfl) (fun c a w h => hP c a _ _ w h) (hS.part (.cons _ (.cons_cons _ (.cons_cons _ .slnil))) ⟨⟨0, rfl⟩, ⟨⟨1, rfl⟩, ⟨⟨2, rfl⟩, ⟨⟨3, rfl⟩, ⟨⟨4, rfl⟩, ⟨⟨5, rfl⟩, trivial⟩⟩⟩⟩⟩⟩ .slnil) (fun w1 hS => does_field ExJ_fld_54_2 rfl rfl) ?_
  intro a hA
  refine any_take hA 8 rfl rfl rfl rfl (by kernel_rfl) (by kernel_rfl) (by kernel_rfl) (fun c a w h => hP c a _ _ w h) (hS.part (.cons _ (.cons_cons _ (.cons_cons _ .slnil))) ⟨⟨0, rfl⟩, ⟨⟨1, rfl⟩, ⟨⟨2, rfl⟩, ⟨⟨3, rfl⟩, ⟨⟨4, rfl⟩, ⟨⟨5, rfl⟩, trivial⟩⟩⟩⟩⟩⟩ .slnil) (fun w1 hS => does_load1 hS ExJ_is1_22 rfl 0 rfl rfl) ?_
  intro a hA
  refine any_one (by kernel_rfl) (op_call hA 3 rfl rfl rfl rfl (enters_func  rfl rfl (fun w => by kernel_rfl)) (zopp_any ⟨(hS.rd 2 rfl), hu1.nil, hu1.cap⟩) ?_)
  rintro _ w13 ⟨zo9, zc10, rfl, hs11, hb12⟩
  replace hS := hS.call hb12
  replace hS := hS.addR hs11.rd
  refine ⟨_, rfl, (hS.part (.cons _ (.cons_cons _ (.cons_cons _ .slnil))) ⟨⟨1, rfl⟩, ⟨⟨2, rfl⟩, ⟨⟨3, rfl⟩, ⟨⟨4, rfl⟩, ⟨⟨5, rfl⟩, ⟨⟨6, rfl⟩, trivial⟩⟩⟩⟩⟩⟩ .slnil), ?_⟩
  intro a hA
  refine any_one (by kernel_rfl) (op_call hA 6 rfl rfl rfl rfl (enters_func  rfl rfl (fun w => by kernel_rfl)) (zopp_any ⟨(hS.rd 2 rfl), hu2.nil, hu2.cap⟩) ?_)
  rintro _ w18 ⟨zo14, zc15, rfl, hs16, hb17⟩
  replace hS := hS.call hb17
  replace hS := hS.addR hs16.rd
  refine ⟨_, rfl, (hS.part (.cons _ (.cons_cons _ (.cons_cons _ .slnil))) ⟨⟨2, rfl⟩, ⟨⟨3, rfl⟩, ⟨⟨4, rfl⟩, ⟨⟨5, rfl⟩, ⟨⟨6, rfl⟩, ⟨⟨7, rfl⟩, trivial⟩⟩⟩⟩⟩⟩ .slnil), ?_⟩
  intro a hA
  refine any_take (v := .agg #[.bool ((rb (-x2))), .slice zo9 ((words (-x2).natAbs).length) zc10, .bool ((rb (-y2))), .slice zo14 ((words (-y2).natAbs).length) zc15, .slice u3 ((words d2).length) uc3]) hA 9 rfl rfl rfl rfl (by kernel_rfl) (by kernel_rfl) (by kernel_rfl) (fun c a w h => hP c a _ _ w h) (hS.part (.cons _ (.cons_cons _ (.cons_cons _ .slnil))) ⟨⟨2, rfl⟩, ⟨⟨3, rfl⟩, ⟨⟨4, rfl⟩, ⟨⟨5, rfl⟩, ⟨⟨6, rfl⟩, ⟨⟨7, rfl⟩, trivial⟩⟩⟩⟩⟩⟩ .slnil) (fun w1 hS => does_build rfl (fun w => by kernel_rfl)) ?_
  intro a hA
  refine any_one (by kernel_rfl) (op_call hA 10 rfl rfl rfl rfl (enters_func  rfl rfl (fun w => by kernel_rfl)) (zsum_any ⟨(hS.rd 7 rfl), ha1.nil, ha1.cap⟩ ⟨(hS.rd 6 rfl), ha2.nil, ha2.cap⟩ ⟨(hS.rd 5 rfl), ha3.nil, ha3.cap⟩ ⟨(hS.rd 1 rfl), hs11.nil, hs11.cap⟩ ⟨(hS.rd 0 rfl), hs16.nil, hs16.cap⟩ ⟨(hS.rd 2 rfl), hu3.nil, hu3.cap⟩ (by omega) (by omega) (by omega) (by rw [Int.natAbs_neg]; omega) (by rw [Int.natAbs_neg]; omega) (by omega)) ?_)
  rintro _ w24 ⟨p19_1, p19_c1, p19_2, p19_c2, p19_3, p19_c3, rfl, hs20, hs21, hs22, hb23⟩
  replace hS := hS.call hb23
  replace hS := hS.addR hs20.rd
  replace hS := hS.addR hs21.rd
  replace hS := hS.addR hs22.rd
  refine ⟨_, rfl, (hS.part (.cons _ (.cons_cons _ (.cons_cons _ .slnil))) ⟨⟨5, rfl⟩, ⟨⟨6, rfl⟩, ⟨⟨7, rfl⟩, ⟨⟨8, rfl⟩, ⟨⟨9, rfl⟩, ⟨⟨10, rfl⟩, trivial⟩⟩⟩⟩⟩⟩ .slnil), ?_⟩
  intro a hA
  refine any_one (by kernel_rfl) (op_store (us := [.bool ((rb (x1 * ((d2 : Nat) : Int) + -x2 * ((d1 : Nat) : Int)))), .slice p19_1 ((words (x1 * ((d2 : Nat) : Int) + -x2 * ((d1 : Nat) : Int)).natAbs).length) p19_c1, .bool ((rb (y1 * ((d2 : Nat) : Int) + -y2 * ((d1 : Nat) : Int)))), .slice p19_2 ((words (y1 * ((d2 : Nat) : Int) + -y2 * ((d1 : Nat) : Int)).natAbs).length) p19_c2, .slice p19_3 ((words (d1 * d2)).length) p19_c3]) hA hS 11 rfl rfl rfl (sets_store (cs := [.bool ((rb (x1 * ((d2 : Nat) : Int) + -x2 * ((d1 : Nat) : Int)))), .slice p19_1 ((words (x1 * ((d2 : Nat) : Int) + -x2 * ((d1 : Nat) : Int)).natAbs).length) p19_c1, .bool ((rb (y1 * ((d2 : Nat) : Int) + -y2 * ((d1 : Nat) : Int)))), .slice p19_2 ((words (y1 * ((d2 : Nat) : Int) + -y2 * ((d1 : Nat) : Int)).natAbs).length) p19_c2, .slice p19_3 ((words (d1 * d2)).length) p19_c3]) rfl rfl rfl (by kernel_rfl) hS 0 rfl rfl rfl) 0 rfl rfl rfl rfl ?_)
  intro w25 hS
  refine ⟨(hS.part (.cons _ (.cons_cons _ (.cons_cons _ .slnil))) ⟨⟨5, rfl⟩, ⟨⟨6, rfl⟩, ⟨⟨7, rfl⟩, ⟨⟨8, rfl⟩, ⟨⟨9, rfl⟩, ⟨⟨10, rfl⟩, trivial⟩⟩⟩⟩⟩⟩ .slnil), ?_⟩
  refine any_end (by kernel_rfl) ?_
  refine hK8 _ _ ?_
  refine wp_ret ?_
  refine hret _ _ ?_
  refine ends (v := .agg #[.bool ((rb (x1 * ((d2 : Nat) : Int) + -x2 * ((d1 : Nat) : Int)))), .slice p19_1 ((words (x1 * ((d2 : Nat) : Int) + -x2 * ((d1 : Nat) : Int)).natAbs).length) p19_c1, .bool ((rb (y1 * ((d2 : Nat) : Int) + -y2 * ((d1 : Nat) : Int)))), .slice p19_2 ((words (y1 * ((d2 : Nat) : Int) + -y2 * ((d1 : Nat) : Int)).natAbs).length) p19_c2, .slice p19_3 ((words (d1 * d2)).length) p19_c3]) hA rfl (.cons (res_cell hS ExJ_isS_54 rfl 0 rfl (cs := [.bool ((rb (x1 * ((d2 : Nat) : Int) + -x2 * ((d1 : Nat) : Int)))), .slice p19_1 ((words (x1 * ((d2 : Nat) : Int) + -x2 * ((d1 : Nat) : Int)).natAbs).length) p19_c1, .bool ((rb (y1 * ((d2 : Nat) : Int) + -y2 * ((d1 : Nat) : Int)))), .slice p19_2 ((words (y1 * ((d2 : Nat) : Int) + -y2 * ((d1 : Nat) : Int)).natAbs).length) p19_c2, .slice p19_3 ((words (d1 * d2)).length) p19_c3]) rfl rfl) .nil) rfl ?_
  exact ⟨p19_1, p19_c1, p19_2, p19_c2, p19_3, p19_c3, rfl, ⟨(hS.rd 2 rfl), hs20.nil, hs20.cap⟩, ⟨(hS.rd 1 rfl), hs21.nil, hs21.cap⟩, ⟨(hS.rd 0 rfl), hs22.nil, hs22.cap⟩, hS.bel⟩
end Go.Proofs.Ytoafphdjdgaonaa
namespace Go.Proofs.Ytoafphdjdgaonaa
open Go.RowKit
set_option linter.unusedVariables false
set_option linter.unusedSimpArgs false

/-- A rational number that is not too long. -/
def fitR (u : Rat) : Prop := (words u.num.natAbs).length ≤ 512 ∧ (words u.den).length ≤ 512
instance (u : Rat) : Decidable (fitR u) := inferInstanceAs (Decidable (_ ∧ _))
/-- The number of two rational ones. -/
def Q6.rat (u v : Rat) : Q6 := ⟨rb u.num, words u.num.natAbs, words u.den, rb v.num, words v.num.natAbs, words v.den⟩
/-- .. unless it is too long. -/
def ratS (u v : Rat) : Q6 × Int := if fitR u ∧ fitR v then (Q6.rat u v, 0) else (Q6.zero, 4)
theorem rt_mk (x : Int) {d : Nat} (hd : d ≠ 0) : rt x d = (mkRat x d).num.natAbs := by
  rw [Rat.num_mkRat, if_neg hd, Nat.gcd_comm]
  unfold rt
  have hg : ((Nat.gcd x.natAbs d : Nat) : Int) ∣ x := Int.ofNat_dvd_left.2 (Nat.gcd_dvd_left _ _)
  rw [Int.natAbs_ediv_of_dvd hg, Int.natAbs_natCast]
theorem rq_mk (x : Int) {d : Nat} (hd : d ≠ 0) : rq x d = (mkRat x d).den := by
  rw [Rat.den_mkRat, if_neg hd, Nat.gcd_comm]
  rfl
theorem rb_mk (x : Int) {d : Nat} (hd : d ≠ 0) : rb x = rb (mkRat x d).num := by
  rw [Rat.num_mkRat, if_neg hd]
  unfold rb
  have hg : 0 < ((Nat.gcd d x.natAbs : Nat) : Int) := by
    have := gcd_ne (x := x.natAbs) hd
    rw [Nat.gcd_comm] at this
    omega
  have h2 : ((Nat.gcd d x.natAbs : Nat) : Int) ∣ x := Int.ofNat_dvd_left.2 (Nat.gcd_dvd_right _ _)
  obtain ⟨k, hk⟩ := h2
  generalize ((Nat.gcd d x.natAbs : Nat) : Int) = g at *
  rw [hk]
  rw [Int.mul_ediv_cancel_left _ (by omega)]
  by_cases h : k < 0
  · have := Int.mul_neg_of_pos_of_neg hg h
    rw [decide_eq_true h, decide_eq_true this]
  · have := Int.mul_nonneg (Int.le_of_lt hg) (by omega : 0 ≤ k)
    rw [decide_eq_false h, decide_eq_false (by omega)]
theorem setQ_rat (x y : Int) {d : Nat} (hd : d ≠ 0) : setQ x y d = ratS (mkRat x d) (mkRat y d) := by
  unfold setQ ratS fitR Q6.rat
  rw [rt_mk x hd, rt_mk y hd, rq_mk x hd, rq_mk y hd, ← rb_mk x hd, ← rb_mk y hd]
  by_cases h : (words (mkRat x d).num.natAbs).length ≤ 512 ∧ (words (mkRat x d).den).length ≤ 512 ∧ (words (mkRat y d).num.natAbs).length ≤ 512 ∧ (words (mkRat y d).den).length ≤ 512
  · rw [if_pos h, if_pos ⟨⟨h.1, h.2.1⟩, h.2.2⟩]
  · rw [if_neg h, if_neg (fun k => h ⟨k.1.1, k.1.2, k.2⟩)]
theorem rat_ext {u v : Rat} (h1 : rb u.num = rb v.num) (h2 : words u.num.natAbs = words v.num.natAbs) (h3 : words u.den = words v.den) : u = v := by
  have e2 : u.num.natAbs = v.num.natAbs := by have := congrArg val h2; rwa [val_words, val_words] at this
  have e3 : u.den = v.den := by have := congrArg val h3; rwa [val_words, val_words] at this
  apply Rat.ext _ e3
  rw [← sgn_rb u.num, ← sgn_rb v.num, h1, e2]
theorem Q6.rat_inj {u v x y : Rat} (h : Q6.rat u v = Q6.rat x y) : u = x ∧ v = y := by
  unfold Q6.rat at h
  injection h with h1 h2 h3 h4 h5 h6
  exact ⟨rat_ext h1 h2 h3, rat_ext h4 h5 h6⟩
theorem fracS_rat {u : Rat} (h : fitR u) : fracS (rb u.num) (words u.num.natAbs) (words u.den) = true := by
  unfold fracS gcdS
  rw [sound_of_words h.1, sound_of_words h.2]
  have h1 : ¬ (words u.den).length = 0 := by have := (words_len_pos (x := u.den)).2 u.den_nz; omega
  have h2 : Nat.gcd u.num.natAbs u.den = 1 := u.reduced
  simp only [Bool.and_self, if_true, val_words, h2, words_one, decide_true, Bool.and_true, decide_eq_false h1, Bool.false_or]
  by_cases hz : u.num = 0
  · rw [hz, show rb 0 = false from rfl, Bool.and_false]; rfl
  · have h3 : ¬ (words u.num.natAbs).length = 0 := by have := (words_len_pos (x := u.num.natAbs)).2 (by omega); omega
    rw [decide_eq_false h3]
    rfl
theorem soundQ_rat {u v : Rat} (hu : fitR u) (hv : fitR v) : soundQ (Q6.rat u v) = true := by
  unfold soundQ soundN Q6.rat
  rw [fracS_rat hu, fracS_rat hv]
  rfl
theorem frac_form {b : Bool} {t q : List Nat} (ht : Dig t) (hq : Dig q) (h : fracS b t q = true) : ∃ u : Rat, fitR u ∧ b = rb u.num ∧ t = words u.num.natAbs ∧ q = words u.den := by
  unfold fracS gcdS at h
  by_cases hs : (sound t && sound q) = true
  · rw [if_pos hs] at h
    rw [Bool.and_eq_true] at hs
    obtain ⟨e1, l1⟩ := sound_words ht hs.1
    obtain ⟨e2, l2⟩ := sound_words hq hs.2
    simp only [Bool.and_eq_true, decide_eq_true_eq, Bool.not_eq_true', Bool.or_eq_false_iff, decide_eq_false_iff_not] at h
    obtain ⟨⟨h1, h2⟩, _, h3⟩ := h
    have hd : val q ≠ 0 := fun e => h1 (by rw [e2, e, words_zero]; rfl)
    have hg : Nat.gcd (val t) (val q) = 1 := by
      have := congrArg val h3
      rw [val_words] at this
      rw [this, ← words_one, val_words]
    refine ⟨⟨sgn b (val t), val q, hd, by rw [sgn_abs]; exact hg⟩, ⟨by simp only [sgn_abs]; rw [← e1]; exact l1, by rw [← e2]; exact l2⟩, ?_, by simp only [sgn_abs]; exact e1, e2⟩
    unfold rb
    simp only []
    rw [sgn_neg]
    cases b with
    | false => rfl
    | true =>
      have : 0 < val t := by
        apply Nat.pos_of_ne_zero
        intro e
        rw [e1, e, words_zero] at h2
        simp at h2
      rw [decide_eq_true this]
      rfl
  · rw [if_neg hs] at h
    simp at h
theorem sound_rat {q : Q6} (h1 : Dig q.t1) (h2 : Dig q.q1) (h3 : Dig q.t2) (h4 : Dig q.q2) (h : soundQ q = true) : ∃ u v, q = Q6.rat u v ∧ fitR u ∧ fitR v := by
  unfold soundQ soundN at h
  rw [Bool.and_eq_true] at h
  obtain ⟨u, hu, a1, a2, a3⟩ := frac_form h1 h2 h.1
  obtain ⟨v, hv, b1, b2, b3⟩ := frac_form h3 h4 h.2
  refine ⟨u, v, ?_, hu, hv⟩
  cases q
  simp only [Q6.rat] at *
  rw [a1, a2, a3, b1, b2, b3]
theorem sameQ_rat {u v x y : Rat} (hu : fitR u) (hv : fitR v) (hx : fitR x) (hy : fitR y) : sameQ (Q6.rat u v) (Q6.rat x y) = decide (u = x ∧ v = y) := by
  by_cases h : u = x ∧ v = y
  · rw [decide_eq_true h, h.1, h.2]
    exact sameQ_self (soundQ_rat hx hy)
  · rw [decide_eq_false h]
    cases hs : sameQ (Q6.rat u v) (Q6.rat x y) with
    | false => rfl
    | true => exact absurd (Q6.rat_inj (sameQ_iff.1 hs).2.2) h
/-- Both parts over one bottom. -/
def spG (u v : Rat) : Nat := Nat.gcd u.den v.den
def spX (u v : Rat) : Int := u.num * ((v.den / spG u v : Nat) : Int)
def spY (u v : Rat) : Int := v.num * ((u.den / spG u v : Nat) : Int)
def spD (u v : Rat) : Nat := u.den * (v.den / spG u v)
theorem spG_pos (u v : Rat) : 0 < spG u v := Nat.gcd_pos_of_pos_left _ (Nat.pos_of_ne_zero u.den_nz)
theorem spD_eq (u v : Rat) : spD u v = v.den * (u.den / spG u v) := by
  unfold spD spG
  rw [← Nat.mul_div_assoc _ (Nat.gcd_dvd_right u.den v.den), ← Nat.mul_div_assoc _ (Nat.gcd_dvd_left u.den v.den), Nat.mul_comm]
theorem div_ne {n g : Nat} (hn : n ≠ 0) (hg : 0 < g) (h : g ∣ n) : n / g ≠ 0 := by
  have := Nat.div_pos (Nat.le_of_dvd (Nat.pos_of_ne_zero hn) h) hg
  omega
theorem spD_ne (u v : Rat) : spD u v ≠ 0 := Nat.mul_ne_zero u.den_nz (div_ne v.den_nz (spG_pos u v) (Nat.gcd_dvd_right _ _))
theorem spX_mk (u v : Rat) : mkRat (spX u v) (spD u v) = u := by
  unfold spX spD
  rw [Rat.mkRat_mul_right (div_ne v.den_nz (spG_pos u v) (Nat.gcd_dvd_right _ _)), Rat.mkRat_self]
theorem spY_mk (u v : Rat) : mkRat (spY u v) (spD u v) = v := by
  rw [spD_eq]
  unfold spY
  rw [Rat.mkRat_mul_right (div_ne u.den_nz (spG_pos u v) (Nat.gcd_dvd_left _ _)), Rat.mkRat_self]
theorem nat_abs_len {n k : Nat} (h : (words n).length ≤ k) : (words ((n : Int)).natAbs).length ≤ k := by rw [Int.natAbs_natCast]; exact h
theorem spX_len {u v : Rat} (hu : fitR u) (hv : fitR v) : (words (spX u v).natAbs).length ≤ 1024 := abs_mul_len (k := 512) (m := 512) hu.1 (nat_abs_len (div_len hv.2))
theorem spY_len {u v : Rat} (hu : fitR u) (hv : fitR v) : (words (spY u v).natAbs).length ≤ 1024 := abs_mul_len (k := 512) (m := 512) hv.1 (nat_abs_len (div_len hu.2))
theorem spD_len {u v : Rat} (hu : fitR u) (hv : fitR v) : (words (spD u v)).length ≤ 1024 := words_mul_length (k := 512) (m := 512) hu.2 (div_len hv.2)
/-- One over x + y i, over d. -/
def ivX (x y : Int) (d : Nat) : Int := if y = 0 then sgn (rb x) d else x * (d : Int)
def ivY (x y : Int) (d : Nat) : Int := if y = 0 then 0 else -y * (d : Int)
def ivD (x y : Int) : Nat := if y = 0 then x.natAbs else (x * x + y * y).natAbs
theorem sq_pos {x y : Int} (h : x ≠ 0 ∨ y ≠ 0) : 0 < x * x + y * y := by
  have h1 : 0 ≤ x * x := by rw [← Int.natAbs_mul_self' x]; exact Int.natCast_nonneg _
  have h2 : 0 ≤ y * y := by rw [← Int.natAbs_mul_self' y]; exact Int.natCast_nonneg _
  rcases h with h | h
  · have : x * x ≠ 0 := fun e => h ((Int.mul_eq_zero.1 e).elim id id)
    omega
  · have : y * y ≠ 0 := fun e => h ((Int.mul_eq_zero.1 e).elim id id)
    omega
theorem ivD_ne {x y : Int} (h : x ≠ 0 ∨ y ≠ 0) : ivD x y ≠ 0 := by
  unfold ivD
  split
  · omega
  · have := sq_pos h; omega
theorem sq_abs {x y : Int} : ((x * x + y * y).natAbs : Int) = x * x + y * y := by
  have h1 : 0 ≤ x * x := by rw [← Int.natAbs_mul_self' x]; exact Int.natCast_nonneg _
  have h2 : 0 ≤ y * y := by rw [← Int.natAbs_mul_self' y]; exact Int.natCast_nonneg _
  omega
theorem rat_nat_int (n : Nat) : ((n : Nat) : Rat) = ((n : Int) : Rat) := rfl
theorem iv_mk {x y : Int} {d : Nat} (hd : d ≠ 0) (h : x ≠ 0 ∨ y ≠ 0) {u v : Rat} (hu : mkRat x d = u) (hv : mkRat y d = v) :
    mkRat (ivX x y d) (ivD x y) = u / (u * u + v * v) ∧ mkRat (ivY x y d) (ivD x y) = -v / (u * u + v * v) ∧ u * u + v * v ≠ 0 := by
  have hd' : ((d : Nat) : Rat) ≠ 0 := by rw [Ne, Rat.natCast_eq_zero_iff]; exact hd
  have hs := sq_pos h
  have hs' : (x : Rat) * (x : Rat) + (y : Rat) * (y : Rat) ≠ 0 := by
    rw [← Rat.intCast_mul, ← Rat.intCast_mul, ← Rat.intCast_add, Ne, Rat.intCast_eq_zero_iff]
    omega
  subst hu hv
  rw [Rat.mkRat_eq_div x d, Rat.mkRat_eq_div y d]
  have hn : (x : Rat) / (d : Rat) * ((x : Rat) / (d : Rat)) + (y : Rat) / (d : Rat) * ((y : Rat) / (d : Rat)) ≠ 0 := by grind
  refine ⟨?_, ?_, hn⟩
  · unfold ivX ivD
    by_cases hy : y = 0
    · rw [if_pos hy, if_pos hy]
      subst hy
      have hx : x ≠ 0 := by rcases h with h | h; exact h; exact absurd rfl h
      have hx' : (x : Rat) ≠ 0 := by rw [Ne, Rat.intCast_eq_zero_iff]; exact hx
      have e : mkRat (sgn (rb x) d) x.natAbs = mkRat (d * x) (x.natAbs * x.natAbs) := by
        rw [Rat.mkRat_eq_iff (by omega) (Nat.mul_ne_zero (by omega) (by omega))]
        rw [Int.natCast_mul]
        have e1 := sgn_rb x
        have e2 : sgn (rb x) d * (x.natAbs : Int) = d * x := by
          unfold sgn rb
          by_cases hx0 : x < 0
          · rw [if_pos (decide_eq_true hx0), show (x.natAbs : Int) = -x from by omega, Int.neg_mul_neg]
          · rw [if_neg (by rw [decide_eq_false hx0]; decide), show (x.natAbs : Int) = x from by omega]
        rw [← Int.mul_assoc, e2]
      rw [e, Rat.mkRat_eq_div, Rat.intCast_mul, rat_nat_int (x.natAbs * x.natAbs), Int.natAbs_mul_self, Rat.intCast_mul]
      simp only [Rat.intCast_zero, rat_nat_int] at *
      grind
    · rw [if_neg hy, if_neg hy, Rat.mkRat_eq_div, rat_nat_int (x * x + y * y).natAbs, sq_abs, Rat.intCast_mul, Rat.intCast_add, Rat.intCast_mul, Rat.intCast_mul]
      rw [rat_nat_int] at *
      grind
  · unfold ivY ivD
    by_cases hy : y = 0
    · rw [if_pos hy, if_pos hy]
      subst hy
      rw [Rat.mkRat_eq_div]
      simp only [Rat.intCast_zero, rat_nat_int] at *
      grind
    · rw [if_neg hy, if_neg hy, Rat.mkRat_eq_div, rat_nat_int (x * x + y * y).natAbs, sq_abs, Rat.intCast_mul, Rat.intCast_neg, Rat.intCast_add, Rat.intCast_mul, Rat.intCast_mul]
      rw [rat_nat_int] at *
      grind
/-- The two rational numbers of a number. -/
def reQ (q : Q6) : Rat := mkRat (sgn q.b1 (val q.t1)) (val q.q1)
def imQ (q : Q6) : Rat := mkRat (sgn q.b2 (val q.t2)) (val q.q2)
theorem reQ_rat (u v : Rat) : reQ (Q6.rat u v) = u := by
  unfold reQ Q6.rat
  simp only [val_words, sgn_rb]
  exact Rat.mkRat_self u
theorem imQ_rat (u v : Rat) : imQ (Q6.rat u v) = v := by
  unfold imQ Q6.rat
  simp only [val_words, sgn_rb]
  exact Rat.mkRat_self v
def addQ (p q : Q6) : Q6 × Int := if soundQ p = true ∧ soundQ q = true then ratS (reQ p + reQ q) (imQ p + imQ q) else (Q6.zero, 2)
def subQ (p q : Q6) : Q6 × Int := if soundQ p = true ∧ soundQ q = true then ratS (reQ p - reQ q) (imQ p - imQ q) else (Q6.zero, 2)
def mulQ (p q : Q6) : Q6 × Int := if soundQ p = true ∧ soundQ q = true then ratS (reQ p * reQ q - imQ p * imQ q) (reQ p * imQ q + imQ p * reQ q) else (Q6.zero, 2)
def divQ (p q : Q6) : Q6 × Int :=
  if soundQ p = true ∧ soundQ q = true then
    if reQ q = 0 ∧ imQ q = 0 then (Q6.zero, 3)
    else ratS ((reQ p * reQ q + imQ p * imQ q) / (reQ q * reQ q + imQ q * imQ q)) ((imQ p * reQ q - reQ p * imQ q) / (reQ q * reQ q + imQ q * imQ q))
  else (Q6.zero, 2)
theorem addQ_rat {u v x y : Rat} (hu : fitR u) (hv : fitR v) (hx : fitR x) (hy : fitR y) : addQ (Q6.rat u v) (Q6.rat x y) = ratS (u + x) (v + y) := by
  unfold addQ
  rw [if_pos ⟨soundQ_rat hu hv, soundQ_rat hx hy⟩, reQ_rat, reQ_rat, imQ_rat, imQ_rat]
theorem subQ_rat {u v x y : Rat} (hu : fitR u) (hv : fitR v) (hx : fitR x) (hy : fitR y) : subQ (Q6.rat u v) (Q6.rat x y) = ratS (u - x) (v - y) := by
  unfold subQ
  rw [if_pos ⟨soundQ_rat hu hv, soundQ_rat hx hy⟩, reQ_rat, reQ_rat, imQ_rat, imQ_rat]
theorem mulQ_rat {u v x y : Rat} (hu : fitR u) (hv : fitR v) (hx : fitR x) (hy : fitR y) : mulQ (Q6.rat u v) (Q6.rat x y) = ratS (u * x - v * y) (u * y + v * x) := by
  unfold mulQ
  rw [if_pos ⟨soundQ_rat hu hv, soundQ_rat hx hy⟩, reQ_rat, reQ_rat, imQ_rat, imQ_rat]
theorem divQ_rat {u v x y : Rat} (hu : fitR u) (hv : fitR v) (hx : fitR x) (hy : fitR y) (h : ¬ (x = 0 ∧ y = 0)) : divQ (Q6.rat u v) (Q6.rat x y) = ratS ((u * x + v * y) / (x * x + y * y)) ((v * x - u * y) / (x * x + y * y)) := by
  unfold divQ
  rw [if_pos ⟨soundQ_rat hu hv, soundQ_rat hx hy⟩, reQ_rat, reQ_rat, imQ_rat, imQ_rat, if_neg h]
theorem divQ_zero {u v x y : Rat} (hu : fitR u) (hv : fitR v) (hx : fitR x) (hy : fitR y) (h : x = 0 ∧ y = 0) : divQ (Q6.rat u v) (Q6.rat x y) = (Q6.zero, 3) := by
  unfold divQ
  rw [if_pos ⟨soundQ_rat hu hv, soundQ_rat hx hy⟩, reQ_rat, imQ_rat, if_pos h]
theorem lenQ_rat {u v : Rat} (hu : fitR u) (hv : fitR v) : LenQ (Q6.rat u v) := by
  have h1 := hu.1
  have h2 := hu.2
  have h3 := hv.1
  have h4 := hv.2
  exact ⟨by simp only [Q6.rat]; omega, by simp only [Q6.rat]; omega, by simp only [Q6.rat]; omega, by simp only [Q6.rat]; omega⟩
theorem lenQ_z : LenQ Q6.zero := ⟨by decide, by decide, by decide, by decide⟩
theorem lenQ_ratS (u v : Rat) : LenQ (ratS u v).1 := by
  unfold ratS
  by_cases h : fitR u ∧ fitR v
  · rw [if_pos h]; exact lenQ_rat h.1 h.2
  · rw [if_neg h]; exact lenQ_z
theorem lenQ_add (p q : Q6) : LenQ (addQ p q).1 := by unfold addQ; split; exact lenQ_ratS _ _; exact lenQ_z
theorem lenQ_sub (p q : Q6) : LenQ (subQ p q).1 := by unfold subQ; split; exact lenQ_ratS _ _; exact lenQ_z
theorem lenQ_mul (p q : Q6) : LenQ (mulQ p q).1 := by unfold mulQ; split; exact lenQ_ratS _ _; exact lenQ_z
theorem lenQ_div (p q : Q6) : LenQ (divQ p q).1 := by
  unfold divQ
  split
  · split
    · exact lenQ_z
    · exact lenQ_ratS _ _
  · exact lenQ_z
theorem set_add {x1 y1 x2 y2 : Int} {d1 d2 : Nat} {u v x y : Rat} (h1 : d1 ≠ 0) (h2 : d2 ≠ 0) (hu : mkRat x1 d1 = u) (hv : mkRat y1 d1 = v) (hx : mkRat x2 d2 = x) (hy : mkRat y2 d2 = y) :
    setQ (x1 * ((d2 : Nat) : Int) + x2 * ((d1 : Nat) : Int)) (y1 * ((d2 : Nat) : Int) + y2 * ((d1 : Nat) : Int)) (d1 * d2) = ratS (u + x) (v + y) := by
  subst hu hv hx hy
  rw [setQ_rat _ _ (Nat.mul_ne_zero h1 h2), Rat.mkRat_add_mkRat _ _ h1 h2, Rat.mkRat_add_mkRat _ _ h1 h2]
theorem set_sub {x1 y1 x2 y2 : Int} {d1 d2 : Nat} {u v x y : Rat} (h1 : d1 ≠ 0) (h2 : d2 ≠ 0) (hu : mkRat x1 d1 = u) (hv : mkRat y1 d1 = v) (hx : mkRat x2 d2 = x) (hy : mkRat y2 d2 = y) :
    setQ (x1 * ((d2 : Nat) : Int) + -x2 * ((d1 : Nat) : Int)) (y1 * ((d2 : Nat) : Int) + -y2 * ((d1 : Nat) : Int)) (d1 * d2) = ratS (u - x) (v - y) := by
  subst hu hv hx hy
  rw [setQ_rat _ _ (Nat.mul_ne_zero h1 h2), Rat.sub_eq_add_neg, Rat.sub_eq_add_neg, Rat.neg_mkRat, Rat.neg_mkRat, Rat.mkRat_add_mkRat _ _ h1 h2, Rat.mkRat_add_mkRat _ _ h1 h2]
theorem mk_add {x y : Int} {d : Nat} (hd : d ≠ 0) : mkRat x d + mkRat y d = mkRat (x + y) d := by
  rw [Rat.mkRat_add_mkRat _ _ hd hd, ← Int.add_mul, Rat.mkRat_mul_right hd]
theorem set_mul {x1 y1 x2 y2 : Int} {d1 d2 : Nat} {u v x y : Rat} (h1 : d1 ≠ 0) (h2 : d2 ≠ 0) (hu : mkRat x1 d1 = u) (hv : mkRat y1 d1 = v) (hx : mkRat x2 d2 = x) (hy : mkRat y2 d2 = y) :
    setQ (x1 * x2 + -(y1 * y2)) (x1 * y2 + y1 * x2) (d1 * d2) = ratS (u * x - v * y) (u * y + v * x) := by
  subst hu hv hx hy
  have h := Nat.mul_ne_zero h1 h2
  rw [setQ_rat _ _ h, Rat.sub_eq_add_neg, Rat.mkRat_mul_mkRat, Rat.mkRat_mul_mkRat, Rat.mkRat_mul_mkRat, Rat.mkRat_mul_mkRat, Rat.neg_mkRat, mk_add h, mk_add h]
theorem set_div {x1 y1 x2 y2 : Int} {d1 d2 : Nat} {u v x y : Rat} (h1 : d1 ≠ 0) (h2 : d2 ≠ 0) (hu : mkRat x1 d1 = u) (hv : mkRat y1 d1 = v) (hx : mkRat x2 d2 = x) (hy : mkRat y2 d2 = y) (h : x2 ≠ 0 ∨ y2 ≠ 0) :
    setQ (x1 * ivX x2 y2 d2 + -(y1 * ivY x2 y2 d2)) (x1 * ivY x2 y2 d2 + y1 * ivX x2 y2 d2) (d1 * ivD x2 y2) = ratS ((u * x + v * y) / (x * x + y * y)) ((v * x - u * y) / (x * x + y * y)) := by
  obtain ⟨e1, e2, hn⟩ := iv_mk h2 h hx hy
  rw [set_mul h1 (ivD_ne h) hu hv e1 e2]
  congr 1 <;> grind
theorem ivX_len {x y : Int} {d k : Nat} (hx : (words x.natAbs).length ≤ k) (hd : (words d).length ≤ k) : (words (ivX x y d).natAbs).length ≤ k + k := by
  unfold ivX
  split
  · rw [sgn_abs]; omega
  · exact abs_mul_len hx (nat_abs_len hd)
theorem ivY_len {x y : Int} {d k : Nat} (hy : (words y.natAbs).length ≤ k) (hd : (words d).length ≤ k) : (words (ivY x y d).natAbs).length ≤ k + k := by
  unfold ivY
  split
  · rw [Int.natAbs_zero, words_zero]; exact Nat.zero_le _
  · exact abs_mul_len (by rw [Int.natAbs_neg]; exact hy) (nat_abs_len hd)
theorem ivD_len {x y : Int} {k : Nat} (hx : (words x.natAbs).length ≤ k) (hy : (words y.natAbs).length ≤ k) : (words (ivD x y)).length ≤ k + k + 1 := by
  unfold ivD
  split
  · omega
  · exact abs_add_len (abs_mul_len hx hx) (abs_mul_len hy hy)
/-- A number is sound, with its two rational ones, or not. -/
theorem sound_cases {q : Q6} {w : World} {o1 o2 o3 o4 : Option Addr} {c1 c2 c3 c4 : Nat} (h : Nm w q o1 c1 o2 c2 o3 c3 o4 c4) : soundQ q = false ∨ ∃ u v, q = Q6.rat u v ∧ fitR u ∧ fitR v := by
  cases hs : soundQ q with
  | false => exact .inl rfl
  | true => exact .inr (sound_rat h.s1.rd.dig h.s2.rd.dig h.s3.rd.dig h.s4.rd.dig hs)
theorem zero_rat (u v : Rat) : (decide ((words u.num.natAbs).length = 0) && decide ((words v.num.natAbs).length = 0)) = decide (u = 0 ∧ v = 0) := by
  have key : ∀ r : Rat, decide ((words r.num.natAbs).length = 0) = decide (r = 0) := fun r => by
    by_cases h : r = 0
    · rw [decide_eq_true h, h]
      rw [show (0 : Rat).num.natAbs = 0 from rfl, words_zero]
      rfl
    · rw [decide_eq_false h]
      apply decide_eq_false
      intro e
      have e1 := words_eq_nil.1 (List.length_eq_zero_iff.1 e)
      exact h (Rat.num_eq_zero.1 (by omega))
  rw [key, key]
  by_cases h1 : u = 0 <;> by_cases h2 : v = 0 <;> simp [h1, h2]
theorem sp_ne {u v : Rat} (h : ¬ (u = 0 ∧ v = 0)) : spX u v ≠ 0 ∨ spY u v ≠ 0 := by
  apply Classical.byContradiction
  intro hn
  have h1 : spX u v = 0 := Classical.byContradiction fun k => hn (.inl k)
  have h2 : spY u v = 0 := Classical.byContradiction fun k => hn (.inr k)
  apply h
  have e1 := spX_mk u v
  have e2 := spY_mk u v
  rw [h1, Rat.zero_mkRat] at e1
  rw [h2, Rat.zero_mkRat] at e2
  exact ⟨e1.symm, e2.symm⟩
end Go.Proofs.Ytoafphdjdgaonaa
namespace Go.Proofs.Ytoafphdjdgaonaa
open Go.RowKit
set_option linter.unusedVariables false
set_option linter.unusedSimpArgs false
set_option maxRecDepth 100000
theorem ExK_is1_22 : Is1 Try.prog 22 := ⟨⟨_, Try.underlying22, rfl⟩, by kernel_rfl⟩
theorem ExK_is1_4 : Is1 Try.prog 4 := ⟨⟨_, Try.underlying4, rfl⟩, by kernel_rfl⟩
theorem ExK_fld_24_0 : FieldAt Try.prog 24 0 0 := ⟨_, _, Try.underlying24, rfl, rfl, by kernel_rfl⟩
theorem ExK_fld_24_1 : FieldAt Try.prog 24 1 1 := ⟨_, _, Try.underlying24, rfl, rfl, by kernel_rfl⟩
theorem ExK_fld_24_2 : FieldAt Try.prog 24 2 2 := ⟨_, _, Try.underlying24, rfl, rfl, by kernel_rfl⟩
theorem ExK_fld_26_0 : FieldAt Try.prog 26 0 0 := ⟨_, _, Try.underlying26, rfl, rfl, by kernel_rfl⟩
theorem ExK_fld_26_1 : FieldAt Try.prog 26 1 3 := ⟨_, _, Try.underlying26, rfl, rfl, by kernel_rfl⟩
theorem ExK_fld_52_0 : FieldAt Try.prog 52 0 0 := ⟨_, _, Try.underlying52, rfl, rfl, by kernel_rfl⟩
theorem ExK_fld_52_1 : FieldAt Try.prog 52 1 1 := ⟨_, _, Try.underlying52, rfl, rfl, by kernel_rfl⟩
theorem ExK_fld_54_0 : FieldAt Try.prog 54 0 0 := ⟨_, _, Try.underlying54, rfl, rfl, by kernel_rfl⟩
theorem ExK_fld_54_1 : FieldAt Try.prog 54 1 2 := ⟨_, _, Try.underlying54, rfl, rfl, by kernel_rfl⟩
theorem ExK_fld_54_2 : FieldAt Try.prog 54 2 4 := ⟨_, _, Try.underlying54, rfl, rfl, by kernel_rfl⟩
theorem ExK_isS_52 : IsS Try.prog 52 2 := ⟨⟨_, Try.underlying52⟩, by kernel_rfl⟩
theorem ExK_isS_54 : IsS Try.prog 54 5 := ⟨⟨_, Try.underlying54⟩, by kernel_rfl⟩
theorem zspread_any {w : World} {u v : Rat} {a1 a2 a3 a4 : Option Addr} {ac1 ac2 ac3 ac4 : Nat} (ha : Nm w (Q6.rat u v) a1 ac1 a2 ac2 a3 ac3 a4 ac4) (hu : fitR u) (hv : fitR v) : Calls Try.prog 36 #[numV (Q6.rat u v) a1 ac1 a2 ac2 a3 ac3 a4 ac4] w (AnsR w (spX u v) (spY u v) (spD u v)) := by
  have k1 : (words u.num.natAbs).length ≤ 512 := hu.1
  have k2 : (words u.den).length ≤ 512 := hu.2
  have k3 : (words v.num.natAbs).length ≤ 512 := hv.1
  have k4 : (words v.den).length ≤ 512 := hv.2
  have k5 : (words (v.den / spG u v)).length ≤ 512 := div_len hv.2
  have k6 : (words (u.den / spG u v)).length ≤ 512 := div_len hu.2
  have k7 : (words (spG u v)).length ≤ 512 := gcd_len v.den_nz hv.2
  have hS : St w w [] [(a4, words v.den), (a3, words v.num.natAbs), (a2, words u.den), (a1, words u.num.natAbs)] [] := ((((St.start w).addR ha.s1.rd).addR ha.s2.rd).addR ha.s3.rd).addR ha.s4.rd
  refine walk_of (l := [(0, .agg #[.bool (rb u.num), .slice a1 ((words u.num.natAbs).length) ac1, .slice a2 ((words u.den).length) ac2, .bool (rb v.num), .slice a3 ((words v.num.natAbs).length) ac3, .slice a4 ((words v.den).length) ac4])]) Try.func36 rfl Try.ntmps36 rfl rfl ?_
  intro Q hret hnorm hP a hA
  refine wp_seq_k (fun K1 hK1 => ?_)
  refine wp_region_lit ?_
  refine seq_new (vs := [.bool (rb u.num), .slice a1 ((words u.num.natAbs).length) ac1, .slice a2 ((words u.den).length) ac2, .bool (rb v.num), .slice a3 ((words v.num.natAbs).length) ac3, .slice a4 ((words v.den).length) ac4]) (t := 26) hA hS rfl rfl rfl (fun g => .pointer (some ⟨g, 0, none⟩)) (does_box rfl rfl) rfl ?_
  intro g2 w3 hS a hA
  refine seq_new (vs := [.bool false, .slice none 0 0, .bool false, .slice none 0 0, .slice none 0 0]) (t := 54) hA hS rfl rfl rfl (fun g => .pointer (some ⟨g, 0, none⟩)) (does_alloc (z := .agg #[.bool false, .slice none 0 0, .bool false, .slice none 0 0, .slice none 0 0]) (by kernel_rfl) rfl) rfl ?_
  intro g4 w5 hS a hA
  refine seq_end ?_
  refine hK1 _ _ ?_
  refine wp_seq_k (fun K6 hK6 => ?_)
  refine wp_region_lit ?_
  refine seq_do (v := .pointer (some ⟨g2, 0, none⟩)) hA rfl rfl rfl (does_field ExK_fld_26_0 rfl rfl) ?_
  intro a hA
  refine seq_do (v := .pointer (some ⟨g2, 2, none⟩)) hA rfl rfl rfl (does_field ExK_fld_24_2 rfl rfl) ?_
  intro a hA
  refine seq_do hA rfl rfl rfl (does_load1 hS ExK_is1_22 rfl 1 rfl rfl) ?_
  intro a hA
  refine seq_do (v := .pointer (some ⟨g2, 3, none⟩)) hA rfl rfl rfl (does_field ExK_fld_26_1 rfl rfl) ?_
  intro a hA
  refine seq_do (v := .pointer (some ⟨g2, 5, none⟩)) hA rfl rfl rfl (does_field ExK_fld_24_2 rfl rfl) ?_
  intro a hA
  refine seq_do hA rfl rfl rfl (does_load1 hS ExK_is1_22 rfl 1 rfl rfl) ?_
  intro a hA
  refine seq_call hA rfl rfl rfl (enters_func  rfl rfl (fun w => by kernel_rfl)) (divisor_any _ _ (hS.rd 2 rfl) (hS.rd 0 rfl) (by omega) (by omega) ha.s2.nil ha.s4.nil) ?_
  rintro _ w11 ⟨ro7, rc8, rfl, ho9, hb10⟩
  replace hS := hS.call hb10
  replace hS := hS.addR ho9.rd
  refine ⟨_, rfl, ?_⟩
  intro a hA
  refine seq_do hA rfl rfl rfl (does_assign rfl) ?_
  intro a hA
  refine seq_end ?_
  refine hK6 _ _ ?_
  refine wp_seq_k (fun K12 hK12 => ?_)
  refine wp_region_lit ?_
  refine seq_do (v := .pointer (some ⟨g2, 3, none⟩)) hA rfl rfl rfl (does_field ExK_fld_26_1 rfl rfl) ?_
  intro a hA
  refine seq_do (v := .pointer (some ⟨g2, 5, none⟩)) hA rfl rfl rfl (does_field ExK_fld_24_2 rfl rfl) ?_
  intro a hA
  refine seq_do hA rfl rfl rfl (does_load1 hS ExK_is1_22 rfl 1 rfl rfl) ?_
  intro a hA
  refine seq_do hA rfl rfl rfl (does_move rfl) ?_
  intro a hA
  refine seq_call hA rfl rfl rfl (enters_func  rfl rfl (fun w => by kernel_rfl)) (divide_any _ _ (hS.rd 1 rfl) (hS.rd 0 rfl) (by omega) (Nat.le_trans (gcd_len v.den_nz hv.2) (by decide)) ha.s4.nil (Nat.ne_of_gt (spG_pos u v))) ?_
  rintro _ w20 ⟨ro13, rc14, uo15, uc16, rfl, ho17, hp18, hb19⟩
  replace hS := hS.call hb19
  replace hS := hS.addR ho17.rd
  replace hS := hS.addR hp18.rd
  refine ⟨_, rfl, ?_⟩
  intro a hA
  refine seq_do hA rfl rfl rfl (does_move rfl) ?_
  intro a hA
  refine seq_do (v := .slice ro13 ((words (v.den / spG u v)).length) rc14) hA rfl rfl rfl (does_extract (vs := [.slice ro13 ((words (v.den / spG u v)).length) rc14, .slice uo15 ((words (v.den % spG u v)).length) uc16]) rfl rfl) ?_
  intro a hA
  refine seq_do (v := .slice uo15 ((words (v.den % spG u v)).length) uc16) hA rfl rfl rfl (does_extract (vs := [.slice ro13 ((words (v.den / spG u v)).length) rc14, .slice uo15 ((words (v.den % spG u v)).length) uc16]) rfl rfl) ?_
  intro a hA
  refine seq_do hA rfl rfl rfl (does_assign rfl) ?_
  intro a hA
  refine seq_do hA rfl rfl rfl (does_assign rfl) ?_
  intro a hA
  refine seq_end ?_
  refine hK12 _ _ ?_
  refine wp_seq_k (fun K21 hK21 => ?_)
  refine wp_region_lit ?_
  refine seq_do (v := .pointer (some ⟨g2, 0, none⟩)) hA rfl rfl rfl (does_field ExK_fld_26_0 rfl rfl) ?_
  intro a hA
  refine seq_do (v := .pointer (some ⟨g2, 2, none⟩)) hA rfl rfl rfl (does_field ExK_fld_24_2 rfl rfl) ?_
  intro a hA
  refine seq_do hA rfl rfl rfl (does_load1 hS ExK_is1_22 rfl 1 rfl rfl) ?_
  intro a hA
  refine seq_do hA rfl rfl rfl (does_move rfl) ?_
  intro a hA
  refine seq_call hA rfl rfl rfl (enters_func  rfl rfl (fun w => by kernel_rfl)) (divide_any _ _ (hS.rd 5 rfl) (hS.rd 2 rfl) (by omega) (Nat.le_trans (gcd_len v.den_nz hv.2) (by decide)) ha.s2.nil (Nat.ne_of_gt (spG_pos u v))) ?_
  rintro _ w29 ⟨ro22, rc23, uo24, uc25, rfl, ho26, hp27, hb28⟩
  replace hS := hS.call hb28
  replace hS := hS.addR ho26.rd
  replace hS := hS.addR hp27.rd
  refine ⟨_, rfl, ?_⟩
  intro a hA
  refine seq_do hA rfl rfl rfl (does_move rfl) ?_
  intro a hA
  refine seq_do (v := .slice ro22 ((words (u.den / spG u v)).length) rc23) hA rfl rfl rfl (does_extract (vs := [.slice ro22 ((words (u.den / spG u v)).length) rc23, .slice uo24 ((words (u.den % spG u v)).length) uc25]) rfl rfl) ?_
  intro a hA
  refine seq_do (v := .slice uo24 ((words (u.den % spG u v)).length) uc25) hA rfl rfl rfl (does_extract (vs := [.slice ro22 ((words (u.den / spG u v)).length) rc23, .slice uo24 ((words (u.den % spG u v)).length) uc25]) rfl rfl) ?_
  intro a hA
  refine seq_do hA rfl rfl rfl (does_assign rfl) ?_
  intro a hA
  refine seq_do hA rfl rfl rfl (does_assign rfl) ?_
  intro a hA
  refine seq_end ?_
  refine hK21 _ _ ?_
  refine wp_seq_k (fun K30 hK30 => ?_)
  refine wp_draw (S := fun w1 => St w w1 [(g2, [.bool (rb u.num), .slice a1 ((words u.num.natAbs).length) ac1, .slice a2 ((words u.den).length) ac2, .bool (rb v.num), .slice a3 ((words v.num.natAbs).length) ac3, .slice a4 ((words v.den).length) ac4])] [(uo24, words (u.den % spG u v)), (ro22, words (u.den / spG u v)), (uo15, words (v.den % spG u v)), (ro13, words (v.den / spG u v)), (ro7, words (spG u v)), (a4, words v.den), (a3, words v.num.natAbs), (a2, words u.den), (a1, words u.num.natAbs)] []) (by kernel_rfl) ?_
  replace hS := hS.drew
  refine any_take (v := .pointer (some ⟨g2, 0, none⟩)) hA 0 rfl rfl rfl rfl (by kernel_rfl) (by kernel_rfl) (by kernel_rfl) (fun c a w h => hP c a _ _ w h) (hS.part (.cons _ (.cons_cons _ .slnil)) ⟨⟨0, rfl⟩, ⟨⟨1, rfl⟩, ⟨⟨2, rfl⟩, ⟨⟨3, rfl⟩, ⟨⟨4, rfl⟩, ⟨⟨5, rfl⟩, ⟨⟨6, rfl⟩, ⟨⟨7, rfl⟩, ⟨⟨8, rfl⟩, trivial⟩⟩⟩⟩⟩⟩⟩⟩⟩ .slnil) (fun w1 hS => does_field ExK_fld_26_0 rfl rfl) ?_
  intro a hA
  refine any_take (v := .pointer (some ⟨g2, 0, none⟩)) hA 1 rfl rfl rfl rfl (by kernel_rfl) (by kernel_rfl) (by kernel_rfl) (fun c a w h => hP c a _ _ w h) (hS.part (.cons _ (.cons_cons _ .slnil)) ⟨⟨0, rfl⟩, ⟨⟨1, rfl⟩, ⟨⟨2, rfl⟩, ⟨⟨3, rfl⟩, ⟨⟨4, rfl⟩, ⟨⟨5, rfl⟩, ⟨⟨6, rfl⟩, ⟨⟨7, rfl⟩, ⟨⟨8, rfl⟩, trivial⟩⟩⟩⟩⟩⟩⟩⟩⟩ .slnil) (fun w1 hS => does_field ExK_fld_24_0 rfl rfl) ?_
  intro a hA
  refine any_take hA 2 rfl rfl rfl rfl (by kernel_rfl) (by kernel_rfl) (by kernel_rfl) (fun c a w h => hP c a _ _ w h) (hS.part (.cons _ (.cons_cons _ .slnil)) ⟨⟨0, rfl⟩, ⟨⟨1, rfl⟩, ⟨⟨2, rfl⟩, ⟨⟨3, rfl⟩, ⟨⟨4, rfl⟩, ⟨⟨5, rfl⟩, ⟨⟨6, rfl⟩, ⟨⟨7, rfl⟩, ⟨⟨8, rfl⟩, trivial⟩⟩⟩⟩⟩⟩⟩⟩⟩ .slnil) (fun w1 hS => does_load1 hS ExK_is1_4 rfl 0 rfl rfl) ?_
  intro a hA
  refine any_take (v := .pointer (some ⟨g2, 0, none⟩)) hA 3 rfl rfl rfl rfl (by kernel_rfl) (by kernel_rfl) (by kernel_rfl) (fun c a w h => hP c a _ _ w h) (hS.part (.cons _ (.cons_cons _ .slnil)) ⟨⟨0, rfl⟩, ⟨⟨1, rfl⟩, ⟨⟨2, rfl⟩, ⟨⟨3, rfl⟩, ⟨⟨4, rfl⟩, ⟨⟨5, rfl⟩, ⟨⟨6, rfl⟩, ⟨⟨7, rfl⟩, ⟨⟨8, rfl⟩, trivial⟩⟩⟩⟩⟩⟩⟩⟩⟩ .slnil) (fun w1 hS => does_field ExK_fld_26_0 rfl rfl) ?_
  intro a hA
  refine any_take (v := .pointer (some ⟨g2, 1, none⟩)) hA 4 rfl rfl rfl rfl (by kernel_rfl) (by kernel_rfl) (by kernel_rfl) (fun c a w h => hP c a _ _ w h) (hS.part (.cons _ (.cons_cons _ .slnil)) ⟨⟨0, rfl⟩, ⟨⟨1, rfl⟩, ⟨⟨2, rfl⟩, ⟨⟨3, rfl⟩, ⟨⟨4, rfl⟩, ⟨⟨5, rfl⟩, ⟨⟨6, rfl⟩, ⟨⟨7, rfl⟩, ⟨⟨8, rfl⟩, trivial⟩⟩⟩⟩⟩⟩⟩⟩⟩ .slnil) (fun w1 hS => does_field ExK_fld_24_1 rfl rfl) ?_
  intro a hA
  refine any_take hA 5 rfl rfl rfl rfl (by kernel_rfl) (by kernel_rfl) (by kernel_rfl) (fun c a w h => hP c a _ _ w h) (hS.part (.cons _ (.cons_cons _ .slnil)) ⟨⟨0, rfl⟩, ⟨⟨1, rfl⟩, ⟨⟨2, rfl⟩, ⟨⟨3, rfl⟩, ⟨⟨4, rfl⟩, ⟨⟨5, rfl⟩, ⟨⟨6, rfl⟩, ⟨⟨7, rfl⟩, ⟨⟨8, rfl⟩, trivial⟩⟩⟩⟩⟩⟩⟩⟩⟩ .slnil) (fun w1 hS => does_load1 hS ExK_is1_22 rfl 0 rfl rfl) ?_
  intro a hA
  refine any_take hA 7 rfl rfl rfl rfl (by kernel_rfl) (by kernel_rfl) (by kernel_rfl) (fun c a w h => hP c a _ _ w h) (hS.part (.cons _ (.cons_cons _ .slnil)) ⟨⟨0, rfl⟩, ⟨⟨1, rfl⟩, ⟨⟨2, rfl⟩, ⟨⟨3, rfl⟩, ⟨⟨4, rfl⟩, ⟨⟨5, rfl⟩, ⟨⟨6, rfl⟩, ⟨⟨7, rfl⟩, ⟨⟨8, rfl⟩, trivial⟩⟩⟩⟩⟩⟩⟩⟩⟩ .slnil) (fun w1 hS => does_move rfl) ?_
  intro a hA
  refine any_take (v := .pointer (some ⟨g2, 3, none⟩)) hA 9 rfl rfl rfl rfl (by kernel_rfl) (by kernel_rfl) (by kernel_rfl) (fun c a w h => hP c a _ _ w h) (hS.part (.cons _ (.cons_cons _ .slnil)) ⟨⟨0, rfl⟩, ⟨⟨1, rfl⟩, ⟨⟨2, rfl⟩, ⟨⟨3, rfl⟩, ⟨⟨4, rfl⟩, ⟨⟨5, rfl⟩, ⟨⟨6, rfl⟩, ⟨⟨7, rfl⟩, ⟨⟨8, rfl⟩, trivial⟩⟩⟩⟩⟩⟩⟩⟩⟩ .slnil) (fun w1 hS => does_field ExK_fld_26_1 rfl rfl) ?_
  intro a hA
  refine any_take (v := .pointer (some ⟨g2, 3, none⟩)) hA 10 rfl rfl rfl rfl (by kernel_rfl) (by kernel_rfl) (by kernel_rfl) (fun c a w h => hP c a _ _ w h) (hS.part (.cons _ (.cons_cons _ .slnil)) ⟨⟨0, rfl⟩, ⟨⟨1, rfl⟩, ⟨⟨2, rfl⟩, ⟨⟨3, rfl⟩, ⟨⟨4, rfl⟩, ⟨⟨5, rfl⟩, ⟨⟨6, rfl⟩, ⟨⟨7, rfl⟩, ⟨⟨8, rfl⟩, trivial⟩⟩⟩⟩⟩⟩⟩⟩⟩ .slnil) (fun w1 hS => does_field ExK_fld_24_0 rfl rfl) ?_
  intro a hA
  refine any_take hA 11 rfl rfl rfl rfl (by kernel_rfl) (by kernel_rfl) (by kernel_rfl) (fun c a w h => hP c a _ _ w h) (hS.part (.cons _ (.cons_cons _ .slnil)) ⟨⟨0, rfl⟩, ⟨⟨1, rfl⟩, ⟨⟨2, rfl⟩, ⟨⟨3, rfl⟩, ⟨⟨4, rfl⟩, ⟨⟨5, rfl⟩, ⟨⟨6, rfl⟩, ⟨⟨7, rfl⟩, ⟨⟨8, rfl⟩, trivial⟩⟩⟩⟩⟩⟩⟩⟩⟩ .slnil) (fun w1 hS => does_load1 hS ExK_is1_4 rfl 0 rfl rfl) ?_
  intro a hA
  refine any_take (v := .pointer (some ⟨g2, 3, none⟩)) hA 12 rfl rfl rfl rfl (by kernel_rfl) (by kernel_rfl) (by kernel_rfl) (fun c a w h => hP c a _ _ w h) (hS.part (.cons _ (.cons_cons _ .slnil)) ⟨⟨0, rfl⟩, ⟨⟨1, rfl⟩, ⟨⟨2, rfl⟩, ⟨⟨3, rfl⟩, ⟨⟨4, rfl⟩, ⟨⟨5, rfl⟩, ⟨⟨6, rfl⟩, ⟨⟨7, rfl⟩, ⟨⟨8, rfl⟩, trivial⟩⟩⟩⟩⟩⟩⟩⟩⟩ .slnil) (fun w1 hS => does_field ExK_fld_26_1 rfl rfl) ?_
  intro a hA
  refine any_take (v := .pointer (some ⟨g2, 4, none⟩)) hA 13 rfl rfl rfl rfl (by kernel_rfl) (by kernel_rfl) (by kernel_rfl) (fun c a w h => hP c a _ _ w h) (hS.part (.cons _ (.cons_cons _ .slnil)) ⟨⟨0, rfl⟩, ⟨⟨1, rfl⟩, ⟨⟨2, rfl⟩, ⟨⟨3, rfl⟩, ⟨⟨4, rfl⟩, ⟨⟨5, rfl⟩, ⟨⟨6, rfl⟩, ⟨⟨7, rfl⟩, ⟨⟨8, rfl⟩, trivial⟩⟩⟩⟩⟩⟩⟩⟩⟩ .slnil) (fun w1 hS => does_field ExK_fld_24_1 rfl rfl) ?_
  intro a hA
  refine any_take hA 14 rfl rfl rfl rfl (by kernel_rfl) (by kernel_rfl) (by kernel_rfl) (fun c a w h => hP c a _ _ w h) (hS.part (.cons _ (.cons_cons _ .slnil)) ⟨⟨0, rfl⟩, ⟨⟨1, rfl⟩, ⟨⟨2, rfl⟩, ⟨⟨3, rfl⟩, ⟨⟨4, rfl⟩, ⟨⟨5, rfl⟩, ⟨⟨6, rfl⟩, ⟨⟨7, rfl⟩, ⟨⟨8, rfl⟩, trivial⟩⟩⟩⟩⟩⟩⟩⟩⟩ .slnil) (fun w1 hS => does_load1 hS ExK_is1_22 rfl 0 rfl rfl) ?_
  intro a hA
  refine any_take hA 16 rfl rfl rfl rfl (by kernel_rfl) (by kernel_rfl) (by kernel_rfl) (fun c a w h => hP c a _ _ w h) (hS.part (.cons _ (.cons_cons _ .slnil)) ⟨⟨0, rfl⟩, ⟨⟨1, rfl⟩, ⟨⟨2, rfl⟩, ⟨⟨3, rfl⟩, ⟨⟨4, rfl⟩, ⟨⟨5, rfl⟩, ⟨⟨6, rfl⟩, ⟨⟨7, rfl⟩, ⟨⟨8, rfl⟩, trivial⟩⟩⟩⟩⟩⟩⟩⟩⟩ .slnil) (fun w1 hS => does_move rfl) ?_
  intro a hA
  refine any_take (v := .pointer (some ⟨g2, 0, none⟩)) hA 18 rfl rfl rfl rfl (by kernel_rfl) (by kernel_rfl) (by kernel_rfl) (fun c a w h => hP c a _ _ w h) (hS.part (.cons _ (.cons_cons _ .slnil)) ⟨⟨0, rfl⟩, ⟨⟨1, rfl⟩, ⟨⟨2, rfl⟩, ⟨⟨3, rfl⟩, ⟨⟨4, rfl⟩, ⟨⟨5, rfl⟩, ⟨⟨6, rfl⟩, ⟨⟨7, rfl⟩, ⟨⟨8, rfl⟩, trivial⟩⟩⟩⟩⟩⟩⟩⟩⟩ .slnil) (fun w1 hS => does_field ExK_fld_26_0 rfl rfl) ?_
  intro a hA
  refine any_take (v := .pointer (some ⟨g2, 2, none⟩)) hA 19 rfl rfl rfl rfl (by kernel_rfl) (by kernel_rfl) (by kernel_rfl) (fun c a w h => hP c a _ _ w h) (hS.part (.cons _ (.cons_cons _ .slnil)) ⟨⟨0, rfl⟩, ⟨⟨1, rfl⟩, ⟨⟨2, rfl⟩, ⟨⟨3, rfl⟩, ⟨⟨4, rfl⟩, ⟨⟨5, rfl⟩, ⟨⟨6, rfl⟩, ⟨⟨7, rfl⟩, ⟨⟨8, rfl⟩, trivial⟩⟩⟩⟩⟩⟩⟩⟩⟩ .slnil) (fun w1 hS => does_field ExK_fld_24_2 rfl rfl) ?_
  intro a hA
  refine any_take hA 20 rfl rfl rfl rfl (by kernel_rfl) (by kernel_rfl) (by kernel_rfl) (fun c a w h => hP c a _ _ w h) (hS.part (.cons _ (.cons_cons _ .slnil)) ⟨⟨0, rfl⟩, ⟨⟨1, rfl⟩, ⟨⟨2, rfl⟩, ⟨⟨3, rfl⟩, ⟨⟨4, rfl⟩, ⟨⟨5, rfl⟩, ⟨⟨6, rfl⟩, ⟨⟨7, rfl⟩, ⟨⟨8, rfl⟩, trivial⟩⟩⟩⟩⟩⟩⟩⟩⟩ .slnil) (fun w1 hS => does_load1 hS ExK_is1_22 rfl 0 rfl rfl) ?_
  intro a hA
  refine any_take hA 21 rfl rfl rfl rfl (by kernel_rfl) (by kernel_rfl) (by kernel_rfl) (fun c a w h => hP c a _ _ w h) (hS.part (.cons _ (.cons_cons _ .slnil)) ⟨⟨0, rfl⟩, ⟨⟨1, rfl⟩, ⟨⟨2, rfl⟩, ⟨⟨3, rfl⟩, ⟨⟨4, rfl⟩, ⟨⟨5, rfl⟩, ⟨⟨6, rfl⟩, ⟨⟨7, rfl⟩, ⟨⟨8, rfl⟩, trivial⟩⟩⟩⟩⟩⟩⟩⟩⟩ .slnil) (fun w1 hS => does_move rfl) ?_
  intro a hA
  refine any_one (by kernel_rfl) (op_call hA 6 rfl rfl rfl rfl (enters_func  rfl rfl (fun w => by kernel_rfl)) (zsigned_any (b := rb u.num) (n := u.num.natAbs) (z := u.num) ⟨(hS.rd 8 rfl), ha.s1.nil, ha.s1.cap⟩ (sgn_rb u.num)) ?_)
  rintro _ w35 ⟨zo31, zc32, rfl, hs33, hb34⟩
  replace hS := hS.call hb34
  replace hS := hS.addR hs33.rd
  refine ⟨_, rfl, (hS.part (.cons _ (.cons_cons _ .slnil)) ⟨⟨1, rfl⟩, ⟨⟨2, rfl⟩, ⟨⟨3, rfl⟩, ⟨⟨4, rfl⟩, ⟨⟨5, rfl⟩, ⟨⟨6, rfl⟩, ⟨⟨7, rfl⟩, ⟨⟨8, rfl⟩, ⟨⟨9, rfl⟩, trivial⟩⟩⟩⟩⟩⟩⟩⟩⟩ .slnil), ?_⟩
  intro a hA
  refine any_one (by kernel_rfl) (op_call hA 8 rfl rfl rfl rfl (enters_func  rfl rfl (fun w => by kernel_rfl)) (zscaled_any ⟨(hS.rd 0 rfl), hs33.nil, hs33.cap⟩ ⟨(hS.rd 4 rfl), ho17.nocap, ho17.caps⟩ (by omega) (by omega)) ?_)
  rintro _ w40 ⟨zo36, zc37, rfl, hs38, hb39⟩
  replace hS := hS.call hb39
  replace hS := hS.addR hs38.rd
  refine ⟨_, rfl, (hS.part (.cons _ (.cons_cons _ .slnil)) ⟨⟨2, rfl⟩, ⟨⟨3, rfl⟩, ⟨⟨4, rfl⟩, ⟨⟨5, rfl⟩, ⟨⟨6, rfl⟩, ⟨⟨7, rfl⟩, ⟨⟨8, rfl⟩, ⟨⟨9, rfl⟩, ⟨⟨10, rfl⟩, trivial⟩⟩⟩⟩⟩⟩⟩⟩⟩ .slnil), ?_⟩
  intro a hA
  refine any_one (by kernel_rfl) (op_call hA 15 rfl rfl rfl rfl (enters_func  rfl rfl (fun w => by kernel_rfl)) (zsigned_any (b := rb v.num) (n := v.num.natAbs) (z := v.num) ⟨(hS.rd 8 rfl), ha.s3.nil, ha.s3.cap⟩ (sgn_rb v.num)) ?_)
  rintro _ w45 ⟨zo41, zc42, rfl, hs43, hb44⟩
  replace hS := hS.call hb44
  replace hS := hS.addR hs43.rd
  refine ⟨_, rfl, (hS.part (.cons _ (.cons_cons _ .slnil)) ⟨⟨3, rfl⟩, ⟨⟨4, rfl⟩, ⟨⟨5, rfl⟩, ⟨⟨6, rfl⟩, ⟨⟨7, rfl⟩, ⟨⟨8, rfl⟩, ⟨⟨9, rfl⟩, ⟨⟨10, rfl⟩, ⟨⟨11, rfl⟩, trivial⟩⟩⟩⟩⟩⟩⟩⟩⟩ .slnil), ?_⟩
  intro a hA
  refine any_one (by kernel_rfl) (op_call hA 17 rfl rfl rfl rfl (enters_func  rfl rfl (fun w => by kernel_rfl)) (zscaled_any ⟨(hS.rd 0 rfl), hs43.nil, hs43.cap⟩ ⟨(hS.rd 4 rfl), ho26.nocap, ho26.caps⟩ (by omega) (by omega)) ?_)
  rintro _ w50 ⟨zo46, zc47, rfl, hs48, hb49⟩
  replace hS := hS.call hb49
  replace hS := hS.addR hs48.rd
  refine ⟨_, rfl, (hS.part (.cons _ (.cons_cons _ .slnil)) ⟨⟨4, rfl⟩, ⟨⟨5, rfl⟩, ⟨⟨6, rfl⟩, ⟨⟨7, rfl⟩, ⟨⟨8, rfl⟩, ⟨⟨9, rfl⟩, ⟨⟨10, rfl⟩, ⟨⟨11, rfl⟩, ⟨⟨12, rfl⟩, trivial⟩⟩⟩⟩⟩⟩⟩⟩⟩ .slnil), ?_⟩
  intro a hA
  refine any_one (by kernel_rfl) (op_call hA 22 rfl rfl rfl rfl (enters_func  rfl rfl (fun w => by kernel_rfl)) (product_any _ _ (hS.rd 11 rfl) (hS.rd 7 rfl) (by omega) (by omega)) ?_)
  rintro _ w55 ⟨ro51, rc52, rfl, ho53, hb54⟩
  replace hS := hS.call hb54
  replace hS := hS.addR ho53.rd
  refine ⟨_, rfl, (hS.part (.cons _ (.cons_cons _ .slnil)) ⟨⟨5, rfl⟩, ⟨⟨6, rfl⟩, ⟨⟨7, rfl⟩, ⟨⟨8, rfl⟩, ⟨⟨9, rfl⟩, ⟨⟨10, rfl⟩, ⟨⟨11, rfl⟩, ⟨⟨12, rfl⟩, ⟨⟨13, rfl⟩, trivial⟩⟩⟩⟩⟩⟩⟩⟩⟩ .slnil), ?_⟩
  intro a hA
  refine any_take (v := .agg #[.bool ((rb (u.num * ((v.den / spG u v : Nat) : Int)))), .slice zo36 ((words (u.num * ((v.den / spG u v : Nat) : Int)).natAbs).length) zc37, .bool ((rb (v.num * ((u.den / spG u v : Nat) : Int)))), .slice zo46 ((words (v.num * ((u.den / spG u v : Nat) : Int)).natAbs).length) zc47, .slice ro51 ((words (u.den * (v.den / spG u v))).length) rc52]) hA 23 rfl rfl rfl rfl (by kernel_rfl) (by kernel_rfl) (by kernel_rfl) (fun c a w h => hP c a _ _ w h) (hS.part (.cons _ (.cons_cons _ .slnil)) ⟨⟨5, rfl⟩, ⟨⟨6, rfl⟩, ⟨⟨7, rfl⟩, ⟨⟨8, rfl⟩, ⟨⟨9, rfl⟩, ⟨⟨10, rfl⟩, ⟨⟨11, rfl⟩, ⟨⟨12, rfl⟩, ⟨⟨13, rfl⟩, trivial⟩⟩⟩⟩⟩⟩⟩⟩⟩ .slnil) (fun w1 hS => does_build rfl (fun w => by kernel_rfl)) ?_
  intro a hA
  refine any_one (by kernel_rfl) (op_store (us := [.bool ((rb (u.num * ((v.den / spG u v : Nat) : Int)))), .slice zo36 ((words (u.num * ((v.den / spG u v : Nat) : Int)).natAbs).length) zc37, .bool ((rb (v.num * ((u.den / spG u v : Nat) : Int)))), .slice zo46 ((words (v.num * ((u.den / spG u v : Nat) : Int)).natAbs).length) zc47, .slice ro51 ((words (u.den * (v.den / spG u v))).length) rc52]) hA hS 24 rfl rfl rfl (sets_store (cs := [.bool ((rb (u.num * ((v.den / spG u v : Nat) : Int)))), .slice zo36 ((words (u.num * ((v.den / spG u v : Nat) : Int)).natAbs).length) zc37, .bool ((rb (v.num * ((u.den / spG u v : Nat) : Int)))), .slice zo46 ((words (v.num * ((u.den / spG u v : Nat) : Int)).natAbs).length) zc47, .slice ro51 ((words (u.den * (v.den / spG u v))).length) rc52]) rfl rfl rfl (by kernel_rfl) hS 0 rfl rfl rfl) 0 rfl rfl rfl rfl ?_)
  intro w56 hS
  refine ⟨(hS.part (.cons _ (.cons_cons _ .slnil)) ⟨⟨5, rfl⟩, ⟨⟨6, rfl⟩, ⟨⟨7, rfl⟩, ⟨⟨8, rfl⟩, ⟨⟨9, rfl⟩, ⟨⟨10, rfl⟩, ⟨⟨11, rfl⟩, ⟨⟨12, rfl⟩, ⟨⟨13, rfl⟩, trivial⟩⟩⟩⟩⟩⟩⟩⟩⟩ .slnil), ?_⟩
  refine any_end (by kernel_rfl) ?_
  refine hK30 _ _ ?_
  refine wp_ret ?_
  refine hret _ _ ?_
  refine ends (v := .agg #[.bool ((rb (u.num * ((v.den / spG u v : Nat) : Int)))), .slice zo36 ((words (u.num * ((v.den / spG u v : Nat) : Int)).natAbs).length) zc37, .bool ((rb (v.num * ((u.den / spG u v : Nat) : Int)))), .slice zo46 ((words (v.num * ((u.den / spG u v : Nat) : Int)).natAbs).length) zc47, .slice ro51 ((words (u.den * (v.den / spG u v))).length) rc52]) hA rfl (.cons (res_cell hS ExK_isS_54 rfl 0 rfl (cs := [.bool ((rb (u.num * ((v.den / spG u v : Nat) : Int)))), .slice zo36 ((words (u.num * ((v.den / spG u v : Nat) : Int)).natAbs).length) zc37, .bool ((rb (v.num * ((u.den / spG u v : Nat) : Int)))), .slice zo46 ((words (v.num * ((u.den / spG u v : Nat) : Int)).natAbs).length) zc47, .slice ro51 ((words (u.den * (v.den / spG u v))).length) rc52]) rfl rfl) .nil) rfl ?_
  exact ⟨zo36, zc37, zo46, zc47, ro51, rc52, rfl, ⟨(hS.rd 3 rfl), hs38.nil, hs38.cap⟩, ⟨(hS.rd 1 rfl), hs48.nil, hs48.cap⟩, ⟨(hS.rd 0 rfl), ho53.nocap, ho53.caps⟩, hS.bel⟩
theorem zinv0_any {w : World} {x y : Int} {d : Nat} {a1 a2 a3 : Option Addr} {ac1 ac2 ac3 : Nat} (ha1 : Sc w a1 ac1 (words x.natAbs)) (ha2 : Sc w a2 ac2 (words y.natAbs)) (ha3 : Sc w a3 ac3 (words d)) (la1 : (words x.natAbs).length ≤ 10000) (la2 : (words y.natAbs).length ≤ 10000) (la3 : (words d).length ≤ 10000) (hy : y = 0) : Calls Try.prog 37 #[.agg #[.bool (rb x), .slice a1 (words x.natAbs).length ac1, .bool (rb y), .slice a2 (words y.natAbs).length ac2, .slice a3 (words d).length ac3]] w (AnsR w (ivX x y d) (ivY x y d) (ivD x y)) := by
  have k0 : (words y.natAbs).length = 0 := by rw [hy, Int.natAbs_zero, words_zero]; rfl
  have hS : St w w [] [(a3, words d), (a2, words y.natAbs), (a1, words x.natAbs)] [] := (((St.start w).addR ha1.rd).addR ha2.rd).addR ha3.rd
  refine walk_of (l := [(0, .agg #[.bool ((rb x)), .slice a1 ((words x.natAbs).length) ac1, .bool ((rb y)), .slice a2 ((words y.natAbs).length) ac2, .slice a3 ((words d).length) ac3])]) Try.func37 rfl Try.ntmps37 rfl rfl ?_
  intro Q hret hnorm hP a hA
  refine wp_seq_k (fun K1 hK1 => ?_)
  refine wp_region_lit ?_
  refine seq_new (vs := [.bool ((rb x)), .slice a1 ((words x.natAbs).length) ac1, .bool ((rb y)), .slice a2 ((words y.natAbs).length) ac2, .slice a3 ((words d).length) ac3]) (t := 54) hA hS rfl rfl rfl (fun g => .pointer (some ⟨g, 0, none⟩)) (does_box rfl rfl) rfl ?_
  intro g2 w3 hS a hA
  refine seq_new (vs := [.bool false, .slice none 0 0, .bool false, .slice none 0 0, .slice none 0 0]) (t := 54) hA hS rfl rfl rfl (fun g => .pointer (some ⟨g, 0, none⟩)) (does_alloc (z := .agg #[.bool false, .slice none 0 0, .bool false, .slice none 0 0, .slice none 0 0]) (by kernel_rfl) rfl) rfl ?_
  intro g4 w5 hS a hA
  refine seq_end ?_
  refine hK1 _ _ ?_
  refine wp_seq_k (fun K6 hK6 => ?_)
  refine wp_seq_k (fun K7 hK7 => ?_)
  refine wp_region_lit ?_
  refine seq_do (v := .pointer (some ⟨g2, 2, none⟩)) hA rfl rfl rfl (does_field ExK_fld_54_1 rfl rfl) ?_
  intro a hA
  refine seq_do (v := .pointer (some ⟨g2, 3, none⟩)) hA rfl rfl rfl (does_field ExK_fld_52_1 rfl rfl) ?_
  intro a hA
  refine seq_do hA rfl rfl rfl (does_load1 hS ExK_is1_22 rfl 1 rfl rfl) ?_
  intro a hA
  refine seq_do (v := .int .i64 ((((words y.natAbs).length : Nat) : Int))) hA rfl rfl rfl (does_len Try.underlying22 rfl) ?_
  intro a hA
  refine seq_do (v := .bool true) hA rfl rfl rfl (does_bin rfl rfl (fun w => (bin_eql w).trans (by rw [show (((((words y.natAbs).length : Nat) : Int) == 0)) = true from (by simp only [k0]; rfl)]))) ?_
  intro a hA
  refine seq_end ?_
  refine hK7 _ _ ?_
  refine wp_cond_true (hA.ev rfl) ?_
  refine wp_seq_k (fun K8 hK8 => ?_)
  refine wp_draw (S := fun w1 => St w w1 [(g2, [.bool ((rb x)), .slice a1 ((words x.natAbs).length) ac1, .bool ((rb y)), .slice a2 ((words y.natAbs).length) ac2, .slice a3 ((words d).length) ac3])] [(a3, words d), (a2, words y.natAbs), (a1, words x.natAbs)] []) (by kernel_rfl) ?_
  replace hS := hS.drew
  refine any_take (v := .pointer (some ⟨g2, 0, none⟩)) hA 0 rfl rfl rfl rfl (by kernel_rfl) (by kernel_rfl) (by kernel_rfl) (fun c a w h => hP c a _ _ w h) (hS.part (.cons _ (.cons_cons _ .slnil)) ⟨⟨0, rfl⟩, ⟨⟨1, rfl⟩, ⟨⟨2, rfl⟩, trivial⟩⟩⟩ .slnil) (fun w1 hS => does_field ExK_fld_54_0 rfl rfl) ?_
  intro a hA
  refine any_take (v := .pointer (some ⟨g2, 0, none⟩)) hA 1 rfl rfl rfl rfl (by kernel_rfl) (by kernel_rfl) (by kernel_rfl) (fun c a w h => hP c a _ _ w h) (hS.part (.cons _ (.cons_cons _ .slnil)) ⟨⟨0, rfl⟩, ⟨⟨1, rfl⟩, ⟨⟨2, rfl⟩, trivial⟩⟩⟩ .slnil) (fun w1 hS => does_field ExK_fld_52_0 rfl rfl) ?_
  intro a hA
  refine any_take hA 2 rfl rfl rfl rfl (by kernel_rfl) (by kernel_rfl) (by kernel_rfl) (fun c a w h => hP c a _ _ w h) (hS.part (.cons _ (.cons_cons _ .slnil)) ⟨⟨0, rfl⟩, ⟨⟨1, rfl⟩, ⟨⟨2, rfl⟩, trivial⟩⟩⟩ .slnil) (fun w1 hS => does_load1 hS ExK_is1_4 rfl 0 rfl rfl) ?_
  intro a hA
  refine any_take (v := .pointer (some ⟨g2, 4, none⟩)) hA 3 rfl rfl rfl rfl (by kernel_rfl) (by kernel_rfl) (by kernel_rfl) (fun c a w h => hP c a _ _ w h) (hS.part (.cons _ (.cons_cons _ .slnil)) ⟨⟨0, rfl⟩, ⟨⟨1, rfl⟩, ⟨⟨2, rfl⟩, trivial⟩⟩⟩ .slnil) (fun w1 hS => does_field ExK_fld_54_2 rfl rfl) ?_
  intro a hA
  refine any_take hA 4 rfl rfl rfl rfl (by kernel_rfl) (by kernel_rfl) (by kernel_rfl) (fun c a w h => hP c a _ _ w h) (hS.part (.cons _ (.cons_cons _ .slnil)) ⟨⟨0, rfl⟩, ⟨⟨1, rfl⟩, ⟨⟨2, rfl⟩, trivial⟩⟩⟩ .slnil) (fun w1 hS => does_load1 hS ExK_is1_22 rfl 0 rfl rfl) ?_
  intro a hA
  refine any_take (v := .pointer (some ⟨g2, 0, none⟩)) hA 6 rfl rfl rfl rfl (by kernel_rfl) (by kernel_rfl) (by kernel_rfl) (fun c a w h => hP c a _ _ w h) (hS.part (.cons _ (.cons_cons _ .slnil)) ⟨⟨0, rfl⟩, ⟨⟨1, rfl⟩, ⟨⟨2, rfl⟩, trivial⟩⟩⟩ .slnil) (fun w1 hS => does_field ExK_fld_54_0 rfl rfl) ?_
  intro a hA
  refine any_take (v := .pointer (some ⟨g2, 1, none⟩)) hA 7 rfl rfl rfl rfl (by kernel_rfl) (by kernel_rfl) (by kernel_rfl) (fun c a w h => hP c a _ _ w h) (hS.part (.cons _ (.cons_cons _ .slnil)) ⟨⟨0, rfl⟩, ⟨⟨1, rfl⟩, ⟨⟨2, rfl⟩, trivial⟩⟩⟩ .slnil) (fun w1 hS => does_field ExK_fld_52_1 rfl rfl) ?_
  intro a hA
  refine any_take hA 8 rfl rfl rfl rfl (by kernel_rfl) (by kernel_rfl) (by kernel_rfl) (fun c a w h => hP c a _ _ w h) (hS.part (.cons _ (.cons_cons _ .slnil)) ⟨⟨0, rfl⟩, ⟨⟨1, rfl⟩, ⟨⟨2, rfl⟩, trivial⟩⟩⟩ .slnil) (fun w1 hS => does_load1 hS ExK_is1_22 rfl 0 rfl rfl) ?_
  intro a hA
  refine any_one (by kernel_rfl) (op_call hA 5 rfl rfl rfl rfl (enters_func  rfl rfl (fun w => by kernel_rfl)) (zsigned_any (b := rb x) (n := d) (z := sgn (rb x) d) ⟨(hS.rd 0 rfl), ha3.nil, ha3.cap⟩ rfl) ?_)
  rintro _ w13 ⟨zo9, zc10, rfl, hs11, hb12⟩
  replace hS := hS.call hb12
  replace hS := hS.addR hs11.rd
  refine ⟨_, rfl, (hS.part (.cons _ (.cons_cons _ .slnil)) ⟨⟨1, rfl⟩, ⟨⟨2, rfl⟩, ⟨⟨3, rfl⟩, trivial⟩⟩⟩ .slnil), ?_⟩
  intro a hA
  refine any_take (v := .agg #[.bool ((rb (sgn (rb x) d))), .slice zo9 ((words (sgn (rb x) d).natAbs).length) zc10, .bool false, .slice none 0 0, .slice a1 ((words x.natAbs).length) ac1]) hA 9 rfl rfl rfl rfl (by kernel_rfl) (by kernel_rfl) (by kernel_rfl) (fun c a w h => hP c a _ _ w h) (hS.part (.cons _ (.cons_cons _ .slnil)) ⟨⟨1, rfl⟩, ⟨⟨2, rfl⟩, ⟨⟨3, rfl⟩, trivial⟩⟩⟩ .slnil) (fun w1 hS => does_build rfl (fun w => by kernel_rfl)) ?_
  intro a hA
  refine any_one (by kernel_rfl) (op_store (us := [.bool ((rb (sgn (rb x) d))), .slice zo9 ((words (sgn (rb x) d).natAbs).length) zc10, .bool false, .slice none 0 0, .slice a1 ((words x.natAbs).length) ac1]) hA hS 10 rfl rfl rfl (sets_store (cs := [.bool ((rb (sgn (rb x) d))), .slice zo9 ((words (sgn (rb x) d).natAbs).length) zc10, .bool false, .slice none 0 0, .slice a1 ((words x.natAbs).length) ac1]) rfl rfl rfl (by kernel_rfl) hS 0 rfl rfl rfl) 0 rfl rfl rfl rfl ?_)
  intro w14 hS
  refine ⟨(hS.part (.cons _ (.cons_cons _ .slnil)) ⟨⟨1, rfl⟩, ⟨⟨2, rfl⟩, ⟨⟨3, rfl⟩, trivial⟩⟩⟩ .slnil), ?_⟩
  refine any_end (by kernel_rfl) ?_
  refine hK8 _ _ ?_
  refine wp_ret ?_
  refine hret _ _ ?_
  refine ends (v := .agg #[.bool ((rb (sgn (rb x) d))), .slice zo9 ((words (sgn (rb x) d).natAbs).length) zc10, .bool false, .slice none 0 0, .slice a1 ((words x.natAbs).length) ac1]) hA rfl (.cons (res_cell hS ExK_isS_54 rfl 0 rfl (cs := [.bool ((rb (sgn (rb x) d))), .slice zo9 ((words (sgn (rb x) d).natAbs).length) zc10, .bool false, .slice none 0 0, .slice a1 ((words x.natAbs).length) ac1]) rfl rfl) .nil) rfl ?_
  rw [show ivX x y d = sgn (rb x) d from if_pos hy, show ivY x y d = 0 from if_pos hy, show ivD x y = x.natAbs from if_pos hy]
  exact ⟨zo9, zc10, none, 0, a1, ac1, by rw [show words (Int.natAbs 0) = [] from words_zero]; rfl, ⟨(hS.rd 0 rfl), hs11.nil, hs11.cap⟩, by rw [show words (Int.natAbs 0) = [] from words_zero]; exact Sc.none _, ⟨(hS.rd 3 rfl), ha1.nil, ha1.cap⟩, hS.bel⟩
theorem zinv1_any {w : World} {x y : Int} {d : Nat} {a1 a2 a3 : Option Addr} {ac1 ac2 ac3 : Nat} (ha1 : Sc w a1 ac1 (words x.natAbs)) (ha2 : Sc w a2 ac2 (words y.natAbs)) (ha3 : Sc w a3 ac3 (words d)) (la1 : (words x.natAbs).length ≤ 10000) (la2 : (words y.natAbs).length ≤ 10000) (la3 : (words d).length ≤ 10000) (hy : y ≠ 0) : Calls Try.prog 37 #[.agg #[.bool (rb x), .slice a1 (words x.natAbs).length ac1, .bool (rb y), .slice a2 (words y.natAbs).length ac2, .slice a3 (words d).length ac3]] w (AnsR w (ivX x y d) (ivY x y d) (ivD x y)) := by
  have k0 : (words y.natAbs).length ≠ 0 := by have := (words_len_pos (x := y.natAbs)).2 (by omega); omega
  have k1 := abs_mul_len la1 la1
  have k2 := abs_mul_len la2 la2
  have k3 : (words (-y).natAbs).length ≤ 10000 := by rw [Int.natAbs_neg]; exact la2
  have hS : St w w [] [(a3, words d), (a2, words y.natAbs), (a1, words x.natAbs)] [] := (((St.start w).addR ha1.rd).addR ha2.rd).addR ha3.rd
  refine walk_of (l := [(0, .agg #[.bool ((rb x)), .slice a1 ((words x.natAbs).length) ac1, .bool ((rb y)), .slice a2 ((words y.natAbs).length) ac2, .slice a3 ((words d).length) ac3])]) Try.func37 rfl Try.ntmps37 rfl rfl ?_
  intro Q hret hnorm hP a hA
  refine wp_seq_k (fun K1 hK1 => ?_)
  refine wp_region_lit ?_
  refine seq_new (vs := [.bool ((rb x)), .slice a1 ((words x.natAbs).length) ac1, .bool ((rb y)), .slice a2 ((words y.natAbs).length) ac2, .slice a3 ((words d).length) ac3]) (t := 54) hA hS rfl rfl rfl (fun g => .pointer (some ⟨g, 0, none⟩)) (does_box rfl rfl) rfl ?_
  intro g2 w3 hS a hA
  refine seq_new (vs := [.bool false, .slice none 0 0, .bool false, .slice none 0 0, .slice none 0 0]) (t := 54) hA hS rfl rfl rfl (fun g => .pointer (some ⟨g, 0, none⟩)) (does_alloc (z := .agg #[.bool false, .slice none 0 0, .bool false, .slice none 0 0, .slice none 0 0]) (by kernel_rfl) rfl) rfl ?_
  intro g4 w5 hS a hA
  refine seq_end ?_
  refine hK1 _ _ ?_
  refine wp_seq_k (fun K6 hK6 => ?_)
  refine wp_seq_k (fun K7 hK7 => ?_)
  refine wp_region_lit ?_
  refine seq_do (v := .pointer (some ⟨g2, 2, none⟩)) hA rfl rfl rfl (does_field ExK_fld_54_1 rfl rfl) ?_
  intro a hA
  refine seq_do (v := .pointer (some ⟨g2, 3, none⟩)) hA rfl rfl rfl (does_field ExK_fld_52_1 rfl rfl) ?_
  intro a hA
  refine seq_do hA rfl rfl rfl (does_load1 hS ExK_is1_22 rfl 1 rfl rfl) ?_
  intro a hA
  refine seq_do (v := .int .i64 ((((words y.natAbs).length : Nat) : Int))) hA rfl rfl rfl (does_len Try.underlying22 rfl) ?_
  intro a hA
  refine seq_do (v := .bool false) hA rfl rfl rfl (does_bin rfl rfl (fun w => (bin_eql w).trans (by rw [show (((((words y.natAbs).length : Nat) : Int) == 0)) = false from (by simpa using k0)]))) ?_
  intro a hA
  refine seq_end ?_
  refine hK7 _ _ ?_
  refine wp_cond_false (hA.ev rfl) ?_
  refine wp_skip ?_
  refine hK6 _ _ ?_
  refine wp_seq_k (fun K8 hK8 => ?_)
  have hJ40 : ∀ a w1, (∃ (J27g : Nat) (J28 : Option Addr) (J29 : Nat) (J30 : Option Addr) (J31 : Nat) (J32 : Option Addr) (J33 : Nat), Sl a 44 [(0, .agg #[.bool ((rb x)), .slice a1 ((words x.natAbs).length) ac1, .bool ((rb y)), .slice a2 ((words y.natAbs).length) ac2, .slice a3 ((words d).length) ac3]), (1, .pointer (some ⟨g2, 0, none⟩)), (2, .pointer (some ⟨g4, 0, none⟩)), (3, .pointer (some ⟨J27g, 0, none⟩)), (4, .pointer (some ⟨g2, 2, none⟩)), (5, .pointer (some ⟨g2, 3, none⟩)), (6, .slice a2 ((words y.natAbs).length) ac2), (7, .int .i64 ((((words y.natAbs).length : Nat) : Int))), (8, .bool false), (19, .pointer (some ⟨g2, 0, none⟩)), (20, .agg #[.bool ((rb x)), .slice a1 ((words x.natAbs).length) ac1]), (21, .pointer (some ⟨g2, 0, none⟩)), (22, .agg #[.bool ((rb x)), .slice a1 ((words x.natAbs).length) ac1]), (23, .agg #[.bool ((rb (x * x))), .slice J28 ((words (x * x).natAbs).length) J29]), (24, .pointer (some ⟨g2, 2, none⟩)), (25, .agg #[.bool ((rb y)), .slice a2 ((words y.natAbs).length) ac2]), (26, .pointer (some ⟨g2, 2, none⟩)), (27, .agg #[.bool ((rb y)), .slice a2 ((words y.natAbs).length) ac2]), (28, .agg #[.bool ((rb (y * y))), .slice J30 ((words (y * y).natAbs).length) J31]), (29, .agg #[.bool ((rb (x * x + (y * y)))), .slice J32 ((words (x * x + (y * y)).natAbs).length) J33])] ∧ St w w1 [(J27g, [.bool ((rb (x * x + (y * y)))), .slice J32 ((words (x * x + (y * y)).natAbs).length) J33]), (g4, [.bool false, .slice none 0 0, .bool false, .slice none 0 0, .slice none 0 0]), (g2, [.bool ((rb x)), .slice a1 ((words x.natAbs).length) ac1, .bool ((rb y)), .slice a2 ((words y.natAbs).length) ac2, .slice a3 ((words d).length) ac3])] [(J32, words (x * x + (y * y)).natAbs), (J30, words (y * y).natAbs), (J28, words (x * x).natAbs), (a3, words d), (a2, words y.natAbs), (a1, words x.natAbs)] [] ∧ (J32 = none → J33 = 0) ∧ (words (x * x + (y * y)).natAbs : List Nat).length ≤ J33 ∧ (J30 = none → J31 = 0) ∧ (words (y * y).natAbs : List Nat).length ≤ J31 ∧ (J28 = none → J29 = 0) ∧ (words (x * x).natAbs : List Nat).length ≤ J29) → K8 a w1 := by
    clear hA hS
    rintro a w41 ⟨J27g, J28, J29, J30, J31, J32, J33, hA, hS, hn34, hc35, hn36, hc37, hn38, hc39⟩
    refine hK8 _ _ ?_
    refine wp_seq_k (fun K42 hK42 => ?_)
    refine wp_draw (S := fun w1 => St w w1 [(J27g, [.bool ((rb (x * x + (y * y)))), .slice J32 ((words (x * x + (y * y)).natAbs).length) J33]), (g2, [.bool ((rb x)), .slice a1 ((words x.natAbs).length) ac1, .bool ((rb y)), .slice a2 ((words y.natAbs).length) ac2, .slice a3 ((words d).length) ac3])] [(J32, words (x * x + (y * y)).natAbs), (J30, words (y * y).natAbs), (J28, words (x * x).natAbs), (a3, words d), (a2, words y.natAbs), (a1, words x.natAbs)] []) (by kernel_rfl) ?_
    replace hS := hS.drew
    refine any_take (v := .pointer (some ⟨g2, 0, none⟩)) hA 0 rfl rfl rfl rfl (by kernel_rfl) (by kernel_rfl) (by kernel_rfl) (fun c a w h => hP c a _ _ w h) (hS.part (.cons_cons _ (.cons _ (.cons_cons _ .slnil))) ⟨⟨0, rfl⟩, ⟨⟨1, rfl⟩, ⟨⟨2, rfl⟩, ⟨⟨3, rfl⟩, ⟨⟨4, rfl⟩, ⟨⟨5, rfl⟩, trivial⟩⟩⟩⟩⟩⟩ .slnil) (fun w1 hS => does_field ExK_fld_54_0 rfl rfl) ?_
    intro a hA
    refine any_take (v := .agg #[.bool ((rb x)), .slice a1 ((words x.natAbs).length) ac1]) hA 1 rfl rfl rfl rfl (by kernel_rfl) (by kernel_rfl) (by kernel_rfl) (fun c a w h => hP c a _ _ w h) (hS.part (.cons_cons _ (.cons _ (.cons_cons _ .slnil))) ⟨⟨0, rfl⟩, ⟨⟨1, rfl⟩, ⟨⟨2, rfl⟩, ⟨⟨3, rfl⟩, ⟨⟨4, rfl⟩, ⟨⟨5, rfl⟩, trivial⟩⟩⟩⟩⟩⟩ .slnil) (fun w1 hS => does_loadS hS ExK_isS_52 rfl 1 rfl (cs := [.bool ((rb x)), .slice a1 ((words x.natAbs).length) ac1]) rfl rfl) ?_
    intro a hA
    refine any_take (v := .pointer (some ⟨g2, 4, none⟩)) hA 2 rfl rfl rfl rfl (by kernel_rfl) (by kernel_rfl) (by kernel_rfl) (fun c a w h => hP c a _ _ w h) (hS.part (.cons_cons _ (.cons _ (.cons_cons _ .slnil))) ⟨⟨0, rfl⟩, ⟨⟨1, rfl⟩, ⟨⟨2, rfl⟩, ⟨⟨3, rfl⟩, ⟨⟨4, rfl⟩, ⟨⟨5, rfl⟩, trivial⟩⟩⟩⟩⟩⟩ .slnil) (fun w1 hS => does_field ExK_fld_54_2 rfl rfl) ?_
    intro a hA
    refine any_take hA 3 rfl rfl rfl rfl (by kernel_rfl) (by kernel_rfl) (by kernel_rfl) (fun c a w h => hP c a _ _ w h) (hS.part (.cons_cons _ (.cons _ (.cons_cons _ .slnil))) ⟨⟨0, rfl⟩, ⟨⟨1, rfl⟩, ⟨⟨2, rfl⟩, ⟨⟨3, rfl⟩, ⟨⟨4, rfl⟩, ⟨⟨5, rfl⟩, trivial⟩⟩⟩⟩⟩⟩ .slnil) (fun w1 hS => does_load1 hS ExK_is1_22 rfl 1 rfl rfl) ?_
    intro a hA
    refine any_take (v := .pointer (some ⟨g2, 2, none⟩)) hA 5 rfl rfl rfl rfl (by kernel_rfl) (by kernel_rfl) (by kernel_rfl) (fun c a w h => hP c a _ _ w h) (hS.part (.cons_cons _ (.cons _ (.cons_cons _ .slnil))) ⟨⟨0, rfl⟩, ⟨⟨1, rfl⟩, ⟨⟨2, rfl⟩, ⟨⟨3, rfl⟩, ⟨⟨4, rfl⟩, ⟨⟨5, rfl⟩, trivial⟩⟩⟩⟩⟩⟩ .slnil) (fun w1 hS => does_field ExK_fld_54_1 rfl rfl) ?_
    intro a hA
    refine any_take (v := .agg #[.bool ((rb y)), .slice a2 ((words y.natAbs).length) ac2]) hA 6 rfl rfl rfl rfl (by kernel_rfl) (by kernel_rfl) (by kernel_rfl) (fun c a w h => hP c a _ _ w h) (hS.part (.cons_cons _ (.cons _ (.cons_cons _ .slnil))) ⟨⟨0, rfl⟩, ⟨⟨1, rfl⟩, ⟨⟨2, rfl⟩, ⟨⟨3, rfl⟩, ⟨⟨4, rfl⟩, ⟨⟨5, rfl⟩, trivial⟩⟩⟩⟩⟩⟩ .slnil) (fun w1 hS => does_loadS hS ExK_isS_52 rfl 1 rfl (cs := [.bool ((rb y)), .slice a2 ((words y.natAbs).length) ac2]) rfl rfl) ?_
    intro a hA
    refine any_take (v := .pointer (some ⟨g2, 4, none⟩)) hA 8 rfl rfl rfl rfl (by kernel_rfl) (by kernel_rfl) (by kernel_rfl) (fun c a w h => hP c a _ _ w h) (hS.part (.cons_cons _ (.cons _ (.cons_cons _ .slnil))) ⟨⟨0, rfl⟩, ⟨⟨1, rfl⟩, ⟨⟨2, rfl⟩, ⟨⟨3, rfl⟩, ⟨⟨4, rfl⟩, ⟨⟨5, rfl⟩, trivial⟩⟩⟩⟩⟩⟩ .slnil) (fun w1 hS => does_field ExK_fld_54_2 rfl rfl) ?_
    intro a hA
    refine any_take hA 9 rfl rfl rfl rfl (by kernel_rfl) (by kernel_rfl) (by kernel_rfl) (fun c a w h => hP c a _ _ w h) (hS.part (.cons_cons _ (.cons _ (.cons_cons _ .slnil))) ⟨⟨0, rfl⟩, ⟨⟨1, rfl⟩, ⟨⟨2, rfl⟩, ⟨⟨3, rfl⟩, ⟨⟨4, rfl⟩, ⟨⟨5, rfl⟩, trivial⟩⟩⟩⟩⟩⟩ .slnil) (fun w1 hS => does_load1 hS ExK_is1_22 rfl 1 rfl rfl) ?_
    intro a hA
    refine any_take (v := .pointer (some ⟨J27g, 1, none⟩)) hA 11 rfl rfl rfl rfl (by kernel_rfl) (by kernel_rfl) (by kernel_rfl) (fun c a w h => hP c a _ _ w h) (hS.part (.cons_cons _ (.cons _ (.cons_cons _ .slnil))) ⟨⟨0, rfl⟩, ⟨⟨1, rfl⟩, ⟨⟨2, rfl⟩, ⟨⟨3, rfl⟩, ⟨⟨4, rfl⟩, ⟨⟨5, rfl⟩, trivial⟩⟩⟩⟩⟩⟩ .slnil) (fun w1 hS => does_field ExK_fld_52_1 rfl rfl) ?_
    intro a hA
    refine any_take hA 12 rfl rfl rfl rfl (by kernel_rfl) (by kernel_rfl) (by kernel_rfl) (fun c a w h => hP c a _ _ w h) (hS.part (.cons_cons _ (.cons _ (.cons_cons _ .slnil))) ⟨⟨0, rfl⟩, ⟨⟨1, rfl⟩, ⟨⟨2, rfl⟩, ⟨⟨3, rfl⟩, ⟨⟨4, rfl⟩, ⟨⟨5, rfl⟩, trivial⟩⟩⟩⟩⟩⟩ .slnil) (fun w1 hS => does_load1 hS ExK_is1_22 rfl 0 rfl rfl) ?_
    intro a hA
    refine any_one (by kernel_rfl) (op_call hA 4 rfl rfl rfl rfl (enters_func  rfl rfl (fun w => by kernel_rfl)) (zscaled_any ⟨(hS.rd 5 rfl), ha1.nil, ha1.cap⟩ ⟨(hS.rd 3 rfl), ha3.nil, ha3.cap⟩ (by omega) (by omega)) ?_)
    rintro _ w47 ⟨zo43, zc44, rfl, hs45, hb46⟩
    replace hS := hS.call hb46
    replace hS := hS.addR hs45.rd
    refine ⟨_, rfl, (hS.part (.cons_cons _ (.cons _ (.cons_cons _ .slnil))) ⟨⟨1, rfl⟩, ⟨⟨2, rfl⟩, ⟨⟨3, rfl⟩, ⟨⟨4, rfl⟩, ⟨⟨5, rfl⟩, ⟨⟨6, rfl⟩, trivial⟩⟩⟩⟩⟩⟩ .slnil), ?_⟩
    intro a hA
    refine any_one (by kernel_rfl) (op_call hA 7 rfl rfl rfl rfl (enters_func  rfl rfl (fun w => by kernel_rfl)) (zopp_any ⟨(hS.rd 5 rfl), ha2.nil, ha2.cap⟩) ?_)
    rintro _ w52 ⟨zo48, zc49, rfl, hs50, hb51⟩
    replace hS := hS.call hb51
    replace hS := hS.addR hs50.rd
    refine ⟨_, rfl, (hS.part (.cons_cons _ (.cons _ (.cons_cons _ .slnil))) ⟨⟨2, rfl⟩, ⟨⟨3, rfl⟩, ⟨⟨4, rfl⟩, ⟨⟨5, rfl⟩, ⟨⟨6, rfl⟩, ⟨⟨7, rfl⟩, trivial⟩⟩⟩⟩⟩⟩ .slnil), ?_⟩
    intro a hA
    refine any_one (by kernel_rfl) (op_call hA 10 rfl rfl rfl rfl (enters_func  rfl rfl (fun w => by kernel_rfl)) (zscaled_any ⟨(hS.rd 0 rfl), hs50.nil, hs50.cap⟩ ⟨(hS.rd 5 rfl), ha3.nil, ha3.cap⟩ (by omega) (by omega)) ?_)
    rintro _ w57 ⟨zo53, zc54, rfl, hs55, hb56⟩
    replace hS := hS.call hb56
    replace hS := hS.addR hs55.rd
    refine ⟨_, rfl, (hS.part (.cons_cons _ (.cons _ (.cons_cons _ .slnil))) ⟨⟨3, rfl⟩, ⟨⟨4, rfl⟩, ⟨⟨5, rfl⟩, ⟨⟨6, rfl⟩, ⟨⟨7, rfl⟩, ⟨⟨8, rfl⟩, trivial⟩⟩⟩⟩⟩⟩ .slnil), ?_⟩
    intro a hA
    refine any_take (v := .agg #[.bool ((rb (x * ((d : Nat) : Int)))), .slice zo43 ((words (x * ((d : Nat) : Int)).natAbs).length) zc44, .bool ((rb ((-y) * ((d : Nat) : Int)))), .slice zo53 ((words ((-y) * ((d : Nat) : Int)).natAbs).length) zc54, .slice J32 ((words (x * x + (y * y)).natAbs).length) J33]) hA 13 rfl rfl rfl rfl (by kernel_rfl) (by kernel_rfl) (by kernel_rfl) (fun c a w h => hP c a _ _ w h) (hS.part (.cons_cons _ (.cons _ (.cons_cons _ .slnil))) ⟨⟨3, rfl⟩, ⟨⟨4, rfl⟩, ⟨⟨5, rfl⟩, ⟨⟨6, rfl⟩, ⟨⟨7, rfl⟩, ⟨⟨8, rfl⟩, trivial⟩⟩⟩⟩⟩⟩ .slnil) (fun w1 hS => does_build rfl (fun w => by kernel_rfl)) ?_
    intro a hA
    refine any_one (by kernel_rfl) (op_store (us := [.bool ((rb (x * ((d : Nat) : Int)))), .slice zo43 ((words (x * ((d : Nat) : Int)).natAbs).length) zc44, .bool ((rb ((-y) * ((d : Nat) : Int)))), .slice zo53 ((words ((-y) * ((d : Nat) : Int)).natAbs).length) zc54, .slice J32 ((words (x * x + (y * y)).natAbs).length) J33]) hA hS 14 rfl rfl rfl (sets_store (cs := [.bool ((rb (x * ((d : Nat) : Int)))), .slice zo43 ((words (x * ((d : Nat) : Int)).natAbs).length) zc44, .bool ((rb ((-y) * ((d : Nat) : Int)))), .slice zo53 ((words ((-y) * ((d : Nat) : Int)).natAbs).length) zc54, .slice J32 ((words (x * x + (y * y)).natAbs).length) J33]) rfl rfl rfl (by kernel_rfl) hS 1 rfl rfl rfl) 1 rfl rfl rfl rfl ?_)
    intro w58 hS
    refine ⟨(hS.part (.cons_cons _ (.cons _ (.cons_cons _ .slnil))) ⟨⟨3, rfl⟩, ⟨⟨4, rfl⟩, ⟨⟨5, rfl⟩, ⟨⟨6, rfl⟩, ⟨⟨7, rfl⟩, ⟨⟨8, rfl⟩, trivial⟩⟩⟩⟩⟩⟩ .slnil), ?_⟩
    refine any_end (by kernel_rfl) ?_
    refine hK42 _ _ ?_
    refine wp_ret ?_
    refine hret _ _ ?_
    refine ends (v := .agg #[.bool ((rb (x * ((d : Nat) : Int)))), .slice zo43 ((words (x * ((d : Nat) : Int)).natAbs).length) zc44, .bool ((rb ((-y) * ((d : Nat) : Int)))), .slice zo53 ((words ((-y) * ((d : Nat) : Int)).natAbs).length) zc54, .slice J32 ((words (x * x + (y * y)).natAbs).length) J33]) hA rfl (.cons (res_cell hS ExK_isS_54 rfl 1 rfl (cs := [.bool ((rb (x * ((d : Nat) : Int)))), .slice zo43 ((words (x * ((d : Nat) : Int)).natAbs).length) zc44, .bool ((rb ((-y) * ((d : Nat) : Int)))), .slice zo53 ((words ((-y) * ((d : Nat) : Int)).natAbs).length) zc54, .slice J32 ((words (x * x + (y * y)).natAbs).length) J33]) rfl rfl) .nil) rfl ?_
    rw [show ivX x y d = x * ((d : Nat) : Int) from if_neg hy, show ivY x y d = -y * ((d : Nat) : Int) from if_neg hy, show ivD x y = (x * x + y * y).natAbs from if_neg hy]
    exact ⟨zo43, zc44, zo53, zc54, J32, J33, rfl, ⟨(hS.rd 2 rfl), hs45.nil, hs45.cap⟩, ⟨(hS.rd 0 rfl), hs55.nil, hs55.cap⟩, ⟨(hS.rd 3 rfl), hn34, hc35⟩, hS.bel⟩
  refine wp_draw (S := fun w1 => St w w1 [(g4, [.bool false, .slice none 0 0, .bool false, .slice none 0 0, .slice none 0 0]), (g2, [.bool ((rb x)), .slice a1 ((words x.natAbs).length) ac1, .bool ((rb y)), .slice a2 ((words y.natAbs).length) ac2, .slice a3 ((words d).length) ac3])] [(a3, words d), (a2, words y.natAbs), (a1, words x.natAbs)] []) (by kernel_rfl) ?_
  replace hS := hS.drew
  refine any_take (v := .pointer (some ⟨g2, 0, none⟩)) hA 0 rfl rfl rfl rfl (by kernel_rfl) (by kernel_rfl) (by kernel_rfl) (fun c a w h => hP c a _ _ w h) (hS.part (.cons_cons _ (.cons_cons _ .slnil)) ⟨⟨0, rfl⟩, ⟨⟨1, rfl⟩, ⟨⟨2, rfl⟩, trivial⟩⟩⟩ .slnil) (fun w1 hS => does_field ExK_fld_54_0 rfl rfl) ?_
  intro a hA
  refine any_take (v := .agg #[.bool ((rb x)), .slice a1 ((words x.natAbs).length) ac1]) hA 1 rfl rfl rfl rfl (by kernel_rfl) (by kernel_rfl) (by kernel_rfl) (fun c a w h => hP c a _ _ w h) (hS.part (.cons_cons _ (.cons_cons _ .slnil)) ⟨⟨0, rfl⟩, ⟨⟨1, rfl⟩, ⟨⟨2, rfl⟩, trivial⟩⟩⟩ .slnil) (fun w1 hS => does_loadS hS ExK_isS_52 rfl 1 rfl (cs := [.bool ((rb x)), .slice a1 ((words x.natAbs).length) ac1]) rfl rfl) ?_
  intro a hA
  refine any_take (v := .pointer (some ⟨g2, 0, none⟩)) hA 2 rfl rfl rfl rfl (by kernel_rfl) (by kernel_rfl) (by kernel_rfl) (fun c a w h => hP c a _ _ w h) (hS.part (.cons_cons _ (.cons_cons _ .slnil)) ⟨⟨0, rfl⟩, ⟨⟨1, rfl⟩, ⟨⟨2, rfl⟩, trivial⟩⟩⟩ .slnil) (fun w1 hS => does_field ExK_fld_54_0 rfl rfl) ?_
  intro a hA
  refine any_take (v := .agg #[.bool ((rb x)), .slice a1 ((words x.natAbs).length) ac1]) hA 3 rfl rfl rfl rfl (by kernel_rfl) (by kernel_rfl) (by kernel_rfl) (fun c a w h => hP c a _ _ w h) (hS.part (.cons_cons _ (.cons_cons _ .slnil)) ⟨⟨0, rfl⟩, ⟨⟨1, rfl⟩, ⟨⟨2, rfl⟩, trivial⟩⟩⟩ .slnil) (fun w1 hS => does_loadS hS ExK_isS_52 rfl 1 rfl (cs := [.bool ((rb x)), .slice a1 ((words x.natAbs).length) ac1]) rfl rfl) ?_
  intro a hA
  refine any_take (v := .pointer (some ⟨g2, 2, none⟩)) hA 5 rfl rfl rfl rfl (by kernel_rfl) (by kernel_rfl) (by kernel_rfl) (fun c a w h => hP c a _ _ w h) (hS.part (.cons_cons _ (.cons_cons _ .slnil)) ⟨⟨0, rfl⟩, ⟨⟨1, rfl⟩, ⟨⟨2, rfl⟩, trivial⟩⟩⟩ .slnil) (fun w1 hS => does_field ExK_fld_54_1 rfl rfl) ?_
  intro a hA
  refine any_take (v := .agg #[.bool ((rb y)), .slice a2 ((words y.natAbs).length) ac2]) hA 6 rfl rfl rfl rfl (by kernel_rfl) (by kernel_rfl) (by kernel_rfl) (fun c a w h => hP c a _ _ w h) (hS.part (.cons_cons _ (.cons_cons _ .slnil)) ⟨⟨0, rfl⟩, ⟨⟨1, rfl⟩, ⟨⟨2, rfl⟩, trivial⟩⟩⟩ .slnil) (fun w1 hS => does_loadS hS ExK_isS_52 rfl 1 rfl (cs := [.bool ((rb y)), .slice a2 ((words y.natAbs).length) ac2]) rfl rfl) ?_
  intro a hA
  refine any_take (v := .pointer (some ⟨g2, 2, none⟩)) hA 7 rfl rfl rfl rfl (by kernel_rfl) (by kernel_rfl) (by kernel_rfl) (fun c a w h => hP c a _ _ w h) (hS.part (.cons_cons _ (.cons_cons _ .slnil)) ⟨⟨0, rfl⟩, ⟨⟨1, rfl⟩, ⟨⟨2, rfl⟩, trivial⟩⟩⟩ .slnil) (fun w1 hS => does_field ExK_fld_54_1 rfl rfl) ?_
  intro a hA
  refine any_take (v := .agg #[.bool ((rb y)), .slice a2 ((words y.natAbs).length) ac2]) hA 8 rfl rfl rfl rfl (by kernel_rfl) (by kernel_rfl) (by kernel_rfl) (fun c a w h => hP c a _ _ w h) (hS.part (.cons_cons _ (.cons_cons _ .slnil)) ⟨⟨0, rfl⟩, ⟨⟨1, rfl⟩, ⟨⟨2, rfl⟩, trivial⟩⟩⟩ .slnil) (fun w1 hS => does_loadS hS ExK_isS_52 rfl 1 rfl (cs := [.bool ((rb y)), .slice a2 ((words y.natAbs).length) ac2]) rfl rfl) ?_
  intro a hA
  refine any_many (rs := [4, 11]) (by kernel_rfl) (by simp) ⟨?_, ?_, trivial⟩
  · refine op_call hA 4 rfl rfl rfl rfl (enters_func  rfl rfl (fun w => by kernel_rfl)) (ztimes_any ⟨(hS.rd 2 rfl), ha1.nil, ha1.cap⟩ ⟨(hS.rd 2 rfl), ha1.nil, ha1.cap⟩ (by omega) (by omega)) ?_
    rintro _ w63 ⟨zo59, zc60, rfl, hs61, hb62⟩
    replace hS := hS.call hb62
    replace hS := hS.addR hs61.rd
    refine ⟨_, rfl, (hS.part (.cons_cons _ (.cons_cons _ .slnil)) ⟨⟨1, rfl⟩, ⟨⟨2, rfl⟩, ⟨⟨3, rfl⟩, trivial⟩⟩⟩ .slnil), ?_⟩
    intro a hA
    refine any_many (rs := [9, 11]) (by kernel_rfl) (by simp) ⟨?_, ?_, trivial⟩
    · refine op_call hA 9 rfl rfl rfl rfl (enters_func  rfl rfl (fun w => by kernel_rfl)) (ztimes_any ⟨(hS.rd 2 rfl), ha2.nil, ha2.cap⟩ ⟨(hS.rd 2 rfl), ha2.nil, ha2.cap⟩ (by omega) (by omega)) ?_
      rintro _ w68 ⟨zo64, zc65, rfl, hs66, hb67⟩
      replace hS := hS.call hb67
      replace hS := hS.addR hs66.rd
      refine ⟨_, rfl, (hS.part (.cons_cons _ (.cons_cons _ .slnil)) ⟨⟨2, rfl⟩, ⟨⟨3, rfl⟩, ⟨⟨4, rfl⟩, trivial⟩⟩⟩ .slnil), ?_⟩
      intro a hA
      refine any_many (rs := [10, 11]) (by kernel_rfl) (by simp) ⟨?_, ?_, trivial⟩
      · refine op_call hA 10 rfl rfl rfl rfl (enters_func  rfl rfl (fun w => by kernel_rfl)) (zplus_any ⟨(hS.rd 1 rfl), hs61.nil, hs61.cap⟩ ⟨(hS.rd 0 rfl), hs66.nil, hs66.cap⟩ (by omega) (by omega)) ?_
        rintro _ w73 ⟨zo69, zc70, rfl, hs71, hb72⟩
        replace hS := hS.call hb72
        replace hS := hS.addR hs71.rd
        refine ⟨_, rfl, (hS.part (.cons_cons _ (.cons_cons _ .slnil)) ⟨⟨3, rfl⟩, ⟨⟨4, rfl⟩, ⟨⟨5, rfl⟩, trivial⟩⟩⟩ .slnil), ?_⟩
        intro a hA
        refine any_one (by kernel_rfl) (op_new (vs := [.bool false, .slice none 0 0]) (t := 52) hA hS 11 rfl rfl rfl rfl (fun g => .pointer (some ⟨g, 0, none⟩)) (does_alloc (z := .agg #[.bool false, .slice none 0 0]) (by kernel_rfl) rfl) rfl ?_)
        intro g74 w75 hS
        refine ⟨(hS.part (.cons _ (.cons_cons _ (.cons_cons _ .slnil))) ⟨⟨3, rfl⟩, ⟨⟨4, rfl⟩, ⟨⟨5, rfl⟩, trivial⟩⟩⟩ .slnil), ?_⟩
        intro a hA
        refine any_one (by kernel_rfl) (op_store (us := [.bool ((rb (x * x + (y * y)))), .slice zo69 ((words (x * x + (y * y)).natAbs).length) zc70]) hA hS 12 rfl rfl rfl (sets_store (cs := [.bool ((rb (x * x + (y * y)))), .slice zo69 ((words (x * x + (y * y)).natAbs).length) zc70]) rfl rfl rfl (by kernel_rfl) hS 0 rfl rfl rfl) 0 rfl rfl rfl rfl ?_)
        intro w76 hS
        refine ⟨(hS.part (.cons _ (.cons_cons _ (.cons_cons _ .slnil))) ⟨⟨3, rfl⟩, ⟨⟨4, rfl⟩, ⟨⟨5, rfl⟩, trivial⟩⟩⟩ .slnil), ?_⟩
        refine any_end (by kernel_rfl) ?_
        refine hJ40 _ _ ⟨g74, zo59, zc60, zo64, zc65, zo69, zc70, hA.keep _ ⟨rfl, rfl, rfl, rfl, rfl, rfl, rfl, rfl, rfl, rfl, rfl, rfl, rfl, rfl, rfl, rfl, rfl, rfl, rfl, rfl, trivial⟩, ((hS.pickR [(zo69, words (x * x + (y * y)).natAbs), (zo64, words (y * y).natAbs), (zo59, words (x * x).natAbs), (a3, words d), (a2, words y.natAbs), (a1, words x.natAbs)] ⟨⟨0, rfl⟩, ⟨⟨1, rfl⟩, ⟨⟨2, rfl⟩, ⟨⟨3, rfl⟩, ⟨⟨4, rfl⟩, ⟨⟨5, rfl⟩, trivial⟩⟩⟩⟩⟩⟩).pickL [(g74, [.bool ((rb (x * x + (y * y)))), .slice zo69 ((words (x * x + (y * y)).natAbs).length) zc70]), (g4, [.bool false, .slice none 0 0, .bool false, .slice none 0 0, .slice none 0 0]), (g2, [.bool ((rb x)), .slice a1 ((words x.natAbs).length) ac1, .bool ((rb y)), .slice a2 ((words y.natAbs).length) ac2, .slice a3 ((words d).length) ac3])] [0, 1, 2] rfl (by decide)), hs71.nil, hs71.cap, hs66.nil, hs66.cap, hs61.nil, hs61.cap⟩
      · refine op_new (vs := [.bool false, .slice none 0 0]) (t := 52) hA hS 11 rfl rfl rfl rfl (fun g => .pointer (some ⟨g, 0, none⟩)) (does_alloc (z := .agg #[.bool false, .slice none 0 0]) (by kernel_rfl) rfl) rfl ?_
        intro g77 w78 hS
        refine ⟨(hS.part (.cons _ (.cons_cons _ (.cons_cons _ .slnil))) ⟨⟨2, rfl⟩, ⟨⟨3, rfl⟩, ⟨⟨4, rfl⟩, trivial⟩⟩⟩ .slnil), ?_⟩
        intro a hA
        refine any_one (by kernel_rfl) (op_call hA 10 rfl rfl rfl rfl (enters_func  rfl rfl (fun w => by kernel_rfl)) (zplus_any ⟨(hS.rd 1 rfl), hs61.nil, hs61.cap⟩ ⟨(hS.rd 0 rfl), hs66.nil, hs66.cap⟩ (by omega) (by omega)) ?_)
        rintro _ w83 ⟨zo79, zc80, rfl, hs81, hb82⟩
        replace hS := hS.call hb82
        replace hS := hS.addR hs81.rd
        refine ⟨_, rfl, (hS.part (.cons _ (.cons_cons _ (.cons_cons _ .slnil))) ⟨⟨3, rfl⟩, ⟨⟨4, rfl⟩, ⟨⟨5, rfl⟩, trivial⟩⟩⟩ .slnil), ?_⟩
        intro a hA
        refine any_one (by kernel_rfl) (op_store (us := [.bool ((rb (x * x + (y * y)))), .slice zo79 ((words (x * x + (y * y)).natAbs).length) zc80]) hA hS 12 rfl rfl rfl (sets_store (cs := [.bool ((rb (x * x + (y * y)))), .slice zo79 ((words (x * x + (y * y)).natAbs).length) zc80]) rfl rfl rfl (by kernel_rfl) hS 0 rfl rfl rfl) 0 rfl rfl rfl rfl ?_)
        intro w84 hS
        refine ⟨(hS.part (.cons _ (.cons_cons _ (.cons_cons _ .slnil))) ⟨⟨3, rfl⟩, ⟨⟨4, rfl⟩, ⟨⟨5, rfl⟩, trivial⟩⟩⟩ .slnil), ?_⟩
        refine any_end (by kernel_rfl) ?_
        refine hJ40 _ _ ⟨g77, zo59, zc60, zo64, zc65, zo79, zc80, hA.keep _ ⟨rfl, rfl, rfl, rfl, rfl, rfl, rfl, rfl, rfl, rfl, rfl, rfl, rfl, rfl, rfl, rfl, rfl, rfl, rfl, rfl, trivial⟩, ((hS.pickR [(zo79, words (x * x + (y * y)).natAbs), (zo64, words (y * y).natAbs), (zo59, words (x * x).natAbs), (a3, words d), (a2, words y.natAbs), (a1, words x.natAbs)] ⟨⟨0, rfl⟩, ⟨⟨1, rfl⟩, ⟨⟨2, rfl⟩, ⟨⟨3, rfl⟩, ⟨⟨4, rfl⟩, ⟨⟨5, rfl⟩, trivial⟩⟩⟩⟩⟩⟩).pickL [(g77, [.bool ((rb (x * x + (y * y)))), .slice zo79 ((words (x * x + (y * y)).natAbs).length) zc80]), (g4, [.bool false, .slice none 0 0, .bool false, .slice none 0 0, .slice none 0 0]), (g2, [.bool ((rb x)), .slice a1 ((words x.natAbs).length) ac1, .bool ((rb y)), .slice a2 ((words y.natAbs).length) ac2, .slice a3 ((words d).length) ac3])] [0, 1, 2] rfl (by decide)), hs81.nil, hs81.cap, hs66.nil, hs66.cap, hs61.nil, hs61.cap⟩
    · refine op_new (vs := [.bool false, .slice none 0 0]) (t := 52) hA hS 11 rfl rfl rfl rfl (fun g => .pointer (some ⟨g, 0, none⟩)) (does_alloc (z := .agg #[.bool false, .slice none 0 0]) (by kernel_rfl) rfl) rfl ?_
      intro g85 w86 hS
      refine ⟨(hS.part (.cons _ (.cons_cons _ (.cons_cons _ .slnil))) ⟨⟨1, rfl⟩, ⟨⟨2, rfl⟩, ⟨⟨3, rfl⟩, trivial⟩⟩⟩ .slnil), ?_⟩
      intro a hA
      refine any_one (by kernel_rfl) (op_call hA 9 rfl rfl rfl rfl (enters_func  rfl rfl (fun w => by kernel_rfl)) (ztimes_any ⟨(hS.rd 2 rfl), ha2.nil, ha2.cap⟩ ⟨(hS.rd 2 rfl), ha2.nil, ha2.cap⟩ (by omega) (by omega)) ?_)
      rintro _ w91 ⟨zo87, zc88, rfl, hs89, hb90⟩
      replace hS := hS.call hb90
      replace hS := hS.addR hs89.rd
      refine ⟨_, rfl, (hS.part (.cons _ (.cons_cons _ (.cons_cons _ .slnil))) ⟨⟨2, rfl⟩, ⟨⟨3, rfl⟩, ⟨⟨4, rfl⟩, trivial⟩⟩⟩ .slnil), ?_⟩
      intro a hA
      refine any_one (by kernel_rfl) (op_call hA 10 rfl rfl rfl rfl (enters_func  rfl rfl (fun w => by kernel_rfl)) (zplus_any ⟨(hS.rd 1 rfl), hs61.nil, hs61.cap⟩ ⟨(hS.rd 0 rfl), hs89.nil, hs89.cap⟩ (by omega) (by omega)) ?_)
      rintro _ w96 ⟨zo92, zc93, rfl, hs94, hb95⟩
      replace hS := hS.call hb95
      replace hS := hS.addR hs94.rd
      refine ⟨_, rfl, (hS.part (.cons _ (.cons_cons _ (.cons_cons _ .slnil))) ⟨⟨3, rfl⟩, ⟨⟨4, rfl⟩, ⟨⟨5, rfl⟩, trivial⟩⟩⟩ .slnil), ?_⟩
      intro a hA
      refine any_one (by kernel_rfl) (op_store (us := [.bool ((rb (x * x + (y * y)))), .slice zo92 ((words (x * x + (y * y)).natAbs).length) zc93]) hA hS 12 rfl rfl rfl (sets_store (cs := [.bool ((rb (x * x + (y * y)))), .slice zo92 ((words (x * x + (y * y)).natAbs).length) zc93]) rfl rfl rfl (by kernel_rfl) hS 0 rfl rfl rfl) 0 rfl rfl rfl rfl ?_)
      intro w97 hS
      refine ⟨(hS.part (.cons _ (.cons_cons _ (.cons_cons _ .slnil))) ⟨⟨3, rfl⟩, ⟨⟨4, rfl⟩, ⟨⟨5, rfl⟩, trivial⟩⟩⟩ .slnil), ?_⟩
      refine any_end (by kernel_rfl) ?_
      refine hJ40 _ _ ⟨g85, zo59, zc60, zo87, zc88, zo92, zc93, hA.keep _ ⟨rfl, rfl, rfl, rfl, rfl, rfl, rfl, rfl, rfl, rfl, rfl, rfl, rfl, rfl, rfl, rfl, rfl, rfl, rfl, rfl, trivial⟩, ((hS.pickR [(zo92, words (x * x + (y * y)).natAbs), (zo87, words (y * y).natAbs), (zo59, words (x * x).natAbs), (a3, words d), (a2, words y.natAbs), (a1, words x.natAbs)] ⟨⟨0, rfl⟩, ⟨⟨1, rfl⟩, ⟨⟨2, rfl⟩, ⟨⟨3, rfl⟩, ⟨⟨4, rfl⟩, ⟨⟨5, rfl⟩, trivial⟩⟩⟩⟩⟩⟩).pickL [(g85, [.bool ((rb (x * x + (y * y)))), .slice zo92 ((words (x * x + (y * y)).natAbs).length) zc93]), (g4, [.bool false, .slice none 0 0, .bool false, .slice none 0 0, .slice none 0 0]), (g2, [.bool ((rb x)), .slice a1 ((words x.natAbs).length) ac1, .bool ((rb y)), .slice a2 ((words y.natAbs).length) ac2, .slice a3 ((words d).length) ac3])] [0, 1, 2] rfl (by decide)), hs94.nil, hs94.cap, hs89.nil, hs89.cap, hs61.nil, hs61.cap⟩
  · refine op_new (vs := [.bool false, .slice none 0 0]) (t := 52) hA hS 11 rfl rfl rfl rfl (fun g => .pointer (some ⟨g, 0, none⟩)) (does_alloc (z := .agg #[.bool false, .slice none 0 0]) (by kernel_rfl) rfl) rfl ?_
    intro g98 w99 hS
    refine ⟨(hS.part (.cons _ (.cons_cons _ (.cons_cons _ .slnil))) ⟨⟨0, rfl⟩, ⟨⟨1, rfl⟩, ⟨⟨2, rfl⟩, trivial⟩⟩⟩ .slnil), ?_⟩
    intro a hA
    refine any_one (by kernel_rfl) (op_call hA 4 rfl rfl rfl rfl (enters_func  rfl rfl (fun w => by kernel_rfl)) (ztimes_any ⟨(hS.rd 2 rfl), ha1.nil, ha1.cap⟩ ⟨(hS.rd 2 rfl), ha1.nil, ha1.cap⟩ (by omega) (by omega)) ?_)
    rintro _ w104 ⟨zo100, zc101, rfl, hs102, hb103⟩
    replace hS := hS.call hb103
    replace hS := hS.addR hs102.rd
    refine ⟨_, rfl, (hS.part (.cons _ (.cons_cons _ (.cons_cons _ .slnil))) ⟨⟨1, rfl⟩, ⟨⟨2, rfl⟩, ⟨⟨3, rfl⟩, trivial⟩⟩⟩ .slnil), ?_⟩
    intro a hA
    refine any_one (by kernel_rfl) (op_call hA 9 rfl rfl rfl rfl (enters_func  rfl rfl (fun w => by kernel_rfl)) (ztimes_any ⟨(hS.rd 2 rfl), ha2.nil, ha2.cap⟩ ⟨(hS.rd 2 rfl), ha2.nil, ha2.cap⟩ (by omega) (by omega)) ?_)
    rintro _ w109 ⟨zo105, zc106, rfl, hs107, hb108⟩
    replace hS := hS.call hb108
    replace hS := hS.addR hs107.rd
    refine ⟨_, rfl, (hS.part (.cons _ (.cons_cons _ (.cons_cons _ .slnil))) ⟨⟨2, rfl⟩, ⟨⟨3, rfl⟩, ⟨⟨4, rfl⟩, trivial⟩⟩⟩ .slnil), ?_⟩
    intro a hA
    refine any_one (by kernel_rfl) (op_call hA 10 rfl rfl rfl rfl (enters_func  rfl rfl (fun w => by kernel_rfl)) (zplus_any ⟨(hS.rd 1 rfl), hs102.nil, hs102.cap⟩ ⟨(hS.rd 0 rfl), hs107.nil, hs107.cap⟩ (by omega) (by omega)) ?_)
    rintro _ w114 ⟨zo110, zc111, rfl, hs112, hb113⟩
    replace hS := hS.call hb113
    replace hS := hS.addR hs112.rd
    refine ⟨_, rfl, (hS.part (.cons _ (.cons_cons _ (.cons_cons _ .slnil))) ⟨⟨3, rfl⟩, ⟨⟨4, rfl⟩, ⟨⟨5, rfl⟩, trivial⟩⟩⟩ .slnil), ?_⟩
    intro a hA
    refine any_one (by kernel_rfl) (op_store (us := [.bool ((rb (x * x + (y * y)))), .slice zo110 ((words (x * x + (y * y)).natAbs).length) zc111]) hA hS 12 rfl rfl rfl (sets_store (cs := [.bool ((rb (x * x + (y * y)))), .slice zo110 ((words (x * x + (y * y)).natAbs).length) zc111]) rfl rfl rfl (by kernel_rfl) hS 0 rfl rfl rfl) 0 rfl rfl rfl rfl ?_)
    intro w115 hS
    refine ⟨(hS.part (.cons _ (.cons_cons _ (.cons_cons _ .slnil))) ⟨⟨3, rfl⟩, ⟨⟨4, rfl⟩, ⟨⟨5, rfl⟩, trivial⟩⟩⟩ .slnil), ?_⟩
    refine any_end (by kernel_rfl) ?_
    refine hJ40 _ _ ⟨g98, zo100, zc101, zo105, zc106, zo110, zc111, hA.keep _ ⟨rfl, rfl, rfl, rfl, rfl, rfl, rfl, rfl, rfl, rfl, rfl, rfl, rfl, rfl, rfl, rfl, rfl, rfl, rfl, rfl, trivial⟩, ((hS.pickR [(zo110, words (x * x + (y * y)).natAbs), (zo105, words (y * y).natAbs), (zo100, words (x * x).natAbs), (a3, words d), (a2, words y.natAbs), (a1, words x.natAbs)] ⟨⟨0, rfl⟩, ⟨⟨1, rfl⟩, ⟨⟨2, rfl⟩, ⟨⟨3, rfl⟩, ⟨⟨4, rfl⟩, ⟨⟨5, rfl⟩, trivial⟩⟩⟩⟩⟩⟩).pickL [(g98, [.bool ((rb (x * x + (y * y)))), .slice zo110 ((words (x * x + (y * y)).natAbs).length) zc111]), (g4, [.bool false, .slice none 0 0, .bool false, .slice none 0 0, .slice none 0 0]), (g2, [.bool ((rb x)), .slice a1 ((words x.natAbs).length) ac1, .bool ((rb y)), .slice a2 ((words y.natAbs).length) ac2, .slice a3 ((words d).length) ac3])] [0, 1, 2] rfl (by decide)), hs112.nil, hs112.cap, hs107.nil, hs107.cap, hs102.nil, hs102.cap⟩
theorem zinv_any {w : World} {x y : Int} {d : Nat} {a1 a2 a3 : Option Addr} {ac1 ac2 ac3 : Nat} (ha1 : Sc w a1 ac1 (words x.natAbs)) (ha2 : Sc w a2 ac2 (words y.natAbs)) (ha3 : Sc w a3 ac3 (words d)) (la1 : (words x.natAbs).length ≤ 10000) (la2 : (words y.natAbs).length ≤ 10000) (la3 : (words d).length ≤ 10000) : Calls Try.prog 37 #[.agg #[.bool (rb x), .slice a1 (words x.natAbs).length ac1, .bool (rb y), .slice a2 (words y.natAbs).length ac2, .slice a3 (words d).length ac3]] w (AnsR w (ivX x y d) (ivY x y d) (ivD x y)) := by
  by_cases hy : y = 0
  · exact zinv0_any ha1 ha2 ha3 la1 la2 la3 hy
  · exact zinv1_any ha1 ha2 ha3 la1 la2 la3 hy
theorem zsettle_as {w : World} {x y : Int} {d : Nat} {a1 a2 a3 : Option Addr} {ac1 ac2 ac3 : Nat} (ha1 : Sc w a1 ac1 (words x.natAbs)) (ha2 : Sc w a2 ac2 (words y.natAbs)) (ha3 : Sc w a3 ac3 (words d)) {r : Q6 × Int} (h : setQ x y d = r) (l1 : (words x.natAbs).length ≤ 50000) (l2 : (words y.natAbs).length ≤ 50000) (l3 : (words d).length ≤ 50000) (hd : d ≠ 0) : Calls Try.prog 35 #[.agg #[.bool (rb x), .slice a1 (words x.natAbs).length ac1, .bool (rb y), .slice a2 (words y.natAbs).length ac2, .slice a3 (words d).length ac3]] w (AnsN w r) := h ▸ zsettle_any ha1 ha2 ha3 l1 l2 l3 hd
end Go.Proofs.Ytoafphdjdgaonaa
