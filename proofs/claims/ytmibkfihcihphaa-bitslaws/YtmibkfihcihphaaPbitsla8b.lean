/- Walks of numbers over one bottom. Sound numbers as pairs of rational numbers. Walks of sums, differences, products and quotients. Walks of Add, Sub, Mul, Div. Operators on texts. Walks of the text of minus three halves, and of the fixed fact. The numbers are a field. Walks of the law of the field. Fractions in lowest terms, as the document makes them. Walks of the document's functions over fractions. Walks of the document's sums of fractions. The document's -a - 1, and shifts of numbers. Walks of the document's -a - 1, and of shifts. How long numbers are in bits, and their opposites less one. Walks of the document's shifts, of lengths, of opposites less one, and of questions of sameness. How many bits of a number are 1. Walks of how many bits are 1. Rows of bits put together word by word. Walks of rows of bits put together. Numbers put together bit by bit. Walks of numbers put together bit by bit, and of Not. The fixed fact on bits. Walks of the fixed fact, and of sameness by the document. Rows of two's complement, as the document has them. Walks of the document's rows of two's complement. Walks of the document's And, Or, Xor and Not. Walks of the law on shifts. Walks of the law on And, Or, Xor and Not. Fields of bits. Quotients of whole numbers, downwards, and the order of rational ones. Quotient and rest of real numbers. Facts of the order of real numbers. -/
import Derived.Test.YtmibkfihcihphaaPbitsla8a
import Derived.Test.YtmibkfihcihphaaDigMath
import Derived.Test.YtmibkfihcihphaaByteMem
import Derived.Test.YtmibkfihcihphaaNatC
import Derived.Test.YtmibkfihcihphaaNatZ
import Derived.Deep.LoopGhost
import Derived.BigRegion
import Derived.Test.YtmibkfihcihphaaNatP
import Derived.Test.YtmibkfihcihphaaNatH
import Derived.Test.YtmibkfihcihphaaNatM
import Derived.Test.YtmibkfihcihphaaGcdMath
import Derived.Test.YtmibkfihcihphaaOverRef2
import Derived.Test.YtmibkfihcihphaaNatL
import Derived.Test.YtmibkfihcihphaaBits
import Derived.Test.YtmibkfihcihphaaBiTrim
import Derived.Test.YtmibkfihcihphaaNatF
namespace Go.Proofs.Ytmibkfihcihphaa
open Go.RowKit
set_option linter.unusedVariables false
set_option linter.unusedSimpArgs false
set_option maxRecDepth 100000
theorem ExJ_is1_22 : Is1 Try.prog 22 := ⟨⟨_, Try.underlying22, rfl⟩, by kernel_rfl⟩
theorem ExJ_fld_26_0 : FieldAt Try.prog 26 0 0 := ⟨_, _, Try.underlying26, rfl, rfl, by kernel_rfl⟩
theorem ExJ_fld_26_1 : FieldAt Try.prog 26 1 3 := ⟨_, _, Try.underlying26, rfl, rfl, by kernel_rfl⟩
theorem ExJ_fld_48_0 : FieldAt Try.prog 48 0 0 := ⟨_, _, Try.underlying48, rfl, rfl, by kernel_rfl⟩
theorem ExJ_fld_48_1 : FieldAt Try.prog 48 1 2 := ⟨_, _, Try.underlying48, rfl, rfl, by kernel_rfl⟩
theorem ExJ_fld_48_2 : FieldAt Try.prog 48 2 4 := ⟨_, _, Try.underlying48, rfl, rfl, by kernel_rfl⟩
theorem ExJ_isS_24 : IsS Try.prog 24 3 := ⟨⟨_, Try.underlying24⟩, by kernel_rfl⟩
theorem ExJ_isS_26 : IsS Try.prog 26 6 := ⟨⟨_, Try.underlying26⟩, by kernel_rfl⟩
theorem ExJ_isS_46 : IsS Try.prog 46 2 := ⟨⟨_, Try.underlying46⟩, by kernel_rfl⟩
theorem ExJ_isS_48 : IsS Try.prog 48 5 := ⟨⟨_, Try.underlying48⟩, by kernel_rfl⟩
theorem fitsB_any {w : World} {b : Bool} {n m : Nat} {o1 o2 : Option Addr} {c1 c2 : Nat} (h1 : Sc w o1 c1 (words n)) (h2 : Sc w o2 c2 (words m)) (l1 : (words n).length ≤ 9223372036854775807) (l2 : (words m).length ≤ 9223372036854775807) {r : Bool} (hr : (decide ((words n).length ≤ 512) && decide ((words m).length ≤ 512)) = r) :
    Calls Try.prog 70 #[.agg #[.bool b, .slice o1 (words n).length c1, .slice o2 (words m).length c2]] w fun e w' => e = .returned (.bool r) ∧ Below w.heap.size w w' := by
  subst hr
  rw [← sound_len, ← sound_len]
  exact fits_any c1 c2 h1.rd h2.rd l1 l2
theorem setQ_pos {x y : Int} {d : Nat} (h1 : (decide ((words (rt x d)).length ≤ 512) && decide ((words (rq x d)).length ≤ 512)) = true) (h2 : (decide ((words (rt y d)).length ≤ 512) && decide ((words (rq y d)).length ≤ 512)) = true) : setQ x y d = (⟨rb x, words (rt x d), words (rq x d), rb y, words (rt y d), words (rq y d)⟩, 0) := by
  simp only [Bool.and_eq_true, decide_eq_true_eq] at h1 h2
  unfold setQ
  rw [if_pos ⟨h1.1, h1.2, h2.1, h2.2⟩]
theorem setQ_neg1 {x y : Int} {d : Nat} (h1 : (decide ((words (rt x d)).length ≤ 512) && decide ((words (rq x d)).length ≤ 512)) = false) : setQ x y d = (Q6.zero, 4) := by
  unfold setQ
  rw [if_neg]
  rintro ⟨a, b, _⟩
  rw [decide_eq_true a, decide_eq_true b] at h1
  cases h1
theorem setQ_neg2 {x y : Int} {d : Nat} (h1 : (decide ((words (rt y d)).length ≤ 512) && decide ((words (rq y d)).length ≤ 512)) = false) : setQ x y d = (Q6.zero, 4) := by
  unfold setQ
  rw [if_neg]
  rintro ⟨_, _, a, b⟩
  rw [decide_eq_true a, decide_eq_true b] at h1
  cases h1
theorem zsettle_any {w : World} {x y : Int} {d : Nat} {a1 a2 a3 : Option Addr} {ac1 ac2 ac3 : Nat} (ha1 : Sc w a1 ac1 (words x.natAbs)) (ha2 : Sc w a2 ac2 (words y.natAbs)) (ha3 : Sc w a3 ac3 (words d)) (l1 : (words x.natAbs).length ≤ 50000) (l2 : (words y.natAbs).length ≤ 50000) (l3 : (words d).length ≤ 50000) (hd : d ≠ 0) : Calls Try.prog 34 #[.agg #[.bool (rb x), .slice a1 (words x.natAbs).length ac1, .bool (rb y), .slice a2 (words y.natAbs).length ac2, .slice a3 (words d).length ac3]] w (AnsN w (setQ x y d)) := by
  have hS : St w w [] [(a3, words d), (a2, words y.natAbs), (a1, words x.natAbs)] [] := (((St.start w).addR ha1.rd).addR ha2.rd).addR ha3.rd
  refine walk_of (l := [(0, .agg #[.bool ((rb x)), .slice a1 ((words x.natAbs).length) ac1, .bool ((rb y)), .slice a2 ((words y.natAbs).length) ac2, .slice a3 ((words d).length) ac3])]) Try.func34 rfl Try.ntmps34 rfl rfl ?_
  intro Q hret hnorm hP a hA
  refine wp_seq_k (fun K1 hK1 => ?_)
  refine wp_region_lit ?_
  refine seq_new (vs := [.bool ((rb x)), .slice a1 ((words x.natAbs).length) ac1, .bool ((rb y)), .slice a2 ((words y.natAbs).length) ac2, .slice a3 ((words d).length) ac3]) (t := 48) hA hS rfl rfl rfl (fun g => .pointer (some ⟨g, 0, none⟩)) (does_box rfl rfl) rfl ?_
  intro g2 w3 hS a hA
  refine seq_new (vs := [.bool false, .slice none 0 0, .slice none 0 0, .bool false, .slice none 0 0, .slice none 0 0]) (t := 26) hA hS rfl rfl rfl (fun g => .pointer (some ⟨g, 0, none⟩)) (does_alloc (z := .agg #[.bool false, .slice none 0 0, .slice none 0 0, .bool false, .slice none 0 0, .slice none 0 0]) (by kernel_rfl) rfl) rfl ?_
  intro g4 w5 hS a hA
  refine seq_do hA rfl rfl rfl (does_assign rfl) ?_
  intro a hA
  refine seq_end ?_
  refine hK1 _ _ ?_
  refine wp_seq_k (fun K6 hK6 => ?_)
  have hJ37 : ∀ a w1, (∃ (J20g : Nat) (J21 : Option Addr) (J22 : Nat) (J23 : Option Addr) (J24 : Nat) (J25 : Option Addr) (J26 : Nat) (J27 : Option Addr) (J28 : Nat), Sl a 28 [(0, .agg #[.bool ((rb x)), .slice a1 ((words x.natAbs).length) ac1, .bool ((rb y)), .slice a2 ((words y.natAbs).length) ac2, .slice a3 ((words d).length) ac3]), (2, .pointer (some ⟨g4, 0, none⟩)), (3, .int .i64 0), (4, .pointer (some ⟨J20g, 0, none⟩))] ∧ St w w1 [(J20g, [.bool ((rb x)), .slice J21 ((words (rt x d)).length) J22, .slice J23 ((words (rq x d)).length) J24, .bool ((rb y)), .slice J25 ((words (rt y d)).length) J26, .slice J27 ((words (rq y d)).length) J28]), (g4, [.bool false, .slice none 0 0, .slice none 0 0, .bool false, .slice none 0 0, .slice none 0 0]), (g2, [.bool ((rb x)), .slice a1 ((words x.natAbs).length) ac1, .bool ((rb y)), .slice a2 ((words y.natAbs).length) ac2, .slice a3 ((words d).length) ac3])] [(J27, words (rq y d)), (J25, words (rt y d)), (J23, words (rq x d)), (J21, words (rt x d)), (a3, words d), (a2, words y.natAbs), (a1, words x.natAbs)] [] ∧ (J27 = none → J28 = 0) ∧ (words (rq y d) : List Nat).length ≤ J28 ∧ (J25 = none → J26 = 0) ∧ (words (rt y d) : List Nat).length ≤ J26 ∧ (J23 = none → J24 = 0) ∧ (words (rq x d) : List Nat).length ≤ J24 ∧ (J21 = none → J22 = 0) ∧ (words (rt x d) : List Nat).length ≤ J22) → K6 a w1 := by
    clear hA hS
    rintro a w38 ⟨J20g, J21, J22, J23, J24, J25, J26, J27, J28, hA, hS, hn29, hc30, hn31, hc32, hn33, hc34, hn35, hc36⟩
    refine hK6 _ _ ?_
    refine wp_seq_k (fun K39 hK39 => ?_)
    refine wp_seq_k (fun K40 hK40 => ?_)
    refine wp_region_lit ?_
    refine seq_do (v := .pointer (some ⟨J20g, 0, none⟩)) hA rfl rfl rfl (does_field ExJ_fld_26_0 rfl rfl) ?_
    intro a hA
    refine seq_do (v := .agg #[.bool ((rb x)), .slice J21 ((words (rt x d)).length) J22, .slice J23 ((words (rq x d)).length) J24]) hA rfl rfl rfl (does_loadS hS ExJ_isS_24 rfl 0 rfl (cs := [.bool ((rb x)), .slice J21 ((words (rt x d)).length) J22, .slice J23 ((words (rq x d)).length) J24]) rfl rfl) ?_
    intro a hA
    rcases Bool.eq_false_or_eq_true ((decide ((words (rt x d)).length ≤ 512) && decide ((words (rq x d)).length ≤ 512))) with hb41 | hb41
    · refine seq_call hA rfl rfl rfl (enters_func  rfl rfl (fun w => by kernel_rfl)) (fitsB_any ⟨(hS.rd 3 rfl), hn35, hc36⟩ ⟨(hS.rd 2 rfl), hn33, hc34⟩ (by have h9 := div_len (g := Nat.gcd x.natAbs d) l1; unfold rt; omega) (by have h9 := div_len (g := Nat.gcd x.natAbs d) l3; unfold rq; omega) hb41) ?_
      rintro _ w43 ⟨rfl, hb42⟩
      replace hS := hS.call hb42
      refine ⟨_, rfl, ?_⟩
      intro a hA
      refine seq_do (v := .bool false) hA rfl rfl rfl (does_un rfl un_not) ?_
      intro a hA
      refine seq_do hA rfl rfl rfl (does_move rfl) ?_
      intro a hA
      refine seq_do (v := .pointer (some ⟨J20g, 3, none⟩)) hA rfl rfl rfl (does_field ExJ_fld_26_1 rfl rfl) ?_
      intro a hA
      refine seq_do (v := .agg #[.bool ((rb y)), .slice J25 ((words (rt y d)).length) J26, .slice J27 ((words (rq y d)).length) J28]) hA rfl rfl rfl (does_loadS hS ExJ_isS_24 rfl 0 rfl (cs := [.bool ((rb y)), .slice J25 ((words (rt y d)).length) J26, .slice J27 ((words (rq y d)).length) J28]) rfl rfl) ?_
      intro a hA
      rcases Bool.eq_false_or_eq_true ((decide ((words (rt y d)).length ≤ 512) && decide ((words (rq y d)).length ≤ 512))) with hb44 | hb44
      · refine seq_call hA rfl rfl rfl (enters_func  rfl rfl (fun w => by kernel_rfl)) (fitsB_any ⟨(hS.rd 1 rfl), hn31, hc32⟩ ⟨(hS.rd 0 rfl), hn29, hc30⟩ (by have h9 := div_len (g := Nat.gcd y.natAbs d) l2; unfold rt; omega) (by have h9 := div_len (g := Nat.gcd y.natAbs d) l3; unfold rq; omega) hb44) ?_
        rintro _ w46 ⟨rfl, hb45⟩
        replace hS := hS.call hb45
        refine ⟨_, rfl, ?_⟩
        intro a hA
        refine seq_do (v := .bool false) hA rfl rfl rfl (does_un rfl un_not) ?_
        intro a hA
        refine seq_do (v := .bool false) hA rfl rfl rfl (does_pick rfl rfl rfl rfl) ?_
        intro a hA
        refine seq_end ?_
        refine hK40 _ _ ?_
        refine wp_cond_false (hA.ev rfl) ?_
        refine wp_skip ?_
        refine hK39 _ _ ?_
        refine wp_seq_k (fun K47 hK47 => ?_)
        refine wp_region_lit ?_
        refine seq_do (v := .agg #[.bool ((rb x)), .slice J21 ((words (rt x d)).length) J22, .slice J23 ((words (rq x d)).length) J24, .bool ((rb y)), .slice J25 ((words (rt y d)).length) J26, .slice J27 ((words (rq y d)).length) J28]) hA rfl rfl rfl (does_loadS hS ExJ_isS_26 rfl 0 rfl (cs := [.bool ((rb x)), .slice J21 ((words (rt x d)).length) J22, .slice J23 ((words (rq x d)).length) J24, .bool ((rb y)), .slice J25 ((words (rt y d)).length) J26, .slice J27 ((words (rq y d)).length) J28]) rfl rfl) ?_
        intro a hA
        refine seq_store (us := [.bool ((rb x)), .slice J21 ((words (rt x d)).length) J22, .slice J23 ((words (rq x d)).length) J24, .bool ((rb y)), .slice J25 ((words (rt y d)).length) J26, .slice J27 ((words (rq y d)).length) J28]) hA hS rfl rfl (sets_store (cs := [.bool ((rb x)), .slice J21 ((words (rt x d)).length) J22, .slice J23 ((words (rq x d)).length) J24, .bool ((rb y)), .slice J25 ((words (rt y d)).length) J26, .slice J27 ((words (rq y d)).length) J28]) rfl rfl rfl (by kernel_rfl) hS 1 rfl rfl rfl) 1 rfl rfl rfl rfl ?_
        intro w48 hS
        refine seq_do hA rfl rfl rfl (does_assign rfl) ?_
        intro a hA
        refine seq_end ?_
        refine hK47 _ _ ?_
        refine wp_ret ?_
        refine hret _ _ ?_
        refine ends (v := .tuple #[.agg #[.bool ((rb x)), .slice J21 ((words (rt x d)).length) J22, .slice J23 ((words (rq x d)).length) J24, .bool ((rb y)), .slice J25 ((words (rt y d)).length) J26, .slice J27 ((words (rq y d)).length) J28], .int .i64 0]) hA rfl (.cons (res_cell hS ExJ_isS_26 rfl 1 rfl (cs := [.bool ((rb x)), .slice J21 ((words (rt x d)).length) J22, .slice J23 ((words (rq x d)).length) J24, .bool ((rb y)), .slice J25 ((words (rt y d)).length) J26, .slice J27 ((words (rq y d)).length) J28]) rfl rfl) (.cons (res_tmp rfl) .nil)) rfl ?_
        rw [setQ_pos hb41 hb44]
        exact ⟨J21, J22, J23, J24, J25, J26, J27, J28, rfl, ⟨⟨(hS.rd 3 rfl), hn35, hc36⟩, ⟨(hS.rd 2 rfl), hn33, hc34⟩, ⟨(hS.rd 1 rfl), hn31, hc32⟩, ⟨(hS.rd 0 rfl), hn29, hc30⟩⟩, hS.bel⟩
      · refine seq_call hA rfl rfl rfl (enters_func  rfl rfl (fun w => by kernel_rfl)) (fitsB_any ⟨(hS.rd 1 rfl), hn31, hc32⟩ ⟨(hS.rd 0 rfl), hn29, hc30⟩ (by have h9 := div_len (g := Nat.gcd y.natAbs d) l2; unfold rt; omega) (by have h9 := div_len (g := Nat.gcd y.natAbs d) l3; unfold rq; omega) hb44) ?_
        rintro _ w50 ⟨rfl, hb49⟩
        replace hS := hS.call hb49
        refine ⟨_, rfl, ?_⟩
        intro a hA
        refine seq_do (v := .bool true) hA rfl rfl rfl (does_un rfl un_not) ?_
        intro a hA
        refine seq_do (v := .bool true) hA rfl rfl rfl (does_pick rfl rfl rfl rfl) ?_
        intro a hA
        refine seq_end ?_
        refine hK40 _ _ ?_
        refine wp_cond_true (hA.ev rfl) ?_
        refine wp_seq_k (fun K51 hK51 => ?_)
        refine wp_region_lit ?_
        refine seq_do (v := .agg #[.bool false, .slice none 0 0, .slice none 0 0, .bool false, .slice none 0 0, .slice none 0 0]) hA rfl rfl rfl (does_build rfl (fun w => by kernel_rfl)) ?_
        intro a hA
        refine seq_store (us := [.bool false, .slice none 0 0, .slice none 0 0, .bool false, .slice none 0 0, .slice none 0 0]) hA hS rfl rfl (sets_store (cs := [.bool false, .slice none 0 0, .slice none 0 0, .bool false, .slice none 0 0, .slice none 0 0]) rfl rfl rfl (by kernel_rfl) hS 1 rfl rfl rfl) 1 rfl rfl rfl rfl ?_
        intro w52 hS
        refine seq_do hA rfl rfl rfl (does_assign rfl) ?_
        intro a hA
        refine seq_end ?_
        refine hK51 _ _ ?_
        refine wp_ret ?_
        refine hret _ _ ?_
        refine ends (v := .tuple #[.agg #[.bool false, .slice none 0 0, .slice none 0 0, .bool false, .slice none 0 0, .slice none 0 0], .int .i64 4]) hA rfl (.cons (res_cell hS ExJ_isS_26 rfl 1 rfl (cs := [.bool false, .slice none 0 0, .slice none 0 0, .bool false, .slice none 0 0, .slice none 0 0]) rfl rfl) (.cons (res_tmp rfl) .nil)) rfl ?_
        rw [setQ_neg2 hb44]
        exact ⟨none, 0, none, 0, none, 0, none, 0, rfl, ⟨(Sc.none _), (Sc.none _), (Sc.none _), (Sc.none _)⟩, hS.bel⟩
    · refine seq_call hA rfl rfl rfl (enters_func  rfl rfl (fun w => by kernel_rfl)) (fitsB_any ⟨(hS.rd 3 rfl), hn35, hc36⟩ ⟨(hS.rd 2 rfl), hn33, hc34⟩ (by have h9 := div_len (g := Nat.gcd x.natAbs d) l1; unfold rt; omega) (by have h9 := div_len (g := Nat.gcd x.natAbs d) l3; unfold rq; omega) hb41) ?_
      rintro _ w54 ⟨rfl, hb53⟩
      replace hS := hS.call hb53
      refine ⟨_, rfl, ?_⟩
      intro a hA
      refine seq_do (v := .bool true) hA rfl rfl rfl (does_un rfl un_not) ?_
      intro a hA
      refine seq_do hA rfl rfl rfl (does_move rfl) ?_
      intro a hA
      refine seq_skip hA rfl rfl rfl ?_
      intro a hA
      refine seq_skip hA rfl rfl rfl ?_
      intro a hA
      refine seq_skip hA rfl rfl rfl ?_
      intro a hA
      refine seq_skip hA rfl rfl rfl ?_
      intro a hA
      refine seq_do (v := .bool true) hA rfl rfl rfl (does_pick rfl rfl rfl rfl) ?_
      intro a hA
      refine seq_end ?_
      refine hK40 _ _ ?_
      refine wp_cond_true (hA.ev rfl) ?_
      refine wp_seq_k (fun K55 hK55 => ?_)
      refine wp_region_lit ?_
      refine seq_do (v := .agg #[.bool false, .slice none 0 0, .slice none 0 0, .bool false, .slice none 0 0, .slice none 0 0]) hA rfl rfl rfl (does_build rfl (fun w => by kernel_rfl)) ?_
      intro a hA
      refine seq_store (us := [.bool false, .slice none 0 0, .slice none 0 0, .bool false, .slice none 0 0, .slice none 0 0]) hA hS rfl rfl (sets_store (cs := [.bool false, .slice none 0 0, .slice none 0 0, .bool false, .slice none 0 0, .slice none 0 0]) rfl rfl rfl (by kernel_rfl) hS 1 rfl rfl rfl) 1 rfl rfl rfl rfl ?_
      intro w56 hS
      refine seq_do hA rfl rfl rfl (does_assign rfl) ?_
      intro a hA
      refine seq_end ?_
      refine hK55 _ _ ?_
      refine wp_ret ?_
      refine hret _ _ ?_
      refine ends (v := .tuple #[.agg #[.bool false, .slice none 0 0, .slice none 0 0, .bool false, .slice none 0 0, .slice none 0 0], .int .i64 4]) hA rfl (.cons (res_cell hS ExJ_isS_26 rfl 1 rfl (cs := [.bool false, .slice none 0 0, .slice none 0 0, .bool false, .slice none 0 0, .slice none 0 0]) rfl rfl) (.cons (res_tmp rfl) .nil)) rfl ?_
      rw [setQ_neg1 hb41]
      exact ⟨none, 0, none, 0, none, 0, none, 0, rfl, ⟨(Sc.none _), (Sc.none _), (Sc.none _), (Sc.none _)⟩, hS.bel⟩
  refine wp_draw (S := fun w1 => St w w1 [(g4, [.bool false, .slice none 0 0, .slice none 0 0, .bool false, .slice none 0 0, .slice none 0 0]), (g2, [.bool ((rb x)), .slice a1 ((words x.natAbs).length) ac1, .bool ((rb y)), .slice a2 ((words y.natAbs).length) ac2, .slice a3 ((words d).length) ac3])] [(a3, words d), (a2, words y.natAbs), (a1, words x.natAbs)] []) (by kernel_rfl) ?_
  replace hS := hS.drew
  refine any_take (v := .pointer (some ⟨g2, 0, none⟩)) hA 0 rfl rfl rfl rfl (by kernel_rfl) (by kernel_rfl) (by kernel_rfl) (fun c a w h => hP c a _ _ w h) hS (fun w1 hS => does_field ExJ_fld_48_0 rfl rfl) ?_
  intro a hA
  refine any_take (v := .agg #[.bool ((rb x)), .slice a1 ((words x.natAbs).length) ac1]) hA 1 rfl rfl rfl rfl (by kernel_rfl) (by kernel_rfl) (by kernel_rfl) (fun c a w h => hP c a _ _ w h) hS (fun w1 hS => does_loadS hS ExJ_isS_46 rfl 1 rfl (cs := [.bool ((rb x)), .slice a1 ((words x.natAbs).length) ac1]) rfl rfl) ?_
  intro a hA
  refine any_take (v := .pointer (some ⟨g2, 4, none⟩)) hA 2 rfl rfl rfl rfl (by kernel_rfl) (by kernel_rfl) (by kernel_rfl) (fun c a w h => hP c a _ _ w h) hS (fun w1 hS => does_field ExJ_fld_48_2 rfl rfl) ?_
  intro a hA
  refine any_take hA 3 rfl rfl rfl rfl (by kernel_rfl) (by kernel_rfl) (by kernel_rfl) (fun c a w h => hP c a _ _ w h) hS (fun w1 hS => does_load1 hS ExJ_is1_22 rfl 1 rfl rfl) ?_
  intro a hA
  refine any_take (v := .pointer (some ⟨g2, 2, none⟩)) hA 5 rfl rfl rfl rfl (by kernel_rfl) (by kernel_rfl) (by kernel_rfl) (fun c a w h => hP c a _ _ w h) hS (fun w1 hS => does_field ExJ_fld_48_1 rfl rfl) ?_
  intro a hA
  refine any_take (v := .agg #[.bool ((rb y)), .slice a2 ((words y.natAbs).length) ac2]) hA 6 rfl rfl rfl rfl (by kernel_rfl) (by kernel_rfl) (by kernel_rfl) (fun c a w h => hP c a _ _ w h) hS (fun w1 hS => does_loadS hS ExJ_isS_46 rfl 1 rfl (cs := [.bool ((rb y)), .slice a2 ((words y.natAbs).length) ac2]) rfl rfl) ?_
  intro a hA
  refine any_take (v := .pointer (some ⟨g2, 4, none⟩)) hA 7 rfl rfl rfl rfl (by kernel_rfl) (by kernel_rfl) (by kernel_rfl) (fun c a w h => hP c a _ _ w h) hS (fun w1 hS => does_field ExJ_fld_48_2 rfl rfl) ?_
  intro a hA
  refine any_take hA 8 rfl rfl rfl rfl (by kernel_rfl) (by kernel_rfl) (by kernel_rfl) (fun c a w h => hP c a _ _ w h) hS (fun w1 hS => does_load1 hS ExJ_is1_22 rfl 1 rfl rfl) ?_
  intro a hA
  refine any_many (rs := [4, 11]) (by kernel_rfl) (by simp) ⟨?_, ?_, trivial⟩
  · refine op_call hA 4 rfl rfl rfl rfl (enters_func  rfl rfl (fun w => by kernel_rfl)) (zlowest_any ⟨(hS.rd 2 rfl), ha1.nil, ha1.cap⟩ ⟨(hS.rd 0 rfl), ha3.nil, ha3.cap⟩ l1 l3 hd) ?_
    rintro _ w61 ⟨f57_1, f57_c1, f57_2, f57_c2, rfl, hs58, hs59, hb60⟩
    replace hS := hS.call hb60
    replace hS := hS.addR hs58.rd
    replace hS := hS.addR hs59.rd
    refine ⟨_, rfl, (hS.partD (.refl _) 2 rfl (.refl _)), ?_⟩
    intro a hA
    refine any_many (rs := [9, 11]) (by kernel_rfl) (by simp) ⟨?_, ?_, trivial⟩
    · refine op_call hA 9 rfl rfl rfl rfl (enters_func  rfl rfl (fun w => by kernel_rfl)) (zlowest_any ⟨(hS.rd 3 rfl), ha2.nil, ha2.cap⟩ ⟨(hS.rd 2 rfl), ha3.nil, ha3.cap⟩ l2 l3 hd) ?_
      rintro _ w66 ⟨f62_1, f62_c1, f62_2, f62_c2, rfl, hs63, hs64, hb65⟩
      replace hS := hS.call hb65
      replace hS := hS.addR hs63.rd
      replace hS := hS.addR hs64.rd
      refine ⟨_, rfl, (hS.partD (.refl _) 4 rfl (.refl _)), ?_⟩
      intro a hA
      refine any_take (v := .agg #[.bool ((rb x)), .slice f57_1 ((words (rt x d)).length) f57_c1, .slice f57_2 ((words (rq x d)).length) f57_c2, .bool ((rb y)), .slice f62_1 ((words (rt y d)).length) f62_c1, .slice f62_2 ((words (rq y d)).length) f62_c2]) hA 10 rfl rfl rfl rfl (by kernel_rfl) (by kernel_rfl) (by kernel_rfl) (fun c a w h => hP c a _ _ w h) (hS.partD (.refl _) 4 rfl (.refl _)) (fun w1 hS => does_build rfl (fun w => by kernel_rfl)) ?_
      intro a hA
      refine any_one (by kernel_rfl) (op_new (vs := [.bool false, .slice none 0 0, .slice none 0 0, .bool false, .slice none 0 0, .slice none 0 0]) (t := 26) hA hS 11 rfl rfl rfl rfl (fun g => .pointer (some ⟨g, 0, none⟩)) (does_alloc (z := .agg #[.bool false, .slice none 0 0, .slice none 0 0, .bool false, .slice none 0 0, .slice none 0 0]) (by kernel_rfl) rfl) rfl ?_)
      intro g67 w68 hS
      refine ⟨(hS.partD (.cons _ (.cons_cons _ (.cons_cons _ .slnil))) 4 rfl (.refl _)), ?_⟩
      intro a hA
      refine any_one (by kernel_rfl) (op_store (us := [.bool ((rb x)), .slice f57_1 ((words (rt x d)).length) f57_c1, .slice f57_2 ((words (rq x d)).length) f57_c2, .bool ((rb y)), .slice f62_1 ((words (rt y d)).length) f62_c1, .slice f62_2 ((words (rq y d)).length) f62_c2]) hA hS 12 rfl rfl rfl (sets_store (cs := [.bool ((rb x)), .slice f57_1 ((words (rt x d)).length) f57_c1, .slice f57_2 ((words (rq x d)).length) f57_c2, .bool ((rb y)), .slice f62_1 ((words (rt y d)).length) f62_c1, .slice f62_2 ((words (rq y d)).length) f62_c2]) rfl rfl rfl (by kernel_rfl) hS 0 rfl rfl rfl) 0 rfl rfl rfl rfl ?_)
      intro w69 hS
      refine ⟨(hS.partD (.cons _ (.cons_cons _ (.cons_cons _ .slnil))) 4 rfl (.refl _)), ?_⟩
      refine any_end (by kernel_rfl) ?_
      refine hJ37 _ _ ⟨g67, f57_1, f57_c1, f57_2, f57_c2, f62_1, f62_c1, f62_2, f62_c2, hA.keep _ ⟨rfl, rfl, rfl, rfl, trivial⟩, ((hS.pickR [(f62_2, words (rq y d)), (f62_1, words (rt y d)), (f57_2, words (rq x d)), (f57_1, words (rt x d)), (a3, words d), (a2, words y.natAbs), (a1, words x.natAbs)] ⟨⟨0, rfl⟩, ⟨⟨1, rfl⟩, ⟨⟨2, rfl⟩, ⟨⟨3, rfl⟩, ⟨⟨4, rfl⟩, ⟨⟨5, rfl⟩, ⟨⟨6, rfl⟩, trivial⟩⟩⟩⟩⟩⟩⟩).pickL [(g67, [.bool ((rb x)), .slice f57_1 ((words (rt x d)).length) f57_c1, .slice f57_2 ((words (rq x d)).length) f57_c2, .bool ((rb y)), .slice f62_1 ((words (rt y d)).length) f62_c1, .slice f62_2 ((words (rq y d)).length) f62_c2]), (g4, [.bool false, .slice none 0 0, .slice none 0 0, .bool false, .slice none 0 0, .slice none 0 0]), (g2, [.bool ((rb x)), .slice a1 ((words x.natAbs).length) ac1, .bool ((rb y)), .slice a2 ((words y.natAbs).length) ac2, .slice a3 ((words d).length) ac3])] [0, 1, 2] rfl (by decide)), hs64.nil, hs64.cap, hs63.nil, hs63.cap, hs59.nil, hs59.cap, hs58.nil, hs58.cap⟩
    · refine op_new (vs := [.bool false, .slice none 0 0, .slice none 0 0, .bool false, .slice none 0 0, .slice none 0 0]) (t := 26) hA hS 11 rfl rfl rfl rfl (fun g => .pointer (some ⟨g, 0, none⟩)) (does_alloc (z := .agg #[.bool false, .slice none 0 0, .slice none 0 0, .bool false, .slice none 0 0, .slice none 0 0]) (by kernel_rfl) rfl) rfl ?_
      intro g70 w71 hS
      refine ⟨(hS.partD (.cons _ (.cons_cons _ (.cons_cons _ .slnil))) 2 rfl (.refl _)), ?_⟩
      intro a hA
      refine any_one (by kernel_rfl) (op_call hA 9 rfl rfl rfl rfl (enters_func  rfl rfl (fun w => by kernel_rfl)) (zlowest_any ⟨(hS.rd 3 rfl), ha2.nil, ha2.cap⟩ ⟨(hS.rd 2 rfl), ha3.nil, ha3.cap⟩ l2 l3 hd) ?_)
      rintro _ w76 ⟨f72_1, f72_c1, f72_2, f72_c2, rfl, hs73, hs74, hb75⟩
      replace hS := hS.call hb75
      replace hS := hS.addR hs73.rd
      replace hS := hS.addR hs74.rd
      refine ⟨_, rfl, (hS.partD (.cons _ (.cons_cons _ (.cons_cons _ .slnil))) 4 rfl (.refl _)), ?_⟩
      intro a hA
      refine any_take (v := .agg #[.bool ((rb x)), .slice f57_1 ((words (rt x d)).length) f57_c1, .slice f57_2 ((words (rq x d)).length) f57_c2, .bool ((rb y)), .slice f72_1 ((words (rt y d)).length) f72_c1, .slice f72_2 ((words (rq y d)).length) f72_c2]) hA 10 rfl rfl rfl rfl (by kernel_rfl) (by kernel_rfl) (by kernel_rfl) (fun c a w h => hP c a _ _ w h) (hS.partD (.cons _ (.cons_cons _ (.cons_cons _ .slnil))) 4 rfl (.refl _)) (fun w1 hS => does_build rfl (fun w => by kernel_rfl)) ?_
      intro a hA
      refine any_one (by kernel_rfl) (op_store (us := [.bool ((rb x)), .slice f57_1 ((words (rt x d)).length) f57_c1, .slice f57_2 ((words (rq x d)).length) f57_c2, .bool ((rb y)), .slice f72_1 ((words (rt y d)).length) f72_c1, .slice f72_2 ((words (rq y d)).length) f72_c2]) hA hS 12 rfl rfl rfl (sets_store (cs := [.bool ((rb x)), .slice f57_1 ((words (rt x d)).length) f57_c1, .slice f57_2 ((words (rq x d)).length) f57_c2, .bool ((rb y)), .slice f72_1 ((words (rt y d)).length) f72_c1, .slice f72_2 ((words (rq y d)).length) f72_c2]) rfl rfl rfl (by kernel_rfl) hS 0 rfl rfl rfl) 0 rfl rfl rfl rfl ?_)
      intro w77 hS
      refine ⟨(hS.partD (.cons _ (.cons_cons _ (.cons_cons _ .slnil))) 4 rfl (.refl _)), ?_⟩
      refine any_end (by kernel_rfl) ?_
      refine hJ37 _ _ ⟨g70, f57_1, f57_c1, f57_2, f57_c2, f72_1, f72_c1, f72_2, f72_c2, hA.keep _ ⟨rfl, rfl, rfl, rfl, trivial⟩, ((hS.pickR [(f72_2, words (rq y d)), (f72_1, words (rt y d)), (f57_2, words (rq x d)), (f57_1, words (rt x d)), (a3, words d), (a2, words y.natAbs), (a1, words x.natAbs)] ⟨⟨0, rfl⟩, ⟨⟨1, rfl⟩, ⟨⟨2, rfl⟩, ⟨⟨3, rfl⟩, ⟨⟨4, rfl⟩, ⟨⟨5, rfl⟩, ⟨⟨6, rfl⟩, trivial⟩⟩⟩⟩⟩⟩⟩).pickL [(g70, [.bool ((rb x)), .slice f57_1 ((words (rt x d)).length) f57_c1, .slice f57_2 ((words (rq x d)).length) f57_c2, .bool ((rb y)), .slice f72_1 ((words (rt y d)).length) f72_c1, .slice f72_2 ((words (rq y d)).length) f72_c2]), (g4, [.bool false, .slice none 0 0, .slice none 0 0, .bool false, .slice none 0 0, .slice none 0 0]), (g2, [.bool ((rb x)), .slice a1 ((words x.natAbs).length) ac1, .bool ((rb y)), .slice a2 ((words y.natAbs).length) ac2, .slice a3 ((words d).length) ac3])] [0, 1, 2] rfl (by decide)), hs74.nil, hs74.cap, hs73.nil, hs73.cap, hs59.nil, hs59.cap, hs58.nil, hs58.cap⟩
  · refine op_new (vs := [.bool false, .slice none 0 0, .slice none 0 0, .bool false, .slice none 0 0, .slice none 0 0]) (t := 26) hA hS 11 rfl rfl rfl rfl (fun g => .pointer (some ⟨g, 0, none⟩)) (does_alloc (z := .agg #[.bool false, .slice none 0 0, .slice none 0 0, .bool false, .slice none 0 0, .slice none 0 0]) (by kernel_rfl) rfl) rfl ?_
    intro g78 w79 hS
    refine ⟨(hS.partD (.cons _ (.cons_cons _ (.cons_cons _ .slnil))) 0 rfl (.refl _)), ?_⟩
    intro a hA
    refine any_one (by kernel_rfl) (op_call hA 4 rfl rfl rfl rfl (enters_func  rfl rfl (fun w => by kernel_rfl)) (zlowest_any ⟨(hS.rd 2 rfl), ha1.nil, ha1.cap⟩ ⟨(hS.rd 0 rfl), ha3.nil, ha3.cap⟩ l1 l3 hd) ?_)
    rintro _ w84 ⟨f80_1, f80_c1, f80_2, f80_c2, rfl, hs81, hs82, hb83⟩
    replace hS := hS.call hb83
    replace hS := hS.addR hs81.rd
    replace hS := hS.addR hs82.rd
    refine ⟨_, rfl, (hS.partD (.cons _ (.cons_cons _ (.cons_cons _ .slnil))) 2 rfl (.refl _)), ?_⟩
    intro a hA
    refine any_one (by kernel_rfl) (op_call hA 9 rfl rfl rfl rfl (enters_func  rfl rfl (fun w => by kernel_rfl)) (zlowest_any ⟨(hS.rd 3 rfl), ha2.nil, ha2.cap⟩ ⟨(hS.rd 2 rfl), ha3.nil, ha3.cap⟩ l2 l3 hd) ?_)
    rintro _ w89 ⟨f85_1, f85_c1, f85_2, f85_c2, rfl, hs86, hs87, hb88⟩
    replace hS := hS.call hb88
    replace hS := hS.addR hs86.rd
    replace hS := hS.addR hs87.rd
    refine ⟨_, rfl, (hS.partD (.cons _ (.cons_cons _ (.cons_cons _ .slnil))) 4 rfl (.refl _)), ?_⟩
    intro a hA
    refine any_take (v := .agg #[.bool ((rb x)), .slice f80_1 ((words (rt x d)).length) f80_c1, .slice f80_2 ((words (rq x d)).length) f80_c2, .bool ((rb y)), .slice f85_1 ((words (rt y d)).length) f85_c1, .slice f85_2 ((words (rq y d)).length) f85_c2]) hA 10 rfl rfl rfl rfl (by kernel_rfl) (by kernel_rfl) (by kernel_rfl) (fun c a w h => hP c a _ _ w h) (hS.partD (.cons _ (.cons_cons _ (.cons_cons _ .slnil))) 4 rfl (.refl _)) (fun w1 hS => does_build rfl (fun w => by kernel_rfl)) ?_
    intro a hA
    refine any_one (by kernel_rfl) (op_store (us := [.bool ((rb x)), .slice f80_1 ((words (rt x d)).length) f80_c1, .slice f80_2 ((words (rq x d)).length) f80_c2, .bool ((rb y)), .slice f85_1 ((words (rt y d)).length) f85_c1, .slice f85_2 ((words (rq y d)).length) f85_c2]) hA hS 12 rfl rfl rfl (sets_store (cs := [.bool ((rb x)), .slice f80_1 ((words (rt x d)).length) f80_c1, .slice f80_2 ((words (rq x d)).length) f80_c2, .bool ((rb y)), .slice f85_1 ((words (rt y d)).length) f85_c1, .slice f85_2 ((words (rq y d)).length) f85_c2]) rfl rfl rfl (by kernel_rfl) hS 0 rfl rfl rfl) 0 rfl rfl rfl rfl ?_)
    intro w90 hS
    refine ⟨(hS.partD (.cons _ (.cons_cons _ (.cons_cons _ .slnil))) 4 rfl (.refl _)), ?_⟩
    refine any_end (by kernel_rfl) ?_
    refine hJ37 _ _ ⟨g78, f80_1, f80_c1, f80_2, f80_c2, f85_1, f85_c1, f85_2, f85_c2, hA.keep _ ⟨rfl, rfl, rfl, rfl, trivial⟩, ((hS.pickR [(f85_2, words (rq y d)), (f85_1, words (rt y d)), (f80_2, words (rq x d)), (f80_1, words (rt x d)), (a3, words d), (a2, words y.natAbs), (a1, words x.natAbs)] ⟨⟨0, rfl⟩, ⟨⟨1, rfl⟩, ⟨⟨2, rfl⟩, ⟨⟨3, rfl⟩, ⟨⟨4, rfl⟩, ⟨⟨5, rfl⟩, ⟨⟨6, rfl⟩, trivial⟩⟩⟩⟩⟩⟩⟩).pickL [(g78, [.bool ((rb x)), .slice f80_1 ((words (rt x d)).length) f80_c1, .slice f80_2 ((words (rq x d)).length) f80_c2, .bool ((rb y)), .slice f85_1 ((words (rt y d)).length) f85_c1, .slice f85_2 ((words (rq y d)).length) f85_c2]), (g4, [.bool false, .slice none 0 0, .slice none 0 0, .bool false, .slice none 0 0, .slice none 0 0]), (g2, [.bool ((rb x)), .slice a1 ((words x.natAbs).length) ac1, .bool ((rb y)), .slice a2 ((words y.natAbs).length) ac2, .slice a3 ((words d).length) ac3])] [0, 1, 2] rfl (by decide)), hs87.nil, hs87.cap, hs86.nil, hs86.cap, hs82.nil, hs82.cap, hs81.nil, hs81.cap⟩
theorem zsum_any {w : World} {x1 y1 x2 y2 : Int} {d1 d2 : Nat} {a1 a2 a3 : Option Addr} {ac1 ac2 ac3 : Nat} (ha1 : Sc w a1 ac1 (words x1.natAbs)) (ha2 : Sc w a2 ac2 (words y1.natAbs)) (ha3 : Sc w a3 ac3 (words d1)) {u1 u2 u3 : Option Addr} {uc1 uc2 uc3 : Nat} (hu1 : Sc w u1 uc1 (words x2.natAbs)) (hu2 : Sc w u2 uc2 (words y2.natAbs)) (hu3 : Sc w u3 uc3 (words d2)) (la1 : (words x1.natAbs).length ≤ 10000) (la2 : (words y1.natAbs).length ≤ 10000) (la3 : (words d1).length ≤ 10000) (lu1 : (words x2.natAbs).length ≤ 10000) (lu2 : (words y2.natAbs).length ≤ 10000) (lu3 : (words d2).length ≤ 10000) : Calls Try.prog 31 #[.agg #[.bool (rb x1), .slice a1 (words x1.natAbs).length ac1, .bool (rb y1), .slice a2 (words y1.natAbs).length ac2, .slice a3 (words d1).length ac3], .agg #[.bool (rb x2), .slice u1 (words x2.natAbs).length uc1, .bool (rb y2), .slice u2 (words y2.natAbs).length uc2, .slice u3 (words d2).length uc3]] w (AnsR w (x1 * ((d2 : Nat) : Int) + x2 * ((d1 : Nat) : Int)) (y1 * ((d2 : Nat) : Int) + y2 * ((d1 : Nat) : Int)) (d1 * d2)) := by
  have n1 : (words ((d1 : Nat) : Int).natAbs).length ≤ 10000 := by rw [Int.natAbs_natCast]; exact la3
  have n2 : (words ((d2 : Nat) : Int).natAbs).length ≤ 10000 := by rw [Int.natAbs_natCast]; exact lu3
  have k1 := abs_mul_len la1 n2
  have k2 := abs_mul_len lu1 n1
  have k3 := abs_mul_len la2 n2
  have k4 := abs_mul_len lu2 n1
  have hS : St w w [] [(u3, words d2), (u2, words y2.natAbs), (u1, words x2.natAbs), (a3, words d1), (a2, words y1.natAbs), (a1, words x1.natAbs)] [] := ((((((St.start w).addR ha1.rd).addR ha2.rd).addR ha3.rd).addR hu1.rd).addR hu2.rd).addR hu3.rd
  refine walk_of (l := [(0, .agg #[.bool ((rb x1)), .slice a1 ((words x1.natAbs).length) ac1, .bool ((rb y1)), .slice a2 ((words y1.natAbs).length) ac2, .slice a3 ((words d1).length) ac3]), (1, .agg #[.bool ((rb x2)), .slice u1 ((words x2.natAbs).length) uc1, .bool ((rb y2)), .slice u2 ((words y2.natAbs).length) uc2, .slice u3 ((words d2).length) uc3])]) Try.func31 rfl Try.ntmps31 rfl rfl ?_
  intro Q hret hnorm hP a hA
  refine wp_seq_k (fun K1 hK1 => ?_)
  refine wp_region_lit ?_
  refine seq_new (vs := [.bool ((rb x1)), .slice a1 ((words x1.natAbs).length) ac1, .bool ((rb y1)), .slice a2 ((words y1.natAbs).length) ac2, .slice a3 ((words d1).length) ac3]) (t := 48) hA hS rfl rfl rfl (fun g => .pointer (some ⟨g, 0, none⟩)) (does_box rfl rfl) rfl ?_
  intro g2 w3 hS a hA
  refine seq_new (vs := [.bool ((rb x2)), .slice u1 ((words x2.natAbs).length) uc1, .bool ((rb y2)), .slice u2 ((words y2.natAbs).length) uc2, .slice u3 ((words d2).length) uc3]) (t := 48) hA hS rfl rfl rfl (fun g => .pointer (some ⟨g, 0, none⟩)) (does_box rfl rfl) rfl ?_
  intro g4 w5 hS a hA
  refine seq_new (vs := [.bool false, .slice none 0 0, .bool false, .slice none 0 0, .slice none 0 0]) (t := 48) hA hS rfl rfl rfl (fun g => .pointer (some ⟨g, 0, none⟩)) (does_alloc (z := .agg #[.bool false, .slice none 0 0, .bool false, .slice none 0 0, .slice none 0 0]) (by kernel_rfl) rfl) rfl ?_
  intro g6 w7 hS a hA
  refine seq_end ?_
  refine hK1 _ _ ?_
  refine wp_seq_k (fun K8 hK8 => ?_)
  refine wp_draw (S := fun w1 => St w w1 [(g4, [.bool ((rb x2)), .slice u1 ((words x2.natAbs).length) uc1, .bool ((rb y2)), .slice u2 ((words y2.natAbs).length) uc2, .slice u3 ((words d2).length) uc3]), (g2, [.bool ((rb x1)), .slice a1 ((words x1.natAbs).length) ac1, .bool ((rb y1)), .slice a2 ((words y1.natAbs).length) ac2, .slice a3 ((words d1).length) ac3])] [(u3, words d2), (u2, words y2.natAbs), (u1, words x2.natAbs), (a3, words d1), (a2, words y1.natAbs), (a1, words x1.natAbs)] []) (by kernel_rfl) ?_
  replace hS := hS.drew
  refine any_take (v := .pointer (some ⟨g2, 0, none⟩)) hA 0 rfl rfl rfl rfl (by kernel_rfl) (by kernel_rfl) (by kernel_rfl) (fun c a w h => hP c a _ _ w h) (hS.partD (.cons _ (.cons_cons _ (.cons_cons _ .slnil))) 0 rfl (.refl _)) (fun w1 hS => does_field ExJ_fld_48_0 rfl rfl) ?_
  intro a hA
  refine any_take (v := .agg #[.bool ((rb x1)), .slice a1 ((words x1.natAbs).length) ac1]) hA 1 rfl rfl rfl rfl (by kernel_rfl) (by kernel_rfl) (by kernel_rfl) (fun c a w h => hP c a _ _ w h) (hS.partD (.cons _ (.cons_cons _ (.cons_cons _ .slnil))) 0 rfl (.refl _)) (fun w1 hS => does_loadS hS ExJ_isS_46 rfl 1 rfl (cs := [.bool ((rb x1)), .slice a1 ((words x1.natAbs).length) ac1]) rfl rfl) ?_
  intro a hA
  refine any_take (v := .pointer (some ⟨g4, 4, none⟩)) hA 2 rfl rfl rfl rfl (by kernel_rfl) (by kernel_rfl) (by kernel_rfl) (fun c a w h => hP c a _ _ w h) (hS.partD (.cons _ (.cons_cons _ (.cons_cons _ .slnil))) 0 rfl (.refl _)) (fun w1 hS => does_field ExJ_fld_48_2 rfl rfl) ?_
  intro a hA
  refine any_take hA 3 rfl rfl rfl rfl (by kernel_rfl) (by kernel_rfl) (by kernel_rfl) (fun c a w h => hP c a _ _ w h) (hS.partD (.cons _ (.cons_cons _ (.cons_cons _ .slnil))) 0 rfl (.refl _)) (fun w1 hS => does_load1 hS ExJ_is1_22 rfl 0 rfl rfl) ?_
  intro a hA
  refine any_take (v := .pointer (some ⟨g4, 0, none⟩)) hA 5 rfl rfl rfl rfl (by kernel_rfl) (by kernel_rfl) (by kernel_rfl) (fun c a w h => hP c a _ _ w h) (hS.partD (.cons _ (.cons_cons _ (.cons_cons _ .slnil))) 0 rfl (.refl _)) (fun w1 hS => does_field ExJ_fld_48_0 rfl rfl) ?_
  intro a hA
  refine any_take (v := .agg #[.bool ((rb x2)), .slice u1 ((words x2.natAbs).length) uc1]) hA 6 rfl rfl rfl rfl (by kernel_rfl) (by kernel_rfl) (by kernel_rfl) (fun c a w h => hP c a _ _ w h) (hS.partD (.cons _ (.cons_cons _ (.cons_cons _ .slnil))) 0 rfl (.refl _)) (fun w1 hS => does_loadS hS ExJ_isS_46 rfl 0 rfl (cs := [.bool ((rb x2)), .slice u1 ((words x2.natAbs).length) uc1]) rfl rfl) ?_
  intro a hA
  refine any_take (v := .pointer (some ⟨g2, 4, none⟩)) hA 7 rfl rfl rfl rfl (by kernel_rfl) (by kernel_rfl) (by kernel_rfl) (fun c a w h => hP c a _ _ w h) (hS.partD (.cons _ (.cons_cons _ (.cons_cons _ .slnil))) 0 rfl (.refl _)) (fun w1 hS => does_field ExJ_fld_48_2 rfl rfl) ?_
  intro a hA
  refine any_take hA 8 rfl rfl rfl rfl (by kernel_rfl) (by kernel_rfl) (by kernel_rfl) (fun c a w h => hP c a _ _ w h) (hS.partD (.cons _ (.cons_cons _ (.cons_cons _ .slnil))) 0 rfl (.refl _)) (fun w1 hS => does_load1 hS ExJ_is1_22 rfl 1 rfl rfl) ?_
  intro a hA
  refine any_take (v := .pointer (some ⟨g2, 2, none⟩)) hA 11 rfl rfl rfl rfl (by kernel_rfl) (by kernel_rfl) (by kernel_rfl) (fun c a w h => hP c a _ _ w h) (hS.partD (.cons _ (.cons_cons _ (.cons_cons _ .slnil))) 0 rfl (.refl _)) (fun w1 hS => does_field ExJ_fld_48_1 rfl rfl) ?_
  intro a hA
  refine any_take (v := .agg #[.bool ((rb y1)), .slice a2 ((words y1.natAbs).length) ac2]) hA 12 rfl rfl rfl rfl (by kernel_rfl) (by kernel_rfl) (by kernel_rfl) (fun c a w h => hP c a _ _ w h) (hS.partD (.cons _ (.cons_cons _ (.cons_cons _ .slnil))) 0 rfl (.refl _)) (fun w1 hS => does_loadS hS ExJ_isS_46 rfl 1 rfl (cs := [.bool ((rb y1)), .slice a2 ((words y1.natAbs).length) ac2]) rfl rfl) ?_
  intro a hA
  refine any_take (v := .pointer (some ⟨g4, 4, none⟩)) hA 13 rfl rfl rfl rfl (by kernel_rfl) (by kernel_rfl) (by kernel_rfl) (fun c a w h => hP c a _ _ w h) (hS.partD (.cons _ (.cons_cons _ (.cons_cons _ .slnil))) 0 rfl (.refl _)) (fun w1 hS => does_field ExJ_fld_48_2 rfl rfl) ?_
  intro a hA
  refine any_take hA 14 rfl rfl rfl rfl (by kernel_rfl) (by kernel_rfl) (by kernel_rfl) (fun c a w h => hP c a _ _ w h) (hS.partD (.cons _ (.cons_cons _ (.cons_cons _ .slnil))) 0 rfl (.refl _)) (fun w1 hS => does_load1 hS ExJ_is1_22 rfl 0 rfl rfl) ?_
  intro a hA
  refine any_take (v := .pointer (some ⟨g4, 2, none⟩)) hA 16 rfl rfl rfl rfl (by kernel_rfl) (by kernel_rfl) (by kernel_rfl) (fun c a w h => hP c a _ _ w h) (hS.partD (.cons _ (.cons_cons _ (.cons_cons _ .slnil))) 0 rfl (.refl _)) (fun w1 hS => does_field ExJ_fld_48_1 rfl rfl) ?_
  intro a hA
  refine any_take (v := .agg #[.bool ((rb y2)), .slice u2 ((words y2.natAbs).length) uc2]) hA 17 rfl rfl rfl rfl (by kernel_rfl) (by kernel_rfl) (by kernel_rfl) (fun c a w h => hP c a _ _ w h) (hS.partD (.cons _ (.cons_cons _ (.cons_cons _ .slnil))) 0 rfl (.refl _)) (fun w1 hS => does_loadS hS ExJ_isS_46 rfl 0 rfl (cs := [.bool ((rb y2)), .slice u2 ((words y2.natAbs).length) uc2]) rfl rfl) ?_
  intro a hA
  refine any_take (v := .pointer (some ⟨g2, 4, none⟩)) hA 18 rfl rfl rfl rfl (by kernel_rfl) (by kernel_rfl) (by kernel_rfl) (fun c a w h => hP c a _ _ w h) (hS.partD (.cons _ (.cons_cons _ (.cons_cons _ .slnil))) 0 rfl (.refl _)) (fun w1 hS => does_field ExJ_fld_48_2 rfl rfl) ?_
  intro a hA
  refine any_take hA 19 rfl rfl rfl rfl (by kernel_rfl) (by kernel_rfl) (by kernel_rfl) (fun c a w h => hP c a _ _ w h) (hS.partD (.cons _ (.cons_cons _ (.cons_cons _ .slnil))) 0 rfl (.refl _)) (fun w1 hS => does_load1 hS ExJ_is1_22 rfl 1 rfl rfl) ?_
  intro a hA
  refine any_take (v := .pointer (some ⟨g2, 4, none⟩)) hA 22 rfl rfl rfl rfl (by kernel_rfl) (by kernel_rfl) (by kernel_rfl) (fun c a w h => hP c a _ _ w h) (hS.partD (.cons _ (.cons_cons _ (.cons_cons _ .slnil))) 0 rfl (.refl _)) (fun w1 hS => does_field ExJ_fld_48_2 rfl rfl) ?_
  intro a hA
  refine any_take hA 23 rfl rfl rfl rfl (by kernel_rfl) (by kernel_rfl) (by kernel_rfl) (fun c a w h => hP c a _ _ w h) (hS.partD (.cons _ (.cons_cons _ (.cons_cons _ .slnil))) 0 rfl (.refl _)) (fun w1 hS => does_load1 hS ExJ_is1_22 rfl 1 rfl rfl) ?_
  intro a hA
  refine any_take (v := .pointer (some ⟨g4, 4, none⟩)) hA 24 rfl rfl rfl rfl (by kernel_rfl) (by kernel_rfl) (by kernel_rfl) (fun c a w h => hP c a _ _ w h) (hS.partD (.cons _ (.cons_cons _ (.cons_cons _ .slnil))) 0 rfl (.refl _)) (fun w1 hS => does_field ExJ_fld_48_2 rfl rfl) ?_
  intro a hA
  refine any_take hA 25 rfl rfl rfl rfl (by kernel_rfl) (by kernel_rfl) (by kernel_rfl) (fun c a w h => hP c a _ _ w h) (hS.partD (.cons _ (.cons_cons _ (.cons_cons _ .slnil))) 0 rfl (.refl _)) (fun w1 hS => does_load1 hS ExJ_is1_22 rfl 0 rfl rfl) ?_
  intro a hA
  refine any_one (by kernel_rfl) (op_call hA 4 rfl rfl rfl rfl (enters_func  rfl rfl (fun w => by kernel_rfl)) (zscaled_any ⟨(hS.rd 5 rfl), ha1.nil, ha1.cap⟩ ⟨(hS.rd 0 rfl), hu3.nil, hu3.cap⟩ (by omega) (by omega)) ?_)
  rintro _ w13 ⟨zo9, zc10, rfl, hs11, hb12⟩
  replace hS := hS.call hb12
  replace hS := hS.addR hs11.rd
  refine ⟨_, rfl, (hS.partD (.cons _ (.cons_cons _ (.cons_cons _ .slnil))) 1 rfl (.refl _)), ?_⟩
  intro a hA
  refine any_one (by kernel_rfl) (op_call hA 9 rfl rfl rfl rfl (enters_func  rfl rfl (fun w => by kernel_rfl)) (zscaled_any ⟨(hS.rd 3 rfl), hu1.nil, hu1.cap⟩ ⟨(hS.rd 4 rfl), ha3.nil, ha3.cap⟩ (by omega) (by omega)) ?_)
  rintro _ w18 ⟨zo14, zc15, rfl, hs16, hb17⟩
  replace hS := hS.call hb17
  replace hS := hS.addR hs16.rd
  refine ⟨_, rfl, (hS.partD (.cons _ (.cons_cons _ (.cons_cons _ .slnil))) 2 rfl (.refl _)), ?_⟩
  intro a hA
  refine any_one (by kernel_rfl) (op_call hA 10 rfl rfl rfl rfl (enters_func  rfl rfl (fun w => by kernel_rfl)) (zplus_any ⟨(hS.rd 1 rfl), hs11.nil, hs11.cap⟩ ⟨(hS.rd 0 rfl), hs16.nil, hs16.cap⟩ (by omega) (by omega)) ?_)
  rintro _ w23 ⟨zo19, zc20, rfl, hs21, hb22⟩
  replace hS := hS.call hb22
  replace hS := hS.addR hs21.rd
  refine ⟨_, rfl, (hS.partD (.cons _ (.cons_cons _ (.cons_cons _ .slnil))) 3 rfl (.refl _)), ?_⟩
  intro a hA
  refine any_one (by kernel_rfl) (op_call hA 15 rfl rfl rfl rfl (enters_func  rfl rfl (fun w => by kernel_rfl)) (zscaled_any ⟨(hS.rd 7 rfl), ha2.nil, ha2.cap⟩ ⟨(hS.rd 3 rfl), hu3.nil, hu3.cap⟩ (by omega) (by omega)) ?_)
  rintro _ w28 ⟨zo24, zc25, rfl, hs26, hb27⟩
  replace hS := hS.call hb27
  replace hS := hS.addR hs26.rd
  refine ⟨_, rfl, (hS.partD (.cons _ (.cons_cons _ (.cons_cons _ .slnil))) 4 rfl (.refl _)), ?_⟩
  intro a hA
  refine any_one (by kernel_rfl) (op_call hA 20 rfl rfl rfl rfl (enters_func  rfl rfl (fun w => by kernel_rfl)) (zscaled_any ⟨(hS.rd 5 rfl), hu2.nil, hu2.cap⟩ ⟨(hS.rd 7 rfl), ha3.nil, ha3.cap⟩ (by omega) (by omega)) ?_)
  rintro _ w33 ⟨zo29, zc30, rfl, hs31, hb32⟩
  replace hS := hS.call hb32
  replace hS := hS.addR hs31.rd
  refine ⟨_, rfl, (hS.partD (.cons _ (.cons_cons _ (.cons_cons _ .slnil))) 5 rfl (.refl _)), ?_⟩
  intro a hA
  refine any_one (by kernel_rfl) (op_call hA 21 rfl rfl rfl rfl (enters_func  rfl rfl (fun w => by kernel_rfl)) (zplus_any ⟨(hS.rd 1 rfl), hs26.nil, hs26.cap⟩ ⟨(hS.rd 0 rfl), hs31.nil, hs31.cap⟩ (by omega) (by omega)) ?_)
  rintro _ w38 ⟨zo34, zc35, rfl, hs36, hb37⟩
  replace hS := hS.call hb37
  replace hS := hS.addR hs36.rd
  refine ⟨_, rfl, (hS.partD (.cons _ (.cons_cons _ (.cons_cons _ .slnil))) 6 rfl (.refl _)), ?_⟩
  intro a hA
  refine any_one (by kernel_rfl) (op_call hA 26 rfl rfl rfl rfl (enters_func  rfl rfl (fun w => by kernel_rfl)) (product_any _ _ (hS.rd 9 rfl) (hS.rd 6 rfl) (by omega) (by omega)) ?_)
  rintro _ w43 ⟨ro39, rc40, rfl, ho41, hb42⟩
  replace hS := hS.call hb42
  replace hS := hS.addR ho41.rd
  refine ⟨_, rfl, (hS.partD (.cons _ (.cons_cons _ (.cons_cons _ .slnil))) 7 rfl (.refl _)), ?_⟩
  intro a hA
  refine any_take (v := .agg #[.bool ((rb (x1 * ((d2 : Nat) : Int) + (x2 * ((d1 : Nat) : Int))))), .slice zo19 ((words (x1 * ((d2 : Nat) : Int) + (x2 * ((d1 : Nat) : Int))).natAbs).length) zc20, .bool ((rb (y1 * ((d2 : Nat) : Int) + (y2 * ((d1 : Nat) : Int))))), .slice zo34 ((words (y1 * ((d2 : Nat) : Int) + (y2 * ((d1 : Nat) : Int))).natAbs).length) zc35, .slice ro39 ((words (d1 * d2)).length) rc40]) hA 27 rfl rfl rfl rfl (by kernel_rfl) (by kernel_rfl) (by kernel_rfl) (fun c a w h => hP c a _ _ w h) (hS.partD (.cons _ (.cons_cons _ (.cons_cons _ .slnil))) 7 rfl (.refl _)) (fun w1 hS => does_build rfl (fun w => by kernel_rfl)) ?_
  intro a hA
  refine any_one (by kernel_rfl) (op_store (us := [.bool ((rb (x1 * ((d2 : Nat) : Int) + (x2 * ((d1 : Nat) : Int))))), .slice zo19 ((words (x1 * ((d2 : Nat) : Int) + (x2 * ((d1 : Nat) : Int))).natAbs).length) zc20, .bool ((rb (y1 * ((d2 : Nat) : Int) + (y2 * ((d1 : Nat) : Int))))), .slice zo34 ((words (y1 * ((d2 : Nat) : Int) + (y2 * ((d1 : Nat) : Int))).natAbs).length) zc35, .slice ro39 ((words (d1 * d2)).length) rc40]) hA hS 28 rfl rfl rfl (sets_store (cs := [.bool ((rb (x1 * ((d2 : Nat) : Int) + (x2 * ((d1 : Nat) : Int))))), .slice zo19 ((words (x1 * ((d2 : Nat) : Int) + (x2 * ((d1 : Nat) : Int))).natAbs).length) zc20, .bool ((rb (y1 * ((d2 : Nat) : Int) + (y2 * ((d1 : Nat) : Int))))), .slice zo34 ((words (y1 * ((d2 : Nat) : Int) + (y2 * ((d1 : Nat) : Int))).natAbs).length) zc35, .slice ro39 ((words (d1 * d2)).length) rc40]) rfl rfl rfl (by kernel_rfl) hS 0 rfl rfl rfl) 0 rfl rfl rfl rfl ?_)
  intro w44 hS
  refine ⟨(hS.partD (.cons _ (.cons_cons _ (.cons_cons _ .slnil))) 7 rfl (.refl _)), ?_⟩
  refine any_end (by kernel_rfl) ?_
  refine hK8 _ _ ?_
  refine wp_ret ?_
  refine hret _ _ ?_
  refine ends (v := .agg #[.bool ((rb (x1 * ((d2 : Nat) : Int) + (x2 * ((d1 : Nat) : Int))))), .slice zo19 ((words (x1 * ((d2 : Nat) : Int) + (x2 * ((d1 : Nat) : Int))).natAbs).length) zc20, .bool ((rb (y1 * ((d2 : Nat) : Int) + (y2 * ((d1 : Nat) : Int))))), .slice zo34 ((words (y1 * ((d2 : Nat) : Int) + (y2 * ((d1 : Nat) : Int))).natAbs).length) zc35, .slice ro39 ((words (d1 * d2)).length) rc40]) hA rfl (.cons (res_cell hS ExJ_isS_48 rfl 0 rfl (cs := [.bool ((rb (x1 * ((d2 : Nat) : Int) + (x2 * ((d1 : Nat) : Int))))), .slice zo19 ((words (x1 * ((d2 : Nat) : Int) + (x2 * ((d1 : Nat) : Int))).natAbs).length) zc20, .bool ((rb (y1 * ((d2 : Nat) : Int) + (y2 * ((d1 : Nat) : Int))))), .slice zo34 ((words (y1 * ((d2 : Nat) : Int) + (y2 * ((d1 : Nat) : Int))).natAbs).length) zc35, .slice ro39 ((words (d1 * d2)).length) rc40]) rfl rfl) .nil) rfl ?_
  exact ⟨zo19, zc20, zo34, zc35, ro39, rc40, rfl, ⟨(hS.rd 4 rfl), hs21.nil, hs21.cap⟩, ⟨(hS.rd 1 rfl), hs36.nil, hs36.cap⟩, ⟨(hS.rd 0 rfl), ho41.nocap, ho41.caps⟩, hS.bel⟩
theorem zdiff_any {w : World} {x1 y1 x2 y2 : Int} {d1 d2 : Nat} {a1 a2 a3 : Option Addr} {ac1 ac2 ac3 : Nat} (ha1 : Sc w a1 ac1 (words x1.natAbs)) (ha2 : Sc w a2 ac2 (words y1.natAbs)) (ha3 : Sc w a3 ac3 (words d1)) {u1 u2 u3 : Option Addr} {uc1 uc2 uc3 : Nat} (hu1 : Sc w u1 uc1 (words x2.natAbs)) (hu2 : Sc w u2 uc2 (words y2.natAbs)) (hu3 : Sc w u3 uc3 (words d2)) (la1 : (words x1.natAbs).length ≤ 10000) (la2 : (words y1.natAbs).length ≤ 10000) (la3 : (words d1).length ≤ 10000) (lu1 : (words x2.natAbs).length ≤ 10000) (lu2 : (words y2.natAbs).length ≤ 10000) (lu3 : (words d2).length ≤ 10000) : Calls Try.prog 39 #[.agg #[.bool (rb x1), .slice a1 (words x1.natAbs).length ac1, .bool (rb y1), .slice a2 (words y1.natAbs).length ac2, .slice a3 (words d1).length ac3], .agg #[.bool (rb x2), .slice u1 (words x2.natAbs).length uc1, .bool (rb y2), .slice u2 (words y2.natAbs).length uc2, .slice u3 (words d2).length uc3]] w (AnsR w (x1 * ((d2 : Nat) : Int) + -x2 * ((d1 : Nat) : Int)) (y1 * ((d2 : Nat) : Int) + -y2 * ((d1 : Nat) : Int)) (d1 * d2)) := by
  have hS : St w w [] [(u3, words d2), (u2, words y2.natAbs), (u1, words x2.natAbs), (a3, words d1), (a2, words y1.natAbs), (a1, words x1.natAbs)] [] := ((((((St.start w).addR ha1.rd).addR ha2.rd).addR ha3.rd).addR hu1.rd).addR hu2.rd).addR hu3.rd
  refine walk_of (l := [(0, .agg #[.bool ((rb x1)), .slice a1 ((words x1.natAbs).length) ac1, .bool ((rb y1)), .slice a2 ((words y1.natAbs).length) ac2, .slice a3 ((words d1).length) ac3]), (1, .agg #[.bool ((rb x2)), .slice u1 ((words x2.natAbs).length) uc1, .bool ((rb y2)), .slice u2 ((words y2.natAbs).length) uc2, .slice u3 ((words d2).length) uc3])]) Try.func39 rfl Try.ntmps39 rfl rfl ?_
  intro Q hret hnorm hP a hA
  refine wp_seq_k (fun K1 hK1 => ?_)
  refine wp_region_lit ?_
  refine seq_new (vs := [.bool ((rb x1)), .slice a1 ((words x1.natAbs).length) ac1, .bool ((rb y1)), .slice a2 ((words y1.natAbs).length) ac2, .slice a3 ((words d1).length) ac3]) (t := 48) hA hS rfl rfl rfl (fun g => .pointer (some ⟨g, 0, none⟩)) (does_box rfl rfl) rfl ?_
  intro g2 w3 hS a hA
  refine seq_new (vs := [.bool ((rb x2)), .slice u1 ((words x2.natAbs).length) uc1, .bool ((rb y2)), .slice u2 ((words y2.natAbs).length) uc2, .slice u3 ((words d2).length) uc3]) (t := 48) hA hS rfl rfl rfl (fun g => .pointer (some ⟨g, 0, none⟩)) (does_box rfl rfl) rfl ?_
  intro g4 w5 hS a hA
  refine seq_new (vs := [.bool false, .slice none 0 0, .bool false, .slice none 0 0, .slice none 0 0]) (t := 48) hA hS rfl rfl rfl (fun g => .pointer (some ⟨g, 0, none⟩)) (does_alloc (z := .agg #[.bool false, .slice none 0 0, .bool false, .slice none 0 0, .slice none 0 0]) (by kernel_rfl) rfl) rfl ?_
  intro g6 w7 hS a hA
  refine seq_end ?_
  refine hK1 _ _ ?_
  refine wp_seq_k (fun K8 hK8 => ?_)
  refine wp_draw (S := fun w1 => St w w1 [(g4, [.bool ((rb x2)), .slice u1 ((words x2.natAbs).length) uc1, .bool ((rb y2)), .slice u2 ((words y2.natAbs).length) uc2, .slice u3 ((words d2).length) uc3]), (g2, [.bool ((rb x1)), .slice a1 ((words x1.natAbs).length) ac1, .bool ((rb y1)), .slice a2 ((words y1.natAbs).length) ac2, .slice a3 ((words d1).length) ac3])] [(u3, words d2), (u2, words y2.natAbs), (u1, words x2.natAbs), (a3, words d1), (a2, words y1.natAbs), (a1, words x1.natAbs)] []) (by kernel_rfl) ?_
  replace hS := hS.drew
  refine any_take (v := .agg #[.bool ((rb x1)), .slice a1 ((words x1.natAbs).length) ac1, .bool ((rb y1)), .slice a2 ((words y1.natAbs).length) ac2, .slice a3 ((words d1).length) ac3]) hA 0 rfl rfl rfl rfl (by kernel_rfl) (by kernel_rfl) (by kernel_rfl) (fun c a w h => hP c a _ _ w h) (hS.partD (.cons _ (.cons_cons _ (.cons_cons _ .slnil))) 0 rfl (.refl _)) (fun w1 hS => does_loadS hS ExJ_isS_48 rfl 1 rfl (cs := [.bool ((rb x1)), .slice a1 ((words x1.natAbs).length) ac1, .bool ((rb y1)), .slice a2 ((words y1.natAbs).length) ac2, .slice a3 ((words d1).length) ac3]) rfl rfl) ?_
  intro a hA
  refine any_take (v := .pointer (some ⟨g4, 0, none⟩)) hA 1 rfl rfl rfl rfl (by kernel_rfl) (by kernel_rfl) (by kernel_rfl) (fun c a w h => hP c a _ _ w h) (hS.partD (.cons _ (.cons_cons _ (.cons_cons _ .slnil))) 0 rfl (.refl _)) (fun w1 hS => does_field ExJ_fld_48_0 rfl rfl) ?_
  intro a hA
  refine any_take (v := .agg #[.bool ((rb x2)), .slice u1 ((words x2.natAbs).length) uc1]) hA 2 rfl rfl rfl rfl (by kernel_rfl) (by kernel_rfl) (by kernel_rfl) (fun c a w h => hP c a _ _ w h) (hS.partD (.cons _ (.cons_cons _ (.cons_cons _ .slnil))) 0 rfl (.refl _)) (fun w1 hS => does_loadS hS ExJ_isS_46 rfl 0 rfl (cs := [.bool ((rb x2)), .slice u1 ((words x2.natAbs).length) uc1]) rfl rfl) ?_
  intro a hA
  refine any_take (v := .pointer (some ⟨g4, 2, none⟩)) hA 4 rfl rfl rfl rfl (by kernel_rfl) (by kernel_rfl) (by kernel_rfl) (fun c a w h => hP c a _ _ w h) (hS.partD (.cons _ (.cons_cons _ (.cons_cons _ .slnil))) 0 rfl (.refl _)) (fun w1 hS => does_field ExJ_fld_48_1 rfl rfl) ?_
  intro a hA
  refine any_take (v := .agg #[.bool ((rb y2)), .slice u2 ((words y2.natAbs).length) uc2]) hA 5 rfl rfl rfl rfl (by kernel_rfl) (by kernel_rfl) (by kernel_rfl) (fun c a w h => hP c a _ _ w h) (hS.partD (.cons _ (.cons_cons _ (.cons_cons _ .slnil))) 0 rfl (.refl _)) (fun w1 hS => does_loadS hS ExJ_isS_46 rfl 0 rfl (cs := [.bool ((rb y2)), .slice u2 ((words y2.natAbs).length) uc2]) rfl rfl) ?_
  intro a hA
  refine any_take (v := .pointer (some ⟨g4, 4, none⟩)) hA 7 rfl rfl rfl rfl (by kernel_rfl) (by kernel_rfl) (by kernel_rfl) (fun c a w h => hP c a _ _ w h) (hS.partD (.cons _ (.cons_cons _ (.cons_cons _ .slnil))) 0 rfl (.refl _)) (fun w1 hS => does_field ExJ_fld_48_2 rfl rfl) ?_
  intro a hA
  refine any_take hA 8 rfl rfl rfl rfl (by kernel_rfl) (by kernel_rfl) (by kernel_rfl) (fun c a w h => hP c a _ _ w h) (hS.partD (.cons _ (.cons_cons _ (.cons_cons _ .slnil))) 0 rfl (.refl _)) (fun w1 hS => does_load1 hS ExJ_is1_22 rfl 0 rfl rfl) ?_
  intro a hA
  refine any_one (by kernel_rfl) (op_call hA 3 rfl rfl rfl rfl (enters_func  rfl rfl (fun w => by kernel_rfl)) (zopp_any ⟨(hS.rd 2 rfl), hu1.nil, hu1.cap⟩) ?_)
  rintro _ w13 ⟨zo9, zc10, rfl, hs11, hb12⟩
  replace hS := hS.call hb12
  replace hS := hS.addR hs11.rd
  refine ⟨_, rfl, (hS.partD (.cons _ (.cons_cons _ (.cons_cons _ .slnil))) 1 rfl (.refl _)), ?_⟩
  intro a hA
  refine any_one (by kernel_rfl) (op_call hA 6 rfl rfl rfl rfl (enters_func  rfl rfl (fun w => by kernel_rfl)) (zopp_any ⟨(hS.rd 2 rfl), hu2.nil, hu2.cap⟩) ?_)
  rintro _ w18 ⟨zo14, zc15, rfl, hs16, hb17⟩
  replace hS := hS.call hb17
  replace hS := hS.addR hs16.rd
  refine ⟨_, rfl, (hS.partD (.cons _ (.cons_cons _ (.cons_cons _ .slnil))) 2 rfl (.refl _)), ?_⟩
  intro a hA
  refine any_take (v := .agg #[.bool ((rb (-x2))), .slice zo9 ((words (-x2).natAbs).length) zc10, .bool ((rb (-y2))), .slice zo14 ((words (-y2).natAbs).length) zc15, .slice u3 ((words d2).length) uc3]) hA 9 rfl rfl rfl rfl (by kernel_rfl) (by kernel_rfl) (by kernel_rfl) (fun c a w h => hP c a _ _ w h) (hS.partD (.cons _ (.cons_cons _ (.cons_cons _ .slnil))) 2 rfl (.refl _)) (fun w1 hS => does_build rfl (fun w => by kernel_rfl)) ?_
  intro a hA
  refine any_one (by kernel_rfl) (op_call hA 10 rfl rfl rfl rfl (enters_func  rfl rfl (fun w => by kernel_rfl)) (zsum_any ⟨(hS.rd 7 rfl), ha1.nil, ha1.cap⟩ ⟨(hS.rd 6 rfl), ha2.nil, ha2.cap⟩ ⟨(hS.rd 5 rfl), ha3.nil, ha3.cap⟩ ⟨(hS.rd 1 rfl), hs11.nil, hs11.cap⟩ ⟨(hS.rd 0 rfl), hs16.nil, hs16.cap⟩ ⟨(hS.rd 2 rfl), hu3.nil, hu3.cap⟩ (by omega) (by omega) (by omega) (by rw [Int.natAbs_neg]; omega) (by rw [Int.natAbs_neg]; omega) (by omega)) ?_)
  rintro _ w24 ⟨p19_1, p19_c1, p19_2, p19_c2, p19_3, p19_c3, rfl, hs20, hs21, hs22, hb23⟩
  replace hS := hS.call hb23
  replace hS := hS.addR hs20.rd
  replace hS := hS.addR hs21.rd
  replace hS := hS.addR hs22.rd
  refine ⟨_, rfl, (hS.partD (.cons _ (.cons_cons _ (.cons_cons _ .slnil))) 5 rfl (.refl _)), ?_⟩
  intro a hA
  refine any_one (by kernel_rfl) (op_store (us := [.bool ((rb (x1 * ((d2 : Nat) : Int) + -x2 * ((d1 : Nat) : Int)))), .slice p19_1 ((words (x1 * ((d2 : Nat) : Int) + -x2 * ((d1 : Nat) : Int)).natAbs).length) p19_c1, .bool ((rb (y1 * ((d2 : Nat) : Int) + -y2 * ((d1 : Nat) : Int)))), .slice p19_2 ((words (y1 * ((d2 : Nat) : Int) + -y2 * ((d1 : Nat) : Int)).natAbs).length) p19_c2, .slice p19_3 ((words (d1 * d2)).length) p19_c3]) hA hS 11 rfl rfl rfl (sets_store (cs := [.bool ((rb (x1 * ((d2 : Nat) : Int) + -x2 * ((d1 : Nat) : Int)))), .slice p19_1 ((words (x1 * ((d2 : Nat) : Int) + -x2 * ((d1 : Nat) : Int)).natAbs).length) p19_c1, .bool ((rb (y1 * ((d2 : Nat) : Int) + -y2 * ((d1 : Nat) : Int)))), .slice p19_2 ((words (y1 * ((d2 : Nat) : Int) + -y2 * ((d1 : Nat) : Int)).natAbs).length) p19_c2, .slice p19_3 ((words (d1 * d2)).length) p19_c3]) rfl rfl rfl (by kernel_rfl) hS 0 rfl rfl rfl) 0 rfl rfl rfl rfl ?_)
  intro w25 hS
  refine ⟨(hS.partD (.cons _ (.cons_cons _ (.cons_cons _ .slnil))) 5 rfl (.refl _)), ?_⟩
  refine any_end (by kernel_rfl) ?_
  refine hK8 _ _ ?_
  refine wp_ret ?_
  refine hret _ _ ?_
  refine ends (v := .agg #[.bool ((rb (x1 * ((d2 : Nat) : Int) + -x2 * ((d1 : Nat) : Int)))), .slice p19_1 ((words (x1 * ((d2 : Nat) : Int) + -x2 * ((d1 : Nat) : Int)).natAbs).length) p19_c1, .bool ((rb (y1 * ((d2 : Nat) : Int) + -y2 * ((d1 : Nat) : Int)))), .slice p19_2 ((words (y1 * ((d2 : Nat) : Int) + -y2 * ((d1 : Nat) : Int)).natAbs).length) p19_c2, .slice p19_3 ((words (d1 * d2)).length) p19_c3]) hA rfl (.cons (res_cell hS ExJ_isS_48 rfl 0 rfl (cs := [.bool ((rb (x1 * ((d2 : Nat) : Int) + -x2 * ((d1 : Nat) : Int)))), .slice p19_1 ((words (x1 * ((d2 : Nat) : Int) + -x2 * ((d1 : Nat) : Int)).natAbs).length) p19_c1, .bool ((rb (y1 * ((d2 : Nat) : Int) + -y2 * ((d1 : Nat) : Int)))), .slice p19_2 ((words (y1 * ((d2 : Nat) : Int) + -y2 * ((d1 : Nat) : Int)).natAbs).length) p19_c2, .slice p19_3 ((words (d1 * d2)).length) p19_c3]) rfl rfl) .nil) rfl ?_
  exact ⟨p19_1, p19_c1, p19_2, p19_c2, p19_3, p19_c3, rfl, ⟨(hS.rd 2 rfl), hs20.nil, hs20.cap⟩, ⟨(hS.rd 1 rfl), hs21.nil, hs21.cap⟩, ⟨(hS.rd 0 rfl), hs22.nil, hs22.cap⟩, hS.bel⟩
end Go.Proofs.Ytmibkfihcihphaa
namespace Go.Proofs.Ytmibkfihcihphaa
open Go.RowKit
set_option linter.unusedVariables false
set_option linter.unusedSimpArgs false

/-- A rational number that is not too long. -/
def fitR (u : Rat) : Prop := (words u.num.natAbs).length ≤ 512 ∧ (words u.den).length ≤ 512
instance (u : Rat) : Decidable (fitR u) := inferInstanceAs (Decidable (_ ∧ _))
/-- The number of two rational ones. -/
def Q6.rat (u v : Rat) : Q6 := ⟨rb u.num, words u.num.natAbs, words u.den, rb v.num, words v.num.natAbs, words v.den⟩
/-- .. unless it is too long. -/
def ratS (u v : Rat) : Q6 × Int := if fitR u ∧ fitR v then (Q6.rat u v, 0) else (Q6.zero, 4)
theorem rt_mk (x : Int) {d : Nat} (hd : d ≠ 0) : rt x d = (mkRat x d).num.natAbs := by
  rw [Rat.num_mkRat, if_neg hd, Nat.gcd_comm]
  unfold rt
  have hg : ((Nat.gcd x.natAbs d : Nat) : Int) ∣ x := Int.ofNat_dvd_left.2 (Nat.gcd_dvd_left _ _)
  rw [Int.natAbs_ediv_of_dvd hg, Int.natAbs_natCast]
theorem rq_mk (x : Int) {d : Nat} (hd : d ≠ 0) : rq x d = (mkRat x d).den := by
  rw [Rat.den_mkRat, if_neg hd, Nat.gcd_comm]
  rfl
theorem rb_mk (x : Int) {d : Nat} (hd : d ≠ 0) : rb x = rb (mkRat x d).num := by
  rw [Rat.num_mkRat, if_neg hd]
  unfold rb
  have hg : 0 < ((Nat.gcd d x.natAbs : Nat) : Int) := by
    have := gcd_ne (x := x.natAbs) hd
    rw [Nat.gcd_comm] at this
    omega
  have h2 : ((Nat.gcd d x.natAbs : Nat) : Int) ∣ x := Int.ofNat_dvd_left.2 (Nat.gcd_dvd_right _ _)
  obtain ⟨k, hk⟩ := h2
  generalize ((Nat.gcd d x.natAbs : Nat) : Int) = g at *
  rw [hk]
  rw [Int.mul_ediv_cancel_left _ (by omega)]
  by_cases h : k < 0
  · have := Int.mul_neg_of_pos_of_neg hg h
    rw [decide_eq_true h, decide_eq_true this]
  · have := Int.mul_nonneg (Int.le_of_lt hg) (by omega : 0 ≤ k)
    rw [decide_eq_false h, decide_eq_false (by omega)]
theorem setQ_rat (x y : Int) {d : Nat} (hd : d ≠ 0) : setQ x y d = ratS (mkRat x d) (mkRat y d) := by
  unfold setQ ratS fitR Q6.rat
  rw [rt_mk x hd, rt_mk y hd, rq_mk x hd, rq_mk y hd, ← rb_mk x hd, ← rb_mk y hd]
  by_cases h : (words (mkRat x d).num.natAbs).length ≤ 512 ∧ (words (mkRat x d).den).length ≤ 512 ∧ (words (mkRat y d).num.natAbs).length ≤ 512 ∧ (words (mkRat y d).den).length ≤ 512
  · rw [if_pos h, if_pos ⟨⟨h.1, h.2.1⟩, h.2.2⟩]
  · rw [if_neg h, if_neg (fun k => h ⟨k.1.1, k.1.2, k.2⟩)]
theorem fracS_rat {u : Rat} (h : fitR u) : fracS (rb u.num) (words u.num.natAbs) (words u.den) = true := by
  unfold fracS gcdS
  rw [sound_of_words h.1, sound_of_words h.2]
  have h1 : ¬ (words u.den).length = 0 := by have := (words_len_pos (x := u.den)).2 u.den_nz; omega
  have h2 : Nat.gcd u.num.natAbs u.den = 1 := u.reduced
  simp only [Bool.and_self, if_true, val_words, h2, words_one, decide_true, Bool.and_true, decide_eq_false h1, Bool.false_or]
  by_cases hz : u.num = 0
  · rw [hz, show rb 0 = false from rfl, Bool.and_false]; rfl
  · have h3 : ¬ (words u.num.natAbs).length = 0 := by have := (words_len_pos (x := u.num.natAbs)).2 (by omega); omega
    rw [decide_eq_false h3]
    rfl
theorem soundQ_rat {u v : Rat} (hu : fitR u) (hv : fitR v) : soundQ (Q6.rat u v) = true := by
  unfold soundQ soundN Q6.rat
  rw [fracS_rat hu, fracS_rat hv]
  rfl
theorem frac_form {b : Bool} {t q : List Nat} (ht : Dig t) (hq : Dig q) (h : fracS b t q = true) : ∃ u : Rat, fitR u ∧ b = rb u.num ∧ t = words u.num.natAbs ∧ q = words u.den := by
  unfold fracS gcdS at h
  by_cases hs : (sound t && sound q) = true
  · rw [if_pos hs] at h
    rw [Bool.and_eq_true] at hs
    obtain ⟨e1, l1⟩ := sound_words ht hs.1
    obtain ⟨e2, l2⟩ := sound_words hq hs.2
    simp only [Bool.and_eq_true, decide_eq_true_eq, Bool.not_eq_true', Bool.or_eq_false_iff, decide_eq_false_iff_not] at h
    obtain ⟨⟨h1, h2⟩, _, h3⟩ := h
    have hd : val q ≠ 0 := fun e => h1 (by rw [e2, e, words_zero]; rfl)
    have hg : Nat.gcd (val t) (val q) = 1 := by
      have := congrArg val h3
      rw [val_words] at this
      rw [this, ← words_one, val_words]
    refine ⟨⟨sgn b (val t), val q, hd, by rw [sgn_abs]; exact hg⟩, ⟨by simp only [sgn_abs]; rw [← e1]; exact l1, by rw [← e2]; exact l2⟩, ?_, by simp only [sgn_abs]; exact e1, e2⟩
    unfold rb
    simp only []
    rw [sgn_neg]
    cases b with
    | false => rfl
    | true =>
      have : 0 < val t := by
        apply Nat.pos_of_ne_zero
        intro e
        rw [e1, e, words_zero] at h2
        simp at h2
      rw [decide_eq_true this]
      rfl
  · rw [if_neg hs] at h
    simp at h
theorem sound_rat {q : Q6} (h1 : Dig q.t1) (h2 : Dig q.q1) (h3 : Dig q.t2) (h4 : Dig q.q2) (h : soundQ q = true) : ∃ u v, q = Q6.rat u v ∧ fitR u ∧ fitR v := by
  unfold soundQ soundN at h
  rw [Bool.and_eq_true] at h
  obtain ⟨u, hu, a1, a2, a3⟩ := frac_form h1 h2 h.1
  obtain ⟨v, hv, b1, b2, b3⟩ := frac_form h3 h4 h.2
  refine ⟨u, v, ?_, hu, hv⟩
  cases q
  simp only [Q6.rat] at *
  rw [a1, a2, a3, b1, b2, b3]
/-- Both parts over one bottom. -/
def spG (u v : Rat) : Nat := Nat.gcd u.den v.den
def spX (u v : Rat) : Int := u.num * ((v.den / spG u v : Nat) : Int)
def spY (u v : Rat) : Int := v.num * ((u.den / spG u v : Nat) : Int)
def spD (u v : Rat) : Nat := u.den * (v.den / spG u v)
theorem spG_pos (u v : Rat) : 0 < spG u v := Nat.gcd_pos_of_pos_left _ (Nat.pos_of_ne_zero u.den_nz)
theorem spD_eq (u v : Rat) : spD u v = v.den * (u.den / spG u v) := by
  unfold spD spG
  rw [← Nat.mul_div_assoc _ (Nat.gcd_dvd_right u.den v.den), ← Nat.mul_div_assoc _ (Nat.gcd_dvd_left u.den v.den), Nat.mul_comm]
theorem div_ne {n g : Nat} (hn : n ≠ 0) (hg : 0 < g) (h : g ∣ n) : n / g ≠ 0 := by
  have := Nat.div_pos (Nat.le_of_dvd (Nat.pos_of_ne_zero hn) h) hg
  omega
theorem spD_ne (u v : Rat) : spD u v ≠ 0 := Nat.mul_ne_zero u.den_nz (div_ne v.den_nz (spG_pos u v) (Nat.gcd_dvd_right _ _))
theorem spX_mk (u v : Rat) : mkRat (spX u v) (spD u v) = u := by
  unfold spX spD
  rw [Rat.mkRat_mul_right (div_ne v.den_nz (spG_pos u v) (Nat.gcd_dvd_right _ _)), Rat.mkRat_self]
theorem spY_mk (u v : Rat) : mkRat (spY u v) (spD u v) = v := by
  rw [spD_eq]
  unfold spY
  rw [Rat.mkRat_mul_right (div_ne u.den_nz (spG_pos u v) (Nat.gcd_dvd_left _ _)), Rat.mkRat_self]
theorem nat_abs_len {n k : Nat} (h : (words n).length ≤ k) : (words ((n : Int)).natAbs).length ≤ k := by rw [Int.natAbs_natCast]; exact h
theorem spX_len {u v : Rat} (hu : fitR u) (hv : fitR v) : (words (spX u v).natAbs).length ≤ 1024 := abs_mul_len (k := 512) (m := 512) hu.1 (nat_abs_len (div_len hv.2))
theorem spY_len {u v : Rat} (hu : fitR u) (hv : fitR v) : (words (spY u v).natAbs).length ≤ 1024 := abs_mul_len (k := 512) (m := 512) hv.1 (nat_abs_len (div_len hu.2))
theorem spD_len {u v : Rat} (hu : fitR u) (hv : fitR v) : (words (spD u v)).length ≤ 1024 := words_mul_length (k := 512) (m := 512) hu.2 (div_len hv.2)
/-- The two rational numbers of a number. -/
def reQ (q : Q6) : Rat := mkRat (sgn q.b1 (val q.t1)) (val q.q1)
def imQ (q : Q6) : Rat := mkRat (sgn q.b2 (val q.t2)) (val q.q2)
theorem reQ_rat (u v : Rat) : reQ (Q6.rat u v) = u := by
  unfold reQ Q6.rat
  simp only [val_words, sgn_rb]
  exact Rat.mkRat_self u
theorem imQ_rat (u v : Rat) : imQ (Q6.rat u v) = v := by
  unfold imQ Q6.rat
  simp only [val_words, sgn_rb]
  exact Rat.mkRat_self v
def addQ (p q : Q6) : Q6 × Int := if soundQ p = true ∧ soundQ q = true then ratS (reQ p + reQ q) (imQ p + imQ q) else (Q6.zero, 2)
def subQ (p q : Q6) : Q6 × Int := if soundQ p = true ∧ soundQ q = true then ratS (reQ p - reQ q) (imQ p - imQ q) else (Q6.zero, 2)
theorem addQ_rat {u v x y : Rat} (hu : fitR u) (hv : fitR v) (hx : fitR x) (hy : fitR y) : addQ (Q6.rat u v) (Q6.rat x y) = ratS (u + x) (v + y) := by
  unfold addQ
  rw [if_pos ⟨soundQ_rat hu hv, soundQ_rat hx hy⟩, reQ_rat, reQ_rat, imQ_rat, imQ_rat]
theorem subQ_rat {u v x y : Rat} (hu : fitR u) (hv : fitR v) (hx : fitR x) (hy : fitR y) : subQ (Q6.rat u v) (Q6.rat x y) = ratS (u - x) (v - y) := by
  unfold subQ
  rw [if_pos ⟨soundQ_rat hu hv, soundQ_rat hx hy⟩, reQ_rat, reQ_rat, imQ_rat, imQ_rat]
theorem lenQ_rat {u v : Rat} (hu : fitR u) (hv : fitR v) : LenQ (Q6.rat u v) := by
  have h1 := hu.1
  have h2 := hu.2
  have h3 := hv.1
  have h4 := hv.2
  exact ⟨by simp only [Q6.rat]; omega, by simp only [Q6.rat]; omega, by simp only [Q6.rat]; omega, by simp only [Q6.rat]; omega⟩
theorem lenQ_z : LenQ Q6.zero := ⟨by decide, by decide, by decide, by decide⟩
theorem lenQ_ratS (u v : Rat) : LenQ (ratS u v).1 := by
  unfold ratS
  by_cases h : fitR u ∧ fitR v
  · rw [if_pos h]; exact lenQ_rat h.1 h.2
  · rw [if_neg h]; exact lenQ_z
theorem lenQ_add (p q : Q6) : LenQ (addQ p q).1 := by unfold addQ; split; exact lenQ_ratS _ _; exact lenQ_z
theorem lenQ_sub (p q : Q6) : LenQ (subQ p q).1 := by unfold subQ; split; exact lenQ_ratS _ _; exact lenQ_z
theorem set_add {x1 y1 x2 y2 : Int} {d1 d2 : Nat} {u v x y : Rat} (h1 : d1 ≠ 0) (h2 : d2 ≠ 0) (hu : mkRat x1 d1 = u) (hv : mkRat y1 d1 = v) (hx : mkRat x2 d2 = x) (hy : mkRat y2 d2 = y) :
    setQ (x1 * ((d2 : Nat) : Int) + x2 * ((d1 : Nat) : Int)) (y1 * ((d2 : Nat) : Int) + y2 * ((d1 : Nat) : Int)) (d1 * d2) = ratS (u + x) (v + y) := by
  subst hu hv hx hy
  rw [setQ_rat _ _ (Nat.mul_ne_zero h1 h2), Rat.mkRat_add_mkRat _ _ h1 h2, Rat.mkRat_add_mkRat _ _ h1 h2]
theorem set_sub {x1 y1 x2 y2 : Int} {d1 d2 : Nat} {u v x y : Rat} (h1 : d1 ≠ 0) (h2 : d2 ≠ 0) (hu : mkRat x1 d1 = u) (hv : mkRat y1 d1 = v) (hx : mkRat x2 d2 = x) (hy : mkRat y2 d2 = y) :
    setQ (x1 * ((d2 : Nat) : Int) + -x2 * ((d1 : Nat) : Int)) (y1 * ((d2 : Nat) : Int) + -y2 * ((d1 : Nat) : Int)) (d1 * d2) = ratS (u - x) (v - y) := by
  subst hu hv hx hy
  rw [setQ_rat _ _ (Nat.mul_ne_zero h1 h2), Rat.sub_eq_add_neg, Rat.sub_eq_add_neg, Rat.neg_mkRat, Rat.neg_mkRat, Rat.mkRat_add_mkRat _ _ h1 h2, Rat.mkRat_add_mkRat _ _ h1 h2]
/-- A number is sound, with its two rational ones, or not. -/
theorem sound_cases {q : Q6} {w : World} {o1 o2 o3 o4 : Option Addr} {c1 c2 c3 c4 : Nat} (h : Nm w q o1 c1 o2 c2 o3 c3 o4 c4) : soundQ q = false ∨ ∃ u v, q = Q6.rat u v ∧ fitR u ∧ fitR v := by
  cases hs : soundQ q with
  | false => exact .inl rfl
  | true => exact .inr (sound_rat h.s1.rd.dig h.s2.rd.dig h.s3.rd.dig h.s4.rd.dig hs)
end Go.Proofs.Ytmibkfihcihphaa
namespace Go.Proofs.Ytmibkfihcihphaa
open Go.RowKit
set_option linter.unusedVariables false
set_option linter.unusedSimpArgs false
set_option maxRecDepth 100000
theorem ExK_is1_22 : Is1 Try.prog 22 := ⟨⟨_, Try.underlying22, rfl⟩, by kernel_rfl⟩
theorem ExK_is1_4 : Is1 Try.prog 4 := ⟨⟨_, Try.underlying4, rfl⟩, by kernel_rfl⟩
theorem ExK_fld_24_0 : FieldAt Try.prog 24 0 0 := ⟨_, _, Try.underlying24, rfl, rfl, by kernel_rfl⟩
theorem ExK_fld_24_1 : FieldAt Try.prog 24 1 1 := ⟨_, _, Try.underlying24, rfl, rfl, by kernel_rfl⟩
theorem ExK_fld_24_2 : FieldAt Try.prog 24 2 2 := ⟨_, _, Try.underlying24, rfl, rfl, by kernel_rfl⟩
theorem ExK_fld_26_0 : FieldAt Try.prog 26 0 0 := ⟨_, _, Try.underlying26, rfl, rfl, by kernel_rfl⟩
theorem ExK_fld_26_1 : FieldAt Try.prog 26 1 3 := ⟨_, _, Try.underlying26, rfl, rfl, by kernel_rfl⟩
theorem ExK_isS_48 : IsS Try.prog 48 5 := ⟨⟨_, Try.underlying48⟩, by kernel_rfl⟩
theorem zspread_any {w : World} {u v : Rat} {a1 a2 a3 a4 : Option Addr} {ac1 ac2 ac3 ac4 : Nat} (ha : Nm w (Q6.rat u v) a1 ac1 a2 ac2 a3 ac3 a4 ac4) (hu : fitR u) (hv : fitR v) : Calls Try.prog 25 #[numV (Q6.rat u v) a1 ac1 a2 ac2 a3 ac3 a4 ac4] w (AnsR w (spX u v) (spY u v) (spD u v)) := by
  have k1 : (words u.num.natAbs).length ≤ 512 := hu.1
  have k2 : (words u.den).length ≤ 512 := hu.2
  have k3 : (words v.num.natAbs).length ≤ 512 := hv.1
  have k4 : (words v.den).length ≤ 512 := hv.2
  have k5 : (words (v.den / spG u v)).length ≤ 512 := div_len hv.2
  have k6 : (words (u.den / spG u v)).length ≤ 512 := div_len hu.2
  have k7 : (words (spG u v)).length ≤ 512 := gcd_len v.den_nz hv.2
  have hS : St w w [] [(a4, words v.den), (a3, words v.num.natAbs), (a2, words u.den), (a1, words u.num.natAbs)] [] := ((((St.start w).addR ha.s1.rd).addR ha.s2.rd).addR ha.s3.rd).addR ha.s4.rd
  refine walk_of (l := [(0, .agg #[.bool (rb u.num), .slice a1 ((words u.num.natAbs).length) ac1, .slice a2 ((words u.den).length) ac2, .bool (rb v.num), .slice a3 ((words v.num.natAbs).length) ac3, .slice a4 ((words v.den).length) ac4])]) Try.func25 rfl Try.ntmps25 rfl rfl ?_
  intro Q hret hnorm hP a hA
  refine wp_seq_k (fun K1 hK1 => ?_)
  refine wp_region_lit ?_
  refine seq_new (vs := [.bool (rb u.num), .slice a1 ((words u.num.natAbs).length) ac1, .slice a2 ((words u.den).length) ac2, .bool (rb v.num), .slice a3 ((words v.num.natAbs).length) ac3, .slice a4 ((words v.den).length) ac4]) (t := 26) hA hS rfl rfl rfl (fun g => .pointer (some ⟨g, 0, none⟩)) (does_box rfl rfl) rfl ?_
  intro g2 w3 hS a hA
  refine seq_new (vs := [.bool false, .slice none 0 0, .bool false, .slice none 0 0, .slice none 0 0]) (t := 48) hA hS rfl rfl rfl (fun g => .pointer (some ⟨g, 0, none⟩)) (does_alloc (z := .agg #[.bool false, .slice none 0 0, .bool false, .slice none 0 0, .slice none 0 0]) (by kernel_rfl) rfl) rfl ?_
  intro g4 w5 hS a hA
  refine seq_end ?_
  refine hK1 _ _ ?_
  refine wp_seq_k (fun K6 hK6 => ?_)
  refine wp_region_lit ?_
  refine seq_do (v := .pointer (some ⟨g2, 0, none⟩)) hA rfl rfl rfl (does_field ExK_fld_26_0 rfl rfl) ?_
  intro a hA
  refine seq_do (v := .pointer (some ⟨g2, 2, none⟩)) hA rfl rfl rfl (does_field ExK_fld_24_2 rfl rfl) ?_
  intro a hA
  refine seq_do hA rfl rfl rfl (does_load1 hS ExK_is1_22 rfl 1 rfl rfl) ?_
  intro a hA
  refine seq_do (v := .pointer (some ⟨g2, 3, none⟩)) hA rfl rfl rfl (does_field ExK_fld_26_1 rfl rfl) ?_
  intro a hA
  refine seq_do (v := .pointer (some ⟨g2, 5, none⟩)) hA rfl rfl rfl (does_field ExK_fld_24_2 rfl rfl) ?_
  intro a hA
  refine seq_do hA rfl rfl rfl (does_load1 hS ExK_is1_22 rfl 1 rfl rfl) ?_
  intro a hA
  refine seq_call hA rfl rfl rfl (enters_func  rfl rfl (fun w => by kernel_rfl)) (divisor_any _ _ (hS.rd 2 rfl) (hS.rd 0 rfl) (by omega) (by omega) ha.s2.nil ha.s4.nil) ?_
  rintro _ w11 ⟨ro7, rc8, rfl, ho9, hb10⟩
  replace hS := hS.call hb10
  replace hS := hS.addR ho9.rd
  refine ⟨_, rfl, ?_⟩
  intro a hA
  refine seq_do hA rfl rfl rfl (does_assign rfl) ?_
  intro a hA
  refine seq_end ?_
  refine hK6 _ _ ?_
  refine wp_seq_k (fun K12 hK12 => ?_)
  refine wp_region_lit ?_
  refine seq_do (v := .pointer (some ⟨g2, 3, none⟩)) hA rfl rfl rfl (does_field ExK_fld_26_1 rfl rfl) ?_
  intro a hA
  refine seq_do (v := .pointer (some ⟨g2, 5, none⟩)) hA rfl rfl rfl (does_field ExK_fld_24_2 rfl rfl) ?_
  intro a hA
  refine seq_do hA rfl rfl rfl (does_load1 hS ExK_is1_22 rfl 1 rfl rfl) ?_
  intro a hA
  refine seq_do hA rfl rfl rfl (does_move rfl) ?_
  intro a hA
  refine seq_call hA rfl rfl rfl (enters_func  rfl rfl (fun w => by kernel_rfl)) (divide_any _ _ (hS.rd 1 rfl) (hS.rd 0 rfl) (by omega) (Nat.le_trans (gcd_len v.den_nz hv.2) (by decide)) ha.s4.nil (Nat.ne_of_gt (spG_pos u v))) ?_
  rintro _ w20 ⟨ro13, rc14, uo15, uc16, rfl, ho17, hp18, hb19⟩
  replace hS := hS.call hb19
  replace hS := hS.addR ho17.rd
  replace hS := hS.addR hp18.rd
  refine ⟨_, rfl, ?_⟩
  intro a hA
  refine seq_do hA rfl rfl rfl (does_move rfl) ?_
  intro a hA
  refine seq_do (v := .slice ro13 ((words (v.den / spG u v)).length) rc14) hA rfl rfl rfl (does_extract (vs := [.slice ro13 ((words (v.den / spG u v)).length) rc14, .slice uo15 ((words (v.den % spG u v)).length) uc16]) rfl rfl) ?_
  intro a hA
  refine seq_do (v := .slice uo15 ((words (v.den % spG u v)).length) uc16) hA rfl rfl rfl (does_extract (vs := [.slice ro13 ((words (v.den / spG u v)).length) rc14, .slice uo15 ((words (v.den % spG u v)).length) uc16]) rfl rfl) ?_
  intro a hA
  refine seq_do hA rfl rfl rfl (does_assign rfl) ?_
  intro a hA
  refine seq_do hA rfl rfl rfl (does_assign rfl) ?_
  intro a hA
  refine seq_end ?_
  refine hK12 _ _ ?_
  refine wp_seq_k (fun K21 hK21 => ?_)
  refine wp_region_lit ?_
  refine seq_do (v := .pointer (some ⟨g2, 0, none⟩)) hA rfl rfl rfl (does_field ExK_fld_26_0 rfl rfl) ?_
  intro a hA
  refine seq_do (v := .pointer (some ⟨g2, 2, none⟩)) hA rfl rfl rfl (does_field ExK_fld_24_2 rfl rfl) ?_
  intro a hA
  refine seq_do hA rfl rfl rfl (does_load1 hS ExK_is1_22 rfl 1 rfl rfl) ?_
  intro a hA
  refine seq_do hA rfl rfl rfl (does_move rfl) ?_
  intro a hA
  refine seq_call hA rfl rfl rfl (enters_func  rfl rfl (fun w => by kernel_rfl)) (divide_any _ _ (hS.rd 5 rfl) (hS.rd 2 rfl) (by omega) (Nat.le_trans (gcd_len v.den_nz hv.2) (by decide)) ha.s2.nil (Nat.ne_of_gt (spG_pos u v))) ?_
  rintro _ w29 ⟨ro22, rc23, uo24, uc25, rfl, ho26, hp27, hb28⟩
  replace hS := hS.call hb28
  replace hS := hS.addR ho26.rd
  replace hS := hS.addR hp27.rd
  refine ⟨_, rfl, ?_⟩
  intro a hA
  refine seq_do hA rfl rfl rfl (does_move rfl) ?_
  intro a hA
  refine seq_do (v := .slice ro22 ((words (u.den / spG u v)).length) rc23) hA rfl rfl rfl (does_extract (vs := [.slice ro22 ((words (u.den / spG u v)).length) rc23, .slice uo24 ((words (u.den % spG u v)).length) uc25]) rfl rfl) ?_
  intro a hA
  refine seq_do (v := .slice uo24 ((words (u.den % spG u v)).length) uc25) hA rfl rfl rfl (does_extract (vs := [.slice ro22 ((words (u.den / spG u v)).length) rc23, .slice uo24 ((words (u.den % spG u v)).length) uc25]) rfl rfl) ?_
  intro a hA
  refine seq_do hA rfl rfl rfl (does_assign rfl) ?_
  intro a hA
  refine seq_do hA rfl rfl rfl (does_assign rfl) ?_
  intro a hA
  refine seq_end ?_
  refine hK21 _ _ ?_
  refine wp_seq_k (fun K30 hK30 => ?_)
  refine wp_draw (S := fun w1 => St w w1 [(g2, [.bool (rb u.num), .slice a1 ((words u.num.natAbs).length) ac1, .slice a2 ((words u.den).length) ac2, .bool (rb v.num), .slice a3 ((words v.num.natAbs).length) ac3, .slice a4 ((words v.den).length) ac4])] [(uo24, words (u.den % spG u v)), (ro22, words (u.den / spG u v)), (uo15, words (v.den % spG u v)), (ro13, words (v.den / spG u v)), (ro7, words (spG u v)), (a4, words v.den), (a3, words v.num.natAbs), (a2, words u.den), (a1, words u.num.natAbs)] []) (by kernel_rfl) ?_
  replace hS := hS.drew
  refine any_take (v := .pointer (some ⟨g2, 0, none⟩)) hA 0 rfl rfl rfl rfl (by kernel_rfl) (by kernel_rfl) (by kernel_rfl) (fun c a w h => hP c a _ _ w h) (hS.partD (.cons _ (.cons_cons _ .slnil)) 0 rfl (.refl _)) (fun w1 hS => does_field ExK_fld_26_0 rfl rfl) ?_
  intro a hA
  refine any_take (v := .pointer (some ⟨g2, 0, none⟩)) hA 1 rfl rfl rfl rfl (by kernel_rfl) (by kernel_rfl) (by kernel_rfl) (fun c a w h => hP c a _ _ w h) (hS.partD (.cons _ (.cons_cons _ .slnil)) 0 rfl (.refl _)) (fun w1 hS => does_field ExK_fld_24_0 rfl rfl) ?_
  intro a hA
  refine any_take hA 2 rfl rfl rfl rfl (by kernel_rfl) (by kernel_rfl) (by kernel_rfl) (fun c a w h => hP c a _ _ w h) (hS.partD (.cons _ (.cons_cons _ .slnil)) 0 rfl (.refl _)) (fun w1 hS => does_load1 hS ExK_is1_4 rfl 0 rfl rfl) ?_
  intro a hA
  refine any_take (v := .pointer (some ⟨g2, 0, none⟩)) hA 3 rfl rfl rfl rfl (by kernel_rfl) (by kernel_rfl) (by kernel_rfl) (fun c a w h => hP c a _ _ w h) (hS.partD (.cons _ (.cons_cons _ .slnil)) 0 rfl (.refl _)) (fun w1 hS => does_field ExK_fld_26_0 rfl rfl) ?_
  intro a hA
  refine any_take (v := .pointer (some ⟨g2, 1, none⟩)) hA 4 rfl rfl rfl rfl (by kernel_rfl) (by kernel_rfl) (by kernel_rfl) (fun c a w h => hP c a _ _ w h) (hS.partD (.cons _ (.cons_cons _ .slnil)) 0 rfl (.refl _)) (fun w1 hS => does_field ExK_fld_24_1 rfl rfl) ?_
  intro a hA
  refine any_take hA 5 rfl rfl rfl rfl (by kernel_rfl) (by kernel_rfl) (by kernel_rfl) (fun c a w h => hP c a _ _ w h) (hS.partD (.cons _ (.cons_cons _ .slnil)) 0 rfl (.refl _)) (fun w1 hS => does_load1 hS ExK_is1_22 rfl 0 rfl rfl) ?_
  intro a hA
  refine any_take hA 7 rfl rfl rfl rfl (by kernel_rfl) (by kernel_rfl) (by kernel_rfl) (fun c a w h => hP c a _ _ w h) (hS.partD (.cons _ (.cons_cons _ .slnil)) 0 rfl (.refl _)) (fun w1 hS => does_move rfl) ?_
  intro a hA
  refine any_take (v := .pointer (some ⟨g2, 3, none⟩)) hA 9 rfl rfl rfl rfl (by kernel_rfl) (by kernel_rfl) (by kernel_rfl) (fun c a w h => hP c a _ _ w h) (hS.partD (.cons _ (.cons_cons _ .slnil)) 0 rfl (.refl _)) (fun w1 hS => does_field ExK_fld_26_1 rfl rfl) ?_
  intro a hA
  refine any_take (v := .pointer (some ⟨g2, 3, none⟩)) hA 10 rfl rfl rfl rfl (by kernel_rfl) (by kernel_rfl) (by kernel_rfl) (fun c a w h => hP c a _ _ w h) (hS.partD (.cons _ (.cons_cons _ .slnil)) 0 rfl (.refl _)) (fun w1 hS => does_field ExK_fld_24_0 rfl rfl) ?_
  intro a hA
  refine any_take hA 11 rfl rfl rfl rfl (by kernel_rfl) (by kernel_rfl) (by kernel_rfl) (fun c a w h => hP c a _ _ w h) (hS.partD (.cons _ (.cons_cons _ .slnil)) 0 rfl (.refl _)) (fun w1 hS => does_load1 hS ExK_is1_4 rfl 0 rfl rfl) ?_
  intro a hA
  refine any_take (v := .pointer (some ⟨g2, 3, none⟩)) hA 12 rfl rfl rfl rfl (by kernel_rfl) (by kernel_rfl) (by kernel_rfl) (fun c a w h => hP c a _ _ w h) (hS.partD (.cons _ (.cons_cons _ .slnil)) 0 rfl (.refl _)) (fun w1 hS => does_field ExK_fld_26_1 rfl rfl) ?_
  intro a hA
  refine any_take (v := .pointer (some ⟨g2, 4, none⟩)) hA 13 rfl rfl rfl rfl (by kernel_rfl) (by kernel_rfl) (by kernel_rfl) (fun c a w h => hP c a _ _ w h) (hS.partD (.cons _ (.cons_cons _ .slnil)) 0 rfl (.refl _)) (fun w1 hS => does_field ExK_fld_24_1 rfl rfl) ?_
  intro a hA
  refine any_take hA 14 rfl rfl rfl rfl (by kernel_rfl) (by kernel_rfl) (by kernel_rfl) (fun c a w h => hP c a _ _ w h) (hS.partD (.cons _ (.cons_cons _ .slnil)) 0 rfl (.refl _)) (fun w1 hS => does_load1 hS ExK_is1_22 rfl 0 rfl rfl) ?_
  intro a hA
  refine any_take hA 16 rfl rfl rfl rfl (by kernel_rfl) (by kernel_rfl) (by kernel_rfl) (fun c a w h => hP c a _ _ w h) (hS.partD (.cons _ (.cons_cons _ .slnil)) 0 rfl (.refl _)) (fun w1 hS => does_move rfl) ?_
  intro a hA
  refine any_take (v := .pointer (some ⟨g2, 0, none⟩)) hA 18 rfl rfl rfl rfl (by kernel_rfl) (by kernel_rfl) (by kernel_rfl) (fun c a w h => hP c a _ _ w h) (hS.partD (.cons _ (.cons_cons _ .slnil)) 0 rfl (.refl _)) (fun w1 hS => does_field ExK_fld_26_0 rfl rfl) ?_
  intro a hA
  refine any_take (v := .pointer (some ⟨g2, 2, none⟩)) hA 19 rfl rfl rfl rfl (by kernel_rfl) (by kernel_rfl) (by kernel_rfl) (fun c a w h => hP c a _ _ w h) (hS.partD (.cons _ (.cons_cons _ .slnil)) 0 rfl (.refl _)) (fun w1 hS => does_field ExK_fld_24_2 rfl rfl) ?_
  intro a hA
  refine any_take hA 20 rfl rfl rfl rfl (by kernel_rfl) (by kernel_rfl) (by kernel_rfl) (fun c a w h => hP c a _ _ w h) (hS.partD (.cons _ (.cons_cons _ .slnil)) 0 rfl (.refl _)) (fun w1 hS => does_load1 hS ExK_is1_22 rfl 0 rfl rfl) ?_
  intro a hA
  refine any_take hA 21 rfl rfl rfl rfl (by kernel_rfl) (by kernel_rfl) (by kernel_rfl) (fun c a w h => hP c a _ _ w h) (hS.partD (.cons _ (.cons_cons _ .slnil)) 0 rfl (.refl _)) (fun w1 hS => does_move rfl) ?_
  intro a hA
  refine any_one (by kernel_rfl) (op_call hA 6 rfl rfl rfl rfl (enters_func  rfl rfl (fun w => by kernel_rfl)) (zsigned_any (b := rb u.num) (n := u.num.natAbs) (z := u.num) ⟨(hS.rd 8 rfl), ha.s1.nil, ha.s1.cap⟩ (sgn_rb u.num)) ?_)
  rintro _ w35 ⟨zo31, zc32, rfl, hs33, hb34⟩
  replace hS := hS.call hb34
  replace hS := hS.addR hs33.rd
  refine ⟨_, rfl, (hS.partD (.cons _ (.cons_cons _ .slnil)) 1 rfl (.refl _)), ?_⟩
  intro a hA
  refine any_one (by kernel_rfl) (op_call hA 8 rfl rfl rfl rfl (enters_func  rfl rfl (fun w => by kernel_rfl)) (zscaled_any ⟨(hS.rd 0 rfl), hs33.nil, hs33.cap⟩ ⟨(hS.rd 4 rfl), ho17.nocap, ho17.caps⟩ (by omega) (by omega)) ?_)
  rintro _ w40 ⟨zo36, zc37, rfl, hs38, hb39⟩
  replace hS := hS.call hb39
  replace hS := hS.addR hs38.rd
  refine ⟨_, rfl, (hS.partD (.cons _ (.cons_cons _ .slnil)) 2 rfl (.refl _)), ?_⟩
  intro a hA
  refine any_one (by kernel_rfl) (op_call hA 15 rfl rfl rfl rfl (enters_func  rfl rfl (fun w => by kernel_rfl)) (zsigned_any (b := rb v.num) (n := v.num.natAbs) (z := v.num) ⟨(hS.rd 8 rfl), ha.s3.nil, ha.s3.cap⟩ (sgn_rb v.num)) ?_)
  rintro _ w45 ⟨zo41, zc42, rfl, hs43, hb44⟩
  replace hS := hS.call hb44
  replace hS := hS.addR hs43.rd
  refine ⟨_, rfl, (hS.partD (.cons _ (.cons_cons _ .slnil)) 3 rfl (.refl _)), ?_⟩
  intro a hA
  refine any_one (by kernel_rfl) (op_call hA 17 rfl rfl rfl rfl (enters_func  rfl rfl (fun w => by kernel_rfl)) (zscaled_any ⟨(hS.rd 0 rfl), hs43.nil, hs43.cap⟩ ⟨(hS.rd 4 rfl), ho26.nocap, ho26.caps⟩ (by omega) (by omega)) ?_)
  rintro _ w50 ⟨zo46, zc47, rfl, hs48, hb49⟩
  replace hS := hS.call hb49
  replace hS := hS.addR hs48.rd
  refine ⟨_, rfl, (hS.partD (.cons _ (.cons_cons _ .slnil)) 4 rfl (.refl _)), ?_⟩
  intro a hA
  refine any_one (by kernel_rfl) (op_call hA 22 rfl rfl rfl rfl (enters_func  rfl rfl (fun w => by kernel_rfl)) (product_any _ _ (hS.rd 11 rfl) (hS.rd 7 rfl) (by omega) (by omega)) ?_)
  rintro _ w55 ⟨ro51, rc52, rfl, ho53, hb54⟩
  replace hS := hS.call hb54
  replace hS := hS.addR ho53.rd
  refine ⟨_, rfl, (hS.partD (.cons _ (.cons_cons _ .slnil)) 5 rfl (.refl _)), ?_⟩
  intro a hA
  refine any_take (v := .agg #[.bool ((rb (u.num * ((v.den / spG u v : Nat) : Int)))), .slice zo36 ((words (u.num * ((v.den / spG u v : Nat) : Int)).natAbs).length) zc37, .bool ((rb (v.num * ((u.den / spG u v : Nat) : Int)))), .slice zo46 ((words (v.num * ((u.den / spG u v : Nat) : Int)).natAbs).length) zc47, .slice ro51 ((words (u.den * (v.den / spG u v))).length) rc52]) hA 23 rfl rfl rfl rfl (by kernel_rfl) (by kernel_rfl) (by kernel_rfl) (fun c a w h => hP c a _ _ w h) (hS.partD (.cons _ (.cons_cons _ .slnil)) 5 rfl (.refl _)) (fun w1 hS => does_build rfl (fun w => by kernel_rfl)) ?_
  intro a hA
  refine any_one (by kernel_rfl) (op_store (us := [.bool ((rb (u.num * ((v.den / spG u v : Nat) : Int)))), .slice zo36 ((words (u.num * ((v.den / spG u v : Nat) : Int)).natAbs).length) zc37, .bool ((rb (v.num * ((u.den / spG u v : Nat) : Int)))), .slice zo46 ((words (v.num * ((u.den / spG u v : Nat) : Int)).natAbs).length) zc47, .slice ro51 ((words (u.den * (v.den / spG u v))).length) rc52]) hA hS 24 rfl rfl rfl (sets_store (cs := [.bool ((rb (u.num * ((v.den / spG u v : Nat) : Int)))), .slice zo36 ((words (u.num * ((v.den / spG u v : Nat) : Int)).natAbs).length) zc37, .bool ((rb (v.num * ((u.den / spG u v : Nat) : Int)))), .slice zo46 ((words (v.num * ((u.den / spG u v : Nat) : Int)).natAbs).length) zc47, .slice ro51 ((words (u.den * (v.den / spG u v))).length) rc52]) rfl rfl rfl (by kernel_rfl) hS 0 rfl rfl rfl) 0 rfl rfl rfl rfl ?_)
  intro w56 hS
  refine ⟨(hS.partD (.cons _ (.cons_cons _ .slnil)) 5 rfl (.refl _)), ?_⟩
  refine any_end (by kernel_rfl) ?_
  refine hK30 _ _ ?_
  refine wp_ret ?_
  refine hret _ _ ?_
  refine ends (v := .agg #[.bool ((rb (u.num * ((v.den / spG u v : Nat) : Int)))), .slice zo36 ((words (u.num * ((v.den / spG u v : Nat) : Int)).natAbs).length) zc37, .bool ((rb (v.num * ((u.den / spG u v : Nat) : Int)))), .slice zo46 ((words (v.num * ((u.den / spG u v : Nat) : Int)).natAbs).length) zc47, .slice ro51 ((words (u.den * (v.den / spG u v))).length) rc52]) hA rfl (.cons (res_cell hS ExK_isS_48 rfl 0 rfl (cs := [.bool ((rb (u.num * ((v.den / spG u v : Nat) : Int)))), .slice zo36 ((words (u.num * ((v.den / spG u v : Nat) : Int)).natAbs).length) zc37, .bool ((rb (v.num * ((u.den / spG u v : Nat) : Int)))), .slice zo46 ((words (v.num * ((u.den / spG u v : Nat) : Int)).natAbs).length) zc47, .slice ro51 ((words (u.den * (v.den / spG u v))).length) rc52]) rfl rfl) .nil) rfl ?_
  exact ⟨zo36, zc37, zo46, zc47, ro51, rc52, rfl, ⟨(hS.rd 3 rfl), hs38.nil, hs38.cap⟩, ⟨(hS.rd 1 rfl), hs48.nil, hs48.cap⟩, ⟨(hS.rd 0 rfl), ho53.nocap, ho53.caps⟩, hS.bel⟩
theorem zsettle_as {w : World} {x y : Int} {d : Nat} {a1 a2 a3 : Option Addr} {ac1 ac2 ac3 : Nat} (ha1 : Sc w a1 ac1 (words x.natAbs)) (ha2 : Sc w a2 ac2 (words y.natAbs)) (ha3 : Sc w a3 ac3 (words d)) {r : Q6 × Int} (h : setQ x y d = r) (l1 : (words x.natAbs).length ≤ 50000) (l2 : (words y.natAbs).length ≤ 50000) (l3 : (words d).length ≤ 50000) (hd : d ≠ 0) : Calls Try.prog 34 #[.agg #[.bool (rb x), .slice a1 (words x.natAbs).length ac1, .bool (rb y), .slice a2 (words y.natAbs).length ac2, .slice a3 (words d).length ac3]] w (AnsN w r) := h ▸ zsettle_any ha1 ha2 ha3 l1 l2 l3 hd
end Go.Proofs.Ytmibkfihcihphaa
namespace Go.Proofs.Ytmibkfihcihphaa
open Go.RowKit
set_option linter.unusedVariables false
set_option linter.unusedSimpArgs false
set_option maxRecDepth 100000
theorem ExL_isS_26 : IsS Try.prog 26 6 := ⟨⟨_, Try.underlying26⟩, by kernel_rfl⟩
theorem neg_len {x : Int} {k : Nat} (h : (words x.natAbs).length ≤ k) : (words (-x).natAbs).length ≤ k := by rw [Int.natAbs_neg]; exact h
theorem reckonE1_any {F : FuncId} {w : World} {p q : Q6} {a1 a2 a3 a4 : Option Addr} {ac1 ac2 ac3 ac4 : Nat} (ha : Nm w p a1 ac1 a2 ac2 a3 ac3 a4 ac4) (hl : LenQ p) {u1 u2 u3 u4 : Option Addr} {uc1 uc2 uc3 uc4 : Nat} (hb : Nm w q u1 uc1 u2 uc2 u3 uc3 u4 uc4) (hm : LenQ q) (h1 : soundQ p = false) : Calls Try.prog 30 #[.func (.func F) #[] #[], numV p a1 ac1 a2 ac2 a3 ac3 a4 ac4, numV q u1 uc1 u2 uc2 u3 uc3 u4 uc4] w (AnsN w (Q6.zero, 2)) := by
  have hS : St w w [] [(u4, q.q2), (u3, q.t2), (u2, q.q1), (u1, q.t1), (a4, p.q2), (a3, p.t2), (a2, p.q1), (a1, p.t1)] [] := ((((((((St.start w).addR ha.s1.rd).addR ha.s2.rd).addR ha.s3.rd).addR ha.s4.rd).addR hb.s1.rd).addR hb.s2.rd).addR hb.s3.rd).addR hb.s4.rd
  refine walk_of (l := [(0, .func (.func F) #[] #[]), (1, .agg #[.bool p.b1, .slice a1 p.t1.length ac1, .slice a2 p.q1.length ac2, .bool p.b2, .slice a3 p.t2.length ac3, .slice a4 p.q2.length ac4]), (2, .agg #[.bool q.b1, .slice u1 q.t1.length uc1, .slice u2 q.q1.length uc2, .bool q.b2, .slice u3 q.t2.length uc3, .slice u4 q.q2.length uc4])]) Try.func30 rfl Try.ntmps30 rfl rfl ?_
  intro Q hret hnorm hP a hA
  refine wp_seq_k (fun K1 hK1 => ?_)
  refine wp_region_lit ?_
  refine seq_new (vs := [.bool p.b1, .slice a1 p.t1.length ac1, .slice a2 p.q1.length ac2, .bool p.b2, .slice a3 p.t2.length ac3, .slice a4 p.q2.length ac4]) (t := 26) hA hS rfl rfl rfl (fun g => .pointer (some ⟨g, 0, none⟩)) (does_box rfl rfl) rfl ?_
  intro g2 w3 hS a hA
  refine seq_new (vs := [.bool q.b1, .slice u1 q.t1.length uc1, .slice u2 q.q1.length uc2, .bool q.b2, .slice u3 q.t2.length uc3, .slice u4 q.q2.length uc4]) (t := 26) hA hS rfl rfl rfl (fun g => .pointer (some ⟨g, 0, none⟩)) (does_box rfl rfl) rfl ?_
  intro g4 w5 hS a hA
  refine seq_new (vs := [.bool false, .slice none 0 0, .slice none 0 0, .bool false, .slice none 0 0, .slice none 0 0]) (t := 26) hA hS rfl rfl rfl (fun g => .pointer (some ⟨g, 0, none⟩)) (does_alloc (z := .agg #[.bool false, .slice none 0 0, .slice none 0 0, .bool false, .slice none 0 0, .slice none 0 0]) (by kernel_rfl) rfl) rfl ?_
  intro g6 w7 hS a hA
  refine seq_do hA rfl rfl rfl (does_assign rfl) ?_
  intro a hA
  refine seq_end ?_
  refine hK1 _ _ ?_
  refine wp_seq_k (fun K8 hK8 => ?_)
  refine wp_seq_k (fun K9 hK9 => ?_)
  refine wp_region_lit ?_
  refine seq_do (v := .agg #[.bool p.b1, .slice a1 p.t1.length ac1, .slice a2 p.q1.length ac2, .bool p.b2, .slice a3 p.t2.length ac3, .slice a4 p.q2.length ac4]) hA rfl rfl rfl (does_loadS hS ExL_isS_26 rfl 2 rfl (cs := [.bool p.b1, .slice a1 p.t1.length ac1, .slice a2 p.q1.length ac2, .bool p.b2, .slice a3 p.t2.length ac3, .slice a4 p.q2.length ac4]) rfl rfl) ?_
  intro a hA
  refine seq_call hA rfl rfl rfl (enters_func  rfl rfl (fun w => by kernel_rfl)) (soundQ_any (show Nm _ p a1 ac1 a2 ac2 a3 ac3 a4 ac4 from ⟨⟨(hS.rd 7 rfl), ha.s1.nil, ha.s1.cap⟩, ⟨(hS.rd 6 rfl), ha.s2.nil, ha.s2.cap⟩, ⟨(hS.rd 5 rfl), ha.s3.nil, ha.s3.cap⟩, ⟨(hS.rd 4 rfl), ha.s4.nil, ha.s4.cap⟩⟩) hl h1) ?_
  rintro _ w11 ⟨rfl, hb10⟩
  replace hS := hS.call hb10
  refine ⟨_, rfl, ?_⟩
  intro a hA
  refine seq_do (v := .bool true) hA rfl rfl rfl (does_un rfl un_not) ?_
  intro a hA
  refine seq_do hA rfl rfl rfl (does_move rfl) ?_
  intro a hA
  refine seq_skip hA rfl rfl rfl ?_
  intro a hA
  refine seq_skip hA rfl rfl rfl ?_
  intro a hA
  refine seq_skip hA rfl rfl rfl ?_
  intro a hA
  refine seq_do (v := .bool true) hA rfl rfl rfl (does_pick rfl rfl rfl rfl) ?_
  intro a hA
  refine seq_end ?_
  refine hK9 _ _ ?_
  refine wp_cond_true (hA.ev rfl) ?_
  refine wp_seq_k (fun K12 hK12 => ?_)
  refine wp_region_lit ?_
  refine seq_do (v := .agg #[.bool false, .slice none 0 0, .slice none 0 0, .bool false, .slice none 0 0, .slice none 0 0]) hA rfl rfl rfl (does_build rfl (fun w => by kernel_rfl)) ?_
  intro a hA
  refine seq_store (us := [.bool false, .slice none 0 0, .slice none 0 0, .bool false, .slice none 0 0, .slice none 0 0]) hA hS rfl rfl (sets_store (cs := [.bool false, .slice none 0 0, .slice none 0 0, .bool false, .slice none 0 0, .slice none 0 0]) rfl rfl rfl (by kernel_rfl) hS 0 rfl rfl rfl) 0 rfl rfl rfl rfl ?_
  intro w13 hS
  refine seq_do hA rfl rfl rfl (does_assign rfl) ?_
  intro a hA
  refine seq_end ?_
  refine hK12 _ _ ?_
  refine wp_ret ?_
  refine hret _ _ ?_
  refine ends (v := .tuple #[.agg #[.bool false, .slice none 0 0, .slice none 0 0, .bool false, .slice none 0 0, .slice none 0 0], .int .i64 2]) hA rfl (.cons (res_cell hS ExL_isS_26 rfl 0 rfl (cs := [.bool false, .slice none 0 0, .slice none 0 0, .bool false, .slice none 0 0, .slice none 0 0]) rfl rfl) (.cons (res_tmp rfl) .nil)) rfl ?_
  exact ⟨none, 0, none, 0, none, 0, none, 0, rfl, ⟨(Sc.none _), (Sc.none _), (Sc.none _), (Sc.none _)⟩, hS.bel⟩
theorem reckonE2_any {F : FuncId} {w : World} {p q : Q6} {a1 a2 a3 a4 : Option Addr} {ac1 ac2 ac3 ac4 : Nat} (ha : Nm w p a1 ac1 a2 ac2 a3 ac3 a4 ac4) (hl : LenQ p) {u1 u2 u3 u4 : Option Addr} {uc1 uc2 uc3 uc4 : Nat} (hb : Nm w q u1 uc1 u2 uc2 u3 uc3 u4 uc4) (hm : LenQ q) (h1 : soundQ p = true) (h2 : soundQ q = false) : Calls Try.prog 30 #[.func (.func F) #[] #[], numV p a1 ac1 a2 ac2 a3 ac3 a4 ac4, numV q u1 uc1 u2 uc2 u3 uc3 u4 uc4] w (AnsN w (Q6.zero, 2)) := by
  have hS : St w w [] [(u4, q.q2), (u3, q.t2), (u2, q.q1), (u1, q.t1), (a4, p.q2), (a3, p.t2), (a2, p.q1), (a1, p.t1)] [] := ((((((((St.start w).addR ha.s1.rd).addR ha.s2.rd).addR ha.s3.rd).addR ha.s4.rd).addR hb.s1.rd).addR hb.s2.rd).addR hb.s3.rd).addR hb.s4.rd
  refine walk_of (l := [(0, .func (.func F) #[] #[]), (1, .agg #[.bool p.b1, .slice a1 p.t1.length ac1, .slice a2 p.q1.length ac2, .bool p.b2, .slice a3 p.t2.length ac3, .slice a4 p.q2.length ac4]), (2, .agg #[.bool q.b1, .slice u1 q.t1.length uc1, .slice u2 q.q1.length uc2, .bool q.b2, .slice u3 q.t2.length uc3, .slice u4 q.q2.length uc4])]) Try.func30 rfl Try.ntmps30 rfl rfl ?_
  intro Q hret hnorm hP a hA
  refine wp_seq_k (fun K1 hK1 => ?_)
  refine wp_region_lit ?_
  refine seq_new (vs := [.bool p.b1, .slice a1 p.t1.length ac1, .slice a2 p.q1.length ac2, .bool p.b2, .slice a3 p.t2.length ac3, .slice a4 p.q2.length ac4]) (t := 26) hA hS rfl rfl rfl (fun g => .pointer (some ⟨g, 0, none⟩)) (does_box rfl rfl) rfl ?_
  intro g2 w3 hS a hA
  refine seq_new (vs := [.bool q.b1, .slice u1 q.t1.length uc1, .slice u2 q.q1.length uc2, .bool q.b2, .slice u3 q.t2.length uc3, .slice u4 q.q2.length uc4]) (t := 26) hA hS rfl rfl rfl (fun g => .pointer (some ⟨g, 0, none⟩)) (does_box rfl rfl) rfl ?_
  intro g4 w5 hS a hA
  refine seq_new (vs := [.bool false, .slice none 0 0, .slice none 0 0, .bool false, .slice none 0 0, .slice none 0 0]) (t := 26) hA hS rfl rfl rfl (fun g => .pointer (some ⟨g, 0, none⟩)) (does_alloc (z := .agg #[.bool false, .slice none 0 0, .slice none 0 0, .bool false, .slice none 0 0, .slice none 0 0]) (by kernel_rfl) rfl) rfl ?_
  intro g6 w7 hS a hA
  refine seq_do hA rfl rfl rfl (does_assign rfl) ?_
  intro a hA
  refine seq_end ?_
  refine hK1 _ _ ?_
  refine wp_seq_k (fun K8 hK8 => ?_)
  refine wp_seq_k (fun K9 hK9 => ?_)
  refine wp_region_lit ?_
  refine seq_do (v := .agg #[.bool p.b1, .slice a1 p.t1.length ac1, .slice a2 p.q1.length ac2, .bool p.b2, .slice a3 p.t2.length ac3, .slice a4 p.q2.length ac4]) hA rfl rfl rfl (does_loadS hS ExL_isS_26 rfl 2 rfl (cs := [.bool p.b1, .slice a1 p.t1.length ac1, .slice a2 p.q1.length ac2, .bool p.b2, .slice a3 p.t2.length ac3, .slice a4 p.q2.length ac4]) rfl rfl) ?_
  intro a hA
  refine seq_call hA rfl rfl rfl (enters_func  rfl rfl (fun w => by kernel_rfl)) (soundQ_any (show Nm _ p a1 ac1 a2 ac2 a3 ac3 a4 ac4 from ⟨⟨(hS.rd 7 rfl), ha.s1.nil, ha.s1.cap⟩, ⟨(hS.rd 6 rfl), ha.s2.nil, ha.s2.cap⟩, ⟨(hS.rd 5 rfl), ha.s3.nil, ha.s3.cap⟩, ⟨(hS.rd 4 rfl), ha.s4.nil, ha.s4.cap⟩⟩) hl h1) ?_
  rintro _ w11 ⟨rfl, hb10⟩
  replace hS := hS.call hb10
  refine ⟨_, rfl, ?_⟩
  intro a hA
  refine seq_do (v := .bool false) hA rfl rfl rfl (does_un rfl un_not) ?_
  intro a hA
  refine seq_do hA rfl rfl rfl (does_move rfl) ?_
  intro a hA
  refine seq_do (v := .agg #[.bool q.b1, .slice u1 q.t1.length uc1, .slice u2 q.q1.length uc2, .bool q.b2, .slice u3 q.t2.length uc3, .slice u4 q.q2.length uc4]) hA rfl rfl rfl (does_loadS hS ExL_isS_26 rfl 1 rfl (cs := [.bool q.b1, .slice u1 q.t1.length uc1, .slice u2 q.q1.length uc2, .bool q.b2, .slice u3 q.t2.length uc3, .slice u4 q.q2.length uc4]) rfl rfl) ?_
  intro a hA
  refine seq_call hA rfl rfl rfl (enters_func  rfl rfl (fun w => by kernel_rfl)) (soundQ_any (show Nm _ q u1 uc1 u2 uc2 u3 uc3 u4 uc4 from ⟨⟨(hS.rd 3 rfl), hb.s1.nil, hb.s1.cap⟩, ⟨(hS.rd 2 rfl), hb.s2.nil, hb.s2.cap⟩, ⟨(hS.rd 1 rfl), hb.s3.nil, hb.s3.cap⟩, ⟨(hS.rd 0 rfl), hb.s4.nil, hb.s4.cap⟩⟩) hm h2) ?_
  rintro _ w13 ⟨rfl, hb12⟩
  replace hS := hS.call hb12
  refine ⟨_, rfl, ?_⟩
  intro a hA
  refine seq_do (v := .bool true) hA rfl rfl rfl (does_un rfl un_not) ?_
  intro a hA
  refine seq_do (v := .bool true) hA rfl rfl rfl (does_pick rfl rfl rfl rfl) ?_
  intro a hA
  refine seq_end ?_
  refine hK9 _ _ ?_
  refine wp_cond_true (hA.ev rfl) ?_
  refine wp_seq_k (fun K14 hK14 => ?_)
  refine wp_region_lit ?_
  refine seq_do (v := .agg #[.bool false, .slice none 0 0, .slice none 0 0, .bool false, .slice none 0 0, .slice none 0 0]) hA rfl rfl rfl (does_build rfl (fun w => by kernel_rfl)) ?_
  intro a hA
  refine seq_store (us := [.bool false, .slice none 0 0, .slice none 0 0, .bool false, .slice none 0 0, .slice none 0 0]) hA hS rfl rfl (sets_store (cs := [.bool false, .slice none 0 0, .slice none 0 0, .bool false, .slice none 0 0, .slice none 0 0]) rfl rfl rfl (by kernel_rfl) hS 0 rfl rfl rfl) 0 rfl rfl rfl rfl ?_
  intro w15 hS
  refine seq_do hA rfl rfl rfl (does_assign rfl) ?_
  intro a hA
  refine seq_end ?_
  refine hK14 _ _ ?_
  refine wp_ret ?_
  refine hret _ _ ?_
  refine ends (v := .tuple #[.agg #[.bool false, .slice none 0 0, .slice none 0 0, .bool false, .slice none 0 0, .slice none 0 0], .int .i64 2]) hA rfl (.cons (res_cell hS ExL_isS_26 rfl 0 rfl (cs := [.bool false, .slice none 0 0, .slice none 0 0, .bool false, .slice none 0 0, .slice none 0 0]) rfl rfl) (.cons (res_tmp rfl) .nil)) rfl ?_
  exact ⟨none, 0, none, 0, none, 0, none, 0, rfl, ⟨(Sc.none _), (Sc.none _), (Sc.none _), (Sc.none _)⟩, hS.bel⟩
theorem reckonA_any {w : World} {u v x y : Rat} {a1 a2 a3 a4 : Option Addr} {ac1 ac2 ac3 ac4 : Nat} (ha : Nm w (Q6.rat u v) a1 ac1 a2 ac2 a3 ac3 a4 ac4) {u1 u2 u3 u4 : Option Addr} {uc1 uc2 uc3 uc4 : Nat} (hb : Nm w (Q6.rat x y) u1 uc1 u2 uc2 u3 uc3 u4 uc4) (hu : fitR u) (hv : fitR v) (hx : fitR x) (hy : fitR y) : Calls Try.prog 30 #[.func (.func 31) #[] #[], numV (Q6.rat u v) a1 ac1 a2 ac2 a3 ac3 a4 ac4, numV (Q6.rat x y) u1 uc1 u2 uc2 u3 uc3 u4 uc4] w (AnsN w (ratS (u + x) (v + y))) := by
  have hS : St w w [] [(u4, words y.den), (u3, words y.num.natAbs), (u2, words x.den), (u1, words x.num.natAbs), (a4, words v.den), (a3, words v.num.natAbs), (a2, words u.den), (a1, words u.num.natAbs)] [] := ((((((((St.start w).addR ha.s1.rd).addR ha.s2.rd).addR ha.s3.rd).addR ha.s4.rd).addR hb.s1.rd).addR hb.s2.rd).addR hb.s3.rd).addR hb.s4.rd
  refine walk_of (l := [(0, .func (.func 31) #[] #[]), (1, .agg #[.bool (rb u.num), .slice a1 ((words u.num.natAbs).length) ac1, .slice a2 ((words u.den).length) ac2, .bool (rb v.num), .slice a3 ((words v.num.natAbs).length) ac3, .slice a4 ((words v.den).length) ac4]), (2, .agg #[.bool (rb x.num), .slice u1 ((words x.num.natAbs).length) uc1, .slice u2 ((words x.den).length) uc2, .bool (rb y.num), .slice u3 ((words y.num.natAbs).length) uc3, .slice u4 ((words y.den).length) uc4])]) Try.func30 rfl Try.ntmps30 rfl rfl ?_
  intro Q hret hnorm hP a hA
  refine wp_seq_k (fun K1 hK1 => ?_)
  refine wp_region_lit ?_
  refine seq_new (vs := [.bool (rb u.num), .slice a1 ((words u.num.natAbs).length) ac1, .slice a2 ((words u.den).length) ac2, .bool (rb v.num), .slice a3 ((words v.num.natAbs).length) ac3, .slice a4 ((words v.den).length) ac4]) (t := 26) hA hS rfl rfl rfl (fun g => .pointer (some ⟨g, 0, none⟩)) (does_box rfl rfl) rfl ?_
  intro g2 w3 hS a hA
  refine seq_new (vs := [.bool (rb x.num), .slice u1 ((words x.num.natAbs).length) uc1, .slice u2 ((words x.den).length) uc2, .bool (rb y.num), .slice u3 ((words y.num.natAbs).length) uc3, .slice u4 ((words y.den).length) uc4]) (t := 26) hA hS rfl rfl rfl (fun g => .pointer (some ⟨g, 0, none⟩)) (does_box rfl rfl) rfl ?_
  intro g4 w5 hS a hA
  refine seq_new (vs := [.bool false, .slice none 0 0, .slice none 0 0, .bool false, .slice none 0 0, .slice none 0 0]) (t := 26) hA hS rfl rfl rfl (fun g => .pointer (some ⟨g, 0, none⟩)) (does_alloc (z := .agg #[.bool false, .slice none 0 0, .slice none 0 0, .bool false, .slice none 0 0, .slice none 0 0]) (by kernel_rfl) rfl) rfl ?_
  intro g6 w7 hS a hA
  refine seq_do hA rfl rfl rfl (does_assign rfl) ?_
  intro a hA
  refine seq_end ?_
  refine hK1 _ _ ?_
  refine wp_seq_k (fun K8 hK8 => ?_)
  refine wp_seq_k (fun K9 hK9 => ?_)
  refine wp_region_lit ?_
  refine seq_do (v := .agg #[.bool (rb u.num), .slice a1 ((words u.num.natAbs).length) ac1, .slice a2 ((words u.den).length) ac2, .bool (rb v.num), .slice a3 ((words v.num.natAbs).length) ac3, .slice a4 ((words v.den).length) ac4]) hA rfl rfl rfl (does_loadS hS ExL_isS_26 rfl 2 rfl (cs := [.bool (rb u.num), .slice a1 ((words u.num.natAbs).length) ac1, .slice a2 ((words u.den).length) ac2, .bool (rb v.num), .slice a3 ((words v.num.natAbs).length) ac3, .slice a4 ((words v.den).length) ac4]) rfl rfl) ?_
  intro a hA
  refine seq_call hA rfl rfl rfl (enters_func  rfl rfl (fun w => by kernel_rfl)) (soundQ_any (show Nm _ (Q6.rat u v) a1 ac1 a2 ac2 a3 ac3 a4 ac4 from ⟨⟨(hS.rd 7 rfl), ha.s1.nil, ha.s1.cap⟩, ⟨(hS.rd 6 rfl), ha.s2.nil, ha.s2.cap⟩, ⟨(hS.rd 5 rfl), ha.s3.nil, ha.s3.cap⟩, ⟨(hS.rd 4 rfl), ha.s4.nil, ha.s4.cap⟩⟩) (lenQ_rat hu hv) (soundQ_rat hu hv)) ?_
  rintro _ w11 ⟨rfl, hb10⟩
  replace hS := hS.call hb10
  refine ⟨_, rfl, ?_⟩
  intro a hA
  refine seq_do (v := .bool false) hA rfl rfl rfl (does_un rfl un_not) ?_
  intro a hA
  refine seq_do hA rfl rfl rfl (does_move rfl) ?_
  intro a hA
  refine seq_do (v := .agg #[.bool (rb x.num), .slice u1 ((words x.num.natAbs).length) uc1, .slice u2 ((words x.den).length) uc2, .bool (rb y.num), .slice u3 ((words y.num.natAbs).length) uc3, .slice u4 ((words y.den).length) uc4]) hA rfl rfl rfl (does_loadS hS ExL_isS_26 rfl 1 rfl (cs := [.bool (rb x.num), .slice u1 ((words x.num.natAbs).length) uc1, .slice u2 ((words x.den).length) uc2, .bool (rb y.num), .slice u3 ((words y.num.natAbs).length) uc3, .slice u4 ((words y.den).length) uc4]) rfl rfl) ?_
  intro a hA
  refine seq_call hA rfl rfl rfl (enters_func  rfl rfl (fun w => by kernel_rfl)) (soundQ_any (show Nm _ (Q6.rat x y) u1 uc1 u2 uc2 u3 uc3 u4 uc4 from ⟨⟨(hS.rd 3 rfl), hb.s1.nil, hb.s1.cap⟩, ⟨(hS.rd 2 rfl), hb.s2.nil, hb.s2.cap⟩, ⟨(hS.rd 1 rfl), hb.s3.nil, hb.s3.cap⟩, ⟨(hS.rd 0 rfl), hb.s4.nil, hb.s4.cap⟩⟩) (lenQ_rat hx hy) (soundQ_rat hx hy)) ?_
  rintro _ w13 ⟨rfl, hb12⟩
  replace hS := hS.call hb12
  refine ⟨_, rfl, ?_⟩
  intro a hA
  refine seq_do (v := .bool false) hA rfl rfl rfl (does_un rfl un_not) ?_
  intro a hA
  refine seq_do (v := .bool false) hA rfl rfl rfl (does_pick rfl rfl rfl rfl) ?_
  intro a hA
  refine seq_end ?_
  refine hK9 _ _ ?_
  refine wp_cond_false (hA.ev rfl) ?_
  refine wp_skip ?_
  refine hK8 _ _ ?_
  refine wp_seq_k (fun K14 hK14 => ?_)
  refine wp_draw (S := fun w1 => St w w1 [(g4, [.bool (rb x.num), .slice u1 ((words x.num.natAbs).length) uc1, .slice u2 ((words x.den).length) uc2, .bool (rb y.num), .slice u3 ((words y.num.natAbs).length) uc3, .slice u4 ((words y.den).length) uc4]), (g2, [.bool (rb u.num), .slice a1 ((words u.num.natAbs).length) ac1, .slice a2 ((words u.den).length) ac2, .bool (rb v.num), .slice a3 ((words v.num.natAbs).length) ac3, .slice a4 ((words v.den).length) ac4])] [(u4, words y.den), (u3, words y.num.natAbs), (u2, words x.den), (u1, words x.num.natAbs), (a4, words v.den), (a3, words v.num.natAbs), (a2, words u.den), (a1, words u.num.natAbs)] []) (by kernel_rfl) ?_
  replace hS := hS.drew
  refine any_take hA 0 rfl rfl rfl rfl (by kernel_rfl) (by kernel_rfl) (by kernel_rfl) (fun c a w h => hP c a _ _ w h) (hS.partD (.cons _ (.cons_cons _ (.cons_cons _ .slnil))) 0 rfl (.refl _)) (fun w1 hS => does_move rfl) ?_
  intro a hA
  refine any_take (v := .agg #[.bool (rb u.num), .slice a1 ((words u.num.natAbs).length) ac1, .slice a2 ((words u.den).length) ac2, .bool (rb v.num), .slice a3 ((words v.num.natAbs).length) ac3, .slice a4 ((words v.den).length) ac4]) hA 1 rfl rfl rfl rfl (by kernel_rfl) (by kernel_rfl) (by kernel_rfl) (fun c a w h => hP c a _ _ w h) (hS.partD (.cons _ (.cons_cons _ (.cons_cons _ .slnil))) 0 rfl (.refl _)) (fun w1 hS => does_loadS hS ExL_isS_26 rfl 1 rfl (cs := [.bool (rb u.num), .slice a1 ((words u.num.natAbs).length) ac1, .slice a2 ((words u.den).length) ac2, .bool (rb v.num), .slice a3 ((words v.num.natAbs).length) ac3, .slice a4 ((words v.den).length) ac4]) rfl rfl) ?_
  intro a hA
  refine any_take (v := .agg #[.bool (rb x.num), .slice u1 ((words x.num.natAbs).length) uc1, .slice u2 ((words x.den).length) uc2, .bool (rb y.num), .slice u3 ((words y.num.natAbs).length) uc3, .slice u4 ((words y.den).length) uc4]) hA 3 rfl rfl rfl rfl (by kernel_rfl) (by kernel_rfl) (by kernel_rfl) (fun c a w h => hP c a _ _ w h) (hS.partD (.cons _ (.cons_cons _ (.cons_cons _ .slnil))) 0 rfl (.refl _)) (fun w1 hS => does_loadS hS ExL_isS_26 rfl 0 rfl (cs := [.bool (rb x.num), .slice u1 ((words x.num.natAbs).length) uc1, .slice u2 ((words x.den).length) uc2, .bool (rb y.num), .slice u3 ((words y.num.natAbs).length) uc3, .slice u4 ((words y.den).length) uc4]) rfl rfl) ?_
  intro a hA
  refine any_one (by kernel_rfl) (op_call hA 2 rfl rfl rfl rfl (enters_func  rfl rfl (fun w => by kernel_rfl)) (zspread_any (show Nm _ (Q6.rat u v) a1 ac1 a2 ac2 a3 ac3 a4 ac4 from ⟨⟨(hS.rd 7 rfl), ha.s1.nil, ha.s1.cap⟩, ⟨(hS.rd 6 rfl), ha.s2.nil, ha.s2.cap⟩, ⟨(hS.rd 5 rfl), ha.s3.nil, ha.s3.cap⟩, ⟨(hS.rd 4 rfl), ha.s4.nil, ha.s4.cap⟩⟩) hu hv) ?_)
  rintro _ w20 ⟨p15_1, p15_c1, p15_2, p15_c2, p15_3, p15_c3, rfl, hs16, hs17, hs18, hb19⟩
  replace hS := hS.call hb19
  replace hS := hS.addR hs16.rd
  replace hS := hS.addR hs17.rd
  replace hS := hS.addR hs18.rd
  refine ⟨_, rfl, (hS.partD (.cons _ (.cons_cons _ (.cons_cons _ .slnil))) 3 rfl (.refl _)), ?_⟩
  intro a hA
  refine any_one (by kernel_rfl) (op_call hA 4 rfl rfl rfl rfl (enters_func  rfl rfl (fun w => by kernel_rfl)) (zspread_any (show Nm _ (Q6.rat x y) u1 uc1 u2 uc2 u3 uc3 u4 uc4 from ⟨⟨(hS.rd 6 rfl), hb.s1.nil, hb.s1.cap⟩, ⟨(hS.rd 5 rfl), hb.s2.nil, hb.s2.cap⟩, ⟨(hS.rd 4 rfl), hb.s3.nil, hb.s3.cap⟩, ⟨(hS.rd 3 rfl), hb.s4.nil, hb.s4.cap⟩⟩) hx hy) ?_)
  rintro _ w26 ⟨p21_1, p21_c1, p21_2, p21_c2, p21_3, p21_c3, rfl, hs22, hs23, hs24, hb25⟩
  replace hS := hS.call hb25
  replace hS := hS.addR hs22.rd
  replace hS := hS.addR hs23.rd
  replace hS := hS.addR hs24.rd
  refine ⟨_, rfl, (hS.partD (.cons _ (.cons_cons _ (.cons_cons _ .slnil))) 6 rfl (.refl _)), ?_⟩
  intro a hA
  refine any_one (by kernel_rfl) (op_call hA 5 rfl rfl rfl rfl (enters_func  rfl rfl (fun w => by kernel_rfl)) (zsum_any ⟨(hS.rd 5 rfl), hs16.nil, hs16.cap⟩ ⟨(hS.rd 4 rfl), hs17.nil, hs17.cap⟩ ⟨(hS.rd 3 rfl), hs18.nil, hs18.cap⟩ ⟨(hS.rd 2 rfl), hs22.nil, hs22.cap⟩ ⟨(hS.rd 1 rfl), hs23.nil, hs23.cap⟩ ⟨(hS.rd 0 rfl), hs24.nil, hs24.cap⟩ (Nat.le_trans (spX_len hu hv) (by decide)) (Nat.le_trans (spY_len hu hv) (by decide)) (Nat.le_trans (spD_len hu hv) (by decide)) (Nat.le_trans (spX_len hx hy) (by decide)) (Nat.le_trans (spY_len hx hy) (by decide)) (Nat.le_trans (spD_len hx hy) (by decide))) ?_)
  rintro _ w32 ⟨p27_1, p27_c1, p27_2, p27_c2, p27_3, p27_c3, rfl, hs28, hs29, hs30, hb31⟩
  replace hS := hS.call hb31
  replace hS := hS.addR hs28.rd
  replace hS := hS.addR hs29.rd
  replace hS := hS.addR hs30.rd
  refine ⟨_, rfl, (hS.partD (.cons _ (.cons_cons _ (.cons_cons _ .slnil))) 9 rfl (.refl _)), ?_⟩
  intro a hA
  refine any_one (by kernel_rfl) (op_call hA 6 rfl rfl rfl rfl (enters_func  rfl rfl (fun w => by kernel_rfl)) (zsettle_as ⟨(hS.rd 2 rfl), hs28.nil, hs28.cap⟩ ⟨(hS.rd 1 rfl), hs29.nil, hs29.cap⟩ ⟨(hS.rd 0 rfl), hs30.nil, hs30.cap⟩ (set_add (spD_ne u v) (spD_ne x y) (spX_mk u v) (spY_mk u v) (spX_mk x y) (spY_mk x y)) (Nat.le_trans (abs_add_len (abs_mul_len (spX_len hu hv) (nat_abs_len (spD_len hx hy))) (abs_mul_len (spX_len hx hy) (nat_abs_len (spD_len hu hv)))) (by decide)) (Nat.le_trans (abs_add_len (abs_mul_len (spY_len hu hv) (nat_abs_len (spD_len hx hy))) (abs_mul_len (spY_len hx hy) (nat_abs_len (spD_len hu hv)))) (by decide)) (Nat.le_trans (words_mul_length (spD_len hu hv) (spD_len hx hy)) (by decide)) (Nat.mul_ne_zero (spD_ne u v) (spD_ne x y))) ?_)
  rintro _ w36 ⟨p33_1, p33_c1, p33_2, p33_c2, p33_3, p33_c3, p33_4, p33_c4, rfl, hn34, hb35⟩
  replace hS := hS.call hb35
  replace hS := hS.addR hn34.s1.rd
  replace hS := hS.addR hn34.s2.rd
  replace hS := hS.addR hn34.s3.rd
  replace hS := hS.addR hn34.s4.rd
  refine ⟨_, rfl, (hS.partD (.cons _ (.cons_cons _ (.cons_cons _ .slnil))) 13 rfl (.refl _)), ?_⟩
  intro a hA
  refine any_take (v := .agg #[.bool ((ratS (u + x) (v + y)).1.b1), .slice p33_1 (((ratS (u + x) (v + y)).1.t1).length) p33_c1, .slice p33_2 (((ratS (u + x) (v + y)).1.q1).length) p33_c2, .bool ((ratS (u + x) (v + y)).1.b2), .slice p33_3 (((ratS (u + x) (v + y)).1.t2).length) p33_c3, .slice p33_4 (((ratS (u + x) (v + y)).1.q2).length) p33_c4]) hA 7 rfl rfl rfl rfl (by kernel_rfl) (by kernel_rfl) (by kernel_rfl) (fun c a w h => hP c a _ _ w h) (hS.partD (.cons _ (.cons_cons _ (.cons_cons _ .slnil))) 13 rfl (.refl _)) (fun w1 hS => does_extract (vs := [.agg #[.bool ((ratS (u + x) (v + y)).1.b1), .slice p33_1 (((ratS (u + x) (v + y)).1.t1).length) p33_c1, .slice p33_2 (((ratS (u + x) (v + y)).1.q1).length) p33_c2, .bool ((ratS (u + x) (v + y)).1.b2), .slice p33_3 (((ratS (u + x) (v + y)).1.t2).length) p33_c3, .slice p33_4 (((ratS (u + x) (v + y)).1.q2).length) p33_c4], .int .i64 ((ratS (u + x) (v + y)).2)]) rfl rfl) ?_
  intro a hA
  refine any_take (v := .int .i64 ((ratS (u + x) (v + y)).2)) hA 8 rfl rfl rfl rfl (by kernel_rfl) (by kernel_rfl) (by kernel_rfl) (fun c a w h => hP c a _ _ w h) (hS.partD (.cons _ (.cons_cons _ (.cons_cons _ .slnil))) 13 rfl (.refl _)) (fun w1 hS => does_extract (vs := [.agg #[.bool ((ratS (u + x) (v + y)).1.b1), .slice p33_1 (((ratS (u + x) (v + y)).1.t1).length) p33_c1, .slice p33_2 (((ratS (u + x) (v + y)).1.q1).length) p33_c2, .bool ((ratS (u + x) (v + y)).1.b2), .slice p33_3 (((ratS (u + x) (v + y)).1.t2).length) p33_c3, .slice p33_4 (((ratS (u + x) (v + y)).1.q2).length) p33_c4], .int .i64 ((ratS (u + x) (v + y)).2)]) rfl rfl) ?_
  intro a hA
  refine any_one (by kernel_rfl) (op_store (us := [.bool ((ratS (u + x) (v + y)).1.b1), .slice p33_1 (((ratS (u + x) (v + y)).1.t1).length) p33_c1, .slice p33_2 (((ratS (u + x) (v + y)).1.q1).length) p33_c2, .bool ((ratS (u + x) (v + y)).1.b2), .slice p33_3 (((ratS (u + x) (v + y)).1.t2).length) p33_c3, .slice p33_4 (((ratS (u + x) (v + y)).1.q2).length) p33_c4]) hA hS 9 rfl rfl rfl (sets_store (cs := [.bool ((ratS (u + x) (v + y)).1.b1), .slice p33_1 (((ratS (u + x) (v + y)).1.t1).length) p33_c1, .slice p33_2 (((ratS (u + x) (v + y)).1.q1).length) p33_c2, .bool ((ratS (u + x) (v + y)).1.b2), .slice p33_3 (((ratS (u + x) (v + y)).1.t2).length) p33_c3, .slice p33_4 (((ratS (u + x) (v + y)).1.q2).length) p33_c4]) rfl rfl rfl (by kernel_rfl) hS 0 rfl rfl rfl) 0 rfl rfl rfl rfl ?_)
  intro w37 hS
  refine ⟨(hS.partD (.cons _ (.cons_cons _ (.cons_cons _ .slnil))) 13 rfl (.refl _)), ?_⟩
  refine any_take hA 10 rfl rfl rfl rfl (by kernel_rfl) (by kernel_rfl) (by kernel_rfl) (fun c a w h => hP c a _ _ w h) (hS.partD (.cons _ (.cons_cons _ (.cons_cons _ .slnil))) 13 rfl (.refl _)) (fun w1 hS => does_assign rfl) ?_
  intro a hA
  refine any_end (by kernel_rfl) ?_
  refine hK14 _ _ ?_
  refine wp_ret ?_
  refine hret _ _ ?_
  refine ends (v := .tuple #[.agg #[.bool ((ratS (u + x) (v + y)).1.b1), .slice p33_1 (((ratS (u + x) (v + y)).1.t1).length) p33_c1, .slice p33_2 (((ratS (u + x) (v + y)).1.q1).length) p33_c2, .bool ((ratS (u + x) (v + y)).1.b2), .slice p33_3 (((ratS (u + x) (v + y)).1.t2).length) p33_c3, .slice p33_4 (((ratS (u + x) (v + y)).1.q2).length) p33_c4], .int .i64 ((ratS (u + x) (v + y)).2)]) hA rfl (.cons (res_cell hS ExL_isS_26 rfl 0 rfl (cs := [.bool ((ratS (u + x) (v + y)).1.b1), .slice p33_1 (((ratS (u + x) (v + y)).1.t1).length) p33_c1, .slice p33_2 (((ratS (u + x) (v + y)).1.q1).length) p33_c2, .bool ((ratS (u + x) (v + y)).1.b2), .slice p33_3 (((ratS (u + x) (v + y)).1.t2).length) p33_c3, .slice p33_4 (((ratS (u + x) (v + y)).1.q2).length) p33_c4]) rfl rfl) (.cons (res_tmp rfl) .nil)) rfl ?_
  exact ⟨p33_1, p33_c1, p33_2, p33_c2, p33_3, p33_c3, p33_4, p33_c4, rfl, ⟨⟨(hS.rd 3 rfl), hn34.s1.nil, hn34.s1.cap⟩, ⟨(hS.rd 2 rfl), hn34.s2.nil, hn34.s2.cap⟩, ⟨(hS.rd 1 rfl), hn34.s3.nil, hn34.s3.cap⟩, ⟨(hS.rd 0 rfl), hn34.s4.nil, hn34.s4.cap⟩⟩, hS.bel⟩
theorem reckonAQ_any {w : World} {p q : Q6} {a1 a2 a3 a4 : Option Addr} {ac1 ac2 ac3 ac4 : Nat} (ha : Nm w p a1 ac1 a2 ac2 a3 ac3 a4 ac4) (hl : LenQ p) {u1 u2 u3 u4 : Option Addr} {uc1 uc2 uc3 uc4 : Nat} (hb : Nm w q u1 uc1 u2 uc2 u3 uc3 u4 uc4) (hm : LenQ q) : Calls Try.prog 30 #[.func (.func 31) #[] #[], numV p a1 ac1 a2 ac2 a3 ac3 a4 ac4, numV q u1 uc1 u2 uc2 u3 uc3 u4 uc4] w (AnsN w (addQ p q)) := by
  rcases sound_cases ha with h1 | ⟨u, v, rfl, hu, hv⟩
  · rw [show addQ p q = (Q6.zero, 2) from if_neg (fun k => by rw [h1] at k; cases k.1)]
    exact reckonE1_any ha hl hb hm h1
  · rcases sound_cases hb with h2 | ⟨x, y, rfl, hx, hy⟩
    · rw [show addQ _ q = (Q6.zero, 2) from if_neg (fun k => by rw [h2] at k; cases k.2)]
      exact reckonE2_any ha hl hb hm (soundQ_rat hu hv) h2
    · rw [addQ_rat hu hv hx hy]
      exact reckonA_any ha hb hu hv hx hy
theorem addQ_any {w : World} {p q : Q6} {a1 a2 a3 a4 : Option Addr} {ac1 ac2 ac3 ac4 : Nat} (ha : Nm w p a1 ac1 a2 ac2 a3 ac3 a4 ac4) (hl : LenQ p) {u1 u2 u3 u4 : Option Addr} {uc1 uc2 uc3 uc4 : Nat} (hb : Nm w q u1 uc1 u2 uc2 u3 uc3 u4 uc4) (hm : LenQ q) : Calls Try.prog 9 #[numV p a1 ac1 a2 ac2 a3 ac3 a4 ac4, numV q u1 uc1 u2 uc2 u3 uc3 u4 uc4] w (AnsN w (addQ p q)) := by
  have hS : St w w [] [(u4, q.q2), (u3, q.t2), (u2, q.q1), (u1, q.t1), (a4, p.q2), (a3, p.t2), (a2, p.q1), (a1, p.t1)] [] := ((((((((St.start w).addR ha.s1.rd).addR ha.s2.rd).addR ha.s3.rd).addR ha.s4.rd).addR hb.s1.rd).addR hb.s2.rd).addR hb.s3.rd).addR hb.s4.rd
  refine walk_of (l := [(0, .agg #[.bool p.b1, .slice a1 p.t1.length ac1, .slice a2 p.q1.length ac2, .bool p.b2, .slice a3 p.t2.length ac3, .slice a4 p.q2.length ac4]), (1, .agg #[.bool q.b1, .slice u1 q.t1.length uc1, .slice u2 q.q1.length uc2, .bool q.b2, .slice u3 q.t2.length uc3, .slice u4 q.q2.length uc4])]) Try.func9 rfl Try.ntmps9 rfl rfl ?_
  intro Q hret hnorm hP a hA
  refine wp_seq_k (fun K1 hK1 => ?_)
  refine wp_region_lit ?_
  refine seq_new (vs := [.bool p.b1, .slice a1 p.t1.length ac1, .slice a2 p.q1.length ac2, .bool p.b2, .slice a3 p.t2.length ac3, .slice a4 p.q2.length ac4]) (t := 26) hA hS rfl rfl rfl (fun g => .pointer (some ⟨g, 0, none⟩)) (does_box rfl rfl) rfl ?_
  intro g2 w3 hS a hA
  refine seq_new (vs := [.bool q.b1, .slice u1 q.t1.length uc1, .slice u2 q.q1.length uc2, .bool q.b2, .slice u3 q.t2.length uc3, .slice u4 q.q2.length uc4]) (t := 26) hA hS rfl rfl rfl (fun g => .pointer (some ⟨g, 0, none⟩)) (does_box rfl rfl) rfl ?_
  intro g4 w5 hS a hA
  refine seq_new (vs := [.bool false, .slice none 0 0, .slice none 0 0, .bool false, .slice none 0 0, .slice none 0 0]) (t := 26) hA hS rfl rfl rfl (fun g => .pointer (some ⟨g, 0, none⟩)) (does_alloc (z := .agg #[.bool false, .slice none 0 0, .slice none 0 0, .bool false, .slice none 0 0, .slice none 0 0]) (by kernel_rfl) rfl) rfl ?_
  intro g6 w7 hS a hA
  refine seq_do hA rfl rfl rfl (does_assign rfl) ?_
  intro a hA
  refine seq_end ?_
  refine hK1 _ _ ?_
  refine wp_seq_k (fun K8 hK8 => ?_)
  refine wp_region_lit ?_
  refine seq_do (v := .agg #[.bool p.b1, .slice a1 p.t1.length ac1, .slice a2 p.q1.length ac2, .bool p.b2, .slice a3 p.t2.length ac3, .slice a4 p.q2.length ac4]) hA rfl rfl rfl (does_loadS hS ExL_isS_26 rfl 2 rfl (cs := [.bool p.b1, .slice a1 p.t1.length ac1, .slice a2 p.q1.length ac2, .bool p.b2, .slice a3 p.t2.length ac3, .slice a4 p.q2.length ac4]) rfl rfl) ?_
  intro a hA
  refine seq_do (v := .agg #[.bool q.b1, .slice u1 q.t1.length uc1, .slice u2 q.q1.length uc2, .bool q.b2, .slice u3 q.t2.length uc3, .slice u4 q.q2.length uc4]) hA rfl rfl rfl (does_loadS hS ExL_isS_26 rfl 1 rfl (cs := [.bool q.b1, .slice u1 q.t1.length uc1, .slice u2 q.q1.length uc2, .bool q.b2, .slice u3 q.t2.length uc3, .slice u4 q.q2.length uc4]) rfl rfl) ?_
  intro a hA
  refine seq_call hA rfl rfl rfl (enters_func  rfl rfl (fun w => by kernel_rfl)) (reckonAQ_any (show Nm _ p a1 ac1 a2 ac2 a3 ac3 a4 ac4 from ⟨⟨(hS.rd 7 rfl), ha.s1.nil, ha.s1.cap⟩, ⟨(hS.rd 6 rfl), ha.s2.nil, ha.s2.cap⟩, ⟨(hS.rd 5 rfl), ha.s3.nil, ha.s3.cap⟩, ⟨(hS.rd 4 rfl), ha.s4.nil, ha.s4.cap⟩⟩) hl (show Nm _ q u1 uc1 u2 uc2 u3 uc3 u4 uc4 from ⟨⟨(hS.rd 3 rfl), hb.s1.nil, hb.s1.cap⟩, ⟨(hS.rd 2 rfl), hb.s2.nil, hb.s2.cap⟩, ⟨(hS.rd 1 rfl), hb.s3.nil, hb.s3.cap⟩, ⟨(hS.rd 0 rfl), hb.s4.nil, hb.s4.cap⟩⟩) hm) ?_
  rintro _ w12 ⟨p9_1, p9_c1, p9_2, p9_c2, p9_3, p9_c3, p9_4, p9_c4, rfl, hn10, hb11⟩
  replace hS := hS.call hb11
  replace hS := hS.addR hn10.s1.rd
  replace hS := hS.addR hn10.s2.rd
  replace hS := hS.addR hn10.s3.rd
  replace hS := hS.addR hn10.s4.rd
  refine ⟨_, rfl, ?_⟩
  intro a hA
  refine seq_do (v := .agg #[.bool ((addQ p q).1.b1), .slice p9_1 (((addQ p q).1.t1).length) p9_c1, .slice p9_2 (((addQ p q).1.q1).length) p9_c2, .bool ((addQ p q).1.b2), .slice p9_3 (((addQ p q).1.t2).length) p9_c3, .slice p9_4 (((addQ p q).1.q2).length) p9_c4]) hA rfl rfl rfl (does_extract (vs := [.agg #[.bool ((addQ p q).1.b1), .slice p9_1 (((addQ p q).1.t1).length) p9_c1, .slice p9_2 (((addQ p q).1.q1).length) p9_c2, .bool ((addQ p q).1.b2), .slice p9_3 (((addQ p q).1.t2).length) p9_c3, .slice p9_4 (((addQ p q).1.q2).length) p9_c4], .int .i64 ((addQ p q).2)]) rfl rfl) ?_
  intro a hA
  refine seq_do (v := .int .i64 ((addQ p q).2)) hA rfl rfl rfl (does_extract (vs := [.agg #[.bool ((addQ p q).1.b1), .slice p9_1 (((addQ p q).1.t1).length) p9_c1, .slice p9_2 (((addQ p q).1.q1).length) p9_c2, .bool ((addQ p q).1.b2), .slice p9_3 (((addQ p q).1.t2).length) p9_c3, .slice p9_4 (((addQ p q).1.q2).length) p9_c4], .int .i64 ((addQ p q).2)]) rfl rfl) ?_
  intro a hA
  refine seq_store (us := [.bool ((addQ p q).1.b1), .slice p9_1 (((addQ p q).1.t1).length) p9_c1, .slice p9_2 (((addQ p q).1.q1).length) p9_c2, .bool ((addQ p q).1.b2), .slice p9_3 (((addQ p q).1.t2).length) p9_c3, .slice p9_4 (((addQ p q).1.q2).length) p9_c4]) hA hS rfl rfl (sets_store (cs := [.bool ((addQ p q).1.b1), .slice p9_1 (((addQ p q).1.t1).length) p9_c1, .slice p9_2 (((addQ p q).1.q1).length) p9_c2, .bool ((addQ p q).1.b2), .slice p9_3 (((addQ p q).1.t2).length) p9_c3, .slice p9_4 (((addQ p q).1.q2).length) p9_c4]) rfl rfl rfl (by kernel_rfl) hS 0 rfl rfl rfl) 0 rfl rfl rfl rfl ?_
  intro w13 hS
  refine seq_do hA rfl rfl rfl (does_assign rfl) ?_
  intro a hA
  refine seq_end ?_
  refine hK8 _ _ ?_
  refine wp_ret ?_
  refine hret _ _ ?_
  refine ends (v := .tuple #[.agg #[.bool ((addQ p q).1.b1), .slice p9_1 (((addQ p q).1.t1).length) p9_c1, .slice p9_2 (((addQ p q).1.q1).length) p9_c2, .bool ((addQ p q).1.b2), .slice p9_3 (((addQ p q).1.t2).length) p9_c3, .slice p9_4 (((addQ p q).1.q2).length) p9_c4], .int .i64 ((addQ p q).2)]) hA rfl (.cons (res_cell hS ExL_isS_26 rfl 0 rfl (cs := [.bool ((addQ p q).1.b1), .slice p9_1 (((addQ p q).1.t1).length) p9_c1, .slice p9_2 (((addQ p q).1.q1).length) p9_c2, .bool ((addQ p q).1.b2), .slice p9_3 (((addQ p q).1.t2).length) p9_c3, .slice p9_4 (((addQ p q).1.q2).length) p9_c4]) rfl rfl) (.cons (res_tmp rfl) .nil)) rfl ?_
  exact ⟨p9_1, p9_c1, p9_2, p9_c2, p9_3, p9_c3, p9_4, p9_c4, rfl, ⟨⟨(hS.rd 3 rfl), hn10.s1.nil, hn10.s1.cap⟩, ⟨(hS.rd 2 rfl), hn10.s2.nil, hn10.s2.cap⟩, ⟨(hS.rd 1 rfl), hn10.s3.nil, hn10.s3.cap⟩, ⟨(hS.rd 0 rfl), hn10.s4.nil, hn10.s4.cap⟩⟩, hS.bel⟩
theorem reckonS_any {w : World} {u v x y : Rat} {a1 a2 a3 a4 : Option Addr} {ac1 ac2 ac3 ac4 : Nat} (ha : Nm w (Q6.rat u v) a1 ac1 a2 ac2 a3 ac3 a4 ac4) {u1 u2 u3 u4 : Option Addr} {uc1 uc2 uc3 uc4 : Nat} (hb : Nm w (Q6.rat x y) u1 uc1 u2 uc2 u3 uc3 u4 uc4) (hu : fitR u) (hv : fitR v) (hx : fitR x) (hy : fitR y) : Calls Try.prog 30 #[.func (.func 39) #[] #[], numV (Q6.rat u v) a1 ac1 a2 ac2 a3 ac3 a4 ac4, numV (Q6.rat x y) u1 uc1 u2 uc2 u3 uc3 u4 uc4] w (AnsN w (ratS (u - x) (v - y))) := by
  have hS : St w w [] [(u4, words y.den), (u3, words y.num.natAbs), (u2, words x.den), (u1, words x.num.natAbs), (a4, words v.den), (a3, words v.num.natAbs), (a2, words u.den), (a1, words u.num.natAbs)] [] := ((((((((St.start w).addR ha.s1.rd).addR ha.s2.rd).addR ha.s3.rd).addR ha.s4.rd).addR hb.s1.rd).addR hb.s2.rd).addR hb.s3.rd).addR hb.s4.rd
  refine walk_of (l := [(0, .func (.func 39) #[] #[]), (1, .agg #[.bool (rb u.num), .slice a1 ((words u.num.natAbs).length) ac1, .slice a2 ((words u.den).length) ac2, .bool (rb v.num), .slice a3 ((words v.num.natAbs).length) ac3, .slice a4 ((words v.den).length) ac4]), (2, .agg #[.bool (rb x.num), .slice u1 ((words x.num.natAbs).length) uc1, .slice u2 ((words x.den).length) uc2, .bool (rb y.num), .slice u3 ((words y.num.natAbs).length) uc3, .slice u4 ((words y.den).length) uc4])]) Try.func30 rfl Try.ntmps30 rfl rfl ?_
  intro Q hret hnorm hP a hA
  refine wp_seq_k (fun K1 hK1 => ?_)
  refine wp_region_lit ?_
  refine seq_new (vs := [.bool (rb u.num), .slice a1 ((words u.num.natAbs).length) ac1, .slice a2 ((words u.den).length) ac2, .bool (rb v.num), .slice a3 ((words v.num.natAbs).length) ac3, .slice a4 ((words v.den).length) ac4]) (t := 26) hA hS rfl rfl rfl (fun g => .pointer (some ⟨g, 0, none⟩)) (does_box rfl rfl) rfl ?_
  intro g2 w3 hS a hA
  refine seq_new (vs := [.bool (rb x.num), .slice u1 ((words x.num.natAbs).length) uc1, .slice u2 ((words x.den).length) uc2, .bool (rb y.num), .slice u3 ((words y.num.natAbs).length) uc3, .slice u4 ((words y.den).length) uc4]) (t := 26) hA hS rfl rfl rfl (fun g => .pointer (some ⟨g, 0, none⟩)) (does_box rfl rfl) rfl ?_
  intro g4 w5 hS a hA
  refine seq_new (vs := [.bool false, .slice none 0 0, .slice none 0 0, .bool false, .slice none 0 0, .slice none 0 0]) (t := 26) hA hS rfl rfl rfl (fun g => .pointer (some ⟨g, 0, none⟩)) (does_alloc (z := .agg #[.bool false, .slice none 0 0, .slice none 0 0, .bool false, .slice none 0 0, .slice none 0 0]) (by kernel_rfl) rfl) rfl ?_
  intro g6 w7 hS a hA
  refine seq_do hA rfl rfl rfl (does_assign rfl) ?_
  intro a hA
  refine seq_end ?_
  refine hK1 _ _ ?_
  refine wp_seq_k (fun K8 hK8 => ?_)
  refine wp_seq_k (fun K9 hK9 => ?_)
  refine wp_region_lit ?_
  refine seq_do (v := .agg #[.bool (rb u.num), .slice a1 ((words u.num.natAbs).length) ac1, .slice a2 ((words u.den).length) ac2, .bool (rb v.num), .slice a3 ((words v.num.natAbs).length) ac3, .slice a4 ((words v.den).length) ac4]) hA rfl rfl rfl (does_loadS hS ExL_isS_26 rfl 2 rfl (cs := [.bool (rb u.num), .slice a1 ((words u.num.natAbs).length) ac1, .slice a2 ((words u.den).length) ac2, .bool (rb v.num), .slice a3 ((words v.num.natAbs).length) ac3, .slice a4 ((words v.den).length) ac4]) rfl rfl) ?_
  intro a hA
  refine seq_call hA rfl rfl rfl (enters_func  rfl rfl (fun w => by kernel_rfl)) (soundQ_any (show Nm _ (Q6.rat u v) a1 ac1 a2 ac2 a3 ac3 a4 ac4 from ⟨⟨(hS.rd 7 rfl), ha.s1.nil, ha.s1.cap⟩, ⟨(hS.rd 6 rfl), ha.s2.nil, ha.s2.cap⟩, ⟨(hS.rd 5 rfl), ha.s3.nil, ha.s3.cap⟩, ⟨(hS.rd 4 rfl), ha.s4.nil, ha.s4.cap⟩⟩) (lenQ_rat hu hv) (soundQ_rat hu hv)) ?_
  rintro _ w11 ⟨rfl, hb10⟩
  replace hS := hS.call hb10
  refine ⟨_, rfl, ?_⟩
  intro a hA
  refine seq_do (v := .bool false) hA rfl rfl rfl (does_un rfl un_not) ?_
  intro a hA
  refine seq_do hA rfl rfl rfl (does_move rfl) ?_
  intro a hA
  refine seq_do (v := .agg #[.bool (rb x.num), .slice u1 ((words x.num.natAbs).length) uc1, .slice u2 ((words x.den).length) uc2, .bool (rb y.num), .slice u3 ((words y.num.natAbs).length) uc3, .slice u4 ((words y.den).length) uc4]) hA rfl rfl rfl (does_loadS hS ExL_isS_26 rfl 1 rfl (cs := [.bool (rb x.num), .slice u1 ((words x.num.natAbs).length) uc1, .slice u2 ((words x.den).length) uc2, .bool (rb y.num), .slice u3 ((words y.num.natAbs).length) uc3, .slice u4 ((words y.den).length) uc4]) rfl rfl) ?_
  intro a hA
  refine seq_call hA rfl rfl rfl (enters_func  rfl rfl (fun w => by kernel_rfl)) (soundQ_any (show Nm _ (Q6.rat x y) u1 uc1 u2 uc2 u3 uc3 u4 uc4 from ⟨⟨(hS.rd 3 rfl), hb.s1.nil, hb.s1.cap⟩, ⟨(hS.rd 2 rfl), hb.s2.nil, hb.s2.cap⟩, ⟨(hS.rd 1 rfl), hb.s3.nil, hb.s3.cap⟩, ⟨(hS.rd 0 rfl), hb.s4.nil, hb.s4.cap⟩⟩) (lenQ_rat hx hy) (soundQ_rat hx hy)) ?_
  rintro _ w13 ⟨rfl, hb12⟩
  replace hS := hS.call hb12
  refine ⟨_, rfl, ?_⟩
  intro a hA
  refine seq_do (v := .bool false) hA rfl rfl rfl (does_un rfl un_not) ?_
  intro a hA
  refine seq_do (v := .bool false) hA rfl rfl rfl (does_pick rfl rfl rfl rfl) ?_
  intro a hA
  refine seq_end ?_
  refine hK9 _ _ ?_
  refine wp_cond_false (hA.ev rfl) ?_
  refine wp_skip ?_
  refine hK8 _ _ ?_
  refine wp_seq_k (fun K14 hK14 => ?_)
  refine wp_draw (S := fun w1 => St w w1 [(g4, [.bool (rb x.num), .slice u1 ((words x.num.natAbs).length) uc1, .slice u2 ((words x.den).length) uc2, .bool (rb y.num), .slice u3 ((words y.num.natAbs).length) uc3, .slice u4 ((words y.den).length) uc4]), (g2, [.bool (rb u.num), .slice a1 ((words u.num.natAbs).length) ac1, .slice a2 ((words u.den).length) ac2, .bool (rb v.num), .slice a3 ((words v.num.natAbs).length) ac3, .slice a4 ((words v.den).length) ac4])] [(u4, words y.den), (u3, words y.num.natAbs), (u2, words x.den), (u1, words x.num.natAbs), (a4, words v.den), (a3, words v.num.natAbs), (a2, words u.den), (a1, words u.num.natAbs)] []) (by kernel_rfl) ?_
  replace hS := hS.drew
  refine any_take hA 0 rfl rfl rfl rfl (by kernel_rfl) (by kernel_rfl) (by kernel_rfl) (fun c a w h => hP c a _ _ w h) (hS.partD (.cons _ (.cons_cons _ (.cons_cons _ .slnil))) 0 rfl (.refl _)) (fun w1 hS => does_move rfl) ?_
  intro a hA
  refine any_take (v := .agg #[.bool (rb u.num), .slice a1 ((words u.num.natAbs).length) ac1, .slice a2 ((words u.den).length) ac2, .bool (rb v.num), .slice a3 ((words v.num.natAbs).length) ac3, .slice a4 ((words v.den).length) ac4]) hA 1 rfl rfl rfl rfl (by kernel_rfl) (by kernel_rfl) (by kernel_rfl) (fun c a w h => hP c a _ _ w h) (hS.partD (.cons _ (.cons_cons _ (.cons_cons _ .slnil))) 0 rfl (.refl _)) (fun w1 hS => does_loadS hS ExL_isS_26 rfl 1 rfl (cs := [.bool (rb u.num), .slice a1 ((words u.num.natAbs).length) ac1, .slice a2 ((words u.den).length) ac2, .bool (rb v.num), .slice a3 ((words v.num.natAbs).length) ac3, .slice a4 ((words v.den).length) ac4]) rfl rfl) ?_
  intro a hA
  refine any_take (v := .agg #[.bool (rb x.num), .slice u1 ((words x.num.natAbs).length) uc1, .slice u2 ((words x.den).length) uc2, .bool (rb y.num), .slice u3 ((words y.num.natAbs).length) uc3, .slice u4 ((words y.den).length) uc4]) hA 3 rfl rfl rfl rfl (by kernel_rfl) (by kernel_rfl) (by kernel_rfl) (fun c a w h => hP c a _ _ w h) (hS.partD (.cons _ (.cons_cons _ (.cons_cons _ .slnil))) 0 rfl (.refl _)) (fun w1 hS => does_loadS hS ExL_isS_26 rfl 0 rfl (cs := [.bool (rb x.num), .slice u1 ((words x.num.natAbs).length) uc1, .slice u2 ((words x.den).length) uc2, .bool (rb y.num), .slice u3 ((words y.num.natAbs).length) uc3, .slice u4 ((words y.den).length) uc4]) rfl rfl) ?_
  intro a hA
  refine any_one (by kernel_rfl) (op_call hA 2 rfl rfl rfl rfl (enters_func  rfl rfl (fun w => by kernel_rfl)) (zspread_any (show Nm _ (Q6.rat u v) a1 ac1 a2 ac2 a3 ac3 a4 ac4 from ⟨⟨(hS.rd 7 rfl), ha.s1.nil, ha.s1.cap⟩, ⟨(hS.rd 6 rfl), ha.s2.nil, ha.s2.cap⟩, ⟨(hS.rd 5 rfl), ha.s3.nil, ha.s3.cap⟩, ⟨(hS.rd 4 rfl), ha.s4.nil, ha.s4.cap⟩⟩) hu hv) ?_)
  rintro _ w20 ⟨p15_1, p15_c1, p15_2, p15_c2, p15_3, p15_c3, rfl, hs16, hs17, hs18, hb19⟩
  replace hS := hS.call hb19
  replace hS := hS.addR hs16.rd
  replace hS := hS.addR hs17.rd
  replace hS := hS.addR hs18.rd
  refine ⟨_, rfl, (hS.partD (.cons _ (.cons_cons _ (.cons_cons _ .slnil))) 3 rfl (.refl _)), ?_⟩
  intro a hA
  refine any_one (by kernel_rfl) (op_call hA 4 rfl rfl rfl rfl (enters_func  rfl rfl (fun w => by kernel_rfl)) (zspread_any (show Nm _ (Q6.rat x y) u1 uc1 u2 uc2 u3 uc3 u4 uc4 from ⟨⟨(hS.rd 6 rfl), hb.s1.nil, hb.s1.cap⟩, ⟨(hS.rd 5 rfl), hb.s2.nil, hb.s2.cap⟩, ⟨(hS.rd 4 rfl), hb.s3.nil, hb.s3.cap⟩, ⟨(hS.rd 3 rfl), hb.s4.nil, hb.s4.cap⟩⟩) hx hy) ?_)
  rintro _ w26 ⟨p21_1, p21_c1, p21_2, p21_c2, p21_3, p21_c3, rfl, hs22, hs23, hs24, hb25⟩
  replace hS := hS.call hb25
  replace hS := hS.addR hs22.rd
  replace hS := hS.addR hs23.rd
  replace hS := hS.addR hs24.rd
  refine ⟨_, rfl, (hS.partD (.cons _ (.cons_cons _ (.cons_cons _ .slnil))) 6 rfl (.refl _)), ?_⟩
  intro a hA
  refine any_one (by kernel_rfl) (op_call hA 5 rfl rfl rfl rfl (enters_func  rfl rfl (fun w => by kernel_rfl)) (zdiff_any ⟨(hS.rd 5 rfl), hs16.nil, hs16.cap⟩ ⟨(hS.rd 4 rfl), hs17.nil, hs17.cap⟩ ⟨(hS.rd 3 rfl), hs18.nil, hs18.cap⟩ ⟨(hS.rd 2 rfl), hs22.nil, hs22.cap⟩ ⟨(hS.rd 1 rfl), hs23.nil, hs23.cap⟩ ⟨(hS.rd 0 rfl), hs24.nil, hs24.cap⟩ (Nat.le_trans (spX_len hu hv) (by decide)) (Nat.le_trans (spY_len hu hv) (by decide)) (Nat.le_trans (spD_len hu hv) (by decide)) (Nat.le_trans (spX_len hx hy) (by decide)) (Nat.le_trans (spY_len hx hy) (by decide)) (Nat.le_trans (spD_len hx hy) (by decide))) ?_)
  rintro _ w32 ⟨p27_1, p27_c1, p27_2, p27_c2, p27_3, p27_c3, rfl, hs28, hs29, hs30, hb31⟩
  replace hS := hS.call hb31
  replace hS := hS.addR hs28.rd
  replace hS := hS.addR hs29.rd
  replace hS := hS.addR hs30.rd
  refine ⟨_, rfl, (hS.partD (.cons _ (.cons_cons _ (.cons_cons _ .slnil))) 9 rfl (.refl _)), ?_⟩
  intro a hA
  refine any_one (by kernel_rfl) (op_call hA 6 rfl rfl rfl rfl (enters_func  rfl rfl (fun w => by kernel_rfl)) (zsettle_as ⟨(hS.rd 2 rfl), hs28.nil, hs28.cap⟩ ⟨(hS.rd 1 rfl), hs29.nil, hs29.cap⟩ ⟨(hS.rd 0 rfl), hs30.nil, hs30.cap⟩ (set_sub (spD_ne u v) (spD_ne x y) (spX_mk u v) (spY_mk u v) (spX_mk x y) (spY_mk x y)) (Nat.le_trans (abs_add_len (abs_mul_len (spX_len hu hv) (nat_abs_len (spD_len hx hy))) (abs_mul_len (neg_len (spX_len hx hy)) (nat_abs_len (spD_len hu hv)))) (by decide)) (Nat.le_trans (abs_add_len (abs_mul_len (spY_len hu hv) (nat_abs_len (spD_len hx hy))) (abs_mul_len (neg_len (spY_len hx hy)) (nat_abs_len (spD_len hu hv)))) (by decide)) (Nat.le_trans (words_mul_length (spD_len hu hv) (spD_len hx hy)) (by decide)) (Nat.mul_ne_zero (spD_ne u v) (spD_ne x y))) ?_)
  rintro _ w36 ⟨p33_1, p33_c1, p33_2, p33_c2, p33_3, p33_c3, p33_4, p33_c4, rfl, hn34, hb35⟩
  replace hS := hS.call hb35
  replace hS := hS.addR hn34.s1.rd
  replace hS := hS.addR hn34.s2.rd
  replace hS := hS.addR hn34.s3.rd
  replace hS := hS.addR hn34.s4.rd
  refine ⟨_, rfl, (hS.partD (.cons _ (.cons_cons _ (.cons_cons _ .slnil))) 13 rfl (.refl _)), ?_⟩
  intro a hA
  refine any_take (v := .agg #[.bool ((ratS (u - x) (v - y)).1.b1), .slice p33_1 (((ratS (u - x) (v - y)).1.t1).length) p33_c1, .slice p33_2 (((ratS (u - x) (v - y)).1.q1).length) p33_c2, .bool ((ratS (u - x) (v - y)).1.b2), .slice p33_3 (((ratS (u - x) (v - y)).1.t2).length) p33_c3, .slice p33_4 (((ratS (u - x) (v - y)).1.q2).length) p33_c4]) hA 7 rfl rfl rfl rfl (by kernel_rfl) (by kernel_rfl) (by kernel_rfl) (fun c a w h => hP c a _ _ w h) (hS.partD (.cons _ (.cons_cons _ (.cons_cons _ .slnil))) 13 rfl (.refl _)) (fun w1 hS => does_extract (vs := [.agg #[.bool ((ratS (u - x) (v - y)).1.b1), .slice p33_1 (((ratS (u - x) (v - y)).1.t1).length) p33_c1, .slice p33_2 (((ratS (u - x) (v - y)).1.q1).length) p33_c2, .bool ((ratS (u - x) (v - y)).1.b2), .slice p33_3 (((ratS (u - x) (v - y)).1.t2).length) p33_c3, .slice p33_4 (((ratS (u - x) (v - y)).1.q2).length) p33_c4], .int .i64 ((ratS (u - x) (v - y)).2)]) rfl rfl) ?_
  intro a hA
  refine any_take (v := .int .i64 ((ratS (u - x) (v - y)).2)) hA 8 rfl rfl rfl rfl (by kernel_rfl) (by kernel_rfl) (by kernel_rfl) (fun c a w h => hP c a _ _ w h) (hS.partD (.cons _ (.cons_cons _ (.cons_cons _ .slnil))) 13 rfl (.refl _)) (fun w1 hS => does_extract (vs := [.agg #[.bool ((ratS (u - x) (v - y)).1.b1), .slice p33_1 (((ratS (u - x) (v - y)).1.t1).length) p33_c1, .slice p33_2 (((ratS (u - x) (v - y)).1.q1).length) p33_c2, .bool ((ratS (u - x) (v - y)).1.b2), .slice p33_3 (((ratS (u - x) (v - y)).1.t2).length) p33_c3, .slice p33_4 (((ratS (u - x) (v - y)).1.q2).length) p33_c4], .int .i64 ((ratS (u - x) (v - y)).2)]) rfl rfl) ?_
  intro a hA
  refine any_one (by kernel_rfl) (op_store (us := [.bool ((ratS (u - x) (v - y)).1.b1), .slice p33_1 (((ratS (u - x) (v - y)).1.t1).length) p33_c1, .slice p33_2 (((ratS (u - x) (v - y)).1.q1).length) p33_c2, .bool ((ratS (u - x) (v - y)).1.b2), .slice p33_3 (((ratS (u - x) (v - y)).1.t2).length) p33_c3, .slice p33_4 (((ratS (u - x) (v - y)).1.q2).length) p33_c4]) hA hS 9 rfl rfl rfl (sets_store (cs := [.bool ((ratS (u - x) (v - y)).1.b1), .slice p33_1 (((ratS (u - x) (v - y)).1.t1).length) p33_c1, .slice p33_2 (((ratS (u - x) (v - y)).1.q1).length) p33_c2, .bool ((ratS (u - x) (v - y)).1.b2), .slice p33_3 (((ratS (u - x) (v - y)).1.t2).length) p33_c3, .slice p33_4 (((ratS (u - x) (v - y)).1.q2).length) p33_c4]) rfl rfl rfl (by kernel_rfl) hS 0 rfl rfl rfl) 0 rfl rfl rfl rfl ?_)
  intro w37 hS
  refine ⟨(hS.partD (.cons _ (.cons_cons _ (.cons_cons _ .slnil))) 13 rfl (.refl _)), ?_⟩
  refine any_take hA 10 rfl rfl rfl rfl (by kernel_rfl) (by kernel_rfl) (by kernel_rfl) (fun c a w h => hP c a _ _ w h) (hS.partD (.cons _ (.cons_cons _ (.cons_cons _ .slnil))) 13 rfl (.refl _)) (fun w1 hS => does_assign rfl) ?_
  intro a hA
  refine any_end (by kernel_rfl) ?_
  refine hK14 _ _ ?_
  refine wp_ret ?_
  refine hret _ _ ?_
  refine ends (v := .tuple #[.agg #[.bool ((ratS (u - x) (v - y)).1.b1), .slice p33_1 (((ratS (u - x) (v - y)).1.t1).length) p33_c1, .slice p33_2 (((ratS (u - x) (v - y)).1.q1).length) p33_c2, .bool ((ratS (u - x) (v - y)).1.b2), .slice p33_3 (((ratS (u - x) (v - y)).1.t2).length) p33_c3, .slice p33_4 (((ratS (u - x) (v - y)).1.q2).length) p33_c4], .int .i64 ((ratS (u - x) (v - y)).2)]) hA rfl (.cons (res_cell hS ExL_isS_26 rfl 0 rfl (cs := [.bool ((ratS (u - x) (v - y)).1.b1), .slice p33_1 (((ratS (u - x) (v - y)).1.t1).length) p33_c1, .slice p33_2 (((ratS (u - x) (v - y)).1.q1).length) p33_c2, .bool ((ratS (u - x) (v - y)).1.b2), .slice p33_3 (((ratS (u - x) (v - y)).1.t2).length) p33_c3, .slice p33_4 (((ratS (u - x) (v - y)).1.q2).length) p33_c4]) rfl rfl) (.cons (res_tmp rfl) .nil)) rfl ?_
  exact ⟨p33_1, p33_c1, p33_2, p33_c2, p33_3, p33_c3, p33_4, p33_c4, rfl, ⟨⟨(hS.rd 3 rfl), hn34.s1.nil, hn34.s1.cap⟩, ⟨(hS.rd 2 rfl), hn34.s2.nil, hn34.s2.cap⟩, ⟨(hS.rd 1 rfl), hn34.s3.nil, hn34.s3.cap⟩, ⟨(hS.rd 0 rfl), hn34.s4.nil, hn34.s4.cap⟩⟩, hS.bel⟩
theorem reckonSQ_any {w : World} {p q : Q6} {a1 a2 a3 a4 : Option Addr} {ac1 ac2 ac3 ac4 : Nat} (ha : Nm w p a1 ac1 a2 ac2 a3 ac3 a4 ac4) (hl : LenQ p) {u1 u2 u3 u4 : Option Addr} {uc1 uc2 uc3 uc4 : Nat} (hb : Nm w q u1 uc1 u2 uc2 u3 uc3 u4 uc4) (hm : LenQ q) : Calls Try.prog 30 #[.func (.func 39) #[] #[], numV p a1 ac1 a2 ac2 a3 ac3 a4 ac4, numV q u1 uc1 u2 uc2 u3 uc3 u4 uc4] w (AnsN w (subQ p q)) := by
  rcases sound_cases ha with h1 | ⟨u, v, rfl, hu, hv⟩
  · rw [show subQ p q = (Q6.zero, 2) from if_neg (fun k => by rw [h1] at k; cases k.1)]
    exact reckonE1_any ha hl hb hm h1
  · rcases sound_cases hb with h2 | ⟨x, y, rfl, hx, hy⟩
    · rw [show subQ _ q = (Q6.zero, 2) from if_neg (fun k => by rw [h2] at k; cases k.2)]
      exact reckonE2_any ha hl hb hm (soundQ_rat hu hv) h2
    · rw [subQ_rat hu hv hx hy]
      exact reckonS_any ha hb hu hv hx hy
theorem subQ_any {w : World} {p q : Q6} {a1 a2 a3 a4 : Option Addr} {ac1 ac2 ac3 ac4 : Nat} (ha : Nm w p a1 ac1 a2 ac2 a3 ac3 a4 ac4) (hl : LenQ p) {u1 u2 u3 u4 : Option Addr} {uc1 uc2 uc3 uc4 : Nat} (hb : Nm w q u1 uc1 u2 uc2 u3 uc3 u4 uc4) (hm : LenQ q) : Calls Try.prog 14 #[numV p a1 ac1 a2 ac2 a3 ac3 a4 ac4, numV q u1 uc1 u2 uc2 u3 uc3 u4 uc4] w (AnsN w (subQ p q)) := by
  have hS : St w w [] [(u4, q.q2), (u3, q.t2), (u2, q.q1), (u1, q.t1), (a4, p.q2), (a3, p.t2), (a2, p.q1), (a1, p.t1)] [] := ((((((((St.start w).addR ha.s1.rd).addR ha.s2.rd).addR ha.s3.rd).addR ha.s4.rd).addR hb.s1.rd).addR hb.s2.rd).addR hb.s3.rd).addR hb.s4.rd
  refine walk_of (l := [(0, .agg #[.bool p.b1, .slice a1 p.t1.length ac1, .slice a2 p.q1.length ac2, .bool p.b2, .slice a3 p.t2.length ac3, .slice a4 p.q2.length ac4]), (1, .agg #[.bool q.b1, .slice u1 q.t1.length uc1, .slice u2 q.q1.length uc2, .bool q.b2, .slice u3 q.t2.length uc3, .slice u4 q.q2.length uc4])]) Try.func14 rfl Try.ntmps14 rfl rfl ?_
  intro Q hret hnorm hP a hA
  refine wp_seq_k (fun K1 hK1 => ?_)
  refine wp_region_lit ?_
  refine seq_new (vs := [.bool p.b1, .slice a1 p.t1.length ac1, .slice a2 p.q1.length ac2, .bool p.b2, .slice a3 p.t2.length ac3, .slice a4 p.q2.length ac4]) (t := 26) hA hS rfl rfl rfl (fun g => .pointer (some ⟨g, 0, none⟩)) (does_box rfl rfl) rfl ?_
  intro g2 w3 hS a hA
  refine seq_new (vs := [.bool q.b1, .slice u1 q.t1.length uc1, .slice u2 q.q1.length uc2, .bool q.b2, .slice u3 q.t2.length uc3, .slice u4 q.q2.length uc4]) (t := 26) hA hS rfl rfl rfl (fun g => .pointer (some ⟨g, 0, none⟩)) (does_box rfl rfl) rfl ?_
  intro g4 w5 hS a hA
  refine seq_new (vs := [.bool false, .slice none 0 0, .slice none 0 0, .bool false, .slice none 0 0, .slice none 0 0]) (t := 26) hA hS rfl rfl rfl (fun g => .pointer (some ⟨g, 0, none⟩)) (does_alloc (z := .agg #[.bool false, .slice none 0 0, .slice none 0 0, .bool false, .slice none 0 0, .slice none 0 0]) (by kernel_rfl) rfl) rfl ?_
  intro g6 w7 hS a hA
  refine seq_do hA rfl rfl rfl (does_assign rfl) ?_
  intro a hA
  refine seq_end ?_
  refine hK1 _ _ ?_
  refine wp_seq_k (fun K8 hK8 => ?_)
  refine wp_region_lit ?_
  refine seq_do (v := .agg #[.bool p.b1, .slice a1 p.t1.length ac1, .slice a2 p.q1.length ac2, .bool p.b2, .slice a3 p.t2.length ac3, .slice a4 p.q2.length ac4]) hA rfl rfl rfl (does_loadS hS ExL_isS_26 rfl 2 rfl (cs := [.bool p.b1, .slice a1 p.t1.length ac1, .slice a2 p.q1.length ac2, .bool p.b2, .slice a3 p.t2.length ac3, .slice a4 p.q2.length ac4]) rfl rfl) ?_
  intro a hA
  refine seq_do (v := .agg #[.bool q.b1, .slice u1 q.t1.length uc1, .slice u2 q.q1.length uc2, .bool q.b2, .slice u3 q.t2.length uc3, .slice u4 q.q2.length uc4]) hA rfl rfl rfl (does_loadS hS ExL_isS_26 rfl 1 rfl (cs := [.bool q.b1, .slice u1 q.t1.length uc1, .slice u2 q.q1.length uc2, .bool q.b2, .slice u3 q.t2.length uc3, .slice u4 q.q2.length uc4]) rfl rfl) ?_
  intro a hA
  refine seq_call hA rfl rfl rfl (enters_func  rfl rfl (fun w => by kernel_rfl)) (reckonSQ_any (show Nm _ p a1 ac1 a2 ac2 a3 ac3 a4 ac4 from ⟨⟨(hS.rd 7 rfl), ha.s1.nil, ha.s1.cap⟩, ⟨(hS.rd 6 rfl), ha.s2.nil, ha.s2.cap⟩, ⟨(hS.rd 5 rfl), ha.s3.nil, ha.s3.cap⟩, ⟨(hS.rd 4 rfl), ha.s4.nil, ha.s4.cap⟩⟩) hl (show Nm _ q u1 uc1 u2 uc2 u3 uc3 u4 uc4 from ⟨⟨(hS.rd 3 rfl), hb.s1.nil, hb.s1.cap⟩, ⟨(hS.rd 2 rfl), hb.s2.nil, hb.s2.cap⟩, ⟨(hS.rd 1 rfl), hb.s3.nil, hb.s3.cap⟩, ⟨(hS.rd 0 rfl), hb.s4.nil, hb.s4.cap⟩⟩) hm) ?_
  rintro _ w12 ⟨p9_1, p9_c1, p9_2, p9_c2, p9_3, p9_c3, p9_4, p9_c4, rfl, hn10, hb11⟩
  replace hS := hS.call hb11
  replace hS := hS.addR hn10.s1.rd
  replace hS := hS.addR hn10.s2.rd
  replace hS := hS.addR hn10.s3.rd
  replace hS := hS.addR hn10.s4.rd
  refine ⟨_, rfl, ?_⟩
  intro a hA
  refine seq_do (v := .agg #[.bool ((subQ p q).1.b1), .slice p9_1 (((subQ p q).1.t1).length) p9_c1, .slice p9_2 (((subQ p q).1.q1).length) p9_c2, .bool ((subQ p q).1.b2), .slice p9_3 (((subQ p q).1.t2).length) p9_c3, .slice p9_4 (((subQ p q).1.q2).length) p9_c4]) hA rfl rfl rfl (does_extract (vs := [.agg #[.bool ((subQ p q).1.b1), .slice p9_1 (((subQ p q).1.t1).length) p9_c1, .slice p9_2 (((subQ p q).1.q1).length) p9_c2, .bool ((subQ p q).1.b2), .slice p9_3 (((subQ p q).1.t2).length) p9_c3, .slice p9_4 (((subQ p q).1.q2).length) p9_c4], .int .i64 ((subQ p q).2)]) rfl rfl) ?_
  intro a hA
  refine seq_do (v := .int .i64 ((subQ p q).2)) hA rfl rfl rfl (does_extract (vs := [.agg #[.bool ((subQ p q).1.b1), .slice p9_1 (((subQ p q).1.t1).length) p9_c1, .slice p9_2 (((subQ p q).1.q1).length) p9_c2, .bool ((subQ p q).1.b2), .slice p9_3 (((subQ p q).1.t2).length) p9_c3, .slice p9_4 (((subQ p q).1.q2).length) p9_c4], .int .i64 ((subQ p q).2)]) rfl rfl) ?_
  intro a hA
  refine seq_store (us := [.bool ((subQ p q).1.b1), .slice p9_1 (((subQ p q).1.t1).length) p9_c1, .slice p9_2 (((subQ p q).1.q1).length) p9_c2, .bool ((subQ p q).1.b2), .slice p9_3 (((subQ p q).1.t2).length) p9_c3, .slice p9_4 (((subQ p q).1.q2).length) p9_c4]) hA hS rfl rfl (sets_store (cs := [.bool ((subQ p q).1.b1), .slice p9_1 (((subQ p q).1.t1).length) p9_c1, .slice p9_2 (((subQ p q).1.q1).length) p9_c2, .bool ((subQ p q).1.b2), .slice p9_3 (((subQ p q).1.t2).length) p9_c3, .slice p9_4 (((subQ p q).1.q2).length) p9_c4]) rfl rfl rfl (by kernel_rfl) hS 0 rfl rfl rfl) 0 rfl rfl rfl rfl ?_
  intro w13 hS
  refine seq_do hA rfl rfl rfl (does_assign rfl) ?_
  intro a hA
  refine seq_end ?_
  refine hK8 _ _ ?_
  refine wp_ret ?_
  refine hret _ _ ?_
  refine ends (v := .tuple #[.agg #[.bool ((subQ p q).1.b1), .slice p9_1 (((subQ p q).1.t1).length) p9_c1, .slice p9_2 (((subQ p q).1.q1).length) p9_c2, .bool ((subQ p q).1.b2), .slice p9_3 (((subQ p q).1.t2).length) p9_c3, .slice p9_4 (((subQ p q).1.q2).length) p9_c4], .int .i64 ((subQ p q).2)]) hA rfl (.cons (res_cell hS ExL_isS_26 rfl 0 rfl (cs := [.bool ((subQ p q).1.b1), .slice p9_1 (((subQ p q).1.t1).length) p9_c1, .slice p9_2 (((subQ p q).1.q1).length) p9_c2, .bool ((subQ p q).1.b2), .slice p9_3 (((subQ p q).1.t2).length) p9_c3, .slice p9_4 (((subQ p q).1.q2).length) p9_c4]) rfl rfl) (.cons (res_tmp rfl) .nil)) rfl ?_
  exact ⟨p9_1, p9_c1, p9_2, p9_c2, p9_3, p9_c3, p9_4, p9_c4, rfl, ⟨⟨(hS.rd 3 rfl), hn10.s1.nil, hn10.s1.cap⟩, ⟨(hS.rd 2 rfl), hn10.s2.nil, hn10.s2.cap⟩, ⟨(hS.rd 1 rfl), hn10.s3.nil, hn10.s3.cap⟩, ⟨(hS.rd 0 rfl), hn10.s4.nil, hn10.s4.cap⟩⟩, hS.bel⟩
end Go.Proofs.Ytmibkfihcihphaa
namespace Go.Proofs.Ytmibkfihcihphaa
open Go.RowKit
set_option linter.unusedVariables false
set_option linter.unusedSimpArgs false
section
variable {P : Program} {t : TypeId} {x y : Operand} {a b : ByteArray}
end
/-- An operation whose guard was passed over itself. -/
def staysU (l : List (Nat × Value)) (ops : List Oper) (o : Oper) : Bool :=
  match o.guard with
  | none => false
  | some (j, b) => match ops[j]? with
    | some oj => match oj.dst with
      | some d => match look l d with
        | some (.bool _) => false
        | some _ => true
        | none => false
      | none => false
    | none => false
section
variable {P : Program} {ops : List Oper} {Q : Exit → Act → World → Prop} {a : Act} {w w' : World} {n : Nat} {l : List (Nat × Value)} {o : Oper} {v : Value} {rest : List Oper}
theorem Sl.unwantedU (h : Sl a n l) (hp : staysU l ops o = true) : Region.wanted o (yielded ops.toArray a.tmps) = false := by
  unfold Region.wanted
  unfold staysU at hp
  split at hp
  · cases hp
  · rename_i j b hg
    rw [hg]
    split at hp
    · rename_i oj hj
      split at hp
      · rename_i d hd
        split at hp
        · cases hp
        · rename_i v' hb hv
          have := h.holds d _ hv
          cases v' <;> first | (exact absurd rfl (hb _)) | simp [yielded, hj, hd, this]
        · cases hp
      · cases hp
    · cases hp
theorem seq_skipU (hA : Sl a n l) (hg : staysU l ops o = true) {d : Nat} (hdst : o.dst = some d) (hd : Nat.blt d n = true)
    (hk : ∀ a', Sl a' n ((d, undef) :: l) → wpList P ops.toArray Q rest a' w) : wpList P ops.toArray Q (o :: rest) a w := by
  unfold wpList
  rw [hA.unwantedU hg, if_neg (by simp), hdst]
  exact hk _ (hA.put hd undef)
end
theorem rat_whole {b : Bool} {x : Nat} (h : b.toNat ≤ x) : Q6.whole b x = Q6.rat ((sgn b x : Int) : Rat) 0 := by
  unfold Q6.whole Q6.rat
  rw [Rat.num_intCast, Rat.den_intCast, sgn_abs, words_one, show (0 : Rat).num = 0 from rfl, show (0 : Rat).den = 1 from rfl, words_one, show Int.natAbs 0 = 0 from rfl, words_zero, show rb 0 = false from rfl]
  have e : rb (sgn b x) = b := by
    unfold rb
    rw [sgn_neg]
    cases b with
    | false => rfl
    | true => simp at h; simp; omega
  rw [e]
theorem fitR_whole {b : Bool} {x : Nat} (h : (words x).length ≤ 512) : fitR ((sgn b x : Int) : Rat) := by
  unfold fitR
  rw [Rat.num_intCast, Rat.den_intCast, sgn_abs]
  exact ⟨h, one_len⟩
theorem fitR_zero : fitR 0 := by
  unfold fitR
  rw [show (0 : Rat).num = 0 from rfl, show (0 : Rat).den = 1 from rfl, show Int.natAbs 0 = 0 from rfl, words_zero]
  exact ⟨by decide, one_len⟩
end Go.Proofs.Ytmibkfihcihphaa
namespace Go.Proofs.Ytmibkfihcihphaa
open Go.RowKit
set_option linter.unusedVariables false
set_option linter.unusedSimpArgs false
set_option maxRecDepth 100000
end Go.Proofs.Ytmibkfihcihphaa
namespace Go.Proofs.Ytmibkfihcihphaa
open Go.RowKit
set_option linter.unusedVariables false
set_option linter.unusedSimpArgs false
theorem bne0 {x : Int} (h : (x != 0) = false) : x = 0 := by simpa using h
theorem ratS_ok {u v : Rat} (h : (ratS u v).2 = 0) : ratS u v = (Q6.rat u v, 0) ∧ fitR u ∧ fitR v := by
  unfold ratS at *
  by_cases k : fitR u ∧ fitR v
  · rw [if_pos k]; exact ⟨rfl, k⟩
  · rw [if_neg k] at h; exact absurd h (by decide)
end Go.Proofs.Ytmibkfihcihphaa
namespace Go.Proofs.Ytmibkfihcihphaa
open Go.RowKit
set_option linter.unusedVariables false
set_option linter.unusedSimpArgs false
set_option maxRecDepth 100000

theorem addQ_as {w : World} {p q : Q6} {a1 a2 a3 a4 : Option Addr} {ac1 ac2 ac3 ac4 : Nat} (ha : Nm w p a1 ac1 a2 ac2 a3 ac3 a4 ac4) (hl : LenQ p) {u1 u2 u3 u4 : Option Addr} {uc1 uc2 uc3 uc4 : Nat} (hb : Nm w q u1 uc1 u2 uc2 u3 uc3 u4 uc4) (hm : LenQ q) {z : Q6 × Int} (hz : addQ p q = z) : Calls Try.prog 9 #[numV p a1 ac1 a2 ac2 a3 ac3 a4 ac4, numV q u1 uc1 u2 uc2 u3 uc3 u4 uc4] w (AnsN w z) := hz ▸ addQ_any ha hl hb hm
theorem subQ_as {w : World} {p q : Q6} {a1 a2 a3 a4 : Option Addr} {ac1 ac2 ac3 ac4 : Nat} (ha : Nm w p a1 ac1 a2 ac2 a3 ac3 a4 ac4) (hl : LenQ p) {u1 u2 u3 u4 : Option Addr} {uc1 uc2 uc3 uc4 : Nat} (hb : Nm w q u1 uc1 u2 uc2 u3 uc3 u4 uc4) (hm : LenQ q) {z : Q6 × Int} (hz : subQ p q = z) : Calls Try.prog 14 #[numV p a1 ac1 a2 ac2 a3 ac3 a4 ac4, numV q u1 uc1 u2 uc2 u3 uc3 u4 uc4] w (AnsN w z) := hz ▸ subQ_any ha hl hb hm
end Go.Proofs.Ytmibkfihcihphaa
namespace Go.Proofs.Ytmibkfihcihphaa
open Go.RowKit
set_option linter.unusedVariables false
set_option linter.unusedSimpArgs false

end Go.Proofs.Ytmibkfihcihphaa
namespace Go.Proofs.Ytmibkfihcihphaa
open Go.RowKit
set_option linter.unusedVariables false
set_option linter.unusedSimpArgs false
set_option maxRecDepth 100000


end Go.Proofs.Ytmibkfihcihphaa
namespace Go.Proofs.Ytmibkfihcihphaa
open Go.RowKit
set_option linter.unusedVariables false
set_option linter.unusedSimpArgs false
set_option maxRecDepth 100000


end Go.Proofs.Ytmibkfihcihphaa
namespace Go.Proofs.Ytmibkfihcihphaa
open Go.RowKit
set_option linter.unusedVariables false
set_option linter.unusedSimpArgs false

/-- The size of -a - 1. -/
def turnN (b : Bool) (x : Nat) : Nat := cond b (x - 1) (x + 1)
theorem want1_cases (q : Q6) : (want1 q = 0 ∧ wholeQ q = true) ∨ ((want1 q != 0) = true ∧ wholeQ q = false) := by
  unfold want1
  cases h1 : soundQ q with
  | false =>
    refine .inr ⟨by simp, ?_⟩
    unfold wholeQ
    rw [h1]
    rfl
  | true =>
    cases h2 : wholeQ q with
    | false => exact .inr ⟨by simp, rfl⟩
    | true => exact .inl ⟨by simp, rfl⟩
end Go.Proofs.Ytmibkfihcihphaa
namespace Go.Proofs.Ytmibkfihcihphaa
open Go.RowKit
set_option linter.unusedVariables false
set_option linter.unusedSimpArgs false
set_option maxRecDepth 100000
end Go.Proofs.Ytmibkfihcihphaa
namespace Go.Proofs.Ytmibkfihcihphaa
open Go.RowKit
set_option linter.unusedVariables false
set_option linter.unusedSimpArgs false

def notQ (q : Q6) : Q6 × Int := if want1 q = 0 then bigS (!q.b1) (turnN q.b1 (val q.t1)) else (Q6.zero, want1 q)
theorem notQ_err {q : Q6} (h : (want1 q != 0) = true) : notQ q = (Q6.zero, want1 q) := by unfold notQ; rw [if_neg (bne_iff_ne.1 h)]
theorem notQ_whole {b : Bool} {x : Nat} (h : want1 (Q6.whole b x) = 0) : notQ (Q6.whole b x) = bigS (!b) (turnN b x) := by
  unfold notQ; rw [if_pos h]; simp only [Q6.whole, val_words]
theorem turn_sum {b : Bool} {x : Nat} (hb : b.toNat ≤ x) : x - b.toNat + (!b).toNat = turnN b x := by cases b <;> simp [turnN]
end Go.Proofs.Ytmibkfihcihphaa
namespace Go.Proofs.Ytmibkfihcihphaa
open Go.RowKit
set_option linter.unusedVariables false
set_option linter.unusedSimpArgs false
set_option maxRecDepth 100000


end Go.Proofs.Ytmibkfihcihphaa
namespace Go.Proofs.Ytmibkfihcihphaa
open Go.RowKit
set_option linter.unusedVariables false
set_option linter.unusedSimpArgs false

section
variable {P : Program} {l : List (Nat × Value)} {dst : Option Tmp} {ty t : TypeId} {pos : String} {after : Array Edge} {guard : Option (Nat × Bool)} {w : World} {x y : Operand}
end
end Go.Proofs.Ytmibkfihcihphaa
namespace Go.Proofs.Ytmibkfihcihphaa
open Go.RowKit
set_option linter.unusedVariables false
set_option linter.unusedSimpArgs false
set_option maxRecDepth 100000


end Go.Proofs.Ytmibkfihcihphaa
namespace Go.Proofs.Ytmibkfihcihphaa
open Go.RowKit
set_option linter.unusedVariables false
set_option linter.unusedSimpArgs false

/-- The word at i of a row without end. -/
def rwd (b : Bool) (y i : Nat) : Nat := (y / pw i % 4294967296) ^^^ (b.toNat * 4294967295)
theorem ends_lt (b : Bool) : b.toNat * 4294967295 < 4294967296 := by cases b <;> decide
theorem rwd_lt (b : Bool) (y i : Nat) : rwd b y i < 4294967296 := Nat.xor_lt_two_pow (n := 32) (Nat.mod_lt _ (by decide)) (ends_lt b)
theorem rwd_end {b : Bool} {y i : Nat} (h : (words y).length ≤ i) : rwd b y i = b.toNat * 4294967295 := by
  unfold rwd
  rw [div_words_length y i h, Nat.zero_mod, Nat.zero_xor]
/-- An operation on words, and what it makes of signs. -/
structure BOp (fop : Nat → Nat → Nat) (fb : Bool → Bool → Bool) : Prop where
  lt : ∀ x y, x < 4294967296 → y < 4294967296 → fop x y < 4294967296
  ends : ∀ b c, fop (b.toNat * 4294967295) (c.toNat * 4294967295) = (fb b c).toNat * 4294967295
def outW (fop : Nat → Nat → Nat) (fb : Bool → Bool → Bool) (b1 : Bool) (y1 : Nat) (b2 : Bool) (y2 i : Nat) : Nat := fop (rwd b1 y1 i) (rwd b2 y2 i) ^^^ ((fb b1 b2).toNat * 4294967295)
section
variable {fop : Nat → Nat → Nat} {fb : Bool → Bool → Bool} {b1 b2 : Bool} {y1 y2 : Nat}
theorem outW_lt (h : BOp fop fb) (i : Nat) : outW fop fb b1 y1 b2 y2 i < 4294967296 := Nat.xor_lt_two_pow (n := 32) (h.lt _ _ (rwd_lt _ _ _) (rwd_lt _ _ _)) (ends_lt _)
def outL (fop : Nat → Nat → Nat) (fb : Bool → Bool → Bool) (b1 : Bool) (y1 : Nat) (b2 : Bool) (y2 N : Nat) : List Nat := (List.range N).map (outW fop fb b1 y1 b2 y2)
theorem outL_len (N : Nat) : (outL fop fb b1 y1 b2 y2 N).length = N := by simp [outL]
theorem outL_get {N i : Nat} (h : i < N) : (outL fop fb b1 y1 b2 y2 N).getD i 0 = outW fop fb b1 y1 b2 y2 i := by simp [outL, h]
theorem outL_dig (h : BOp fop fb) (N : Nat) : Dig (outL fop fb b1 y1 b2 y2 N) := by
  intro x hx
  obtain ⟨i, _, rfl⟩ := List.mem_map.1 hx
  exact outW_lt h i
end
/-- The size of what two rows are put together to, without the last one of a number below 0. -/
def putY (fop : Nat → Nat → Nat) (fb : Bool → Bool → Bool) (b1 : Bool) (y1 : Nat) (b2 : Bool) (y2 : Nat) : Nat := val (outL fop fb b1 y1 b2 y2 (max (words y1).length (words y2).length))
theorem and_op : BOp (fun x y => x &&& y) (fun b c => b && c) := ⟨fun x y hx _ => Nat.lt_of_le_of_lt Nat.and_le_left hx, by intro b c; cases b <;> cases c <;> decide⟩
theorem or_op : BOp (fun x y => x ||| y) (fun b c => b || c) := ⟨fun x y hx hy => Nat.or_lt_two_pow (n := 32) hx hy, by intro b c; cases b <;> cases c <;> decide⟩
theorem xor_op : BOp (fun x y => x ^^^ y) (fun b c => b != c) := ⟨fun x y hx hy => Nat.xor_lt_two_pow (n := 32) hx hy, by intro b c; cases b <;> cases c <;> decide⟩
theorem btrimN_any {B : Nat} {w : World} {ao : Option Addr} {cap n : Nat} {l : List Nat} (h : Own B w ao cap l) (hn : l.length = n) (hl : n ≤ 1000000) :
    Calls Try.prog 82 #[.slice ao n cap] w fun e w' => e = .returned (.slice ao (words (val l)).length cap) ∧ Own B w ao cap (words (val l)) ∧ w' = w := by
  subst hn
  exact btrim_any h hl
section
variable {P : Program} {t : TypeId} {a b : Operand} {x y : Nat}
theorem bin_and (hx : x < 4294967296) (hy : y < 4294967296) : ∀ w, (do eqGuard .and t a b (.int .u32 ((x : Nat) : Int)) (.int .u32 ((y : Nat) : Int)); binOp .and t (.int .u32 ((x : Nat) : Int)) (.int .u32 ((y : Nat) : Int)) : Sem Value).run P w = .ok (.int .u32 ((x &&& y : Nat) : Int)) w := fun w => by
  simp [go_sem, and_u32 x y hx hy]
theorem bin_or (hx : x < 4294967296) (hy : y < 4294967296) : ∀ w, (do eqGuard .or t a b (.int .u32 ((x : Nat) : Int)) (.int .u32 ((y : Nat) : Int)); binOp .or t (.int .u32 ((x : Nat) : Int)) (.int .u32 ((y : Nat) : Int)) : Sem Value).run P w = .ok (.int .u32 ((x ||| y : Nat) : Int)) w := fun w => by
  simp [go_sem, or_u32 x y hx hy]
theorem bin_xor {z : Nat} (hx : x < 4294967296) (hy : y < 4294967296) (hz : x ^^^ y = z) : ∀ w, (do eqGuard .xor t a b (.int .u32 ((x : Nat) : Int)) (.int .u32 ((y : Nat) : Int)); binOp .xor t (.int .u32 ((x : Nat) : Int)) (.int .u32 ((y : Nat) : Int)) : Sem Value).run P w = .ok (.int .u32 ((z : Nat) : Int)) w := fun w => by
  subst hz
  simp [go_sem, xor_u32 x y hx hy]
theorem run_max {ts : Array TypeId} {ty : TypeId} {m n : Nat} : ∀ w cs, (builtin .max ts ty cs #[.int .i64 ((m : Nat) : Int), .int .i64 ((n : Nat) : Int)]).run P w = .ok (.value (.int .i64 ((max m n : Nat) : Int))) w := fun w cs => by
  rw [BigFrame.builtin_max]
  have e : (if ((n : Nat) : Int) > ((m : Nat) : Int) then ((n : Nat) : Int) else ((m : Nat) : Int)) = ((max m n : Nat) : Int) := by
    by_cases h : m < n
    · rw [if_pos (by omega), Nat.max_eq_right (by omega)]
    · rw [if_neg (by omega), Nat.max_eq_left (by omega)]
  simp only [Builtin.max_, List.foldlM_cons, List.foldlM_nil, Builtin.max2, Sem.run_bind, Sem.run_pure, Result.andThen_ok, e]
end
end Go.Proofs.Ytmibkfihcihphaa
namespace Go.Proofs.Ytmibkfihcihphaa
open Go.RowKit
set_option linter.unusedVariables false
set_option linter.unusedSimpArgs false
set_option maxRecDepth 100000
theorem BiH_is1_22 : Is1 Try.prog 22 := ⟨⟨_, Try.underlying22, rfl⟩, by kernel_rfl⟩
theorem BiH_is1_67 : Is1 Try.prog 67 := ⟨⟨_, Try.underlying67, rfl⟩, by kernel_rfl⟩
theorem BiH_fld_70_1 : FieldAt Try.prog 70 1 1 := ⟨_, _, Try.underlying70, rfl, rfl, by kernel_rfl⟩
theorem BiH_isS_70 : IsS Try.prog 70 2 := ⟨⟨_, Try.underlying70⟩, by kernel_rfl⟩
theorem rwordAt_any {w : World} {b : Bool} {ro : Option Addr} {rc y i : Nat} (hr : Rd w ro (words y)) (hy : (words y).length ≤ 100000) : Calls Try.prog 81 #[.agg #[.bool b, .slice ro (words y).length rc], .int .i64 ((i : Nat) : Int)] w fun e w' => e = .returned (.int .u32 ((rwd b y i : Nat) : Int)) ∧ Below w.heap.size w w' := by
  have hS : St w w [] [(ro, words y)] [] := (St.start w).addR hr
  refine walk_of (l := [(0, .agg #[.bool b, .slice ro ((words y).length) rc]), (1, .int .i64 (((i : Nat) : Int)))]) Try.func81 rfl Try.ntmps81 rfl rfl ?_
  intro Q hret hnorm hP a hA
  refine wp_seq_k (fun K1 hK1 => ?_)
  refine wp_region_lit ?_
  refine seq_new (vs := [.bool b, .slice ro ((words y).length) rc]) (t := 70) hA hS rfl rfl rfl (fun g => .pointer (some ⟨g, 0, none⟩)) (does_box rfl rfl) rfl ?_
  intro g2 w3 hS a hA
  refine seq_do hA rfl rfl rfl (does_assign rfl) ?_
  intro a hA
  refine seq_end ?_
  refine hK1 _ _ ?_
  refine wp_seq_k (fun K4 hK4 => ?_)
  refine wp_seq_k (fun K5 hK5 => ?_)
  refine wp_region_lit ?_
  refine seq_do hA rfl rfl rfl (does_move rfl) ?_
  intro a hA
  refine seq_do (v := .pointer (some ⟨g2, 1, none⟩)) hA rfl rfl rfl (does_field BiH_fld_70_1 rfl rfl) ?_
  intro a hA
  refine seq_do hA rfl rfl rfl (does_load1 hS BiH_is1_22 rfl 0 rfl rfl) ?_
  intro a hA
  refine seq_do (v := .int .i64 ((((words y).length : Nat) : Int))) hA rfl rfl rfl (does_len Try.underlying22 rfl) ?_
  intro a hA
  rcases Bool.eq_false_or_eq_true (decide ((((words y).length : Nat) : Int) ≤ ((i : Nat) : Int))) with hb6 | hb6
  · have hb6' := of_decide_eq_true hb6
    refine seq_do (v := .bool true) hA rfl rfl rfl (does_bin rfl rfl (fun w => (bin_geq w).trans (by rw [hb6]))) ?_
    intro a hA
    refine seq_end ?_
    refine hK5 _ _ ?_
    refine wp_cond_true (hA.ev rfl) ?_
    refine wp_seq_k (fun K7 hK7 => ?_)
    refine wp_region_lit ?_
    refine seq_do (v := .agg #[.bool b, .slice ro ((words y).length) rc]) hA rfl rfl rfl (does_loadS hS BiH_isS_70 rfl 0 rfl (cs := [.bool b, .slice ro ((words y).length) rc]) rfl rfl) ?_
    intro a hA
    refine seq_call hA rfl rfl rfl (enters_func  rfl rfl (fun w => by kernel_rfl)) (endless_any) ?_
    rintro _ w9 ⟨rfl, hb8⟩
    replace hS := hS.call hb8
    refine ⟨_, rfl, ?_⟩
    intro a hA
    refine seq_do hA rfl rfl rfl (does_assign rfl) ?_
    intro a hA
    refine seq_end ?_
    refine hK7 _ _ ?_
    refine wp_ret ?_
    refine hret _ _ ?_
    refine ends (v := .int .u32 (((b.toNat * 4294967295 : Nat) : Int))) hA rfl (.cons (res_tmp rfl) .nil) rfl ?_
    rw [rwd_end (by omega)]
    exact ⟨rfl, hS.bel⟩
  · have hb6' := of_decide_eq_false hb6
    refine seq_do (v := .bool false) hA rfl rfl rfl (does_bin rfl rfl (fun w => (bin_geq w).trans (by rw [hb6]))) ?_
    intro a hA
    refine seq_end ?_
    refine hK5 _ _ ?_
    refine wp_cond_false (hA.ev rfl) ?_
    refine wp_skip ?_
    refine hK4 _ _ ?_
    refine wp_seq_k (fun K10 hK10 => ?_)
    refine wp_draw (S := fun w1 => St w w1 [(g2, [.bool b, .slice ro ((words y).length) rc])] [(ro, words y)] []) (by kernel_rfl) ?_
    replace hS := hS.drew
    refine any_take (v := .pointer (some ⟨g2, 1, none⟩)) hA 0 rfl rfl rfl rfl (by kernel_rfl) (by kernel_rfl) (by kernel_rfl) (fun c a w h => hP c a _ _ w h) hS (fun w1 hS => does_field BiH_fld_70_1 rfl rfl) ?_
    intro a hA
    refine any_take hA 1 rfl rfl rfl rfl (by kernel_rfl) (by kernel_rfl) (by kernel_rfl) (fun c a w h => hP c a _ _ w h) hS (fun w1 hS => does_load1 hS BiH_is1_22 rfl 0 rfl rfl) ?_
    intro a hA
    refine any_take hA 2 rfl rfl rfl rfl (by kernel_rfl) (by kernel_rfl) (by kernel_rfl) (fun c a w h => hP c a _ _ w h) hS (fun w1 hS => does_move rfl) ?_
    intro a hA
    have hi14 : i < (words y).length := by first | omega | (simp only [List.length_set]; omega)
    obtain ⟨b11, f12, hso13⟩ := Rd.addr (hS.rd 0 rfl) hi14
    refine any_take (v := .pointer (some ⟨b11, f12 + i, none⟩)) hA 3 rfl rfl rfl rfl (by kernel_rfl) (by kernel_rfl) (by kernel_rfl) (fun c a w h => hP c a _ _ w h) hS (fun w1 hS => does_indexRow (k := i) Try.underlying22 (by kernel_rfl) rfl rfl (by omega) hso13 hi14) ?_
    intro a hA
    refine any_take (v := .int .u32 ((((words y).getD i 0 : Nat) : Int))) hA 4 rfl rfl rfl rfl (by kernel_rfl) (by kernel_rfl) (by kernel_rfl) (fun c a w h => hP c a _ _ w h) hS (fun w1 hS => does_loadRow (hS.rd 0 rfl) hso13 hi14 BiH_is1_67 rfl) ?_
    intro a hA
    refine any_take (v := .agg #[.bool b, .slice ro ((words y).length) rc]) hA 5 rfl rfl rfl rfl (by kernel_rfl) (by kernel_rfl) (by kernel_rfl) (fun c a w h => hP c a _ _ w h) hS (fun w1 hS => does_loadS hS BiH_isS_70 rfl 0 rfl (cs := [.bool b, .slice ro ((words y).length) rc]) rfl rfl) ?_
    intro a hA
    refine any_one (by kernel_rfl) (op_call hA 6 rfl rfl rfl rfl (enters_func  rfl rfl (fun w => by kernel_rfl)) (endless_any) ?_)
    rintro _ w16 ⟨rfl, hb15⟩
    replace hS := hS.call hb15
    refine ⟨_, rfl, hS, ?_⟩
    intro a hA
    refine any_take (v := .int .u32 (((rwd b y i : Nat) : Int))) hA 7 rfl rfl rfl rfl (by kernel_rfl) (by kernel_rfl) (by kernel_rfl) (fun c a w h => hP c a _ _ w h) hS (fun w1 hS => does_bin rfl rfl (bin_xor (by rw [words_getD]; exact Nat.mod_lt _ (by decide)) (ends_lt b) (by rw [words_getD]; rfl))) ?_
    intro a hA
    refine any_take hA 8 rfl rfl rfl rfl (by kernel_rfl) (by kernel_rfl) (by kernel_rfl) (fun c a w h => hP c a _ _ w h) hS (fun w1 hS => does_assign rfl) ?_
    intro a hA
    refine any_end (by kernel_rfl) ?_
    refine hK10 _ _ ?_
    refine wp_ret ?_
    refine hret _ _ ?_
    refine ends (v := .int .u32 (((rwd b y i : Nat) : Int))) hA rfl (.cons (res_tmp rfl) .nil) rfl ?_
    exact ⟨rfl, hS.bel⟩
theorem andF_any (x y : Nat) (w : World) (hx : x < 4294967296) (hy : y < 4294967296) : Calls Try.prog 45 #[.int .u32 ((x : Nat) : Int), .int .u32 ((y : Nat) : Int)] w fun e w' => e = .returned (.int .u32 ((x &&& y : Nat) : Int)) ∧ Below w.heap.size w w' := by
  have hS : St w w [] [] [] := St.start w
  refine walk_of (l := [(0, .int .u32 (((x : Nat) : Int))), (1, .int .u32 (((y : Nat) : Int)))]) Try.func45 rfl Try.ntmps45 rfl rfl ?_
  intro Q hret hnorm hP a hA
  refine wp_seq_k (fun K1 hK1 => ?_)
  refine wp_region_lit ?_
  refine seq_do hA rfl rfl rfl (does_assign rfl) ?_
  intro a hA
  refine seq_end ?_
  refine hK1 _ _ ?_
  refine wp_seq_k (fun K2 hK2 => ?_)
  refine wp_region_lit ?_
  refine seq_do hA rfl rfl rfl (does_move rfl) ?_
  intro a hA
  refine seq_do hA rfl rfl rfl (does_move rfl) ?_
  intro a hA
  refine seq_do (v := .int .u32 (((x &&& y : Nat) : Int))) hA rfl rfl rfl (does_bin rfl rfl (bin_and hx hy)) ?_
  intro a hA
  refine seq_do hA rfl rfl rfl (does_assign rfl) ?_
  intro a hA
  refine seq_end ?_
  refine hK2 _ _ ?_
  refine wp_ret ?_
  refine hret _ _ ?_
  refine ends (v := .int .u32 (((x &&& y : Nat) : Int))) hA rfl (.cons (res_tmp rfl) .nil) rfl ?_
  exact ⟨rfl, hS.bel⟩
theorem orF_any (x y : Nat) (w : World) (hx : x < 4294967296) (hy : y < 4294967296) : Calls Try.prog 46 #[.int .u32 ((x : Nat) : Int), .int .u32 ((y : Nat) : Int)] w fun e w' => e = .returned (.int .u32 ((x ||| y : Nat) : Int)) ∧ Below w.heap.size w w' := by
  have hS : St w w [] [] [] := St.start w
  refine walk_of (l := [(0, .int .u32 (((x : Nat) : Int))), (1, .int .u32 (((y : Nat) : Int)))]) Try.func46 rfl Try.ntmps46 rfl rfl ?_
  intro Q hret hnorm hP a hA
  refine wp_seq_k (fun K1 hK1 => ?_)
  refine wp_region_lit ?_
  refine seq_do hA rfl rfl rfl (does_assign rfl) ?_
  intro a hA
  refine seq_end ?_
  refine hK1 _ _ ?_
  refine wp_seq_k (fun K2 hK2 => ?_)
  refine wp_region_lit ?_
  refine seq_do hA rfl rfl rfl (does_move rfl) ?_
  intro a hA
  refine seq_do hA rfl rfl rfl (does_move rfl) ?_
  intro a hA
  refine seq_do (v := .int .u32 (((x ||| y : Nat) : Int))) hA rfl rfl rfl (does_bin rfl rfl (bin_or hx hy)) ?_
  intro a hA
  refine seq_do hA rfl rfl rfl (does_assign rfl) ?_
  intro a hA
  refine seq_end ?_
  refine hK2 _ _ ?_
  refine wp_ret ?_
  refine hret _ _ ?_
  refine ends (v := .int .u32 (((x ||| y : Nat) : Int))) hA rfl (.cons (res_tmp rfl) .nil) rfl ?_
  exact ⟨rfl, hS.bel⟩
theorem xorF_any (x y : Nat) (w : World) (hx : x < 4294967296) (hy : y < 4294967296) : Calls Try.prog 47 #[.int .u32 ((x : Nat) : Int), .int .u32 ((y : Nat) : Int)] w fun e w' => e = .returned (.int .u32 ((x ^^^ y : Nat) : Int)) ∧ Below w.heap.size w w' := by
  have hS : St w w [] [] [] := St.start w
  refine walk_of (l := [(0, .int .u32 (((x : Nat) : Int))), (1, .int .u32 (((y : Nat) : Int)))]) Try.func47 rfl Try.ntmps47 rfl rfl ?_
  intro Q hret hnorm hP a hA
  refine wp_seq_k (fun K1 hK1 => ?_)
  refine wp_region_lit ?_
  refine seq_do hA rfl rfl rfl (does_assign rfl) ?_
  intro a hA
  refine seq_end ?_
  refine hK1 _ _ ?_
  refine wp_seq_k (fun K2 hK2 => ?_)
  refine wp_region_lit ?_
  refine seq_do hA rfl rfl rfl (does_move rfl) ?_
  intro a hA
  refine seq_do hA rfl rfl rfl (does_move rfl) ?_
  intro a hA
  refine seq_do (v := .int .u32 (((x ^^^ y : Nat) : Int))) hA rfl rfl rfl (does_bin rfl rfl (bin_xor hx hy rfl)) ?_
  intro a hA
  refine seq_do hA rfl rfl rfl (does_assign rfl) ?_
  intro a hA
  refine seq_end ?_
  refine hK2 _ _ ?_
  refine wp_ret ?_
  refine hret _ _ ?_
  refine ends (v := .int .u32 (((x ^^^ y : Nat) : Int))) hA rfl (.cons (res_tmp rfl) .nil) rfl ?_
  exact ⟨rfl, hS.bel⟩
/-- A function that is handed in does so. -/
structure Fun2 (F : FuncId) (fop : Nat → Nat → Nat) : Prop where
  inv : ∀ vs w, (invoke (.fn (.func F) #[]) vs).run Try.prog w = .ok (.enter F vs) w
  does : ∀ x y w, x < 4294967296 → y < 4294967296 → Calls Try.prog F #[.int .u32 ((x : Nat) : Int), .int .u32 ((y : Nat) : Int)] w fun e w' => e = .returned (.int .u32 ((fop x y : Nat) : Int)) ∧ Below w.heap.size w w'
theorem andFun : Fun2 45 (fun x y => x &&& y) := ⟨fun vs w => by simp [go_sem, invoke, callFunc, Try.func45, Try.f45], andF_any⟩
theorem orFun : Fun2 46 (fun x y => x ||| y) := ⟨fun vs w => by simp [go_sem, invoke, callFunc, Try.func46, Try.f46], orF_any⟩
theorem xorFun : Fun2 47 (fun x y => x ^^^ y) := ⟨fun vs w => by simp [go_sem, invoke, callFunc, Try.func47, Try.f47], xorF_any⟩
theorem combined_any {w : World} {F : FuncId} {fop : Nat → Nat → Nat} {fb : Bool → Bool → Bool} (hF : Fun2 F fop) (hB : BOp fop fb) {b1 b2 : Bool} {r1 r2 : Option Addr} {rc1 rc2 y1 y2 : Nat} (h1 : Rd w r1 (words y1)) (h2 : Rd w r2 (words y2)) (k1 : (words y1).length ≤ 600) (k2 : (words y2).length ≤ 600) :
    Calls Try.prog 74 #[.agg #[.bool b1, .slice r1 (words y1).length rc1], .func (.func F) #[] #[], .agg #[.bool b2, .slice r2 (words y2).length rc2]] w fun e w' => ∃ o c, e = .returned (.agg #[.bool (fb b1 b2), .slice o (words (putY fop fb b1 y1 b2 y2)).length c]) ∧ Sc w' o c (words (putY fop fb b1 y1 b2 y2)) ∧ Below w.heap.size w w' := by
  have hnb : (((fop (b1.toNat * 4294967295) (b2.toNat * 4294967295) : Nat) : Int) != 0) = fb b1 b2 := by
    rw [hB.ends]
    cases fb b1 b2 <;> decide
  have hS : St w w [] [] [] := St.start w
  refine walk_of (l := [(0, .agg #[.bool b1, .slice r1 ((words y1).length) rc1]), (1, .func (.func F) #[] #[]), (2, .agg #[.bool b2, .slice r2 ((words y2).length) rc2])]) Try.func74 rfl Try.ntmps74 rfl rfl ?_
  intro Q hret hnorm hP a hA
  refine wp_seq_k (fun K1 hK1 => ?_)
  refine wp_region_lit ?_
  refine seq_new (vs := [.bool b1, .slice r1 ((words y1).length) rc1]) (t := 70) hA hS rfl rfl rfl (fun g => .pointer (some ⟨g, 0, none⟩)) (does_box rfl rfl) rfl ?_
  intro g2 w3 hS a hA
  refine seq_new (vs := [.bool b2, .slice r2 ((words y2).length) rc2]) (t := 70) hA hS rfl rfl rfl (fun g => .pointer (some ⟨g, 0, none⟩)) (does_box rfl rfl) rfl ?_
  intro g4 w5 hS a hA
  refine seq_new (vs := [.bool false, .slice none 0 0]) (t := 70) hA hS rfl rfl rfl (fun g => .pointer (some ⟨g, 0, none⟩)) (does_alloc (z := .agg #[.bool false, .slice none 0 0]) (by kernel_rfl) rfl) rfl ?_
  intro g6 w7 hS a hA
  refine seq_end ?_
  refine hK1 _ _ ?_
  refine wp_seq_k (fun K8 hK8 => ?_)
  have hJ19 : ∀ a w1, (∃ (J18g : Nat), Sl a 53 [(0, .agg #[.bool b1, .slice r1 ((words y1).length) rc1]), (1, .func (.func F) #[] #[]), (2, .agg #[.bool b2, .slice r2 ((words y2).length) rc2]), (3, .pointer (some ⟨g2, 0, none⟩)), (5, .pointer (some ⟨g4, 0, none⟩)), (6, .pointer (some ⟨g6, 0, none⟩)), (7, .pointer (some ⟨J18g, 0, none⟩))] ∧ St w w1 [(J18g, [.bool ((fb b1 b2)), .slice none 0 0]), (g6, [.bool false, .slice none 0 0]), (g4, [.bool b2, .slice r2 ((words y2).length) rc2]), (g2, [.bool b1, .slice r1 ((words y1).length) rc1])] [] []) → K8 a w1 := by
    clear hA hS
    rintro a w20 ⟨J18g, hA, hS⟩
    refine hK8 _ _ ?_
    refine wp_seq_k (fun K21 hK21 => ?_)
    refine wp_region_lit ?_
    refine seq_do (v := .pointer (some ⟨g2, 1, none⟩)) hA rfl rfl rfl (does_field BiH_fld_70_1 rfl rfl) ?_
    intro a hA
    refine seq_do hA rfl rfl rfl (does_load1 hS BiH_is1_22 rfl 3 rfl rfl) ?_
    intro a hA
    refine seq_do (v := .int .i64 ((((words y1).length : Nat) : Int))) hA rfl rfl rfl (does_len Try.underlying22 rfl) ?_
    intro a hA
    refine seq_do (v := .pointer (some ⟨g4, 1, none⟩)) hA rfl rfl rfl (does_field BiH_fld_70_1 rfl rfl) ?_
    intro a hA
    refine seq_do hA rfl rfl rfl (does_load1 hS BiH_is1_22 rfl 2 rfl rfl) ?_
    intro a hA
    refine seq_do (v := .int .i64 ((((words y2).length : Nat) : Int))) hA rfl rfl rfl (does_len Try.underlying22 rfl) ?_
    intro a hA
    refine seq_do (v := .int .i64 (((max (words y1).length (words y2).length : Nat) : Int))) hA rfl rfl rfl (does_builtin rfl run_max) ?_
    intro a hA
    refine seq_make (m := max (words y1).length (words y2).length) hA hS rfl rfl rfl (does_make Try.underlying22 (by kernel_rfl) rfl rfl (by omega)) (by omega) ?_
    intro g22 w23 hS a hA
    refine seq_do (v := .pointer (some ⟨J18g, 1, none⟩)) hA rfl rfl rfl (does_field BiH_fld_70_1 rfl rfl) ?_
    intro a hA
    refine seq_store (us := [.bool ((fb b1 b2)), .slice (some ⟨g22, 0, none⟩) (max (words y1).length (words y2).length) (max (words y1).length (words y2).length)]) hA hS rfl rfl (sets_store (cs := [.slice (some ⟨g22, 0, none⟩) (max (words y1).length (words y2).length) (max (words y1).length (words y2).length)]) rfl rfl rfl (by kernel_rfl) hS 0 rfl rfl rfl) 0 rfl rfl rfl rfl ?_
    intro w24 hS
    refine seq_end ?_
    refine hK21 _ _ ?_
    refine wp_seq_k (fun K25 hK25 => ?_)
    refine wp_seq_k (fun K26 hK26 => ?_)
    refine wp_region_lit ?_
    refine seq_do (v := .pointer (some ⟨J18g, 1, none⟩)) hA rfl rfl rfl (does_field BiH_fld_70_1 rfl rfl) ?_
    intro a hA
    refine seq_do hA rfl rfl rfl (does_load1 hS BiH_is1_22 rfl 0 rfl rfl) ?_
    intro a hA
    refine seq_do (v := .int .i64 (((max (words y1).length (words y2).length : Nat) : Int))) hA rfl rfl rfl (does_len Try.underlying22 rfl) ?_
    intro a hA
    refine seq_do hA rfl rfl rfl (does_move rfl) ?_
    intro a hA
    refine seq_end ?_
    refine hK26 _ _ ?_
    refine wp_block ?_
    refine wp_loop_n (fun m a w1 => ∃ (i : Nat) (l : List Nat), m = max (words y1).length (words y2).length - i ∧ (i ≤ max (words y1).length (words y2).length ∧ l.length = max (words y1).length (words y2).length ∧ ∀ j, j < i → l.getD j 0 = outW fop fb b1 y1 b2 y2 j) ∧ Sl a 53 [(0, .agg #[.bool b1, .slice r1 ((words y1).length) rc1]), (1, .func (.func F) #[] #[]), (2, .agg #[.bool b2, .slice r2 ((words y2).length) rc2]), (3, .pointer (some ⟨g2, 0, none⟩)), (5, .pointer (some ⟨g4, 0, none⟩)), (6, .pointer (some ⟨g6, 0, none⟩)), (7, .pointer (some ⟨J18g, 0, none⟩)), (17, .pointer (some ⟨g2, 1, none⟩)), (18, .slice r1 ((words y1).length) rc1), (19, .int .i64 ((((words y1).length : Nat) : Int))), (20, .pointer (some ⟨g4, 1, none⟩)), (21, .slice r2 ((words y2).length) rc2), (22, .int .i64 ((((words y2).length : Nat) : Int))), (23, .int .i64 (((max (words y1).length (words y2).length : Nat) : Int))), (24, .slice (some ⟨g22, 0, none⟩) (max (words y1).length (words y2).length) (max (words y1).length (words y2).length)), (25, .pointer (some ⟨J18g, 1, none⟩)), (26, .pointer (some ⟨J18g, 1, none⟩)), (27, .slice (some ⟨g22, 0, none⟩) (max (words y1).length (words y2).length) (max (words y1).length (words y2).length)), (28, .int .i64 (((max (words y1).length (words y2).length : Nat) : Int))), (29, .int .i64 (((i : Nat) : Int)))] ∧ St w w1 [(J18g, [.bool ((fb b1 b2)), .slice (some ⟨g22, 0, none⟩) (max (words y1).length (words y2).length) (max (words y1).length (words y2).length)]), (g6, [.bool false, .slice none 0 0]), (g4, [.bool b2, .slice r2 ((words y2).length) rc2]), (g2, [.bool b1, .slice r1 ((words y1).length) rc1])] [] [(some ⟨g22, 0, none⟩, max (words y1).length (words y2).length, l)]) _ ⟨0, List.replicate (max (words y1).length (words y2).length) 0, rfl, ⟨Nat.zero_le _, by simp, fun j hj => by omega⟩, hA.keep _ ⟨rfl, rfl, rfl, rfl, rfl, rfl, rfl, rfl, rfl, rfl, rfl, rfl, rfl, rfl, rfl, rfl, rfl, rfl, rfl, rfl, trivial⟩, hS⟩ ?_
    clear hS hA
    rintro m a w27 ⟨i, l, rfl, hinv29, hA, hS⟩ K28 hK28
    obtain ⟨hle9, hinv9, hinv8⟩ := hinv29
    refine wp_seq_k (fun K30 hK30 => ?_)
    refine wp_region_lit ?_
    rcases Bool.eq_false_or_eq_true (decide (((i : Nat) : Int) < ((max (words y1).length (words y2).length : Nat) : Int))) with hb31 | hb31
    · have hb31' := of_decide_eq_true hb31
      refine seq_do (v := .bool true) hA rfl rfl rfl (does_bin rfl rfl (fun w => (bin_lss w).trans (by rw [hb31]))) ?_
      intro a hA
      refine seq_end ?_
      refine hK30 _ _ ?_
      refine wp_seq_k (fun K32 hK32 => ?_)
      refine wp_cond_true (hA.ev rfl) ?_
      refine wp_skip ?_
      refine hK32 _ _ ?_
      refine wp_seq_k (fun K33 hK33 => ?_)
      refine wp_block ?_
      refine wp_seq_k (fun K34 hK34 => ?_)
      refine wp_region_lit ?_
      refine seq_do hA rfl rfl rfl (does_move rfl) ?_
      intro a hA
      refine seq_do hA rfl rfl rfl (does_assign rfl) ?_
      intro a hA
      refine seq_end ?_
      refine hK34 _ _ ?_
      refine wp_draw (S := fun w1 => St w w1 [(J18g, [.bool ((fb b1 b2)), .slice (some ⟨g22, 0, none⟩) (max (words y1).length (words y2).length) (max (words y1).length (words y2).length)]), (g6, [.bool false, .slice none 0 0]), (g4, [.bool b2, .slice r2 ((words y2).length) rc2]), (g2, [.bool b1, .slice r1 ((words y1).length) rc1])] [] []) (by kernel_rfl) ?_
      replace hS := hS.drew
      refine any_take (v := .pointer (some ⟨J18g, 1, none⟩)) hA 0 rfl rfl rfl rfl (by kernel_rfl) (by kernel_rfl) (by kernel_rfl) (fun c a w h => hP c a _ _ w h) (hS.partD (.refl _) 0 rfl (.cons _ .slnil)) (fun w1 hS => does_field BiH_fld_70_1 rfl rfl) ?_
      intro a hA
      refine any_take hA 1 rfl rfl rfl rfl (by kernel_rfl) (by kernel_rfl) (by kernel_rfl) (fun c a w h => hP c a _ _ w h) (hS.partD (.refl _) 0 rfl (.cons _ .slnil)) (fun w1 hS => does_load1 hS BiH_is1_22 rfl 0 rfl rfl) ?_
      intro a hA
      refine any_take hA 2 rfl rfl rfl rfl (by kernel_rfl) (by kernel_rfl) (by kernel_rfl) (fun c a w h => hP c a _ _ w h) (hS.partD (.refl _) 0 rfl (.cons _ .slnil)) (fun w1 hS => does_move rfl) ?_
      intro a hA
      refine any_take hA 3 rfl rfl rfl rfl (by kernel_rfl) (by kernel_rfl) (by kernel_rfl) (fun c a w h => hP c a _ _ w h) (hS.partD (.refl _) 0 rfl (.cons _ .slnil)) (fun w1 hS => does_move rfl) ?_
      intro a hA
      refine any_take (v := .agg #[.bool b1, .slice r1 ((words y1).length) rc1]) hA 4 rfl rfl rfl rfl (by kernel_rfl) (by kernel_rfl) (by kernel_rfl) (fun c a w h => hP c a _ _ w h) (hS.partD (.refl _) 0 rfl (.cons _ .slnil)) (fun w1 hS => does_loadS hS BiH_isS_70 rfl 3 rfl (cs := [.bool b1, .slice r1 ((words y1).length) rc1]) rfl rfl) ?_
      intro a hA
      refine any_take hA 5 rfl rfl rfl rfl (by kernel_rfl) (by kernel_rfl) (by kernel_rfl) (fun c a w h => hP c a _ _ w h) (hS.partD (.refl _) 0 rfl (.cons _ .slnil)) (fun w1 hS => does_move rfl) ?_
      intro a hA
      refine any_take (v := .agg #[.bool b2, .slice r2 ((words y2).length) rc2]) hA 7 rfl rfl rfl rfl (by kernel_rfl) (by kernel_rfl) (by kernel_rfl) (fun c a w h => hP c a _ _ w h) (hS.partD (.refl _) 0 rfl (.cons _ .slnil)) (fun w1 hS => does_loadS hS BiH_isS_70 rfl 2 rfl (cs := [.bool b2, .slice r2 ((words y2).length) rc2]) rfl rfl) ?_
      intro a hA
      refine any_take hA 8 rfl rfl rfl rfl (by kernel_rfl) (by kernel_rfl) (by kernel_rfl) (fun c a w h => hP c a _ _ w h) (hS.partD (.refl _) 0 rfl (.cons _ .slnil)) (fun w1 hS => does_move rfl) ?_
      intro a hA
      refine any_take (v := .agg #[.bool ((fb b1 b2)), .slice (some ⟨g22, 0, none⟩) (max (words y1).length (words y2).length) (max (words y1).length (words y2).length)]) hA 11 rfl rfl rfl rfl (by kernel_rfl) (by kernel_rfl) (by kernel_rfl) (fun c a w h => hP c a _ _ w h) (hS.partD (.refl _) 0 rfl (.cons _ .slnil)) (fun w1 hS => does_loadS hS BiH_isS_70 rfl 0 rfl (cs := [.bool ((fb b1 b2)), .slice (some ⟨g22, 0, none⟩) (max (words y1).length (words y2).length) (max (words y1).length (words y2).length)]) rfl rfl) ?_
      intro a hA
      refine any_one (by kernel_rfl) (op_call hA 6 rfl rfl rfl rfl (enters_func  rfl rfl (fun w => by kernel_rfl)) (rwordAt_any (h1.below hS.bel) (by omega)) ?_)
      rintro _ w36 ⟨rfl, hb35⟩
      have hS0 := hS
      replace hS := hS.call hb35
      refine ⟨_, rfl, (hS.partD (.refl _) 0 rfl (.cons _ .slnil)), ?_⟩
      intro a hA
      refine any_one (by kernel_rfl) (op_call hA 9 rfl rfl rfl rfl (enters_func  rfl rfl (fun w => by kernel_rfl)) (rwordAt_any (h2.below hS.bel) (by omega)) ?_)
      rintro _ w38 ⟨rfl, hb37⟩
      have hS0 := hS
      replace hS := hS.call hb37
      refine ⟨_, rfl, (hS.partD (.refl _) 0 rfl (.cons _ .slnil)), ?_⟩
      intro a hA
      refine any_one (by kernel_rfl) (op_call hA 10 rfl rfl rfl rfl (enters_func  rfl rfl (fun w => hF.inv _ w)) (hF.does _ _ _ (rwd_lt _ _ _) (rwd_lt _ _ _)) ?_)
      rintro _ w40 ⟨rfl, hb39⟩
      have hS0 := hS
      replace hS := hS.call hb39
      refine ⟨_, rfl, (hS.partD (.refl _) 0 rfl (.cons _ .slnil)), ?_⟩
      intro a hA
      refine any_one (by kernel_rfl) (op_call hA 12 rfl rfl rfl rfl (enters_func  rfl rfl (fun w => by kernel_rfl)) (endless_any) ?_)
      rintro _ w42 ⟨rfl, hb41⟩
      have hS0 := hS
      replace hS := hS.call hb41
      refine ⟨_, rfl, (hS.partD (.refl _) 0 rfl (.cons _ .slnil)), ?_⟩
      intro a hA
      refine any_take (v := .int .u32 (((outW fop fb b1 y1 b2 y2 i : Nat) : Int))) hA 13 rfl rfl rfl rfl (by kernel_rfl) (by kernel_rfl) (by kernel_rfl) (fun c a w h => hP c a _ _ w h) (hS.partD (.refl _) 0 rfl (.cons _ .slnil)) (fun w1 hS => does_bin rfl rfl (bin_xor (hB.lt _ _ (rwd_lt _ _ _) (rwd_lt _ _ _)) (ends_lt _) rfl)) ?_
      intro a hA
      have hi46 : i < l.length := by first | omega | (simp only [List.length_set]; omega)
      refine any_take (v := .pointer (some ⟨g22, 0 + i, none⟩)) hA 14 rfl rfl rfl rfl (by kernel_rfl) (by kernel_rfl) (by kernel_rfl) (fun c a w h => hP c a _ _ w h) (hS.partD (.refl _) 0 rfl (.cons _ .slnil)) (fun w1 hS => does_indexRow (k := i) Try.underlying22 (by kernel_rfl) rfl rfl (by omega) rfl (by omega)) ?_
      intro a hA
      refine any_one (by kernel_rfl) (op_row (us' := l.set i (outW fop fb b1 y1 b2 y2 i)) hA hS 15 rfl rfl rfl (sets_row (d := outW fop fb b1 y1 b2 y2 i) (by kernel_rfl) rfl rfl hS 0 rfl hi46) 0 rfl (outW_lt hB _) rfl ?_)
      intro w47 hS
      refine ⟨(hS.partD (.refl _) 0 rfl (.cons _ .slnil)), ?_⟩
      refine any_end (by kernel_rfl) ?_
      refine hK33 _ _ ?_
      refine wp_region_lit ?_
      refine seq_do (v := .int .i64 (((i + 1 : Nat) : Int))) hA rfl rfl rfl (does_bin rfl rfl (fun w => (bin_add (i64In (by omega) (by omega)) w).trans (by rw [show (((i : Nat) : Int) + 1 : Int) = ((i + 1 : Nat) : Int) from by omega]))) ?_
      intro a hA
      refine seq_do hA rfl rfl rfl (does_move rfl) ?_
      intro a hA
      refine seq_end ?_
      refine hK28 _ _ _ (by omega) ⟨i + 1, l.set i (outW fop fb b1 y1 b2 y2 i), rfl, ⟨by omega, by rw [List.length_set]; exact hinv9, fun j hj => by rcases Nat.lt_succ_iff_lt_or_eq.1 hj with h | h; rw [List.getD_eq_getElem?_getD, List.getElem?_set_ne (by omega), ← List.getD_eq_getElem?_getD]; exact hinv8 j h; subst h; rw [List.getD_eq_getElem?_getD, List.getElem?_set_self (by omega)]; rfl⟩, hA.keep _ ⟨rfl, rfl, rfl, rfl, rfl, rfl, rfl, rfl, rfl, rfl, rfl, rfl, rfl, rfl, rfl, rfl, rfl, rfl, rfl, rfl, trivial⟩, hS⟩
    · have hb31' := of_decide_eq_false hb31
      refine seq_do (v := .bool false) hA rfl rfl rfl (does_bin rfl rfl (fun w => (bin_lss w).trans (by rw [hb31]))) ?_
      intro a hA
      refine seq_end ?_
      refine hK30 _ _ ?_
      refine wp_seq_k (fun K48 hK48 => ?_)
      refine wp_cond_false (hA.ev rfl) ?_
      refine wp_exit ?_
      refine hK25 _ _ ?_
      refine wp_seq_k (fun K49 hK49 => ?_)
      refine wp_region_lit ?_
      refine seq_do (v := .pointer (some ⟨J18g, 1, none⟩)) hA rfl rfl rfl (does_field BiH_fld_70_1 rfl rfl) ?_
      intro a hA
      refine seq_do hA rfl rfl rfl (does_load1 hS BiH_is1_22 rfl 0 rfl rfl) ?_
      intro a hA
      refine seq_call hA rfl rfl rfl (enters_func  rfl rfl (fun w => by kernel_rfl)) (btrimN_any (hS.row 0 rfl) hinv9 (by omega)) ?_
      rintro _ w52 ⟨rfl, ho50, hw51⟩
      have hw9 := below_eq hw51
      have ho9 := ho50.below hw9
      have hS0 := hS
      replace hS := hS.call hw9
      replace hS : St w w52 [(J18g, [.bool ((fb b1 b2)), .slice (some ⟨g22, 0, none⟩) (max (words y1).length (words y2).length) (max (words y1).length (words y2).length)]), (g6, [.bool false, .slice none 0 0]), (g4, [.bool b2, .slice r2 ((words y2).length) rc2]), (g2, [.bool b1, .slice r1 ((words y1).length) rc1])] [] [(some ⟨g22, 0, none⟩, max (words y1).length (words y2).length, words (val l))] := hS.retake 0 rfl ho9
      refine ⟨_, rfl, ?_⟩
      intro a hA
      refine seq_do (v := .pointer (some ⟨J18g, 1, none⟩)) hA rfl rfl rfl (does_field BiH_fld_70_1 rfl rfl) ?_
      intro a hA
      refine seq_store (us := [.bool ((fb b1 b2)), .slice (some ⟨g22, 0, none⟩) ((words (val l)).length) (max (words y1).length (words y2).length)]) hA hS rfl rfl (sets_store (cs := [.slice (some ⟨g22, 0, none⟩) ((words (val l)).length) (max (words y1).length (words y2).length)]) rfl rfl rfl (by kernel_rfl) hS 0 rfl rfl rfl) 0 rfl rfl rfl rfl ?_
      intro w53 hS
      refine seq_end ?_
      refine hK49 _ _ ?_
      refine wp_seq_k (fun K54 hK54 => ?_)
      refine wp_region_lit ?_
      refine seq_do (v := .agg #[.bool ((fb b1 b2)), .slice (some ⟨g22, 0, none⟩) ((words (val l)).length) (max (words y1).length (words y2).length)]) hA rfl rfl rfl (does_loadS hS BiH_isS_70 rfl 0 rfl (cs := [.bool ((fb b1 b2)), .slice (some ⟨g22, 0, none⟩) ((words (val l)).length) (max (words y1).length (words y2).length)]) rfl rfl) ?_
      intro a hA
      refine seq_store (us := [.bool ((fb b1 b2)), .slice (some ⟨g22, 0, none⟩) ((words (val l)).length) (max (words y1).length (words y2).length)]) hA hS rfl rfl (sets_store (cs := [.bool ((fb b1 b2)), .slice (some ⟨g22, 0, none⟩) ((words (val l)).length) (max (words y1).length (words y2).length)]) rfl rfl rfl (by kernel_rfl) hS 1 rfl rfl rfl) 1 rfl rfl rfl rfl ?_
      intro w55 hS
      refine seq_end ?_
      refine hK54 _ _ ?_
      refine wp_ret ?_
      refine hret _ _ ?_
      refine ends (v := .agg #[.bool ((fb b1 b2)), .slice (some ⟨g22, 0, none⟩) ((words (val l)).length) (max (words y1).length (words y2).length)]) hA rfl (.cons (res_cell hS BiH_isS_70 rfl 1 rfl (cs := [.bool ((fb b1 b2)), .slice (some ⟨g22, 0, none⟩) ((words (val l)).length) (max (words y1).length (words y2).length)]) rfl rfl) .nil) rfl ?_
      have hi9 : i = max (words y1).length (words y2).length := by omega
      subst hi9
      have el : l = outL fop fb b1 y1 b2 y2 (max (words y1).length (words y2).length) := list_of_getD (by rw [outL_len]; exact hinv9) (fun j hj => by rw [outL_get (by omega)]; exact hinv8 j (by omega))
      subst el
      exact ⟨_, _, rfl, (hS.row 0 rfl).sc, hS.bel⟩
  refine wp_draw (S := fun w1 => St w w1 [(g6, [.bool false, .slice none 0 0]), (g4, [.bool b2, .slice r2 ((words y2).length) rc2]), (g2, [.bool b1, .slice r1 ((words y1).length) rc1])] [] []) (by kernel_rfl) ?_
  replace hS := hS.drew
  refine any_take hA 0 rfl rfl rfl rfl (by kernel_rfl) (by kernel_rfl) (by kernel_rfl) (fun c a w h => hP c a _ _ w h) hS (fun w1 hS => does_move rfl) ?_
  intro a hA
  refine any_take (v := .agg #[.bool b1, .slice r1 ((words y1).length) rc1]) hA 1 rfl rfl rfl rfl (by kernel_rfl) (by kernel_rfl) (by kernel_rfl) (fun c a w h => hP c a _ _ w h) hS (fun w1 hS => does_loadS hS BiH_isS_70 rfl 2 rfl (cs := [.bool b1, .slice r1 ((words y1).length) rc1]) rfl rfl) ?_
  intro a hA
  refine any_take (v := .agg #[.bool b2, .slice r2 ((words y2).length) rc2]) hA 3 rfl rfl rfl rfl (by kernel_rfl) (by kernel_rfl) (by kernel_rfl) (fun c a w h => hP c a _ _ w h) hS (fun w1 hS => does_loadS hS BiH_isS_70 rfl 1 rfl (cs := [.bool b2, .slice r2 ((words y2).length) rc2]) rfl rfl) ?_
  intro a hA
  refine any_many (rs := [2, 8]) (by kernel_rfl) (by simp) ⟨?_, ?_, trivial⟩
  · refine op_call hA 2 rfl rfl rfl rfl (enters_func  rfl rfl (fun w => by kernel_rfl)) (endless_any) ?_
    rintro _ w57 ⟨rfl, hb56⟩
    replace hS := hS.call hb56
    refine ⟨_, rfl, hS, ?_⟩
    intro a hA
    refine any_many (rs := [4, 8]) (by kernel_rfl) (by simp) ⟨?_, ?_, trivial⟩
    · refine op_call hA 4 rfl rfl rfl rfl (enters_func  rfl rfl (fun w => by kernel_rfl)) (endless_any) ?_
      rintro _ w59 ⟨rfl, hb58⟩
      replace hS := hS.call hb58
      refine ⟨_, rfl, hS, ?_⟩
      intro a hA
      refine any_many (rs := [5, 8]) (by kernel_rfl) (by simp) ⟨?_, ?_, trivial⟩
      · refine op_call hA 5 rfl rfl rfl rfl (enters_func  rfl rfl (fun w => hF.inv _ w)) (hF.does _ _ _ (ends_lt _) (ends_lt _)) ?_
        rintro _ w61 ⟨rfl, hb60⟩
        replace hS := hS.call hb60
        refine ⟨_, rfl, hS, ?_⟩
        intro a hA
        refine any_take (v := .bool ((fb b1 b2))) hA 6 rfl rfl rfl rfl (by kernel_rfl) (by kernel_rfl) (by kernel_rfl) (fun c a w h => hP c a _ _ w h) hS (fun w1 hS => does_bin rfl rfl (fun w => (bin_neq w).trans (by rw [hnb]))) ?_
        intro a hA
        refine any_take (v := .agg #[.bool ((fb b1 b2)), .slice none 0 0]) hA 7 rfl rfl rfl rfl (by kernel_rfl) (by kernel_rfl) (by kernel_rfl) (fun c a w h => hP c a _ _ w h) hS (fun w1 hS => does_build rfl (fun w => by kernel_rfl)) ?_
        intro a hA
        refine any_one (by kernel_rfl) (op_new (vs := [.bool false, .slice none 0 0]) (t := 70) hA hS 8 rfl rfl rfl rfl (fun g => .pointer (some ⟨g, 0, none⟩)) (does_alloc (z := .agg #[.bool false, .slice none 0 0]) (by kernel_rfl) rfl) rfl ?_)
        intro g62 w63 hS
        refine ⟨(hS.partD (.cons _ (.cons_cons _ (.cons_cons _ (.cons_cons _ .slnil)))) 0 rfl (.refl _)), ?_⟩
        intro a hA
        refine any_one (by kernel_rfl) (op_store (us := [.bool ((fb b1 b2)), .slice none 0 0]) hA hS 9 rfl rfl rfl (sets_store (cs := [.bool ((fb b1 b2)), .slice none 0 0]) rfl rfl rfl (by kernel_rfl) hS 0 rfl rfl rfl) 0 rfl rfl rfl rfl ?_)
        intro w64 hS
        refine ⟨(hS.partD (.cons _ (.cons_cons _ (.cons_cons _ (.cons_cons _ .slnil)))) 0 rfl (.refl _)), ?_⟩
        refine any_end (by kernel_rfl) ?_
        refine hJ19 _ _ ⟨g62, hA.keep _ ⟨rfl, rfl, rfl, rfl, rfl, rfl, rfl, trivial⟩, ((hS.pickR [] trivial).pickL [(g62, [.bool ((fb b1 b2)), .slice none 0 0]), (g6, [.bool false, .slice none 0 0]), (g4, [.bool b2, .slice r2 ((words y2).length) rc2]), (g2, [.bool b1, .slice r1 ((words y1).length) rc1])] [0, 1, 2, 3] rfl (by decide))⟩
      · refine op_new (vs := [.bool false, .slice none 0 0]) (t := 70) hA hS 8 rfl rfl rfl rfl (fun g => .pointer (some ⟨g, 0, none⟩)) (does_alloc (z := .agg #[.bool false, .slice none 0 0]) (by kernel_rfl) rfl) rfl ?_
        intro g65 w66 hS
        refine ⟨(hS.partD (.cons _ (.cons_cons _ (.cons_cons _ (.cons_cons _ .slnil)))) 0 rfl (.refl _)), ?_⟩
        intro a hA
        refine any_one (by kernel_rfl) (op_call hA 5 rfl rfl rfl rfl (enters_func  rfl rfl (fun w => hF.inv _ w)) (hF.does _ _ _ (ends_lt _) (ends_lt _)) ?_)
        rintro _ w68 ⟨rfl, hb67⟩
        replace hS := hS.call hb67
        refine ⟨_, rfl, (hS.partD (.cons _ (.cons_cons _ (.cons_cons _ (.cons_cons _ .slnil)))) 0 rfl (.refl _)), ?_⟩
        intro a hA
        refine any_take (v := .bool ((fb b1 b2))) hA 6 rfl rfl rfl rfl (by kernel_rfl) (by kernel_rfl) (by kernel_rfl) (fun c a w h => hP c a _ _ w h) (hS.partD (.cons _ (.cons_cons _ (.cons_cons _ (.cons_cons _ .slnil)))) 0 rfl (.refl _)) (fun w1 hS => does_bin rfl rfl (fun w => (bin_neq w).trans (by rw [hnb]))) ?_
        intro a hA
        refine any_take (v := .agg #[.bool ((fb b1 b2)), .slice none 0 0]) hA 7 rfl rfl rfl rfl (by kernel_rfl) (by kernel_rfl) (by kernel_rfl) (fun c a w h => hP c a _ _ w h) (hS.partD (.cons _ (.cons_cons _ (.cons_cons _ (.cons_cons _ .slnil)))) 0 rfl (.refl _)) (fun w1 hS => does_build rfl (fun w => by kernel_rfl)) ?_
        intro a hA
        refine any_one (by kernel_rfl) (op_store (us := [.bool ((fb b1 b2)), .slice none 0 0]) hA hS 9 rfl rfl rfl (sets_store (cs := [.bool ((fb b1 b2)), .slice none 0 0]) rfl rfl rfl (by kernel_rfl) hS 0 rfl rfl rfl) 0 rfl rfl rfl rfl ?_)
        intro w69 hS
        refine ⟨(hS.partD (.cons _ (.cons_cons _ (.cons_cons _ (.cons_cons _ .slnil)))) 0 rfl (.refl _)), ?_⟩
        refine any_end (by kernel_rfl) ?_
        refine hJ19 _ _ ⟨g65, hA.keep _ ⟨rfl, rfl, rfl, rfl, rfl, rfl, rfl, trivial⟩, ((hS.pickR [] trivial).pickL [(g65, [.bool ((fb b1 b2)), .slice none 0 0]), (g6, [.bool false, .slice none 0 0]), (g4, [.bool b2, .slice r2 ((words y2).length) rc2]), (g2, [.bool b1, .slice r1 ((words y1).length) rc1])] [0, 1, 2, 3] rfl (by decide))⟩
    · refine op_new (vs := [.bool false, .slice none 0 0]) (t := 70) hA hS 8 rfl rfl rfl rfl (fun g => .pointer (some ⟨g, 0, none⟩)) (does_alloc (z := .agg #[.bool false, .slice none 0 0]) (by kernel_rfl) rfl) rfl ?_
      intro g70 w71 hS
      refine ⟨(hS.partD (.cons _ (.cons_cons _ (.cons_cons _ (.cons_cons _ .slnil)))) 0 rfl (.refl _)), ?_⟩
      intro a hA
      refine any_one (by kernel_rfl) (op_call hA 4 rfl rfl rfl rfl (enters_func  rfl rfl (fun w => by kernel_rfl)) (endless_any) ?_)
      rintro _ w73 ⟨rfl, hb72⟩
      replace hS := hS.call hb72
      refine ⟨_, rfl, (hS.partD (.cons _ (.cons_cons _ (.cons_cons _ (.cons_cons _ .slnil)))) 0 rfl (.refl _)), ?_⟩
      intro a hA
      refine any_one (by kernel_rfl) (op_call hA 5 rfl rfl rfl rfl (enters_func  rfl rfl (fun w => hF.inv _ w)) (hF.does _ _ _ (ends_lt _) (ends_lt _)) ?_)
      rintro _ w75 ⟨rfl, hb74⟩
      replace hS := hS.call hb74
      refine ⟨_, rfl, (hS.partD (.cons _ (.cons_cons _ (.cons_cons _ (.cons_cons _ .slnil)))) 0 rfl (.refl _)), ?_⟩
      intro a hA
      refine any_take (v := .bool ((fb b1 b2))) hA 6 rfl rfl rfl rfl (by kernel_rfl) (by kernel_rfl) (by kernel_rfl) (fun c a w h => hP c a _ _ w h) (hS.partD (.cons _ (.cons_cons _ (.cons_cons _ (.cons_cons _ .slnil)))) 0 rfl (.refl _)) (fun w1 hS => does_bin rfl rfl (fun w => (bin_neq w).trans (by rw [hnb]))) ?_
      intro a hA
      refine any_take (v := .agg #[.bool ((fb b1 b2)), .slice none 0 0]) hA 7 rfl rfl rfl rfl (by kernel_rfl) (by kernel_rfl) (by kernel_rfl) (fun c a w h => hP c a _ _ w h) (hS.partD (.cons _ (.cons_cons _ (.cons_cons _ (.cons_cons _ .slnil)))) 0 rfl (.refl _)) (fun w1 hS => does_build rfl (fun w => by kernel_rfl)) ?_
      intro a hA
      refine any_one (by kernel_rfl) (op_store (us := [.bool ((fb b1 b2)), .slice none 0 0]) hA hS 9 rfl rfl rfl (sets_store (cs := [.bool ((fb b1 b2)), .slice none 0 0]) rfl rfl rfl (by kernel_rfl) hS 0 rfl rfl rfl) 0 rfl rfl rfl rfl ?_)
      intro w76 hS
      refine ⟨(hS.partD (.cons _ (.cons_cons _ (.cons_cons _ (.cons_cons _ .slnil)))) 0 rfl (.refl _)), ?_⟩
      refine any_end (by kernel_rfl) ?_
      refine hJ19 _ _ ⟨g70, hA.keep _ ⟨rfl, rfl, rfl, rfl, rfl, rfl, rfl, trivial⟩, ((hS.pickR [] trivial).pickL [(g70, [.bool ((fb b1 b2)), .slice none 0 0]), (g6, [.bool false, .slice none 0 0]), (g4, [.bool b2, .slice r2 ((words y2).length) rc2]), (g2, [.bool b1, .slice r1 ((words y1).length) rc1])] [0, 1, 2, 3] rfl (by decide))⟩
  · refine op_new (vs := [.bool false, .slice none 0 0]) (t := 70) hA hS 8 rfl rfl rfl rfl (fun g => .pointer (some ⟨g, 0, none⟩)) (does_alloc (z := .agg #[.bool false, .slice none 0 0]) (by kernel_rfl) rfl) rfl ?_
    intro g77 w78 hS
    refine ⟨(hS.partD (.cons _ (.cons_cons _ (.cons_cons _ (.cons_cons _ .slnil)))) 0 rfl (.refl _)), ?_⟩
    intro a hA
    refine any_one (by kernel_rfl) (op_call hA 2 rfl rfl rfl rfl (enters_func  rfl rfl (fun w => by kernel_rfl)) (endless_any) ?_)
    rintro _ w80 ⟨rfl, hb79⟩
    replace hS := hS.call hb79
    refine ⟨_, rfl, (hS.partD (.cons _ (.cons_cons _ (.cons_cons _ (.cons_cons _ .slnil)))) 0 rfl (.refl _)), ?_⟩
    intro a hA
    refine any_one (by kernel_rfl) (op_call hA 4 rfl rfl rfl rfl (enters_func  rfl rfl (fun w => by kernel_rfl)) (endless_any) ?_)
    rintro _ w82 ⟨rfl, hb81⟩
    replace hS := hS.call hb81
    refine ⟨_, rfl, (hS.partD (.cons _ (.cons_cons _ (.cons_cons _ (.cons_cons _ .slnil)))) 0 rfl (.refl _)), ?_⟩
    intro a hA
    refine any_one (by kernel_rfl) (op_call hA 5 rfl rfl rfl rfl (enters_func  rfl rfl (fun w => hF.inv _ w)) (hF.does _ _ _ (ends_lt _) (ends_lt _)) ?_)
    rintro _ w84 ⟨rfl, hb83⟩
    replace hS := hS.call hb83
    refine ⟨_, rfl, (hS.partD (.cons _ (.cons_cons _ (.cons_cons _ (.cons_cons _ .slnil)))) 0 rfl (.refl _)), ?_⟩
    intro a hA
    refine any_take (v := .bool ((fb b1 b2))) hA 6 rfl rfl rfl rfl (by kernel_rfl) (by kernel_rfl) (by kernel_rfl) (fun c a w h => hP c a _ _ w h) (hS.partD (.cons _ (.cons_cons _ (.cons_cons _ (.cons_cons _ .slnil)))) 0 rfl (.refl _)) (fun w1 hS => does_bin rfl rfl (fun w => (bin_neq w).trans (by rw [hnb]))) ?_
    intro a hA
    refine any_take (v := .agg #[.bool ((fb b1 b2)), .slice none 0 0]) hA 7 rfl rfl rfl rfl (by kernel_rfl) (by kernel_rfl) (by kernel_rfl) (fun c a w h => hP c a _ _ w h) (hS.partD (.cons _ (.cons_cons _ (.cons_cons _ (.cons_cons _ .slnil)))) 0 rfl (.refl _)) (fun w1 hS => does_build rfl (fun w => by kernel_rfl)) ?_
    intro a hA
    refine any_one (by kernel_rfl) (op_store (us := [.bool ((fb b1 b2)), .slice none 0 0]) hA hS 9 rfl rfl rfl (sets_store (cs := [.bool ((fb b1 b2)), .slice none 0 0]) rfl rfl rfl (by kernel_rfl) hS 0 rfl rfl rfl) 0 rfl rfl rfl rfl ?_)
    intro w85 hS
    refine ⟨(hS.partD (.cons _ (.cons_cons _ (.cons_cons _ (.cons_cons _ .slnil)))) 0 rfl (.refl _)), ?_⟩
    refine any_end (by kernel_rfl) ?_
    refine hJ19 _ _ ⟨g77, hA.keep _ ⟨rfl, rfl, rfl, rfl, rfl, rfl, rfl, trivial⟩, ((hS.pickR [] trivial).pickL [(g77, [.bool ((fb b1 b2)), .slice none 0 0]), (g6, [.bool false, .slice none 0 0]), (g4, [.bool b2, .slice r2 ((words y2).length) rc2]), (g2, [.bool b1, .slice r1 ((words y1).length) rc1])] [0, 1, 2, 3] rfl (by decide))⟩
end Go.Proofs.Ytmibkfihcihphaa
namespace Go.Proofs.Ytmibkfihcihphaa
open Go.RowKit
set_option linter.unusedVariables false
set_option linter.unusedSimpArgs false

theorem putY_len {fop : Nat → Nat → Nat} {fb : Bool → Bool → Bool} (h : BOp fop fb) {b1 b2 : Bool} {y1 y2 : Nat} {k : Nat} (h1 : (words y1).length ≤ k) (h2 : (words y2).length ≤ k) : (words (putY fop fb b1 y1 b2 y2)).length ≤ k := by
  have := val_lt (outL_dig (b1 := b1) (y1 := y1) (b2 := b2) (y2 := y2) h (max (words y1).length (words y2).length))
  rw [outL_len] at this
  exact Nat.le_trans (words_length_le this) (by omega)
def bitQ (fop : Nat → Nat → Nat) (fb : Bool → Bool → Bool) (p q : Q6) : Q6 × Int :=
  if want2 p q = 0 then bigS (fb p.b1 q.b1) (putY fop fb p.b1 (val p.t1 - p.b1.toNat) q.b1 (val q.t1 - q.b1.toNat) + (fb p.b1 q.b1).toNat) else (Q6.zero, want2 p q)
theorem bitQ_err {fop : Nat → Nat → Nat} {fb : Bool → Bool → Bool} {p q : Q6} (h : (want2 p q != 0) = true) : bitQ fop fb p q = (Q6.zero, want2 p q) := by unfold bitQ; rw [if_neg (bne_iff_ne.1 h)]
theorem bitQ_whole {fop : Nat → Nat → Nat} {fb : Bool → Bool → Bool} {b1 b2 : Bool} {x1 x2 : Nat} (h : want2 (Q6.whole b1 x1) (Q6.whole b2 x2) = 0) : bitQ fop fb (Q6.whole b1 x1) (Q6.whole b2 x2) = bigS (fb b1 b2) (putY fop fb b1 (x1 - b1.toNat) b2 (x2 - b2.toNat) + (fb b1 b2).toNat) := by
  unfold bitQ; rw [if_pos h]; simp only [Q6.whole, val_words]
theorem want2_cases (p q : Q6) : (want2 p q = 0 ∧ wholeQ p = true ∧ wholeQ q = true) ∨ (want2 p q != 0) = true := by
  unfold want2
  by_cases h1 : soundQ p = true ∧ soundQ q = true
  · rw [if_pos h1]
    by_cases h2 : wholeQ p = true ∧ wholeQ q = true
    · rw [if_pos h2]; exact .inl ⟨rfl, h2⟩
    · rw [if_neg h2]; exact .inr (by decide)
  · rw [if_neg h1]; exact .inr (by decide)
theorem sub_len {b : Bool} {x k : Nat} (h : (words x).length ≤ k) : (words (x - b.toNat)).length ≤ k := Nat.le_trans (words_mono (Nat.sub_le x b.toNat)) h
end Go.Proofs.Ytmibkfihcihphaa
namespace Go.Proofs.Ytmibkfihcihphaa
open Go.RowKit
set_option linter.unusedVariables false
set_option linter.unusedSimpArgs false
set_option maxRecDepth 100000
theorem BiJ_isS_26 : IsS Try.prog 26 6 := ⟨⟨_, Try.underlying26⟩, by kernel_rfl⟩
theorem bitE_any {w : World} {p q : Q6} {a1 a2 a3 a4 : Option Addr} {ac1 ac2 ac3 ac4 : Nat} (ha : Nm w p a1 ac1 a2 ac2 a3 ac3 a4 ac4) (hl : LenQ p) {u1 u2 u3 u4 : Option Addr} {uc1 uc2 uc3 uc4 : Nat} (hu : Nm w q u1 uc1 u2 uc2 u3 uc3 u4 uc4) (hm : LenQ q) {F : FuncId} {fop : Nat → Nat → Nat} {fb : Bool → Bool → Bool} (hF : Fun2 F fop) (hB : BOp fop fb) (hw : (want2 p q != 0) = true) : Calls Try.prog 44 #[.func (.func F) #[] #[], numV p a1 ac1 a2 ac2 a3 ac3 a4 ac4, numV q u1 uc1 u2 uc2 u3 uc3 u4 uc4] w (AnsN w (bitQ fop fb p q)) := by
  have hS : St w w [] [(u4, q.q2), (u3, q.t2), (u2, q.q1), (u1, q.t1), (a4, p.q2), (a3, p.t2), (a2, p.q1), (a1, p.t1)] [] := ((((((((St.start w).addR ha.s1.rd).addR ha.s2.rd).addR ha.s3.rd).addR ha.s4.rd).addR hu.s1.rd).addR hu.s2.rd).addR hu.s3.rd).addR hu.s4.rd
  refine walk_of (l := [(0, .func (.func F) #[] #[]), (1, .agg #[.bool p.b1, .slice a1 p.t1.length ac1, .slice a2 p.q1.length ac2, .bool p.b2, .slice a3 p.t2.length ac3, .slice a4 p.q2.length ac4]), (2, .agg #[.bool q.b1, .slice u1 q.t1.length uc1, .slice u2 q.q1.length uc2, .bool q.b2, .slice u3 q.t2.length uc3, .slice u4 q.q2.length uc4])]) Try.func44 rfl Try.ntmps44 rfl rfl ?_
  intro Q hret hnorm hP a hA
  refine wp_seq_k (fun K1 hK1 => ?_)
  refine wp_region_lit ?_
  refine seq_new (vs := [.bool p.b1, .slice a1 p.t1.length ac1, .slice a2 p.q1.length ac2, .bool p.b2, .slice a3 p.t2.length ac3, .slice a4 p.q2.length ac4]) (t := 26) hA hS rfl rfl rfl (fun g => .pointer (some ⟨g, 0, none⟩)) (does_box rfl rfl) rfl ?_
  intro g2 w3 hS a hA
  refine seq_new (vs := [.bool q.b1, .slice u1 q.t1.length uc1, .slice u2 q.q1.length uc2, .bool q.b2, .slice u3 q.t2.length uc3, .slice u4 q.q2.length uc4]) (t := 26) hA hS rfl rfl rfl (fun g => .pointer (some ⟨g, 0, none⟩)) (does_box rfl rfl) rfl ?_
  intro g4 w5 hS a hA
  refine seq_new (vs := [.bool false, .slice none 0 0, .slice none 0 0, .bool false, .slice none 0 0, .slice none 0 0]) (t := 26) hA hS rfl rfl rfl (fun g => .pointer (some ⟨g, 0, none⟩)) (does_alloc (z := .agg #[.bool false, .slice none 0 0, .slice none 0 0, .bool false, .slice none 0 0, .slice none 0 0]) (by kernel_rfl) rfl) rfl ?_
  intro g6 w7 hS a hA
  refine seq_do hA rfl rfl rfl (does_assign rfl) ?_
  intro a hA
  refine seq_end ?_
  refine hK1 _ _ ?_
  refine wp_seq_k (fun K8 hK8 => ?_)
  refine wp_seq_k (fun K9 hK9 => ?_)
  refine wp_region_lit ?_
  refine seq_do (v := .agg #[.bool p.b1, .slice a1 p.t1.length ac1, .slice a2 p.q1.length ac2, .bool p.b2, .slice a3 p.t2.length ac3, .slice a4 p.q2.length ac4]) hA rfl rfl rfl (does_loadS hS BiJ_isS_26 rfl 2 rfl (cs := [.bool p.b1, .slice a1 p.t1.length ac1, .slice a2 p.q1.length ac2, .bool p.b2, .slice a3 p.t2.length ac3, .slice a4 p.q2.length ac4]) rfl rfl) ?_
  intro a hA
  refine seq_do (v := .agg #[.bool q.b1, .slice u1 q.t1.length uc1, .slice u2 q.q1.length uc2, .bool q.b2, .slice u3 q.t2.length uc3, .slice u4 q.q2.length uc4]) hA rfl rfl rfl (does_loadS hS BiJ_isS_26 rfl 1 rfl (cs := [.bool q.b1, .slice u1 q.t1.length uc1, .slice u2 q.q1.length uc2, .bool q.b2, .slice u3 q.t2.length uc3, .slice u4 q.q2.length uc4]) rfl rfl) ?_
  intro a hA
  refine seq_new (vs := [.bool p.b1, .slice a1 p.t1.length ac1, .slice a2 p.q1.length ac2, .bool p.b2, .slice a3 p.t2.length ac3, .slice a4 p.q2.length ac4, .bool q.b1, .slice u1 q.t1.length uc1, .slice u2 q.q1.length uc2, .bool q.b2, .slice u3 q.t2.length uc3, .slice u4 q.q2.length uc4]) (t := 26) hA hS rfl rfl rfl (fun g => .slice (some ⟨g, 0, none⟩) 2 2) (does_buildSlice rfl (by kernel_rfl)) rfl ?_
  intro g10 w11 hS a hA
  refine seq_call hA rfl rfl rfl (enters_func  rfl rfl (fun w => by kernel_rfl)) (want2_any (show Nm _ p a1 ac1 a2 ac2 a3 ac3 a4 ac4 from ⟨⟨(hS.rd 7 rfl), ha.s1.nil, ha.s1.cap⟩, ⟨(hS.rd 6 rfl), ha.s2.nil, ha.s2.cap⟩, ⟨(hS.rd 5 rfl), ha.s3.nil, ha.s3.cap⟩, ⟨(hS.rd 4 rfl), ha.s4.nil, ha.s4.cap⟩⟩) hl (show Nm _ q u1 uc1 u2 uc2 u3 uc3 u4 uc4 from ⟨⟨(hS.rd 3 rfl), hu.s1.nil, hu.s1.cap⟩, ⟨(hS.rd 2 rfl), hu.s2.nil, hu.s2.cap⟩, ⟨(hS.rd 1 rfl), hu.s3.nil, hu.s3.cap⟩, ⟨(hS.rd 0 rfl), hu.s4.nil, hu.s4.cap⟩⟩) hm (hS.blk 0 rfl) rfl) ?_
  rintro _ w13 ⟨rfl, hb12⟩
  replace hS := hS.call hb12
  refine ⟨_, rfl, ?_⟩
  intro a hA
  refine seq_do hA rfl rfl rfl (does_assign rfl) ?_
  intro a hA
  refine seq_end ?_
  refine hK9 _ _ ?_
  refine wp_seq_k (fun K14 hK14 => ?_)
  refine wp_region_lit ?_
  refine seq_do hA rfl rfl rfl (does_move rfl) ?_
  intro a hA
  refine seq_do (v := .bool true) hA rfl rfl rfl (does_bin rfl rfl (fun w => (bin_neq w).trans (by rw [show ((want2 p q != 0)) = true from hw]))) ?_
  intro a hA
  refine seq_end ?_
  refine hK14 _ _ ?_
  refine wp_cond_true (hA.ev rfl) ?_
  refine wp_seq_k (fun K15 hK15 => ?_)
  refine wp_region_lit ?_
  refine seq_do (v := .agg #[.bool false, .slice none 0 0, .slice none 0 0, .bool false, .slice none 0 0, .slice none 0 0]) hA rfl rfl rfl (does_build rfl (fun w => by kernel_rfl)) ?_
  intro a hA
  refine seq_do hA rfl rfl rfl (does_move rfl) ?_
  intro a hA
  refine seq_store (us := [.bool false, .slice none 0 0, .slice none 0 0, .bool false, .slice none 0 0, .slice none 0 0]) hA hS rfl rfl (sets_store (cs := [.bool false, .slice none 0 0, .slice none 0 0, .bool false, .slice none 0 0, .slice none 0 0]) rfl rfl rfl (by kernel_rfl) hS 1 rfl rfl rfl) 1 rfl rfl rfl rfl ?_
  intro w16 hS
  refine seq_do hA rfl rfl rfl (does_assign rfl) ?_
  intro a hA
  refine seq_end ?_
  refine hK15 _ _ ?_
  refine wp_ret ?_
  refine hret _ _ ?_
  refine ends (v := .tuple #[.agg #[.bool false, .slice none 0 0, .slice none 0 0, .bool false, .slice none 0 0, .slice none 0 0], .int .i64 (want2 p q)]) hA rfl (.cons (res_cell hS BiJ_isS_26 rfl 1 rfl (cs := [.bool false, .slice none 0 0, .slice none 0 0, .bool false, .slice none 0 0, .slice none 0 0]) rfl rfl) (.cons (res_tmp rfl) .nil)) rfl ?_
  rw [bitQ_err hw]
  exact ⟨none, 0, none, 0, none, 0, none, 0, rfl, ⟨(Sc.none _), (Sc.none _), (Sc.none _), (Sc.none _)⟩, hS.bel⟩
theorem bitW_any {w : World} {b1 b2 : Bool} {x1 x2 : Nat} {a1 a2 a3 a4 : Option Addr} {ac1 ac2 ac3 ac4 : Nat} (ha : Nm w (Q6.whole b1 x1) a1 ac1 a2 ac2 a3 ac3 a4 ac4) (hl : LenQ (Q6.whole b1 x1)) {u1 u2 u3 u4 : Option Addr} {uc1 uc2 uc3 uc4 : Nat} (hu : Nm w (Q6.whole b2 x2) u1 uc1 u2 uc2 u3 uc3 u4 uc4) (hm : LenQ (Q6.whole b2 x2)) {F : FuncId} {fop : Nat → Nat → Nat} {fb : Bool → Bool → Bool} (hF : Fun2 F fop) (hB : BOp fop fb) (hw : want2 (Q6.whole b1 x1) (Q6.whole b2 x2) = 0) (hx1 : (words x1).length ≤ 512) (hb1 : b1.toNat ≤ x1) (hx2 : (words x2).length ≤ 512) (hb2 : b2.toNat ≤ x2) : Calls Try.prog 44 #[.func (.func F) #[] #[], numV (Q6.whole b1 x1) a1 ac1 a2 ac2 a3 ac3 a4 ac4, numV (Q6.whole b2 x2) u1 uc1 u2 uc2 u3 uc3 u4 uc4] w (AnsN w (bitQ fop fb (Q6.whole b1 x1) (Q6.whole b2 x2))) := by
  have hS : St w w [] [(u4, [1]), (u3, []), (u2, [1]), (u1, words x2), (a4, [1]), (a3, []), (a2, [1]), (a1, words x1)] [] := ((((((((St.start w).addR ha.s1.rd).addR ha.s2.rd).addR ha.s3.rd).addR ha.s4.rd).addR hu.s1.rd).addR hu.s2.rd).addR hu.s3.rd).addR hu.s4.rd
  refine walk_of (l := [(0, .func (.func F) #[] #[]), (1, .agg #[.bool b1, .slice a1 ((words x1).length) ac1, .slice a2 1 ac2, .bool false, .slice a3 0 ac3, .slice a4 1 ac4]), (2, .agg #[.bool b2, .slice u1 ((words x2).length) uc1, .slice u2 1 uc2, .bool false, .slice u3 0 uc3, .slice u4 1 uc4])]) Try.func44 rfl Try.ntmps44 rfl rfl ?_
  intro Q hret hnorm hP a hA
  refine wp_seq_k (fun K1 hK1 => ?_)
  refine wp_region_lit ?_
  refine seq_new (vs := [.bool b1, .slice a1 ((words x1).length) ac1, .slice a2 1 ac2, .bool false, .slice a3 0 ac3, .slice a4 1 ac4]) (t := 26) hA hS rfl rfl rfl (fun g => .pointer (some ⟨g, 0, none⟩)) (does_box rfl rfl) rfl ?_
  intro g2 w3 hS a hA
  refine seq_new (vs := [.bool b2, .slice u1 ((words x2).length) uc1, .slice u2 1 uc2, .bool false, .slice u3 0 uc3, .slice u4 1 uc4]) (t := 26) hA hS rfl rfl rfl (fun g => .pointer (some ⟨g, 0, none⟩)) (does_box rfl rfl) rfl ?_
  intro g4 w5 hS a hA
  refine seq_new (vs := [.bool false, .slice none 0 0, .slice none 0 0, .bool false, .slice none 0 0, .slice none 0 0]) (t := 26) hA hS rfl rfl rfl (fun g => .pointer (some ⟨g, 0, none⟩)) (does_alloc (z := .agg #[.bool false, .slice none 0 0, .slice none 0 0, .bool false, .slice none 0 0, .slice none 0 0]) (by kernel_rfl) rfl) rfl ?_
  intro g6 w7 hS a hA
  refine seq_do hA rfl rfl rfl (does_assign rfl) ?_
  intro a hA
  refine seq_end ?_
  refine hK1 _ _ ?_
  refine wp_seq_k (fun K8 hK8 => ?_)
  refine wp_seq_k (fun K9 hK9 => ?_)
  refine wp_region_lit ?_
  refine seq_do (v := .agg #[.bool b1, .slice a1 ((words x1).length) ac1, .slice a2 1 ac2, .bool false, .slice a3 0 ac3, .slice a4 1 ac4]) hA rfl rfl rfl (does_loadS hS BiJ_isS_26 rfl 2 rfl (cs := [.bool b1, .slice a1 ((words x1).length) ac1, .slice a2 1 ac2, .bool false, .slice a3 0 ac3, .slice a4 1 ac4]) rfl rfl) ?_
  intro a hA
  refine seq_do (v := .agg #[.bool b2, .slice u1 ((words x2).length) uc1, .slice u2 1 uc2, .bool false, .slice u3 0 uc3, .slice u4 1 uc4]) hA rfl rfl rfl (does_loadS hS BiJ_isS_26 rfl 1 rfl (cs := [.bool b2, .slice u1 ((words x2).length) uc1, .slice u2 1 uc2, .bool false, .slice u3 0 uc3, .slice u4 1 uc4]) rfl rfl) ?_
  intro a hA
  refine seq_new (vs := [.bool b1, .slice a1 ((words x1).length) ac1, .slice a2 1 ac2, .bool false, .slice a3 0 ac3, .slice a4 1 ac4, .bool b2, .slice u1 ((words x2).length) uc1, .slice u2 1 uc2, .bool false, .slice u3 0 uc3, .slice u4 1 uc4]) (t := 26) hA hS rfl rfl rfl (fun g => .slice (some ⟨g, 0, none⟩) 2 2) (does_buildSlice rfl (by kernel_rfl)) rfl ?_
  intro g10 w11 hS a hA
  refine seq_call hA rfl rfl rfl (enters_func  rfl rfl (fun w => by kernel_rfl)) (want2_any (show Nm _ (Q6.whole b1 x1) a1 ac1 a2 ac2 a3 ac3 a4 ac4 from ⟨⟨(hS.rd 7 rfl), ha.s1.nil, ha.s1.cap⟩, ⟨(hS.rd 6 rfl), ha.s2.nil, ha.s2.cap⟩, ⟨(hS.rd 5 rfl), ha.s3.nil, ha.s3.cap⟩, ⟨(hS.rd 4 rfl), ha.s4.nil, ha.s4.cap⟩⟩) hl (show Nm _ (Q6.whole b2 x2) u1 uc1 u2 uc2 u3 uc3 u4 uc4 from ⟨⟨(hS.rd 3 rfl), hu.s1.nil, hu.s1.cap⟩, ⟨(hS.rd 2 rfl), hu.s2.nil, hu.s2.cap⟩, ⟨(hS.rd 1 rfl), hu.s3.nil, hu.s3.cap⟩, ⟨(hS.rd 0 rfl), hu.s4.nil, hu.s4.cap⟩⟩) hm (hS.blk 0 rfl) hw) ?_
  rintro _ w13 ⟨rfl, hb12⟩
  replace hS := hS.call hb12
  refine ⟨_, rfl, ?_⟩
  intro a hA
  refine seq_do hA rfl rfl rfl (does_assign rfl) ?_
  intro a hA
  refine seq_end ?_
  refine hK9 _ _ ?_
  refine wp_seq_k (fun K14 hK14 => ?_)
  refine wp_region_lit ?_
  refine seq_do hA rfl rfl rfl (does_move rfl) ?_
  intro a hA
  refine seq_do (v := .bool false) hA rfl rfl rfl (does_bin rfl rfl (fun w => by kernel_rfl)) ?_
  intro a hA
  refine seq_end ?_
  refine hK14 _ _ ?_
  refine wp_cond_false (hA.ev rfl) ?_
  refine wp_skip ?_
  refine hK8 _ _ ?_
  refine wp_seq_k (fun K15 hK15 => ?_)
  refine wp_draw (S := fun w1 => St w w1 [(g10, [.bool b1, .slice a1 ((words x1).length) ac1, .slice a2 1 ac2, .bool false, .slice a3 0 ac3, .slice a4 1 ac4, .bool b2, .slice u1 ((words x2).length) uc1, .slice u2 1 uc2, .bool false, .slice u3 0 uc3, .slice u4 1 uc4]), (g4, [.bool b2, .slice u1 ((words x2).length) uc1, .slice u2 1 uc2, .bool false, .slice u3 0 uc3, .slice u4 1 uc4]), (g2, [.bool b1, .slice a1 ((words x1).length) ac1, .slice a2 1 ac2, .bool false, .slice a3 0 ac3, .slice a4 1 ac4])] [(u4, [1]), (u3, []), (u2, [1]), (u1, words x2), (a4, [1]), (a3, []), (a2, [1]), (a1, words x1)] []) (by kernel_rfl) ?_
  replace hS := hS.drew
  refine any_take (v := .agg #[.bool b1, .slice a1 ((words x1).length) ac1, .slice a2 1 ac2, .bool false, .slice a3 0 ac3, .slice a4 1 ac4]) hA 0 rfl rfl rfl rfl (by kernel_rfl) (by kernel_rfl) (by kernel_rfl) (fun c a w h => hP c a _ _ w h) (hS.partD (.cons_cons _ (.cons _ (.cons_cons _ (.cons_cons _ .slnil)))) 0 rfl (.refl _)) (fun w1 hS => does_loadS hS BiJ_isS_26 rfl 2 rfl (cs := [.bool b1, .slice a1 ((words x1).length) ac1, .slice a2 1 ac2, .bool false, .slice a3 0 ac3, .slice a4 1 ac4]) rfl rfl) ?_
  intro a hA
  refine any_take hA 2 rfl rfl rfl rfl (by kernel_rfl) (by kernel_rfl) (by kernel_rfl) (fun c a w h => hP c a _ _ w h) (hS.partD (.cons_cons _ (.cons _ (.cons_cons _ (.cons_cons _ .slnil)))) 0 rfl (.refl _)) (fun w1 hS => does_move rfl) ?_
  intro a hA
  refine any_take (v := .agg #[.bool b2, .slice u1 ((words x2).length) uc1, .slice u2 1 uc2, .bool false, .slice u3 0 uc3, .slice u4 1 uc4]) hA 3 rfl rfl rfl rfl (by kernel_rfl) (by kernel_rfl) (by kernel_rfl) (fun c a w h => hP c a _ _ w h) (hS.partD (.cons_cons _ (.cons _ (.cons_cons _ (.cons_cons _ .slnil)))) 0 rfl (.refl _)) (fun w1 hS => does_loadS hS BiJ_isS_26 rfl 1 rfl (cs := [.bool b2, .slice u1 ((words x2).length) uc1, .slice u2 1 uc2, .bool false, .slice u3 0 uc3, .slice u4 1 uc4]) rfl rfl) ?_
  intro a hA
  refine any_one (by kernel_rfl) (op_call hA 1 rfl rfl rfl rfl (enters_func  rfl rfl (fun w => by kernel_rfl)) (rowOf_any (show Nm _ (Q6.whole b1 x1) a1 ac1 a2 ac2 a3 ac3 a4 ac4 from ⟨⟨(hS.rd 7 rfl), ha.s1.nil, ha.s1.cap⟩, ⟨(hS.rd 6 rfl), ha.s2.nil, ha.s2.cap⟩, ⟨(hS.rd 5 rfl), ha.s3.nil, ha.s3.cap⟩, ⟨(hS.rd 4 rfl), ha.s4.nil, ha.s4.cap⟩⟩) hx1 hb1) ?_)
  rintro _ w20 ⟨ro16, rc17, rfl, hs18, hb19⟩
  replace hS := hS.call hb19
  replace hS := hS.addR hs18.rd
  refine ⟨_, rfl, (hS.partD (.cons_cons _ (.cons _ (.cons_cons _ (.cons_cons _ .slnil)))) 1 rfl (.refl _)), ?_⟩
  intro a hA
  refine any_one (by kernel_rfl) (op_call hA 4 rfl rfl rfl rfl (enters_func  rfl rfl (fun w => by kernel_rfl)) (rowOf_any (show Nm _ (Q6.whole b2 x2) u1 uc1 u2 uc2 u3 uc3 u4 uc4 from ⟨⟨(hS.rd 4 rfl), hu.s1.nil, hu.s1.cap⟩, ⟨(hS.rd 3 rfl), hu.s2.nil, hu.s2.cap⟩, ⟨(hS.rd 2 rfl), hu.s3.nil, hu.s3.cap⟩, ⟨(hS.rd 1 rfl), hu.s4.nil, hu.s4.cap⟩⟩) hx2 hb2) ?_)
  rintro _ w25 ⟨ro21, rc22, rfl, hs23, hb24⟩
  replace hS := hS.call hb24
  replace hS := hS.addR hs23.rd
  refine ⟨_, rfl, (hS.partD (.cons_cons _ (.cons _ (.cons_cons _ (.cons_cons _ .slnil)))) 2 rfl (.refl _)), ?_⟩
  intro a hA
  refine any_one (by kernel_rfl) (op_call hA 5 rfl rfl rfl rfl (enters_func  rfl rfl (fun w => by kernel_rfl)) (combined_any hF hB (hS.rd 1 rfl) (hS.rd 0 rfl) (Nat.le_trans (sub_len hx1) (by decide)) (Nat.le_trans (sub_len hx2) (by decide))) ?_)
  rintro _ w30 ⟨ro26, rc27, rfl, hs28, hb29⟩
  replace hS := hS.call hb29
  replace hS := hS.addR hs28.rd
  refine ⟨_, rfl, (hS.partD (.cons_cons _ (.cons _ (.cons_cons _ (.cons_cons _ .slnil)))) 3 rfl (.refl _)), ?_⟩
  intro a hA
  refine any_one (by kernel_rfl) (op_call hA 6 rfl rfl rfl rfl (enters_func  rfl rfl (fun w => by kernel_rfl)) (number_any (b := (fb b1 b2)) ⟨(hS.rd 0 rfl), hs28.nil, hs28.cap⟩ (putY_len hB (sub_len hx1) (sub_len hx2))) ?_)
  rintro _ w34 ⟨p31_1, p31_c1, p31_2, p31_c2, p31_3, p31_c3, p31_4, p31_c4, rfl, hn32, hb33⟩
  replace hS := hS.call hb33
  replace hS := hS.addR hn32.s1.rd
  replace hS := hS.addR hn32.s2.rd
  replace hS := hS.addR hn32.s3.rd
  replace hS := hS.addR hn32.s4.rd
  refine ⟨_, rfl, (hS.partD (.cons_cons _ (.cons _ (.cons_cons _ (.cons_cons _ .slnil)))) 7 rfl (.refl _)), ?_⟩
  intro a hA
  refine any_take (v := .agg #[.bool ((bigS ((fb b1 b2)) (putY fop fb b1 (x1 - b1.toNat) b2 (x2 - b2.toNat) + ((fb b1 b2)).toNat)).1.b1), .slice p31_1 (((bigS ((fb b1 b2)) (putY fop fb b1 (x1 - b1.toNat) b2 (x2 - b2.toNat) + ((fb b1 b2)).toNat)).1.t1).length) p31_c1, .slice p31_2 (((bigS ((fb b1 b2)) (putY fop fb b1 (x1 - b1.toNat) b2 (x2 - b2.toNat) + ((fb b1 b2)).toNat)).1.q1).length) p31_c2, .bool ((bigS ((fb b1 b2)) (putY fop fb b1 (x1 - b1.toNat) b2 (x2 - b2.toNat) + ((fb b1 b2)).toNat)).1.b2), .slice p31_3 (((bigS ((fb b1 b2)) (putY fop fb b1 (x1 - b1.toNat) b2 (x2 - b2.toNat) + ((fb b1 b2)).toNat)).1.t2).length) p31_c3, .slice p31_4 (((bigS ((fb b1 b2)) (putY fop fb b1 (x1 - b1.toNat) b2 (x2 - b2.toNat) + ((fb b1 b2)).toNat)).1.q2).length) p31_c4]) hA 7 rfl rfl rfl rfl (by kernel_rfl) (by kernel_rfl) (by kernel_rfl) (fun c a w h => hP c a _ _ w h) (hS.partD (.cons_cons _ (.cons _ (.cons_cons _ (.cons_cons _ .slnil)))) 7 rfl (.refl _)) (fun w1 hS => does_extract (vs := [.agg #[.bool ((bigS ((fb b1 b2)) (putY fop fb b1 (x1 - b1.toNat) b2 (x2 - b2.toNat) + ((fb b1 b2)).toNat)).1.b1), .slice p31_1 (((bigS ((fb b1 b2)) (putY fop fb b1 (x1 - b1.toNat) b2 (x2 - b2.toNat) + ((fb b1 b2)).toNat)).1.t1).length) p31_c1, .slice p31_2 (((bigS ((fb b1 b2)) (putY fop fb b1 (x1 - b1.toNat) b2 (x2 - b2.toNat) + ((fb b1 b2)).toNat)).1.q1).length) p31_c2, .bool ((bigS ((fb b1 b2)) (putY fop fb b1 (x1 - b1.toNat) b2 (x2 - b2.toNat) + ((fb b1 b2)).toNat)).1.b2), .slice p31_3 (((bigS ((fb b1 b2)) (putY fop fb b1 (x1 - b1.toNat) b2 (x2 - b2.toNat) + ((fb b1 b2)).toNat)).1.t2).length) p31_c3, .slice p31_4 (((bigS ((fb b1 b2)) (putY fop fb b1 (x1 - b1.toNat) b2 (x2 - b2.toNat) + ((fb b1 b2)).toNat)).1.q2).length) p31_c4], .int .i64 ((bigS ((fb b1 b2)) (putY fop fb b1 (x1 - b1.toNat) b2 (x2 - b2.toNat) + ((fb b1 b2)).toNat)).2)]) rfl rfl) ?_
  intro a hA
  refine any_take (v := .int .i64 ((bigS ((fb b1 b2)) (putY fop fb b1 (x1 - b1.toNat) b2 (x2 - b2.toNat) + ((fb b1 b2)).toNat)).2)) hA 8 rfl rfl rfl rfl (by kernel_rfl) (by kernel_rfl) (by kernel_rfl) (fun c a w h => hP c a _ _ w h) (hS.partD (.cons_cons _ (.cons _ (.cons_cons _ (.cons_cons _ .slnil)))) 7 rfl (.refl _)) (fun w1 hS => does_extract (vs := [.agg #[.bool ((bigS ((fb b1 b2)) (putY fop fb b1 (x1 - b1.toNat) b2 (x2 - b2.toNat) + ((fb b1 b2)).toNat)).1.b1), .slice p31_1 (((bigS ((fb b1 b2)) (putY fop fb b1 (x1 - b1.toNat) b2 (x2 - b2.toNat) + ((fb b1 b2)).toNat)).1.t1).length) p31_c1, .slice p31_2 (((bigS ((fb b1 b2)) (putY fop fb b1 (x1 - b1.toNat) b2 (x2 - b2.toNat) + ((fb b1 b2)).toNat)).1.q1).length) p31_c2, .bool ((bigS ((fb b1 b2)) (putY fop fb b1 (x1 - b1.toNat) b2 (x2 - b2.toNat) + ((fb b1 b2)).toNat)).1.b2), .slice p31_3 (((bigS ((fb b1 b2)) (putY fop fb b1 (x1 - b1.toNat) b2 (x2 - b2.toNat) + ((fb b1 b2)).toNat)).1.t2).length) p31_c3, .slice p31_4 (((bigS ((fb b1 b2)) (putY fop fb b1 (x1 - b1.toNat) b2 (x2 - b2.toNat) + ((fb b1 b2)).toNat)).1.q2).length) p31_c4], .int .i64 ((bigS ((fb b1 b2)) (putY fop fb b1 (x1 - b1.toNat) b2 (x2 - b2.toNat) + ((fb b1 b2)).toNat)).2)]) rfl rfl) ?_
  intro a hA
  refine any_one (by kernel_rfl) (op_store (us := [.bool ((bigS ((fb b1 b2)) (putY fop fb b1 (x1 - b1.toNat) b2 (x2 - b2.toNat) + ((fb b1 b2)).toNat)).1.b1), .slice p31_1 (((bigS ((fb b1 b2)) (putY fop fb b1 (x1 - b1.toNat) b2 (x2 - b2.toNat) + ((fb b1 b2)).toNat)).1.t1).length) p31_c1, .slice p31_2 (((bigS ((fb b1 b2)) (putY fop fb b1 (x1 - b1.toNat) b2 (x2 - b2.toNat) + ((fb b1 b2)).toNat)).1.q1).length) p31_c2, .bool ((bigS ((fb b1 b2)) (putY fop fb b1 (x1 - b1.toNat) b2 (x2 - b2.toNat) + ((fb b1 b2)).toNat)).1.b2), .slice p31_3 (((bigS ((fb b1 b2)) (putY fop fb b1 (x1 - b1.toNat) b2 (x2 - b2.toNat) + ((fb b1 b2)).toNat)).1.t2).length) p31_c3, .slice p31_4 (((bigS ((fb b1 b2)) (putY fop fb b1 (x1 - b1.toNat) b2 (x2 - b2.toNat) + ((fb b1 b2)).toNat)).1.q2).length) p31_c4]) hA hS 9 rfl rfl rfl (sets_store (cs := [.bool ((bigS ((fb b1 b2)) (putY fop fb b1 (x1 - b1.toNat) b2 (x2 - b2.toNat) + ((fb b1 b2)).toNat)).1.b1), .slice p31_1 (((bigS ((fb b1 b2)) (putY fop fb b1 (x1 - b1.toNat) b2 (x2 - b2.toNat) + ((fb b1 b2)).toNat)).1.t1).length) p31_c1, .slice p31_2 (((bigS ((fb b1 b2)) (putY fop fb b1 (x1 - b1.toNat) b2 (x2 - b2.toNat) + ((fb b1 b2)).toNat)).1.q1).length) p31_c2, .bool ((bigS ((fb b1 b2)) (putY fop fb b1 (x1 - b1.toNat) b2 (x2 - b2.toNat) + ((fb b1 b2)).toNat)).1.b2), .slice p31_3 (((bigS ((fb b1 b2)) (putY fop fb b1 (x1 - b1.toNat) b2 (x2 - b2.toNat) + ((fb b1 b2)).toNat)).1.t2).length) p31_c3, .slice p31_4 (((bigS ((fb b1 b2)) (putY fop fb b1 (x1 - b1.toNat) b2 (x2 - b2.toNat) + ((fb b1 b2)).toNat)).1.q2).length) p31_c4]) rfl rfl rfl (by kernel_rfl) hS 1 rfl rfl rfl) 1 rfl rfl rfl rfl ?_)
  intro w35 hS
  refine ⟨(hS.partD (.cons_cons _ (.cons _ (.cons_cons _ (.cons_cons _ .slnil)))) 7 rfl (.refl _)), ?_⟩
  refine any_take hA 10 rfl rfl rfl rfl (by kernel_rfl) (by kernel_rfl) (by kernel_rfl) (fun c a w h => hP c a _ _ w h) (hS.partD (.cons_cons _ (.cons _ (.cons_cons _ (.cons_cons _ .slnil)))) 7 rfl (.refl _)) (fun w1 hS => does_assign rfl) ?_
  intro a hA
  refine any_end (by kernel_rfl) ?_
  refine hK15 _ _ ?_
  refine wp_ret ?_
  refine hret _ _ ?_
  refine ends (v := .tuple #[.agg #[.bool ((bigS ((fb b1 b2)) (putY fop fb b1 (x1 - b1.toNat) b2 (x2 - b2.toNat) + ((fb b1 b2)).toNat)).1.b1), .slice p31_1 (((bigS ((fb b1 b2)) (putY fop fb b1 (x1 - b1.toNat) b2 (x2 - b2.toNat) + ((fb b1 b2)).toNat)).1.t1).length) p31_c1, .slice p31_2 (((bigS ((fb b1 b2)) (putY fop fb b1 (x1 - b1.toNat) b2 (x2 - b2.toNat) + ((fb b1 b2)).toNat)).1.q1).length) p31_c2, .bool ((bigS ((fb b1 b2)) (putY fop fb b1 (x1 - b1.toNat) b2 (x2 - b2.toNat) + ((fb b1 b2)).toNat)).1.b2), .slice p31_3 (((bigS ((fb b1 b2)) (putY fop fb b1 (x1 - b1.toNat) b2 (x2 - b2.toNat) + ((fb b1 b2)).toNat)).1.t2).length) p31_c3, .slice p31_4 (((bigS ((fb b1 b2)) (putY fop fb b1 (x1 - b1.toNat) b2 (x2 - b2.toNat) + ((fb b1 b2)).toNat)).1.q2).length) p31_c4], .int .i64 ((bigS ((fb b1 b2)) (putY fop fb b1 (x1 - b1.toNat) b2 (x2 - b2.toNat) + ((fb b1 b2)).toNat)).2)]) hA rfl (.cons (res_cell hS BiJ_isS_26 rfl 1 rfl (cs := [.bool ((bigS ((fb b1 b2)) (putY fop fb b1 (x1 - b1.toNat) b2 (x2 - b2.toNat) + ((fb b1 b2)).toNat)).1.b1), .slice p31_1 (((bigS ((fb b1 b2)) (putY fop fb b1 (x1 - b1.toNat) b2 (x2 - b2.toNat) + ((fb b1 b2)).toNat)).1.t1).length) p31_c1, .slice p31_2 (((bigS ((fb b1 b2)) (putY fop fb b1 (x1 - b1.toNat) b2 (x2 - b2.toNat) + ((fb b1 b2)).toNat)).1.q1).length) p31_c2, .bool ((bigS ((fb b1 b2)) (putY fop fb b1 (x1 - b1.toNat) b2 (x2 - b2.toNat) + ((fb b1 b2)).toNat)).1.b2), .slice p31_3 (((bigS ((fb b1 b2)) (putY fop fb b1 (x1 - b1.toNat) b2 (x2 - b2.toNat) + ((fb b1 b2)).toNat)).1.t2).length) p31_c3, .slice p31_4 (((bigS ((fb b1 b2)) (putY fop fb b1 (x1 - b1.toNat) b2 (x2 - b2.toNat) + ((fb b1 b2)).toNat)).1.q2).length) p31_c4]) rfl rfl) (.cons (res_tmp rfl) .nil)) rfl ?_
  rw [bitQ_whole hw]
  exact ⟨p31_1, p31_c1, p31_2, p31_c2, p31_3, p31_c3, p31_4, p31_c4, rfl, ⟨⟨(hS.rd 3 rfl), hn32.s1.nil, hn32.s1.cap⟩, ⟨(hS.rd 2 rfl), hn32.s2.nil, hn32.s2.cap⟩, ⟨(hS.rd 1 rfl), hn32.s3.nil, hn32.s3.cap⟩, ⟨(hS.rd 0 rfl), hn32.s4.nil, hn32.s4.cap⟩⟩, hS.bel⟩
/-- A number is told by its parts: whole, or refused. -/
theorem wholeOf {q : Q6} {w : World} {a1 a2 a3 a4 : Option Addr} {ac1 ac2 ac3 ac4 : Nat} (ha : Nm w q a1 ac1 a2 ac2 a3 ac3 a4 ac4) (h : wholeQ q = true) : ∃ b x, q = Q6.whole b x ∧ (words x).length ≤ 512 ∧ b.toNat ≤ x := by
  obtain ⟨x, h1, h2, h3⟩ := whole_form ha.s1.rd.dig ha.s4.rd.dig h
  exact ⟨q.b1, x, h1, h2, h3⟩
theorem bitN_any {w : World} {p q : Q6} {a1 a2 a3 a4 : Option Addr} {ac1 ac2 ac3 ac4 : Nat} (ha : Nm w p a1 ac1 a2 ac2 a3 ac3 a4 ac4) (hl : LenQ p) {u1 u2 u3 u4 : Option Addr} {uc1 uc2 uc3 uc4 : Nat} (hu : Nm w q u1 uc1 u2 uc2 u3 uc3 u4 uc4) (hm : LenQ q) {F : FuncId} {fop : Nat → Nat → Nat} {fb : Bool → Bool → Bool} (hF : Fun2 F fop) (hB : BOp fop fb) : Calls Try.prog 44 #[.func (.func F) #[] #[], numV p a1 ac1 a2 ac2 a3 ac3 a4 ac4, numV q u1 uc1 u2 uc2 u3 uc3 u4 uc4] w (AnsN w (bitQ fop fb p q)) := by
  rcases want2_cases p q with ⟨hw, h1, h2⟩ | hw
  · obtain ⟨b1, x1, rfl, hx1, hb1⟩ := wholeOf ha h1
    obtain ⟨b2, x2, rfl, hx2, hb2⟩ := wholeOf hu h2
    exact bitW_any ha hl hu hm hF hB hw hx1 hb1 hx2 hb2
  · exact bitE_any ha hl hu hm hF hB hw
theorem andQ_any {w : World} {p q : Q6} {a1 a2 a3 a4 : Option Addr} {ac1 ac2 ac3 ac4 : Nat} (ha : Nm w p a1 ac1 a2 ac2 a3 ac3 a4 ac4) (hl : LenQ p) {u1 u2 u3 u4 : Option Addr} {uc1 uc2 uc3 uc4 : Nat} (hu : Nm w q u1 uc1 u2 uc2 u3 uc3 u4 uc4) (hm : LenQ q) : Calls Try.prog 17 #[numV p a1 ac1 a2 ac2 a3 ac3 a4 ac4, numV q u1 uc1 u2 uc2 u3 uc3 u4 uc4] w (AnsN w (bitQ (fun x y => x &&& y) (fun b c => b && c) p q)) := by
  have hS : St w w [] [(u4, q.q2), (u3, q.t2), (u2, q.q1), (u1, q.t1), (a4, p.q2), (a3, p.t2), (a2, p.q1), (a1, p.t1)] [] := ((((((((St.start w).addR ha.s1.rd).addR ha.s2.rd).addR ha.s3.rd).addR ha.s4.rd).addR hu.s1.rd).addR hu.s2.rd).addR hu.s3.rd).addR hu.s4.rd
  refine walk_of (l := [(0, .agg #[.bool p.b1, .slice a1 p.t1.length ac1, .slice a2 p.q1.length ac2, .bool p.b2, .slice a3 p.t2.length ac3, .slice a4 p.q2.length ac4]), (1, .agg #[.bool q.b1, .slice u1 q.t1.length uc1, .slice u2 q.q1.length uc2, .bool q.b2, .slice u3 q.t2.length uc3, .slice u4 q.q2.length uc4])]) Try.func17 rfl Try.ntmps17 rfl rfl ?_
  intro Q hret hnorm hP a hA
  refine wp_seq_k (fun K1 hK1 => ?_)
  refine wp_region_lit ?_
  refine seq_new (vs := [.bool p.b1, .slice a1 p.t1.length ac1, .slice a2 p.q1.length ac2, .bool p.b2, .slice a3 p.t2.length ac3, .slice a4 p.q2.length ac4]) (t := 26) hA hS rfl rfl rfl (fun g => .pointer (some ⟨g, 0, none⟩)) (does_box rfl rfl) rfl ?_
  intro g2 w3 hS a hA
  refine seq_new (vs := [.bool q.b1, .slice u1 q.t1.length uc1, .slice u2 q.q1.length uc2, .bool q.b2, .slice u3 q.t2.length uc3, .slice u4 q.q2.length uc4]) (t := 26) hA hS rfl rfl rfl (fun g => .pointer (some ⟨g, 0, none⟩)) (does_box rfl rfl) rfl ?_
  intro g4 w5 hS a hA
  refine seq_new (vs := [.bool false, .slice none 0 0, .slice none 0 0, .bool false, .slice none 0 0, .slice none 0 0]) (t := 26) hA hS rfl rfl rfl (fun g => .pointer (some ⟨g, 0, none⟩)) (does_alloc (z := .agg #[.bool false, .slice none 0 0, .slice none 0 0, .bool false, .slice none 0 0, .slice none 0 0]) (by kernel_rfl) rfl) rfl ?_
  intro g6 w7 hS a hA
  refine seq_do hA rfl rfl rfl (does_assign rfl) ?_
  intro a hA
  refine seq_end ?_
  refine hK1 _ _ ?_
  refine wp_seq_k (fun K8 hK8 => ?_)
  refine wp_region_lit ?_
  refine seq_do (v := .agg #[.bool p.b1, .slice a1 p.t1.length ac1, .slice a2 p.q1.length ac2, .bool p.b2, .slice a3 p.t2.length ac3, .slice a4 p.q2.length ac4]) hA rfl rfl rfl (does_loadS hS BiJ_isS_26 rfl 2 rfl (cs := [.bool p.b1, .slice a1 p.t1.length ac1, .slice a2 p.q1.length ac2, .bool p.b2, .slice a3 p.t2.length ac3, .slice a4 p.q2.length ac4]) rfl rfl) ?_
  intro a hA
  refine seq_do (v := .agg #[.bool q.b1, .slice u1 q.t1.length uc1, .slice u2 q.q1.length uc2, .bool q.b2, .slice u3 q.t2.length uc3, .slice u4 q.q2.length uc4]) hA rfl rfl rfl (does_loadS hS BiJ_isS_26 rfl 1 rfl (cs := [.bool q.b1, .slice u1 q.t1.length uc1, .slice u2 q.q1.length uc2, .bool q.b2, .slice u3 q.t2.length uc3, .slice u4 q.q2.length uc4]) rfl rfl) ?_
  intro a hA
  refine seq_call hA rfl rfl rfl (enters_func  rfl rfl (fun w => by kernel_rfl)) (bitN_any (show Nm _ p a1 ac1 a2 ac2 a3 ac3 a4 ac4 from ⟨⟨(hS.rd 7 rfl), ha.s1.nil, ha.s1.cap⟩, ⟨(hS.rd 6 rfl), ha.s2.nil, ha.s2.cap⟩, ⟨(hS.rd 5 rfl), ha.s3.nil, ha.s3.cap⟩, ⟨(hS.rd 4 rfl), ha.s4.nil, ha.s4.cap⟩⟩) hl (show Nm _ q u1 uc1 u2 uc2 u3 uc3 u4 uc4 from ⟨⟨(hS.rd 3 rfl), hu.s1.nil, hu.s1.cap⟩, ⟨(hS.rd 2 rfl), hu.s2.nil, hu.s2.cap⟩, ⟨(hS.rd 1 rfl), hu.s3.nil, hu.s3.cap⟩, ⟨(hS.rd 0 rfl), hu.s4.nil, hu.s4.cap⟩⟩) hm andFun and_op) ?_
  rintro _ w12 ⟨p9_1, p9_c1, p9_2, p9_c2, p9_3, p9_c3, p9_4, p9_c4, rfl, hn10, hb11⟩
  replace hS := hS.call hb11
  replace hS := hS.addR hn10.s1.rd
  replace hS := hS.addR hn10.s2.rd
  replace hS := hS.addR hn10.s3.rd
  replace hS := hS.addR hn10.s4.rd
  refine ⟨_, rfl, ?_⟩
  intro a hA
  refine seq_do (v := .agg #[.bool ((bitQ (fun x y => x &&& y) (fun b c => b && c) p q).1.b1), .slice p9_1 (((bitQ (fun x y => x &&& y) (fun b c => b && c) p q).1.t1).length) p9_c1, .slice p9_2 (((bitQ (fun x y => x &&& y) (fun b c => b && c) p q).1.q1).length) p9_c2, .bool ((bitQ (fun x y => x &&& y) (fun b c => b && c) p q).1.b2), .slice p9_3 (((bitQ (fun x y => x &&& y) (fun b c => b && c) p q).1.t2).length) p9_c3, .slice p9_4 (((bitQ (fun x y => x &&& y) (fun b c => b && c) p q).1.q2).length) p9_c4]) hA rfl rfl rfl (does_extract (vs := [.agg #[.bool ((bitQ (fun x y => x &&& y) (fun b c => b && c) p q).1.b1), .slice p9_1 (((bitQ (fun x y => x &&& y) (fun b c => b && c) p q).1.t1).length) p9_c1, .slice p9_2 (((bitQ (fun x y => x &&& y) (fun b c => b && c) p q).1.q1).length) p9_c2, .bool ((bitQ (fun x y => x &&& y) (fun b c => b && c) p q).1.b2), .slice p9_3 (((bitQ (fun x y => x &&& y) (fun b c => b && c) p q).1.t2).length) p9_c3, .slice p9_4 (((bitQ (fun x y => x &&& y) (fun b c => b && c) p q).1.q2).length) p9_c4], .int .i64 ((bitQ (fun x y => x &&& y) (fun b c => b && c) p q).2)]) rfl rfl) ?_
  intro a hA
  refine seq_do (v := .int .i64 ((bitQ (fun x y => x &&& y) (fun b c => b && c) p q).2)) hA rfl rfl rfl (does_extract (vs := [.agg #[.bool ((bitQ (fun x y => x &&& y) (fun b c => b && c) p q).1.b1), .slice p9_1 (((bitQ (fun x y => x &&& y) (fun b c => b && c) p q).1.t1).length) p9_c1, .slice p9_2 (((bitQ (fun x y => x &&& y) (fun b c => b && c) p q).1.q1).length) p9_c2, .bool ((bitQ (fun x y => x &&& y) (fun b c => b && c) p q).1.b2), .slice p9_3 (((bitQ (fun x y => x &&& y) (fun b c => b && c) p q).1.t2).length) p9_c3, .slice p9_4 (((bitQ (fun x y => x &&& y) (fun b c => b && c) p q).1.q2).length) p9_c4], .int .i64 ((bitQ (fun x y => x &&& y) (fun b c => b && c) p q).2)]) rfl rfl) ?_
  intro a hA
  refine seq_store (us := [.bool ((bitQ (fun x y => x &&& y) (fun b c => b && c) p q).1.b1), .slice p9_1 (((bitQ (fun x y => x &&& y) (fun b c => b && c) p q).1.t1).length) p9_c1, .slice p9_2 (((bitQ (fun x y => x &&& y) (fun b c => b && c) p q).1.q1).length) p9_c2, .bool ((bitQ (fun x y => x &&& y) (fun b c => b && c) p q).1.b2), .slice p9_3 (((bitQ (fun x y => x &&& y) (fun b c => b && c) p q).1.t2).length) p9_c3, .slice p9_4 (((bitQ (fun x y => x &&& y) (fun b c => b && c) p q).1.q2).length) p9_c4]) hA hS rfl rfl (sets_store (cs := [.bool ((bitQ (fun x y => x &&& y) (fun b c => b && c) p q).1.b1), .slice p9_1 (((bitQ (fun x y => x &&& y) (fun b c => b && c) p q).1.t1).length) p9_c1, .slice p9_2 (((bitQ (fun x y => x &&& y) (fun b c => b && c) p q).1.q1).length) p9_c2, .bool ((bitQ (fun x y => x &&& y) (fun b c => b && c) p q).1.b2), .slice p9_3 (((bitQ (fun x y => x &&& y) (fun b c => b && c) p q).1.t2).length) p9_c3, .slice p9_4 (((bitQ (fun x y => x &&& y) (fun b c => b && c) p q).1.q2).length) p9_c4]) rfl rfl rfl (by kernel_rfl) hS 0 rfl rfl rfl) 0 rfl rfl rfl rfl ?_
  intro w13 hS
  refine seq_do hA rfl rfl rfl (does_assign rfl) ?_
  intro a hA
  refine seq_end ?_
  refine hK8 _ _ ?_
  refine wp_ret ?_
  refine hret _ _ ?_
  refine ends (v := .tuple #[.agg #[.bool ((bitQ (fun x y => x &&& y) (fun b c => b && c) p q).1.b1), .slice p9_1 (((bitQ (fun x y => x &&& y) (fun b c => b && c) p q).1.t1).length) p9_c1, .slice p9_2 (((bitQ (fun x y => x &&& y) (fun b c => b && c) p q).1.q1).length) p9_c2, .bool ((bitQ (fun x y => x &&& y) (fun b c => b && c) p q).1.b2), .slice p9_3 (((bitQ (fun x y => x &&& y) (fun b c => b && c) p q).1.t2).length) p9_c3, .slice p9_4 (((bitQ (fun x y => x &&& y) (fun b c => b && c) p q).1.q2).length) p9_c4], .int .i64 ((bitQ (fun x y => x &&& y) (fun b c => b && c) p q).2)]) hA rfl (.cons (res_cell hS BiJ_isS_26 rfl 0 rfl (cs := [.bool ((bitQ (fun x y => x &&& y) (fun b c => b && c) p q).1.b1), .slice p9_1 (((bitQ (fun x y => x &&& y) (fun b c => b && c) p q).1.t1).length) p9_c1, .slice p9_2 (((bitQ (fun x y => x &&& y) (fun b c => b && c) p q).1.q1).length) p9_c2, .bool ((bitQ (fun x y => x &&& y) (fun b c => b && c) p q).1.b2), .slice p9_3 (((bitQ (fun x y => x &&& y) (fun b c => b && c) p q).1.t2).length) p9_c3, .slice p9_4 (((bitQ (fun x y => x &&& y) (fun b c => b && c) p q).1.q2).length) p9_c4]) rfl rfl) (.cons (res_tmp rfl) .nil)) rfl ?_
  exact ⟨p9_1, p9_c1, p9_2, p9_c2, p9_3, p9_c3, p9_4, p9_c4, rfl, ⟨⟨(hS.rd 3 rfl), hn10.s1.nil, hn10.s1.cap⟩, ⟨(hS.rd 2 rfl), hn10.s2.nil, hn10.s2.cap⟩, ⟨(hS.rd 1 rfl), hn10.s3.nil, hn10.s3.cap⟩, ⟨(hS.rd 0 rfl), hn10.s4.nil, hn10.s4.cap⟩⟩, hS.bel⟩
theorem orQ_any {w : World} {p q : Q6} {a1 a2 a3 a4 : Option Addr} {ac1 ac2 ac3 ac4 : Nat} (ha : Nm w p a1 ac1 a2 ac2 a3 ac3 a4 ac4) (hl : LenQ p) {u1 u2 u3 u4 : Option Addr} {uc1 uc2 uc3 uc4 : Nat} (hu : Nm w q u1 uc1 u2 uc2 u3 uc3 u4 uc4) (hm : LenQ q) : Calls Try.prog 18 #[numV p a1 ac1 a2 ac2 a3 ac3 a4 ac4, numV q u1 uc1 u2 uc2 u3 uc3 u4 uc4] w (AnsN w (bitQ (fun x y => x ||| y) (fun b c => b || c) p q)) := by
  have hS : St w w [] [(u4, q.q2), (u3, q.t2), (u2, q.q1), (u1, q.t1), (a4, p.q2), (a3, p.t2), (a2, p.q1), (a1, p.t1)] [] := ((((((((St.start w).addR ha.s1.rd).addR ha.s2.rd).addR ha.s3.rd).addR ha.s4.rd).addR hu.s1.rd).addR hu.s2.rd).addR hu.s3.rd).addR hu.s4.rd
  refine walk_of (l := [(0, .agg #[.bool p.b1, .slice a1 p.t1.length ac1, .slice a2 p.q1.length ac2, .bool p.b2, .slice a3 p.t2.length ac3, .slice a4 p.q2.length ac4]), (1, .agg #[.bool q.b1, .slice u1 q.t1.length uc1, .slice u2 q.q1.length uc2, .bool q.b2, .slice u3 q.t2.length uc3, .slice u4 q.q2.length uc4])]) Try.func18 rfl Try.ntmps18 rfl rfl ?_
  intro Q hret hnorm hP a hA
  refine wp_seq_k (fun K1 hK1 => ?_)
  refine wp_region_lit ?_
  refine seq_new (vs := [.bool p.b1, .slice a1 p.t1.length ac1, .slice a2 p.q1.length ac2, .bool p.b2, .slice a3 p.t2.length ac3, .slice a4 p.q2.length ac4]) (t := 26) hA hS rfl rfl rfl (fun g => .pointer (some ⟨g, 0, none⟩)) (does_box rfl rfl) rfl ?_
  intro g2 w3 hS a hA
  refine seq_new (vs := [.bool q.b1, .slice u1 q.t1.length uc1, .slice u2 q.q1.length uc2, .bool q.b2, .slice u3 q.t2.length uc3, .slice u4 q.q2.length uc4]) (t := 26) hA hS rfl rfl rfl (fun g => .pointer (some ⟨g, 0, none⟩)) (does_box rfl rfl) rfl ?_
  intro g4 w5 hS a hA
  refine seq_new (vs := [.bool false, .slice none 0 0, .slice none 0 0, .bool false, .slice none 0 0, .slice none 0 0]) (t := 26) hA hS rfl rfl rfl (fun g => .pointer (some ⟨g, 0, none⟩)) (does_alloc (z := .agg #[.bool false, .slice none 0 0, .slice none 0 0, .bool false, .slice none 0 0, .slice none 0 0]) (by kernel_rfl) rfl) rfl ?_
  intro g6 w7 hS a hA
  refine seq_do hA rfl rfl rfl (does_assign rfl) ?_
  intro a hA
  refine seq_end ?_
  refine hK1 _ _ ?_
  refine wp_seq_k (fun K8 hK8 => ?_)
  refine wp_region_lit ?_
  refine seq_do (v := .agg #[.bool p.b1, .slice a1 p.t1.length ac1, .slice a2 p.q1.length ac2, .bool p.b2, .slice a3 p.t2.length ac3, .slice a4 p.q2.length ac4]) hA rfl rfl rfl (does_loadS hS BiJ_isS_26 rfl 2 rfl (cs := [.bool p.b1, .slice a1 p.t1.length ac1, .slice a2 p.q1.length ac2, .bool p.b2, .slice a3 p.t2.length ac3, .slice a4 p.q2.length ac4]) rfl rfl) ?_
  intro a hA
  refine seq_do (v := .agg #[.bool q.b1, .slice u1 q.t1.length uc1, .slice u2 q.q1.length uc2, .bool q.b2, .slice u3 q.t2.length uc3, .slice u4 q.q2.length uc4]) hA rfl rfl rfl (does_loadS hS BiJ_isS_26 rfl 1 rfl (cs := [.bool q.b1, .slice u1 q.t1.length uc1, .slice u2 q.q1.length uc2, .bool q.b2, .slice u3 q.t2.length uc3, .slice u4 q.q2.length uc4]) rfl rfl) ?_
  intro a hA
  refine seq_call hA rfl rfl rfl (enters_func  rfl rfl (fun w => by kernel_rfl)) (bitN_any (show Nm _ p a1 ac1 a2 ac2 a3 ac3 a4 ac4 from ⟨⟨(hS.rd 7 rfl), ha.s1.nil, ha.s1.cap⟩, ⟨(hS.rd 6 rfl), ha.s2.nil, ha.s2.cap⟩, ⟨(hS.rd 5 rfl), ha.s3.nil, ha.s3.cap⟩, ⟨(hS.rd 4 rfl), ha.s4.nil, ha.s4.cap⟩⟩) hl (show Nm _ q u1 uc1 u2 uc2 u3 uc3 u4 uc4 from ⟨⟨(hS.rd 3 rfl), hu.s1.nil, hu.s1.cap⟩, ⟨(hS.rd 2 rfl), hu.s2.nil, hu.s2.cap⟩, ⟨(hS.rd 1 rfl), hu.s3.nil, hu.s3.cap⟩, ⟨(hS.rd 0 rfl), hu.s4.nil, hu.s4.cap⟩⟩) hm orFun or_op) ?_
  rintro _ w12 ⟨p9_1, p9_c1, p9_2, p9_c2, p9_3, p9_c3, p9_4, p9_c4, rfl, hn10, hb11⟩
  replace hS := hS.call hb11
  replace hS := hS.addR hn10.s1.rd
  replace hS := hS.addR hn10.s2.rd
  replace hS := hS.addR hn10.s3.rd
  replace hS := hS.addR hn10.s4.rd
  refine ⟨_, rfl, ?_⟩
  intro a hA
  refine seq_do (v := .agg #[.bool ((bitQ (fun x y => x ||| y) (fun b c => b || c) p q).1.b1), .slice p9_1 (((bitQ (fun x y => x ||| y) (fun b c => b || c) p q).1.t1).length) p9_c1, .slice p9_2 (((bitQ (fun x y => x ||| y) (fun b c => b || c) p q).1.q1).length) p9_c2, .bool ((bitQ (fun x y => x ||| y) (fun b c => b || c) p q).1.b2), .slice p9_3 (((bitQ (fun x y => x ||| y) (fun b c => b || c) p q).1.t2).length) p9_c3, .slice p9_4 (((bitQ (fun x y => x ||| y) (fun b c => b || c) p q).1.q2).length) p9_c4]) hA rfl rfl rfl (does_extract (vs := [.agg #[.bool ((bitQ (fun x y => x ||| y) (fun b c => b || c) p q).1.b1), .slice p9_1 (((bitQ (fun x y => x ||| y) (fun b c => b || c) p q).1.t1).length) p9_c1, .slice p9_2 (((bitQ (fun x y => x ||| y) (fun b c => b || c) p q).1.q1).length) p9_c2, .bool ((bitQ (fun x y => x ||| y) (fun b c => b || c) p q).1.b2), .slice p9_3 (((bitQ (fun x y => x ||| y) (fun b c => b || c) p q).1.t2).length) p9_c3, .slice p9_4 (((bitQ (fun x y => x ||| y) (fun b c => b || c) p q).1.q2).length) p9_c4], .int .i64 ((bitQ (fun x y => x ||| y) (fun b c => b || c) p q).2)]) rfl rfl) ?_
  intro a hA
  refine seq_do (v := .int .i64 ((bitQ (fun x y => x ||| y) (fun b c => b || c) p q).2)) hA rfl rfl rfl (does_extract (vs := [.agg #[.bool ((bitQ (fun x y => x ||| y) (fun b c => b || c) p q).1.b1), .slice p9_1 (((bitQ (fun x y => x ||| y) (fun b c => b || c) p q).1.t1).length) p9_c1, .slice p9_2 (((bitQ (fun x y => x ||| y) (fun b c => b || c) p q).1.q1).length) p9_c2, .bool ((bitQ (fun x y => x ||| y) (fun b c => b || c) p q).1.b2), .slice p9_3 (((bitQ (fun x y => x ||| y) (fun b c => b || c) p q).1.t2).length) p9_c3, .slice p9_4 (((bitQ (fun x y => x ||| y) (fun b c => b || c) p q).1.q2).length) p9_c4], .int .i64 ((bitQ (fun x y => x ||| y) (fun b c => b || c) p q).2)]) rfl rfl) ?_
  intro a hA
  refine seq_store (us := [.bool ((bitQ (fun x y => x ||| y) (fun b c => b || c) p q).1.b1), .slice p9_1 (((bitQ (fun x y => x ||| y) (fun b c => b || c) p q).1.t1).length) p9_c1, .slice p9_2 (((bitQ (fun x y => x ||| y) (fun b c => b || c) p q).1.q1).length) p9_c2, .bool ((bitQ (fun x y => x ||| y) (fun b c => b || c) p q).1.b2), .slice p9_3 (((bitQ (fun x y => x ||| y) (fun b c => b || c) p q).1.t2).length) p9_c3, .slice p9_4 (((bitQ (fun x y => x ||| y) (fun b c => b || c) p q).1.q2).length) p9_c4]) hA hS rfl rfl (sets_store (cs := [.bool ((bitQ (fun x y => x ||| y) (fun b c => b || c) p q).1.b1), .slice p9_1 (((bitQ (fun x y => x ||| y) (fun b c => b || c) p q).1.t1).length) p9_c1, .slice p9_2 (((bitQ (fun x y => x ||| y) (fun b c => b || c) p q).1.q1).length) p9_c2, .bool ((bitQ (fun x y => x ||| y) (fun b c => b || c) p q).1.b2), .slice p9_3 (((bitQ (fun x y => x ||| y) (fun b c => b || c) p q).1.t2).length) p9_c3, .slice p9_4 (((bitQ (fun x y => x ||| y) (fun b c => b || c) p q).1.q2).length) p9_c4]) rfl rfl rfl (by kernel_rfl) hS 0 rfl rfl rfl) 0 rfl rfl rfl rfl ?_
  intro w13 hS
  refine seq_do hA rfl rfl rfl (does_assign rfl) ?_
  intro a hA
  refine seq_end ?_
  refine hK8 _ _ ?_
  refine wp_ret ?_
  refine hret _ _ ?_
  refine ends (v := .tuple #[.agg #[.bool ((bitQ (fun x y => x ||| y) (fun b c => b || c) p q).1.b1), .slice p9_1 (((bitQ (fun x y => x ||| y) (fun b c => b || c) p q).1.t1).length) p9_c1, .slice p9_2 (((bitQ (fun x y => x ||| y) (fun b c => b || c) p q).1.q1).length) p9_c2, .bool ((bitQ (fun x y => x ||| y) (fun b c => b || c) p q).1.b2), .slice p9_3 (((bitQ (fun x y => x ||| y) (fun b c => b || c) p q).1.t2).length) p9_c3, .slice p9_4 (((bitQ (fun x y => x ||| y) (fun b c => b || c) p q).1.q2).length) p9_c4], .int .i64 ((bitQ (fun x y => x ||| y) (fun b c => b || c) p q).2)]) hA rfl (.cons (res_cell hS BiJ_isS_26 rfl 0 rfl (cs := [.bool ((bitQ (fun x y => x ||| y) (fun b c => b || c) p q).1.b1), .slice p9_1 (((bitQ (fun x y => x ||| y) (fun b c => b || c) p q).1.t1).length) p9_c1, .slice p9_2 (((bitQ (fun x y => x ||| y) (fun b c => b || c) p q).1.q1).length) p9_c2, .bool ((bitQ (fun x y => x ||| y) (fun b c => b || c) p q).1.b2), .slice p9_3 (((bitQ (fun x y => x ||| y) (fun b c => b || c) p q).1.t2).length) p9_c3, .slice p9_4 (((bitQ (fun x y => x ||| y) (fun b c => b || c) p q).1.q2).length) p9_c4]) rfl rfl) (.cons (res_tmp rfl) .nil)) rfl ?_
  exact ⟨p9_1, p9_c1, p9_2, p9_c2, p9_3, p9_c3, p9_4, p9_c4, rfl, ⟨⟨(hS.rd 3 rfl), hn10.s1.nil, hn10.s1.cap⟩, ⟨(hS.rd 2 rfl), hn10.s2.nil, hn10.s2.cap⟩, ⟨(hS.rd 1 rfl), hn10.s3.nil, hn10.s3.cap⟩, ⟨(hS.rd 0 rfl), hn10.s4.nil, hn10.s4.cap⟩⟩, hS.bel⟩
theorem xorQ_any {w : World} {p q : Q6} {a1 a2 a3 a4 : Option Addr} {ac1 ac2 ac3 ac4 : Nat} (ha : Nm w p a1 ac1 a2 ac2 a3 ac3 a4 ac4) (hl : LenQ p) {u1 u2 u3 u4 : Option Addr} {uc1 uc2 uc3 uc4 : Nat} (hu : Nm w q u1 uc1 u2 uc2 u3 uc3 u4 uc4) (hm : LenQ q) : Calls Try.prog 19 #[numV p a1 ac1 a2 ac2 a3 ac3 a4 ac4, numV q u1 uc1 u2 uc2 u3 uc3 u4 uc4] w (AnsN w (bitQ (fun x y => x ^^^ y) (fun b c => b != c) p q)) := by
  have hS : St w w [] [(u4, q.q2), (u3, q.t2), (u2, q.q1), (u1, q.t1), (a4, p.q2), (a3, p.t2), (a2, p.q1), (a1, p.t1)] [] := ((((((((St.start w).addR ha.s1.rd).addR ha.s2.rd).addR ha.s3.rd).addR ha.s4.rd).addR hu.s1.rd).addR hu.s2.rd).addR hu.s3.rd).addR hu.s4.rd
  refine walk_of (l := [(0, .agg #[.bool p.b1, .slice a1 p.t1.length ac1, .slice a2 p.q1.length ac2, .bool p.b2, .slice a3 p.t2.length ac3, .slice a4 p.q2.length ac4]), (1, .agg #[.bool q.b1, .slice u1 q.t1.length uc1, .slice u2 q.q1.length uc2, .bool q.b2, .slice u3 q.t2.length uc3, .slice u4 q.q2.length uc4])]) Try.func19 rfl Try.ntmps19 rfl rfl ?_
  intro Q hret hnorm hP a hA
  refine wp_seq_k (fun K1 hK1 => ?_)
  refine wp_region_lit ?_
  refine seq_new (vs := [.bool p.b1, .slice a1 p.t1.length ac1, .slice a2 p.q1.length ac2, .bool p.b2, .slice a3 p.t2.length ac3, .slice a4 p.q2.length ac4]) (t := 26) hA hS rfl rfl rfl (fun g => .pointer (some ⟨g, 0, none⟩)) (does_box rfl rfl) rfl ?_
  intro g2 w3 hS a hA
  refine seq_new (vs := [.bool q.b1, .slice u1 q.t1.length uc1, .slice u2 q.q1.length uc2, .bool q.b2, .slice u3 q.t2.length uc3, .slice u4 q.q2.length uc4]) (t := 26) hA hS rfl rfl rfl (fun g => .pointer (some ⟨g, 0, none⟩)) (does_box rfl rfl) rfl ?_
  intro g4 w5 hS a hA
  refine seq_new (vs := [.bool false, .slice none 0 0, .slice none 0 0, .bool false, .slice none 0 0, .slice none 0 0]) (t := 26) hA hS rfl rfl rfl (fun g => .pointer (some ⟨g, 0, none⟩)) (does_alloc (z := .agg #[.bool false, .slice none 0 0, .slice none 0 0, .bool false, .slice none 0 0, .slice none 0 0]) (by kernel_rfl) rfl) rfl ?_
  intro g6 w7 hS a hA
  refine seq_do hA rfl rfl rfl (does_assign rfl) ?_
  intro a hA
  refine seq_end ?_
  refine hK1 _ _ ?_
  refine wp_seq_k (fun K8 hK8 => ?_)
  refine wp_region_lit ?_
  refine seq_do (v := .agg #[.bool p.b1, .slice a1 p.t1.length ac1, .slice a2 p.q1.length ac2, .bool p.b2, .slice a3 p.t2.length ac3, .slice a4 p.q2.length ac4]) hA rfl rfl rfl (does_loadS hS BiJ_isS_26 rfl 2 rfl (cs := [.bool p.b1, .slice a1 p.t1.length ac1, .slice a2 p.q1.length ac2, .bool p.b2, .slice a3 p.t2.length ac3, .slice a4 p.q2.length ac4]) rfl rfl) ?_
  intro a hA
  refine seq_do (v := .agg #[.bool q.b1, .slice u1 q.t1.length uc1, .slice u2 q.q1.length uc2, .bool q.b2, .slice u3 q.t2.length uc3, .slice u4 q.q2.length uc4]) hA rfl rfl rfl (does_loadS hS BiJ_isS_26 rfl 1 rfl (cs := [.bool q.b1, .slice u1 q.t1.length uc1, .slice u2 q.q1.length uc2, .bool q.b2, .slice u3 q.t2.length uc3, .slice u4 q.q2.length uc4]) rfl rfl) ?_
  intro a hA
  refine seq_call hA rfl rfl rfl (enters_func  rfl rfl (fun w => by kernel_rfl)) (bitN_any (show Nm _ p a1 ac1 a2 ac2 a3 ac3 a4 ac4 from ⟨⟨(hS.rd 7 rfl), ha.s1.nil, ha.s1.cap⟩, ⟨(hS.rd 6 rfl), ha.s2.nil, ha.s2.cap⟩, ⟨(hS.rd 5 rfl), ha.s3.nil, ha.s3.cap⟩, ⟨(hS.rd 4 rfl), ha.s4.nil, ha.s4.cap⟩⟩) hl (show Nm _ q u1 uc1 u2 uc2 u3 uc3 u4 uc4 from ⟨⟨(hS.rd 3 rfl), hu.s1.nil, hu.s1.cap⟩, ⟨(hS.rd 2 rfl), hu.s2.nil, hu.s2.cap⟩, ⟨(hS.rd 1 rfl), hu.s3.nil, hu.s3.cap⟩, ⟨(hS.rd 0 rfl), hu.s4.nil, hu.s4.cap⟩⟩) hm xorFun xor_op) ?_
  rintro _ w12 ⟨p9_1, p9_c1, p9_2, p9_c2, p9_3, p9_c3, p9_4, p9_c4, rfl, hn10, hb11⟩
  replace hS := hS.call hb11
  replace hS := hS.addR hn10.s1.rd
  replace hS := hS.addR hn10.s2.rd
  replace hS := hS.addR hn10.s3.rd
  replace hS := hS.addR hn10.s4.rd
  refine ⟨_, rfl, ?_⟩
  intro a hA
  refine seq_do (v := .agg #[.bool ((bitQ (fun x y => x ^^^ y) (fun b c => b != c) p q).1.b1), .slice p9_1 (((bitQ (fun x y => x ^^^ y) (fun b c => b != c) p q).1.t1).length) p9_c1, .slice p9_2 (((bitQ (fun x y => x ^^^ y) (fun b c => b != c) p q).1.q1).length) p9_c2, .bool ((bitQ (fun x y => x ^^^ y) (fun b c => b != c) p q).1.b2), .slice p9_3 (((bitQ (fun x y => x ^^^ y) (fun b c => b != c) p q).1.t2).length) p9_c3, .slice p9_4 (((bitQ (fun x y => x ^^^ y) (fun b c => b != c) p q).1.q2).length) p9_c4]) hA rfl rfl rfl (does_extract (vs := [.agg #[.bool ((bitQ (fun x y => x ^^^ y) (fun b c => b != c) p q).1.b1), .slice p9_1 (((bitQ (fun x y => x ^^^ y) (fun b c => b != c) p q).1.t1).length) p9_c1, .slice p9_2 (((bitQ (fun x y => x ^^^ y) (fun b c => b != c) p q).1.q1).length) p9_c2, .bool ((bitQ (fun x y => x ^^^ y) (fun b c => b != c) p q).1.b2), .slice p9_3 (((bitQ (fun x y => x ^^^ y) (fun b c => b != c) p q).1.t2).length) p9_c3, .slice p9_4 (((bitQ (fun x y => x ^^^ y) (fun b c => b != c) p q).1.q2).length) p9_c4], .int .i64 ((bitQ (fun x y => x ^^^ y) (fun b c => b != c) p q).2)]) rfl rfl) ?_
  intro a hA
  refine seq_do (v := .int .i64 ((bitQ (fun x y => x ^^^ y) (fun b c => b != c) p q).2)) hA rfl rfl rfl (does_extract (vs := [.agg #[.bool ((bitQ (fun x y => x ^^^ y) (fun b c => b != c) p q).1.b1), .slice p9_1 (((bitQ (fun x y => x ^^^ y) (fun b c => b != c) p q).1.t1).length) p9_c1, .slice p9_2 (((bitQ (fun x y => x ^^^ y) (fun b c => b != c) p q).1.q1).length) p9_c2, .bool ((bitQ (fun x y => x ^^^ y) (fun b c => b != c) p q).1.b2), .slice p9_3 (((bitQ (fun x y => x ^^^ y) (fun b c => b != c) p q).1.t2).length) p9_c3, .slice p9_4 (((bitQ (fun x y => x ^^^ y) (fun b c => b != c) p q).1.q2).length) p9_c4], .int .i64 ((bitQ (fun x y => x ^^^ y) (fun b c => b != c) p q).2)]) rfl rfl) ?_
  intro a hA
  refine seq_store (us := [.bool ((bitQ (fun x y => x ^^^ y) (fun b c => b != c) p q).1.b1), .slice p9_1 (((bitQ (fun x y => x ^^^ y) (fun b c => b != c) p q).1.t1).length) p9_c1, .slice p9_2 (((bitQ (fun x y => x ^^^ y) (fun b c => b != c) p q).1.q1).length) p9_c2, .bool ((bitQ (fun x y => x ^^^ y) (fun b c => b != c) p q).1.b2), .slice p9_3 (((bitQ (fun x y => x ^^^ y) (fun b c => b != c) p q).1.t2).length) p9_c3, .slice p9_4 (((bitQ (fun x y => x ^^^ y) (fun b c => b != c) p q).1.q2).length) p9_c4]) hA hS rfl rfl (sets_store (cs := [.bool ((bitQ (fun x y => x ^^^ y) (fun b c => b != c) p q).1.b1), .slice p9_1 (((bitQ (fun x y => x ^^^ y) (fun b c => b != c) p q).1.t1).length) p9_c1, .slice p9_2 (((bitQ (fun x y => x ^^^ y) (fun b c => b != c) p q).1.q1).length) p9_c2, .bool ((bitQ (fun x y => x ^^^ y) (fun b c => b != c) p q).1.b2), .slice p9_3 (((bitQ (fun x y => x ^^^ y) (fun b c => b != c) p q).1.t2).length) p9_c3, .slice p9_4 (((bitQ (fun x y => x ^^^ y) (fun b c => b != c) p q).1.q2).length) p9_c4]) rfl rfl rfl (by kernel_rfl) hS 0 rfl rfl rfl) 0 rfl rfl rfl rfl ?_
  intro w13 hS
  refine seq_do hA rfl rfl rfl (does_assign rfl) ?_
  intro a hA
  refine seq_end ?_
  refine hK8 _ _ ?_
  refine wp_ret ?_
  refine hret _ _ ?_
  refine ends (v := .tuple #[.agg #[.bool ((bitQ (fun x y => x ^^^ y) (fun b c => b != c) p q).1.b1), .slice p9_1 (((bitQ (fun x y => x ^^^ y) (fun b c => b != c) p q).1.t1).length) p9_c1, .slice p9_2 (((bitQ (fun x y => x ^^^ y) (fun b c => b != c) p q).1.q1).length) p9_c2, .bool ((bitQ (fun x y => x ^^^ y) (fun b c => b != c) p q).1.b2), .slice p9_3 (((bitQ (fun x y => x ^^^ y) (fun b c => b != c) p q).1.t2).length) p9_c3, .slice p9_4 (((bitQ (fun x y => x ^^^ y) (fun b c => b != c) p q).1.q2).length) p9_c4], .int .i64 ((bitQ (fun x y => x ^^^ y) (fun b c => b != c) p q).2)]) hA rfl (.cons (res_cell hS BiJ_isS_26 rfl 0 rfl (cs := [.bool ((bitQ (fun x y => x ^^^ y) (fun b c => b != c) p q).1.b1), .slice p9_1 (((bitQ (fun x y => x ^^^ y) (fun b c => b != c) p q).1.t1).length) p9_c1, .slice p9_2 (((bitQ (fun x y => x ^^^ y) (fun b c => b != c) p q).1.q1).length) p9_c2, .bool ((bitQ (fun x y => x ^^^ y) (fun b c => b != c) p q).1.b2), .slice p9_3 (((bitQ (fun x y => x ^^^ y) (fun b c => b != c) p q).1.t2).length) p9_c3, .slice p9_4 (((bitQ (fun x y => x ^^^ y) (fun b c => b != c) p q).1.q2).length) p9_c4]) rfl rfl) (.cons (res_tmp rfl) .nil)) rfl ?_
  exact ⟨p9_1, p9_c1, p9_2, p9_c2, p9_3, p9_c3, p9_4, p9_c4, rfl, ⟨⟨(hS.rd 3 rfl), hn10.s1.nil, hn10.s1.cap⟩, ⟨(hS.rd 2 rfl), hn10.s2.nil, hn10.s2.cap⟩, ⟨(hS.rd 1 rfl), hn10.s3.nil, hn10.s3.cap⟩, ⟨(hS.rd 0 rfl), hn10.s4.nil, hn10.s4.cap⟩⟩, hS.bel⟩
theorem notE_any {w : World} {q : Q6} {a1 a2 a3 a4 : Option Addr} {ac1 ac2 ac3 ac4 : Nat} (ha : Nm w q a1 ac1 a2 ac2 a3 ac3 a4 ac4) (hl : LenQ q)  (hw : (want1 q != 0) = true) : Calls Try.prog 21 #[numV q a1 ac1 a2 ac2 a3 ac3 a4 ac4] w (AnsN w (notQ q)) := by
  have hS : St w w [] [(a4, q.q2), (a3, q.t2), (a2, q.q1), (a1, q.t1)] [] := ((((St.start w).addR ha.s1.rd).addR ha.s2.rd).addR ha.s3.rd).addR ha.s4.rd
  refine walk_of (l := [(0, .agg #[.bool q.b1, .slice a1 q.t1.length ac1, .slice a2 q.q1.length ac2, .bool q.b2, .slice a3 q.t2.length ac3, .slice a4 q.q2.length ac4])]) Try.func21 rfl Try.ntmps21 rfl rfl ?_
  intro Q hret hnorm hP a hA
  refine wp_seq_k (fun K1 hK1 => ?_)
  refine wp_region_lit ?_
  refine seq_new (vs := [.bool q.b1, .slice a1 q.t1.length ac1, .slice a2 q.q1.length ac2, .bool q.b2, .slice a3 q.t2.length ac3, .slice a4 q.q2.length ac4]) (t := 26) hA hS rfl rfl rfl (fun g => .pointer (some ⟨g, 0, none⟩)) (does_box rfl rfl) rfl ?_
  intro g2 w3 hS a hA
  refine seq_new (vs := [.bool false, .slice none 0 0, .slice none 0 0, .bool false, .slice none 0 0, .slice none 0 0]) (t := 26) hA hS rfl rfl rfl (fun g => .pointer (some ⟨g, 0, none⟩)) (does_alloc (z := .agg #[.bool false, .slice none 0 0, .slice none 0 0, .bool false, .slice none 0 0, .slice none 0 0]) (by kernel_rfl) rfl) rfl ?_
  intro g4 w5 hS a hA
  refine seq_do hA rfl rfl rfl (does_assign rfl) ?_
  intro a hA
  refine seq_end ?_
  refine hK1 _ _ ?_
  refine wp_seq_k (fun K6 hK6 => ?_)
  refine wp_seq_k (fun K7 hK7 => ?_)
  refine wp_region_lit ?_
  refine seq_do (v := .agg #[.bool q.b1, .slice a1 q.t1.length ac1, .slice a2 q.q1.length ac2, .bool q.b2, .slice a3 q.t2.length ac3, .slice a4 q.q2.length ac4]) hA rfl rfl rfl (does_loadS hS BiJ_isS_26 rfl 1 rfl (cs := [.bool q.b1, .slice a1 q.t1.length ac1, .slice a2 q.q1.length ac2, .bool q.b2, .slice a3 q.t2.length ac3, .slice a4 q.q2.length ac4]) rfl rfl) ?_
  intro a hA
  refine seq_new (vs := [.bool q.b1, .slice a1 q.t1.length ac1, .slice a2 q.q1.length ac2, .bool q.b2, .slice a3 q.t2.length ac3, .slice a4 q.q2.length ac4]) (t := 26) hA hS rfl rfl rfl (fun g => .slice (some ⟨g, 0, none⟩) 1 1) (does_buildSlice rfl (by kernel_rfl)) rfl ?_
  intro g8 w9 hS a hA
  refine seq_call hA rfl rfl rfl (enters_func  rfl rfl (fun w => by kernel_rfl)) (want1_any (show Nm _ q a1 ac1 a2 ac2 a3 ac3 a4 ac4 from ⟨⟨(hS.rd 3 rfl), ha.s1.nil, ha.s1.cap⟩, ⟨(hS.rd 2 rfl), ha.s2.nil, ha.s2.cap⟩, ⟨(hS.rd 1 rfl), ha.s3.nil, ha.s3.cap⟩, ⟨(hS.rd 0 rfl), ha.s4.nil, ha.s4.cap⟩⟩) hl (hS.blk 0 rfl) rfl) ?_
  rintro _ w11 ⟨rfl, hb10⟩
  replace hS := hS.call hb10
  refine ⟨_, rfl, ?_⟩
  intro a hA
  refine seq_do hA rfl rfl rfl (does_assign rfl) ?_
  intro a hA
  refine seq_end ?_
  refine hK7 _ _ ?_
  refine wp_seq_k (fun K12 hK12 => ?_)
  refine wp_region_lit ?_
  refine seq_do hA rfl rfl rfl (does_move rfl) ?_
  intro a hA
  refine seq_do (v := .bool true) hA rfl rfl rfl (does_bin rfl rfl (fun w => (bin_neq w).trans (by rw [show ((want1 q != 0)) = true from hw]))) ?_
  intro a hA
  refine seq_end ?_
  refine hK12 _ _ ?_
  refine wp_cond_true (hA.ev rfl) ?_
  refine wp_seq_k (fun K13 hK13 => ?_)
  refine wp_region_lit ?_
  refine seq_do (v := .agg #[.bool false, .slice none 0 0, .slice none 0 0, .bool false, .slice none 0 0, .slice none 0 0]) hA rfl rfl rfl (does_build rfl (fun w => by kernel_rfl)) ?_
  intro a hA
  refine seq_do hA rfl rfl rfl (does_move rfl) ?_
  intro a hA
  refine seq_store (us := [.bool false, .slice none 0 0, .slice none 0 0, .bool false, .slice none 0 0, .slice none 0 0]) hA hS rfl rfl (sets_store (cs := [.bool false, .slice none 0 0, .slice none 0 0, .bool false, .slice none 0 0, .slice none 0 0]) rfl rfl rfl (by kernel_rfl) hS 1 rfl rfl rfl) 1 rfl rfl rfl rfl ?_
  intro w14 hS
  refine seq_do hA rfl rfl rfl (does_assign rfl) ?_
  intro a hA
  refine seq_end ?_
  refine hK13 _ _ ?_
  refine wp_ret ?_
  refine hret _ _ ?_
  refine ends (v := .tuple #[.agg #[.bool false, .slice none 0 0, .slice none 0 0, .bool false, .slice none 0 0, .slice none 0 0], .int .i64 (want1 q)]) hA rfl (.cons (res_cell hS BiJ_isS_26 rfl 1 rfl (cs := [.bool false, .slice none 0 0, .slice none 0 0, .bool false, .slice none 0 0, .slice none 0 0]) rfl rfl) (.cons (res_tmp rfl) .nil)) rfl ?_
  rw [notQ_err hw]
  exact ⟨none, 0, none, 0, none, 0, none, 0, rfl, ⟨(Sc.none _), (Sc.none _), (Sc.none _), (Sc.none _)⟩, hS.bel⟩
theorem notW_any {w : World} {b : Bool} {x : Nat} {a1 a2 a3 a4 : Option Addr} {ac1 ac2 ac3 ac4 : Nat} (ha : Nm w (Q6.whole b x) a1 ac1 a2 ac2 a3 ac3 a4 ac4) (hl : LenQ (Q6.whole b x))  (hw : want1 (Q6.whole b x) = 0) (hx : (words x).length ≤ 512) (hb : b.toNat ≤ x) : Calls Try.prog 21 #[numV (Q6.whole b x) a1 ac1 a2 ac2 a3 ac3 a4 ac4] w (AnsN w (notQ (Q6.whole b x))) := by
  have hS : St w w [] [(a4, [1]), (a3, []), (a2, [1]), (a1, words x)] [] := ((((St.start w).addR ha.s1.rd).addR ha.s2.rd).addR ha.s3.rd).addR ha.s4.rd
  refine walk_of (l := [(0, .agg #[.bool b, .slice a1 ((words x).length) ac1, .slice a2 1 ac2, .bool false, .slice a3 0 ac3, .slice a4 1 ac4])]) Try.func21 rfl Try.ntmps21 rfl rfl ?_
  intro Q hret hnorm hP a hA
  refine wp_seq_k (fun K1 hK1 => ?_)
  refine wp_region_lit ?_
  refine seq_new (vs := [.bool b, .slice a1 ((words x).length) ac1, .slice a2 1 ac2, .bool false, .slice a3 0 ac3, .slice a4 1 ac4]) (t := 26) hA hS rfl rfl rfl (fun g => .pointer (some ⟨g, 0, none⟩)) (does_box rfl rfl) rfl ?_
  intro g2 w3 hS a hA
  refine seq_new (vs := [.bool false, .slice none 0 0, .slice none 0 0, .bool false, .slice none 0 0, .slice none 0 0]) (t := 26) hA hS rfl rfl rfl (fun g => .pointer (some ⟨g, 0, none⟩)) (does_alloc (z := .agg #[.bool false, .slice none 0 0, .slice none 0 0, .bool false, .slice none 0 0, .slice none 0 0]) (by kernel_rfl) rfl) rfl ?_
  intro g4 w5 hS a hA
  refine seq_do hA rfl rfl rfl (does_assign rfl) ?_
  intro a hA
  refine seq_end ?_
  refine hK1 _ _ ?_
  refine wp_seq_k (fun K6 hK6 => ?_)
  refine wp_seq_k (fun K7 hK7 => ?_)
  refine wp_region_lit ?_
  refine seq_do (v := .agg #[.bool b, .slice a1 ((words x).length) ac1, .slice a2 1 ac2, .bool false, .slice a3 0 ac3, .slice a4 1 ac4]) hA rfl rfl rfl (does_loadS hS BiJ_isS_26 rfl 1 rfl (cs := [.bool b, .slice a1 ((words x).length) ac1, .slice a2 1 ac2, .bool false, .slice a3 0 ac3, .slice a4 1 ac4]) rfl rfl) ?_
  intro a hA
  refine seq_new (vs := [.bool b, .slice a1 ((words x).length) ac1, .slice a2 1 ac2, .bool false, .slice a3 0 ac3, .slice a4 1 ac4]) (t := 26) hA hS rfl rfl rfl (fun g => .slice (some ⟨g, 0, none⟩) 1 1) (does_buildSlice rfl (by kernel_rfl)) rfl ?_
  intro g8 w9 hS a hA
  refine seq_call hA rfl rfl rfl (enters_func  rfl rfl (fun w => by kernel_rfl)) (want1_any (show Nm _ (Q6.whole b x) a1 ac1 a2 ac2 a3 ac3 a4 ac4 from ⟨⟨(hS.rd 3 rfl), ha.s1.nil, ha.s1.cap⟩, ⟨(hS.rd 2 rfl), ha.s2.nil, ha.s2.cap⟩, ⟨(hS.rd 1 rfl), ha.s3.nil, ha.s3.cap⟩, ⟨(hS.rd 0 rfl), ha.s4.nil, ha.s4.cap⟩⟩) hl (hS.blk 0 rfl) hw) ?_
  rintro _ w11 ⟨rfl, hb10⟩
  replace hS := hS.call hb10
  refine ⟨_, rfl, ?_⟩
  intro a hA
  refine seq_do hA rfl rfl rfl (does_assign rfl) ?_
  intro a hA
  refine seq_end ?_
  refine hK7 _ _ ?_
  refine wp_seq_k (fun K12 hK12 => ?_)
  refine wp_region_lit ?_
  refine seq_do hA rfl rfl rfl (does_move rfl) ?_
  intro a hA
  refine seq_do (v := .bool false) hA rfl rfl rfl (does_bin rfl rfl (fun w => by kernel_rfl)) ?_
  intro a hA
  refine seq_end ?_
  refine hK12 _ _ ?_
  refine wp_cond_false (hA.ev rfl) ?_
  refine wp_skip ?_
  refine hK6 _ _ ?_
  refine wp_seq_k (fun K13 hK13 => ?_)
  refine wp_region_lit ?_
  refine seq_do (v := .agg #[.bool b, .slice a1 ((words x).length) ac1, .slice a2 1 ac2, .bool false, .slice a3 0 ac3, .slice a4 1 ac4]) hA rfl rfl rfl (does_loadS hS BiJ_isS_26 rfl 2 rfl (cs := [.bool b, .slice a1 ((words x).length) ac1, .slice a2 1 ac2, .bool false, .slice a3 0 ac3, .slice a4 1 ac4]) rfl rfl) ?_
  intro a hA
  refine seq_call hA rfl rfl rfl (enters_func  rfl rfl (fun w => by kernel_rfl)) (rowOf_any (show Nm _ (Q6.whole b x) a1 ac1 a2 ac2 a3 ac3 a4 ac4 from ⟨⟨(hS.rd 3 rfl), ha.s1.nil, ha.s1.cap⟩, ⟨(hS.rd 2 rfl), ha.s2.nil, ha.s2.cap⟩, ⟨(hS.rd 1 rfl), ha.s3.nil, ha.s3.cap⟩, ⟨(hS.rd 0 rfl), ha.s4.nil, ha.s4.cap⟩⟩) hx hb) ?_
  rintro _ w18 ⟨ro14, rc15, rfl, hs16, hb17⟩
  replace hS := hS.call hb17
  replace hS := hS.addR hs16.rd
  refine ⟨_, rfl, ?_⟩
  intro a hA
  refine seq_call hA rfl rfl rfl (enters_func  rfl rfl (fun w => by kernel_rfl)) (turned_any) ?_
  rintro _ w20 ⟨rfl, hb19⟩
  replace hS := hS.call hb19
  refine ⟨_, rfl, ?_⟩
  intro a hA
  refine seq_call hA rfl rfl rfl (enters_func  rfl rfl (fun w => by kernel_rfl)) (number_any (b := !b) ⟨(hS.rd 0 rfl), hs16.nil, hs16.cap⟩ (sub_len hx)) ?_
  rintro _ w24 ⟨p21_1, p21_c1, p21_2, p21_c2, p21_3, p21_c3, p21_4, p21_c4, rfl, hn22, hb23⟩
  replace hS := hS.call hb23
  replace hS := hS.addR hn22.s1.rd
  replace hS := hS.addR hn22.s2.rd
  replace hS := hS.addR hn22.s3.rd
  replace hS := hS.addR hn22.s4.rd
  refine ⟨_, rfl, ?_⟩
  intro a hA
  refine seq_do (v := .agg #[.bool ((bigS (!b) (x - b.toNat + (!b).toNat)).1.b1), .slice p21_1 (((bigS (!b) (x - b.toNat + (!b).toNat)).1.t1).length) p21_c1, .slice p21_2 (((bigS (!b) (x - b.toNat + (!b).toNat)).1.q1).length) p21_c2, .bool ((bigS (!b) (x - b.toNat + (!b).toNat)).1.b2), .slice p21_3 (((bigS (!b) (x - b.toNat + (!b).toNat)).1.t2).length) p21_c3, .slice p21_4 (((bigS (!b) (x - b.toNat + (!b).toNat)).1.q2).length) p21_c4]) hA rfl rfl rfl (does_extract (vs := [.agg #[.bool ((bigS (!b) (x - b.toNat + (!b).toNat)).1.b1), .slice p21_1 (((bigS (!b) (x - b.toNat + (!b).toNat)).1.t1).length) p21_c1, .slice p21_2 (((bigS (!b) (x - b.toNat + (!b).toNat)).1.q1).length) p21_c2, .bool ((bigS (!b) (x - b.toNat + (!b).toNat)).1.b2), .slice p21_3 (((bigS (!b) (x - b.toNat + (!b).toNat)).1.t2).length) p21_c3, .slice p21_4 (((bigS (!b) (x - b.toNat + (!b).toNat)).1.q2).length) p21_c4], .int .i64 ((bigS (!b) (x - b.toNat + (!b).toNat)).2)]) rfl rfl) ?_
  intro a hA
  refine seq_do (v := .int .i64 ((bigS (!b) (x - b.toNat + (!b).toNat)).2)) hA rfl rfl rfl (does_extract (vs := [.agg #[.bool ((bigS (!b) (x - b.toNat + (!b).toNat)).1.b1), .slice p21_1 (((bigS (!b) (x - b.toNat + (!b).toNat)).1.t1).length) p21_c1, .slice p21_2 (((bigS (!b) (x - b.toNat + (!b).toNat)).1.q1).length) p21_c2, .bool ((bigS (!b) (x - b.toNat + (!b).toNat)).1.b2), .slice p21_3 (((bigS (!b) (x - b.toNat + (!b).toNat)).1.t2).length) p21_c3, .slice p21_4 (((bigS (!b) (x - b.toNat + (!b).toNat)).1.q2).length) p21_c4], .int .i64 ((bigS (!b) (x - b.toNat + (!b).toNat)).2)]) rfl rfl) ?_
  intro a hA
  refine seq_store (us := [.bool ((bigS (!b) (x - b.toNat + (!b).toNat)).1.b1), .slice p21_1 (((bigS (!b) (x - b.toNat + (!b).toNat)).1.t1).length) p21_c1, .slice p21_2 (((bigS (!b) (x - b.toNat + (!b).toNat)).1.q1).length) p21_c2, .bool ((bigS (!b) (x - b.toNat + (!b).toNat)).1.b2), .slice p21_3 (((bigS (!b) (x - b.toNat + (!b).toNat)).1.t2).length) p21_c3, .slice p21_4 (((bigS (!b) (x - b.toNat + (!b).toNat)).1.q2).length) p21_c4]) hA hS rfl rfl (sets_store (cs := [.bool ((bigS (!b) (x - b.toNat + (!b).toNat)).1.b1), .slice p21_1 (((bigS (!b) (x - b.toNat + (!b).toNat)).1.t1).length) p21_c1, .slice p21_2 (((bigS (!b) (x - b.toNat + (!b).toNat)).1.q1).length) p21_c2, .bool ((bigS (!b) (x - b.toNat + (!b).toNat)).1.b2), .slice p21_3 (((bigS (!b) (x - b.toNat + (!b).toNat)).1.t2).length) p21_c3, .slice p21_4 (((bigS (!b) (x - b.toNat + (!b).toNat)).1.q2).length) p21_c4]) rfl rfl rfl (by kernel_rfl) hS 1 rfl rfl rfl) 1 rfl rfl rfl rfl ?_
  intro w25 hS
  refine seq_do hA rfl rfl rfl (does_assign rfl) ?_
  intro a hA
  refine seq_end ?_
  refine hK13 _ _ ?_
  refine wp_ret ?_
  refine hret _ _ ?_
  refine ends (v := .tuple #[.agg #[.bool ((bigS (!b) (x - b.toNat + (!b).toNat)).1.b1), .slice p21_1 (((bigS (!b) (x - b.toNat + (!b).toNat)).1.t1).length) p21_c1, .slice p21_2 (((bigS (!b) (x - b.toNat + (!b).toNat)).1.q1).length) p21_c2, .bool ((bigS (!b) (x - b.toNat + (!b).toNat)).1.b2), .slice p21_3 (((bigS (!b) (x - b.toNat + (!b).toNat)).1.t2).length) p21_c3, .slice p21_4 (((bigS (!b) (x - b.toNat + (!b).toNat)).1.q2).length) p21_c4], .int .i64 ((bigS (!b) (x - b.toNat + (!b).toNat)).2)]) hA rfl (.cons (res_cell hS BiJ_isS_26 rfl 1 rfl (cs := [.bool ((bigS (!b) (x - b.toNat + (!b).toNat)).1.b1), .slice p21_1 (((bigS (!b) (x - b.toNat + (!b).toNat)).1.t1).length) p21_c1, .slice p21_2 (((bigS (!b) (x - b.toNat + (!b).toNat)).1.q1).length) p21_c2, .bool ((bigS (!b) (x - b.toNat + (!b).toNat)).1.b2), .slice p21_3 (((bigS (!b) (x - b.toNat + (!b).toNat)).1.t2).length) p21_c3, .slice p21_4 (((bigS (!b) (x - b.toNat + (!b).toNat)).1.q2).length) p21_c4]) rfl rfl) (.cons (res_tmp rfl) .nil)) rfl ?_
  rw [notQ_whole hw, ← turn_sum hb]
  exact ⟨p21_1, p21_c1, p21_2, p21_c2, p21_3, p21_c3, p21_4, p21_c4, rfl, ⟨⟨(hS.rd 3 rfl), hn22.s1.nil, hn22.s1.cap⟩, ⟨(hS.rd 2 rfl), hn22.s2.nil, hn22.s2.cap⟩, ⟨(hS.rd 1 rfl), hn22.s3.nil, hn22.s3.cap⟩, ⟨(hS.rd 0 rfl), hn22.s4.nil, hn22.s4.cap⟩⟩, hS.bel⟩
end Go.Proofs.Ytmibkfihcihphaa
namespace Go.Proofs.Ytmibkfihcihphaa
open Go.RowKit
set_option linter.unusedVariables false
set_option linter.unusedSimpArgs false
theorem awake_and : bitQ (fun x y => x &&& y) (fun b c => b && c) (Q6.whole true 1) (Q6.whole false 5) = (Q6.whole false 5, 0) := by
  have hw : want2 (Q6.whole true 1) (Q6.whole false 5) = 0 := by
    unfold want2
    rw [soundQ_whole one_len (by decide), soundQ_whole five_len (by decide), wholeQ_whole one_len (by decide), wholeQ_whole five_len (by decide)]
    simp
  rw [bitQ_whole hw]
  have e : putY (fun x y => x &&& y) (fun b c => b && c) true (1 - true.toNat) false (5 - false.toNat) + (true && false).toNat = 5 := by
    unfold putY
    show val (outL _ _ true 0 false 5 (max (words 0).length (words 5).length)) + 0 = 5
    rw [words_zero, words_five]
    decide
  rw [e]
  exact bigS_pos five_len
end Go.Proofs.Ytmibkfihcihphaa
namespace Go.Proofs.Ytmibkfihcihphaa
open Go.RowKit
set_option linter.unusedVariables false
set_option linter.unusedSimpArgs false
set_option maxRecDepth 100000
theorem BiK_isS_26 : IsS Try.prog 26 6 := ⟨⟨_, Try.underlying26⟩, by kernel_rfl⟩
theorem awake4_any {w : World} : Calls Try.prog 20 #[] w fun e w' => e = .returned (.bool true) ∧ Below w.heap.size w w' := by
  have hS : St w w [] [] [] := St.start w
  refine walk_of (l := []) Try.func20 rfl Try.ntmps20 rfl rfl ?_
  intro Q hret hnorm hP a hA
  refine wp_seq_k (fun K1 hK1 => ?_)
  refine wp_region_lit ?_
  refine seq_do hA rfl rfl rfl (does_assign rfl) ?_
  intro a hA
  refine seq_end ?_
  refine hK1 _ _ ?_
  refine wp_seq_k (fun K2 hK2 => ?_)
  refine wp_region_lit ?_
  refine seq_call hA rfl rfl rfl (enters_func  rfl rfl (fun w => by kernel_rfl)) ((show Calls Try.prog 13 #[.int .i64 (-1)] _ (AnsV _ (Q6.whole true 1)) from intN_any (k := 1) (by decide) (by decide))) ?_
  rintro _ w6 ⟨p3_1, p3_c1, p3_2, p3_c2, p3_3, p3_c3, p3_4, p3_c4, rfl, hn4, hb5⟩
  replace hS := hS.call hb5
  replace hS := hS.addR hn4.s1.rd
  replace hS := hS.addR hn4.s2.rd
  replace hS := hS.addR hn4.s3.rd
  replace hS := hS.addR hn4.s4.rd
  refine ⟨_, rfl, ?_⟩
  intro a hA
  refine seq_call hA rfl rfl rfl (enters_func  rfl rfl (fun w => by kernel_rfl)) ((show Calls Try.prog 13 #[.int .i64 (5)] _ (AnsV _ (Q6.whole false 5)) from intP_any (k := 5) (by decide))) ?_
  rintro _ w10 ⟨p7_1, p7_c1, p7_2, p7_c2, p7_3, p7_c3, p7_4, p7_c4, rfl, hn8, hb9⟩
  replace hS := hS.call hb9
  replace hS := hS.addR hn8.s1.rd
  replace hS := hS.addR hn8.s2.rd
  replace hS := hS.addR hn8.s3.rd
  replace hS := hS.addR hn8.s4.rd
  refine ⟨_, rfl, ?_⟩
  intro a hA
  refine seq_call hA rfl rfl rfl (enters_func  rfl rfl (fun w => by kernel_rfl)) ((awake_and ▸ andQ_any (p := Q6.whole true 1) (q := Q6.whole false 5) (show Nm _ _ p3_1 p3_c1 p3_2 p3_c2 p3_3 p3_c3 p3_4 p3_c4 from ⟨⟨(hS.rd 7 rfl), hn4.s1.nil, hn4.s1.cap⟩, ⟨(hS.rd 6 rfl), hn4.s2.nil, hn4.s2.cap⟩, ⟨(hS.rd 5 rfl), hn4.s3.nil, hn4.s3.cap⟩, ⟨(hS.rd 4 rfl), hn4.s4.nil, hn4.s4.cap⟩⟩) (lenQ_whole one_len) (show Nm _ _ p7_1 p7_c1 p7_2 p7_c2 p7_3 p7_c3 p7_4 p7_c4 from ⟨⟨(hS.rd 3 rfl), hn8.s1.nil, hn8.s1.cap⟩, ⟨(hS.rd 2 rfl), hn8.s2.nil, hn8.s2.cap⟩, ⟨(hS.rd 1 rfl), hn8.s3.nil, hn8.s3.cap⟩, ⟨(hS.rd 0 rfl), hn8.s4.nil, hn8.s4.cap⟩⟩) (lenQ_whole five_len))) ?_
  rintro _ w14 ⟨p11_1, p11_c1, p11_2, p11_c2, p11_3, p11_c3, p11_4, p11_c4, rfl, hn12, hb13⟩
  replace hS := hS.call hb13
  replace hS := hS.addR hn12.s1.rd
  replace hS := hS.addR hn12.s2.rd
  replace hS := hS.addR hn12.s3.rd
  replace hS := hS.addR hn12.s4.rd
  refine ⟨_, rfl, ?_⟩
  intro a hA
  refine seq_do hA rfl rfl rfl (does_move rfl) ?_
  intro a hA
  refine seq_do (v := .agg #[.bool false, .slice p11_1 ((words 5).length) p11_c1, .slice p11_2 1 p11_c2, .bool false, .slice p11_3 0 p11_c3, .slice p11_4 1 p11_c4]) hA rfl rfl rfl (does_extract (vs := [.agg #[.bool false, .slice p11_1 ((words 5).length) p11_c1, .slice p11_2 1 p11_c2, .bool false, .slice p11_3 0 p11_c3, .slice p11_4 1 p11_c4], .int .i64 0]) rfl rfl) ?_
  intro a hA
  refine seq_do (v := .int .i64 0) hA rfl rfl rfl (does_extract (vs := [.agg #[.bool false, .slice p11_1 ((words 5).length) p11_c1, .slice p11_2 1 p11_c2, .bool false, .slice p11_3 0 p11_c3, .slice p11_4 1 p11_c4], .int .i64 0]) rfl rfl) ?_
  intro a hA
  refine seq_new (vs := [.bool false, .slice none 0 0, .slice none 0 0, .bool false, .slice none 0 0, .slice none 0 0]) (t := 26) hA hS rfl rfl rfl (fun g => .pointer (some ⟨g, 0, none⟩)) (does_alloc (z := .agg #[.bool false, .slice none 0 0, .slice none 0 0, .bool false, .slice none 0 0, .slice none 0 0]) (by kernel_rfl) rfl) rfl ?_
  intro g15 w16 hS a hA
  refine seq_store (us := [.bool false, .slice p11_1 ((words 5).length) p11_c1, .slice p11_2 1 p11_c2, .bool false, .slice p11_3 0 p11_c3, .slice p11_4 1 p11_c4]) hA hS rfl rfl (sets_store (cs := [.bool false, .slice p11_1 ((words 5).length) p11_c1, .slice p11_2 1 p11_c2, .bool false, .slice p11_3 0 p11_c3, .slice p11_4 1 p11_c4]) rfl rfl rfl (by kernel_rfl) hS 0 rfl rfl rfl) 0 rfl rfl rfl rfl ?_
  intro w17 hS
  refine seq_do hA rfl rfl rfl (does_assign rfl) ?_
  intro a hA
  refine seq_end ?_
  refine hK2 _ _ ?_
  refine wp_seq_k (fun K18 hK18 => ?_)
  refine wp_draw (S := fun w1 => St w w1 [(g15, [.bool false, .slice p11_1 ((words 5).length) p11_c1, .slice p11_2 1 p11_c2, .bool false, .slice p11_3 0 p11_c3, .slice p11_4 1 p11_c4])] [(p11_4, [1]), (p11_3, []), (p11_2, [1]), (p11_1, words 5), (p7_4, [1]), (p7_3, []), (p7_2, [1]), (p7_1, words 5), (p3_4, [1]), (p3_3, []), (p3_2, [1]), (p3_1, words 1)] []) (by kernel_rfl) ?_
  replace hS := hS.drew
  refine any_take hA 0 rfl rfl rfl rfl (by kernel_rfl) (by kernel_rfl) (by kernel_rfl) (fun c a w h => hP c a _ _ w h) hS (fun w1 hS => does_move rfl) ?_
  intro a hA
  refine any_take (v := .bool true) hA 1 rfl rfl rfl rfl (by kernel_rfl) (by kernel_rfl) (by kernel_rfl) (fun c a w h => hP c a _ _ w h) hS (fun w1 hS => does_bin rfl rfl (fun w => by kernel_rfl)) ?_
  intro a hA
  refine any_take hA 2 rfl rfl rfl rfl (by kernel_rfl) (by kernel_rfl) (by kernel_rfl) (fun c a w h => hP c a _ _ w h) hS (fun w1 hS => does_move rfl) ?_
  intro a hA
  refine any_take (v := .agg #[.bool false, .slice p11_1 ((words 5).length) p11_c1, .slice p11_2 1 p11_c2, .bool false, .slice p11_3 0 p11_c3, .slice p11_4 1 p11_c4]) hA 3 rfl rfl rfl rfl (by kernel_rfl) (by kernel_rfl) (by kernel_rfl) (fun c a w h => hP c a _ _ w h) hS (fun w1 hS => does_loadS hS BiK_isS_26 rfl 0 rfl (cs := [.bool false, .slice p11_1 ((words 5).length) p11_c1, .slice p11_2 1 p11_c2, .bool false, .slice p11_3 0 p11_c3, .slice p11_4 1 p11_c4]) rfl rfl) ?_
  intro a hA
  refine any_one (by kernel_rfl) (op_call hA 4 rfl rfl rfl rfl (enters_func  rfl rfl (fun w => by kernel_rfl)) ((show Calls Try.prog 13 #[.int .i64 (5)] _ (AnsV _ (Q6.whole false 5)) from intP_any (k := 5) (by decide))) ?_)
  rintro _ w22 ⟨p19_1, p19_c1, p19_2, p19_c2, p19_3, p19_c3, p19_4, p19_c4, rfl, hn20, hb21⟩
  replace hS := hS.call hb21
  replace hS := hS.addR hn20.s1.rd
  replace hS := hS.addR hn20.s2.rd
  replace hS := hS.addR hn20.s3.rd
  replace hS := hS.addR hn20.s4.rd
  refine ⟨_, rfl, (hS.partD (.refl _) 4 rfl (.refl _)), ?_⟩
  intro a hA
  refine any_one (by kernel_rfl) (op_call hA 5 rfl rfl rfl rfl (enters_func  rfl rfl (fun w => by kernel_rfl)) (sameQ_any (p := Q6.whole false 5) (q := Q6.whole false 5) (show Nm _ _ p11_1 p11_c1 p11_2 p11_c2 p11_3 p11_c3 p11_4 p11_c4 from ⟨⟨(hS.rd 7 rfl), hn12.s1.nil, hn12.s1.cap⟩, ⟨(hS.rd 6 rfl), hn12.s2.nil, hn12.s2.cap⟩, ⟨(hS.rd 5 rfl), hn12.s3.nil, hn12.s3.cap⟩, ⟨(hS.rd 4 rfl), hn12.s4.nil, hn12.s4.cap⟩⟩) (lenQ_whole five_len) (show Nm _ _ p19_1 p19_c1 p19_2 p19_c2 p19_3 p19_c3 p19_4 p19_c4 from ⟨⟨(hS.rd 3 rfl), hn20.s1.nil, hn20.s1.cap⟩, ⟨(hS.rd 2 rfl), hn20.s2.nil, hn20.s2.cap⟩, ⟨(hS.rd 1 rfl), hn20.s3.nil, hn20.s3.cap⟩, ⟨(hS.rd 0 rfl), hn20.s4.nil, hn20.s4.cap⟩⟩) (lenQ_whole five_len) (sameQ_self (soundQ_whole five_len (by decide)))) ?_)
  rintro _ w24 ⟨rfl, hb23⟩
  replace hS := hS.call hb23
  refine ⟨_, rfl, (hS.partD (.refl _) 4 rfl (.refl _)), ?_⟩
  intro a hA
  refine any_take (v := .bool true) hA 6 rfl rfl rfl rfl (by kernel_rfl) (by kernel_rfl) (by kernel_rfl) (fun c a w h => hP c a _ _ w h) (hS.partD (.refl _) 4 rfl (.refl _)) (fun w1 hS => does_pick rfl rfl rfl rfl) ?_
  intro a hA
  refine any_take hA 7 rfl rfl rfl rfl (by kernel_rfl) (by kernel_rfl) (by kernel_rfl) (fun c a w h => hP c a _ _ w h) (hS.partD (.refl _) 4 rfl (.refl _)) (fun w1 hS => does_assign rfl) ?_
  intro a hA
  refine any_end (by kernel_rfl) ?_
  refine hK18 _ _ ?_
  refine wp_ret ?_
  refine hret _ _ ?_
  refine ends (v := .bool true) hA rfl (.cons (res_tmp rfl) .nil) rfl ?_
  exact ⟨rfl, hS.bel⟩
end Go.Proofs.Ytmibkfihcihphaa
namespace Go.Proofs.Ytmibkfihcihphaa
open Go.RowKit
set_option linter.unusedVariables false
set_option linter.unusedSimpArgs false

def rowL (b : Bool) (y n : Nat) : List Nat := (List.range n).map (rwd b y)
theorem rowL_len (b : Bool) (y n : Nat) : (rowL b y n).length = n := by simp [rowL]
theorem rowL_get {b : Bool} {y n i : Nat} (h : i < n) : (rowL b y n).getD i 0 = rwd b y i := by simp [rowL, h]
theorem rowL_dig (b : Bool) (y n : Nat) : Dig (rowL b y n) := by
  intro x hx
  obtain ⟨i, _, rfl⟩ := List.mem_map.1 hx
  exact rwd_lt b y i
theorem getD_set (l : List Nat) (i j d : Nat) (hi : i < l.length) : (l.set i d).getD j 0 = if i = j then d else l.getD j 0 := by
  simp only [List.getD_eq_getElem?_getD]
  by_cases h : i = j
  · subst h; rw [List.getElem?_set_self hi, if_pos rfl]; rfl
  · rw [List.getElem?_set_ne h, if_neg h]
/-- A row in work: the first i words are there, the others are 0. -/
def RowIn (b : Bool) (y n i : Nat) (l : List Nat) : Prop := l.length = n ∧ (∀ j, j < i → l.getD j 0 = rwd b y j) ∧ ∀ j, i ≤ j → l.getD j 0 = 0
theorem RowIn.start (b : Bool) (y n : Nat) : RowIn b y n 0 (List.replicate n 0) := ⟨by simp, fun j hj => by omega, fun j _ => by simp [List.getD_eq_getElem?_getD, List.getElem?_replicate]; split <;> rfl⟩
theorem RowIn.step {b : Bool} {y n i : Nat} {l l' : List Nat} (h : RowIn b y n i l) (h1 : l'.length = n) (h2 : l'.getD i 0 = rwd b y i) (h3 : ∀ j, i ≠ j → l'.getD j 0 = l.getD j 0) : RowIn b y n (i + 1) l' := by
  refine ⟨h1, fun j hj => ?_, fun j hj => ?_⟩
  · by_cases e : i = j
    · subst e; exact h2
    · rw [h3 j e]; exact h.2.1 j (by omega)
  · rw [h3 j (by omega)]; exact h.2.2 j (by omega)
theorem RowIn.done {b : Bool} {y n : Nat} {l : List Nat} (h : RowIn b y n n l) : l = rowL b y n := list_of_getD (by rw [rowL_len]; exact h.1) (fun j hj => by rw [h.1] at hj; rw [rowL_get hj]; exact h.2.1 j hj)
end Go.Proofs.Ytmibkfihcihphaa
namespace Go.Proofs.Ytmibkfihcihphaa
open Go.RowKit
set_option linter.unusedVariables false
set_option linter.unusedSimpArgs false
set_option maxRecDepth 100000

end Go.Proofs.Ytmibkfihcihphaa
namespace Go.Proofs.Ytmibkfihcihphaa
open Go.RowKit
set_option linter.unusedVariables false
set_option linter.unusedSimpArgs false
set_option maxRecDepth 100000

end Go.Proofs.Ytmibkfihcihphaa
namespace Go.Proofs.Ytmibkfihcihphaa
open Go.RowKit
set_option linter.unusedVariables false
set_option linter.unusedSimpArgs false
set_option maxRecDepth 100000

end Go.Proofs.Ytmibkfihcihphaa
namespace Go.Proofs.Ytmibkfihcihphaa
open Go.RowKit
set_option linter.unusedVariables false
set_option linter.unusedSimpArgs false
set_option maxRecDepth 100000

theorem notP_any {w : World} {q : Q6} {a1 a2 a3 a4 : Option Addr} {ac1 ac2 ac3 ac4 : Nat} (ha : Nm w q a1 ac1 a2 ac2 a3 ac3 a4 ac4) (hl : LenQ q)  : Calls Try.prog 21 #[numV q a1 ac1 a2 ac2 a3 ac3 a4 ac4] w (AnsN w (notQ q)) := by
  rcases want1_cases q with ⟨hw, h1⟩ | ⟨hw, _⟩
  · obtain ⟨b, x, rfl, hx, hb⟩ := wholeOf ha h1
    exact notW_any ha hl hw hx hb
  · exact notE_any ha hl hw
end Go.Proofs.Ytmibkfihcihphaa
namespace Go.Proofs.Ytmibkfihcihphaa
open Go.RowKit
set_option linter.unusedVariables false
set_option linter.unusedSimpArgs false

/-- The bit k of a row without end. -/
def tbit (b : Bool) (y k : Nat) : Nat := (y.testBit k ^^ b).toNat
/-- The bits from s on, so many, as a number. -/
def fld (b : Bool) (y s : Nat) : Nat → Nat
  | 0 => 0
  | c + 1 => fld b y s c + tbit b y (s + c) * 2 ^ c
/-- A number's words, in a list of a given length. -/
def Pads (F n : Nat) (l : List Nat) : Prop := l.length = n ∧ ∀ j, l.getD j 0 = F / pw j % 4294967296
theorem Pads.start (n : Nat) : Pads 0 n (List.replicate n 0) := ⟨by simp, fun j => by simp [List.getD_eq_getElem?_getD, List.getElem?_replicate]; split <;> rfl⟩
theorem Pads.step {F n k t : Nat} {l : List Nat} (h : Pads F n l) (hF : F < 2 ^ k) (ht : t ≤ 1) (hk : k / 32 < n) : Pads (F + t * 2 ^ k) n (l.set (k / 32) (l.getD (k / 32) 0 ||| t * 2 ^ (k % 32))) := by
  have hk2 : 2 ^ k = pw (k / 32) * 2 ^ (k % 32) := by rw [pw_two, ← Nat.pow_add]; congr 1; omega
  have hr : 2 ^ (k % 32) ≤ 2 ^ 31 := Nat.pow_le_pow_right (by omega) (by omega)
  have hq : F / pw (k / 32) < 2 ^ (k % 32) := by
    rw [Nat.div_lt_iff_lt_mul (pw_pos _), Nat.mul_comm, ← hk2]
    exact hF
  have hold : l.getD (k / 32) 0 = F / pw (k / 32) := by
    rw [h.2, Nat.mod_eq_of_lt (by omega)]
  refine ⟨by rw [List.length_set]; exact h.1, fun j => ?_⟩
  rw [getD_set _ _ _ _ (by rw [h.1]; exact hk)]
  by_cases e : k / 32 = j
  · subst e
    have h8 : t * 2 ^ (k % 32) ≤ 1 * 2 ^ (k % 32) := Nat.mul_le_mul_right _ ht
    have h9 : (2 : Nat) ^ 31 = 2147483648 := rfl
    have e1 : (F / pw (k / 32) ||| t * 2 ^ (k % 32)) = t * 2 ^ (k % 32) + F / pw (k / 32) := by
      rw [Nat.or_comm]
      exact or_add t (F / pw (k / 32)) (k % 32) hq
    have e2 : (F + t * 2 ^ k) / pw (k / 32) = F / pw (k / 32) + t * 2 ^ (k % 32) := by
      rw [hk2, Nat.mul_left_comm t, Nat.add_mul_div_left _ _ (pw_pos _)]
    rw [if_pos rfl, hold, e1, e2, Nat.mod_eq_of_lt (show F / pw (k / 32) + t * 2 ^ (k % 32) < 4294967296 from by omega), Nat.add_comm]
  · rw [if_neg e, h.2]
    by_cases hlt : j < k / 32
    · have : 2 ^ k = pw j * (4294967296 * (pw (k / 32 - j - 1) * 2 ^ (k % 32))) := by
        rw [hk2, show k / 32 = j + (1 + (k / 32 - j - 1)) by omega, pw_add, pw_add]
        have : pw 1 = 4294967296 := by rw [pw_succ, pw_zero]
        rw [this, Nat.mul_assoc, Nat.mul_assoc]
        congr 3
        congr 1
        omega
      rw [this, Nat.mul_left_comm t, Nat.add_mul_div_left _ _ (pw_pos _), Nat.mul_left_comm t, Nat.add_mul_mod_self_left]
    · have h1 : pw (k / 32 + 1) ≤ pw j := pw_le (by omega)
      rw [pw_succ] at h1
      have h2 : F + t * 2 ^ k < pw j := by
        have : t * 2 ^ k ≤ 1 * 2 ^ k := Nat.mul_le_mul_right _ ht
        have h3 : 2 ^ k ≤ pw (k / 32) * 2 ^ 31 := by rw [hk2]; exact Nat.mul_le_mul_left _ hr
        have : (2 : Nat) ^ 31 = 2147483648 := rfl
        omega
      rw [Nat.div_eq_of_lt h2, Nat.div_eq_of_lt (by omega)]
section
variable {P : Program} {t : TypeId} {a b : Operand}
end
end Go.Proofs.Ytmibkfihcihphaa
namespace Go.Proofs.Ytmibkfihcihphaa
open Go.RowKit
set_option linter.unusedVariables false
set_option linter.unusedSimpArgs false
end Go.Proofs.Ytmibkfihcihphaa
namespace Go.Proofs.Ytmibkfihcihphaa
open Go.RowKit
set_option linter.unusedVariables false
set_option linter.unusedSimpArgs false
end Go.Proofs.Ytmibkfihcihphaa
namespace Go.Proofs.Ytmibkfihcihphaa
open Go.RowKit
set_option linter.unusedVariables false
set_option linter.unusedSimpArgs false
end Go.Proofs.Ytmibkfihcihphaa
