/- Walks of the functions that cut prefixes and parts off, and of their values. Walks of the value of two parts, and of Read. Walks of the document's reading of a number. Walks of the document's reading of a number without prefixes, and of its Read. The text of a number, and that reading it gives the number back. Reading the text of a number gives the number back. Walks of the texts of numbers. The walk of the law of texts. Numbers that come in as arguments. -/
import Derived.Test.YtjmhdebfpnjceaaGreatPexactt10b
import Derived.Test.YtjmhdebfpnjceaaGreatPexactt10a
import Derived.Test.YtjmhdebfpnjceaaGreatTextsWalk
import Derived.Test.YtjmhdebfpnjceaaGreatArgs
import Derived.WalkKit
import Derived.ProofKit
import Derived.OpenShut
import Derived.ChangeOld
import Derived.Lib.SmallJoins
import Derived.Deep.Strs
namespace Go.Proofs.YtjmhdebfpnjceaaGreat
open Go.RowKit
set_option linter.unusedVariables false
set_option linter.unusedSimpArgs false
set_option maxRecDepth 100000
theorem RxD_is1_5 : Is1 Tryz.prog 5 := ⟨⟨_, Tryz.underlying5, rfl⟩, by kernel_rfl⟩
theorem RxD_is1_9 : Is1 Tryz.prog 9 := ⟨⟨_, Tryz.underlying9, rfl⟩, by kernel_rfl⟩
theorem RxD_fld_48_0 : FieldAt Tryz.prog 48 0 0 := ⟨_, _, Tryz.underlying48, rfl, rfl, by kernel_rfl⟩
theorem RxD_fld_48_1 : FieldAt Tryz.prog 48 1 1 := ⟨_, _, Tryz.underlying48, rfl, rfl, by kernel_rfl⟩
theorem RxD_fld_48_2 : FieldAt Tryz.prog 48 2 2 := ⟨_, _, Tryz.underlying48, rfl, rfl, by kernel_rfl⟩
theorem RxD_isS_48 : IsS Tryz.prog 48 3 := ⟨⟨_, Tryz.underlying48⟩, by kernel_rfl⟩
theorem RxD_isS_60 : IsS Tryz.prog 60 2 := ⟨⟨_, Tryz.underlying60⟩, by kernel_rfl⟩
theorem cutPrefixes_any {w : World} {r : Nat} {l : List UInt8} (hl : l.length ≤ 9223372036854775807) : Calls Tryz.prog 26 #[.string (bsL l), .int .i64 ((r : Nat) : Int)] w fun e w' => e = .returned (.tuple #[.string (bsL ((prfx false false r l).1)), .int .i64 (((prfx false false r l).2 : Nat) : Int)]) ∧ Below w.heap.size w w' := by
 have hS : St w w [] [] [] := St.start w
 refine walk_of (l := [(0, .string (bsL l)), (1, .int .i64 (((r : Nat) : Int)))]) Tryz.func26 rfl Tryz.ntmps26 rfl rfl ?_
 intro Q hret hnorm hP a hA
 refine wp_seq_k (fun K1 hK1 => ?_)
 refine wp_region_lit ?_
 refine seq_do hA rfl rfl rfl (d_assign rfl) fun a hA => ?_
 refine seq_do hA rfl rfl rfl (d_assign rfl) fun a hA => ?_
 refine seq_end ?_
 refine hK1 _ _ ?_
 refine wp_seq_k (fun K2 hK2 => ?_)
 refine wp_region_lit ?_
 refine seq_do hA rfl rfl rfl (d_assign rfl) fun a hA => ?_
 refine seq_do hA rfl rfl rfl (d_assign rfl) fun a hA => ?_
 refine seq_end ?_
 refine hK2 _ _ ?_
 refine wp_seq_k (fun K3 hK3 => ?_)
 refine wp_block ?_
 refine wp_loop_n (fun m a w1 => ∃ (q : List UInt8) (k : Nat) (told : Bool) (ex : Bool), m = 1 + q.length ∧ (prfx told ex k q = prfx false false r l ∧ q.length ≤ l.length) ∧ Sl a 47 [(0, .string (bsL q)), (1, .int .i64 (((k : Nat) : Int))), (6, .bool told), (7, .bool ex)] ∧ St w w1 [] [] []) _ ⟨l, r, false, false, rfl, ⟨rfl, Nat.le_refl _⟩, hA.keep _ ⟨rfl, rfl, rfl, rfl, trivial⟩, hS⟩ ?_
 clear hS hA
 rintro m a w4 ⟨q, k, told, ex, rfl, hinv6, hA, hS⟩ K5 hK5
 have hq := hinv6.2
 refine wp_seq_k (fun K7 hK7 => ?_)
 refine wp_seq_k (fun K8 hK8 => ?_)
 refine wp_region_lit ?_
 refine mv hA rfl rfl rfl fun a hA => ?_
 refine seq_do (v := .int .i64 (((q.length : Nat) : Int))) hA rfl rfl rfl (d_lenT Tryz.underlying9 rfl) fun a hA => ?_
 rcases Bool.eq_false_or_eq_true (decide (1 < ((q.length : Nat) : Int))) with hb9 | hb9
 ·
  have hb9' := of_decide_eq_true hb9
  refine seq_do (v := .bool true) hA rfl rfl rfl (d_bin rfl rfl (fun w => (bin_gtr w).trans (by rw [hb9]))) fun a hA => ?_
  refine mv hA rfl rfl rfl fun a hA => ?_
  refine mv hA rfl rfl rfl fun a hA => ?_
  refine seq_do (v := .int .u8 (((btL q 0 : Nat) : Int))) hA rfl rfl rfl (d_ixT (s := q) (i := 0) Tryz.underlying9 rfl rfl (by first | rfl | omega) (by first | omega | (simp only [List.length_drop, List.length_take]; omega))) fun a hA => ?_
  rcases Bool.eq_false_or_eq_true ((((btL q 0 : Nat) : Int) == 35)) with hb10 | hb10
  ·
   have hb10' := eq_of_beq hb10
   refine seq_do (v := .bool true) hA rfl rfl rfl (d_bin rfl rfl (fun w => (bin_eql w).trans (by rw [hb10]))) fun a hA => ?_
   refine seq_do (v := .bool true) hA rfl rfl rfl (d_pick rfl rfl rfl rfl) fun a hA => ?_
   refine seq_end ?_
   refine hK8 _ _ ?_
   refine wp_cond_true (hA.ev rfl) ?_
   refine wp_skip ?_
   refine hK7 _ _ ?_
   refine wp_block ?_
   refine wp_seq_k (fun K11 hK11 => ?_)
   refine wp_region_lit ?_
   refine mv hA rfl rfl rfl fun a hA => ?_
   refine seq_do (v := .int .u8 (((btL q 1 : Nat) : Int))) hA rfl rfl rfl (d_ixT (s := q) (i := 1) Tryz.underlying9 rfl rfl (by first | rfl | omega) (by first | omega | (simp only [List.length_drop, List.length_take]; omega))) fun a hA => ?_
   refine seq_call hA rfl rfl rfl (enters_func  rfl rfl (fun w => by kernel_rfl)) (radixOf_any rfl) ?_
   rintro _ w13 ⟨rfl, hb12⟩
   replace hS := hS.call hb12
   refine ⟨_, rfl, ?_⟩
   intro a hA
   refine seq_do hA rfl rfl rfl (d_assign rfl) fun a hA => ?_
   refine seq_end ?_
   refine hK11 _ _ ?_
   refine wp_seq_k (fun K14 hK14 => ?_)
   refine wp_block ?_
   refine wp_seq_k (fun K15 hK15 => ?_)
   refine wp_region_lit ?_
   refine mv hA rfl rfl rfl fun a hA => ?_
   rcases Bool.eq_false_or_eq_true (decide (0 < ((radOf (btL q 1) : Nat) : Int))) with hb16 | hb16
   ·
    have hb16' := of_decide_eq_true hb16
    refine seq_do (v := .bool true) hA rfl rfl rfl (d_bin rfl rfl (fun w => (bin_gtr w).trans (by rw [hb16]))) fun a hA => ?_
    refine mv hA rfl rfl rfl fun a hA => ?_
    refine mv hA rfl rfl rfl fun a hA => ?_
    refine seq_do (v := .bool (!told)) hA rfl rfl rfl (d_un rfl un_not) fun a hA => ?_
    refine seq_do (v := .bool (!told)) hA rfl rfl rfl (d_pick rfl rfl rfl rfl) fun a hA => ?_
    refine seq_do hA rfl rfl rfl (d_assign rfl) fun a hA => ?_
    refine seq_end ?_
    refine hK15 _ _ ?_
    refine wp_cond_split (t := !told) (hA.ev rfl) (fun hc17 => ?_) (fun hc17 => ?_)
    ·
     refine wp_region_lit ?_
     refine mv hA rfl rfl rfl fun a hA => ?_
     refine seq_do hA rfl rfl rfl (d_assign rfl) fun a hA => ?_
     refine seq_do hA rfl rfl rfl (d_assign rfl) fun a hA => ?_
     refine seq_end ?_
     refine hK14 _ _ ?_
     refine wp_region_lit ?_
     refine mv hA rfl rfl rfl fun a hA => ?_
     refine seq_do (v := .string (bsL (q.drop 2))) hA rfl rfl rfl (d_slFrom (p := 2) (s := q) Tryz.underlying9 rfl rfl (by first | rfl | omega) (by first | omega | (simp only [List.length_drop, List.length_take]; omega))) fun a hA => ?_
     refine seq_do hA rfl rfl rfl (d_assign rfl) fun a hA => ?_
     refine seq_end ?_
     refine hK5 _ _ _ (by simp only [List.length_drop]; omega) ⟨q.drop 2, radOf (btL q 1), true, ex, rfl, ⟨(prfx_radix (by omega) (by omega) (by omega) (by simpa using hc17)).symm.trans hinv6.1, by simp only [List.length_drop]; omega⟩, hA.keep _ ⟨rfl, rfl, rfl, rfl, trivial⟩, hS⟩
    ·
     refine wp_seq_k (fun K18 hK18 => ?_)
     refine wp_region_lit ?_
     refine mv hA rfl rfl rfl fun a hA => ?_
     refine seq_do (v := .int .u8 (((btL q 1 : Nat) : Int))) hA rfl rfl rfl (d_ixT (s := q) (i := 1) Tryz.underlying9 rfl rfl (by first | rfl | omega) (by first | omega | (simp only [List.length_drop, List.length_take]; omega))) fun a hA => ?_
     rcases Bool.eq_false_or_eq_true ((((btL q 1 : Nat) : Int) == 101)) with hb19 | hb19
     ·
      have hb19' := eq_of_beq hb19
      refine seq_do (v := .bool true) hA rfl rfl rfl (d_bin rfl rfl (fun w => (bin_eql w).trans (by rw [hb19]))) fun a hA => ?_
      refine mv hA rfl rfl rfl fun a hA => ?_
      refine seq_skip hA rfl rfl rfl fun a hA => ?_
      refine seq_skip hA rfl rfl rfl fun a hA => ?_
      refine seq_skip hA rfl rfl rfl fun a hA => ?_
      refine seq_do (v := .bool true) hA rfl rfl rfl (d_pick rfl rfl rfl rfl) fun a hA => ?_
      refine mv hA rfl rfl rfl fun a hA => ?_
      refine mv hA rfl rfl rfl fun a hA => ?_
      refine seq_do (v := .bool (!ex)) hA rfl rfl rfl (d_un rfl un_not) fun a hA => ?_
      refine seq_do (v := .bool (!ex)) hA rfl rfl rfl (d_pick rfl rfl rfl rfl) fun a hA => ?_
      refine seq_do hA rfl rfl rfl (d_assign rfl) fun a hA => ?_
      refine seq_end ?_
      refine hK18 _ _ ?_
      refine wp_cond_split (t := !ex) (hA.ev rfl) (fun hc20 => ?_) (fun hc20 => ?_)
      ·
       refine wp_region_lit ?_
       refine seq_do hA rfl rfl rfl (d_assign rfl) fun a hA => ?_
       refine seq_end ?_
       refine hK14 _ _ ?_
       refine wp_region_lit ?_
       refine mv hA rfl rfl rfl fun a hA => ?_
       refine seq_do (v := .string (bsL (q.drop 2))) hA rfl rfl rfl (d_slFrom (p := 2) (s := q) Tryz.underlying9 rfl rfl (by first | rfl | omega) (by first | omega | (simp only [List.length_drop, List.length_take]; omega))) fun a hA => ?_
       refine seq_do hA rfl rfl rfl (d_assign rfl) fun a hA => ?_
       refine seq_end ?_
       refine hK5 _ _ _ (by simp only [List.length_drop]; omega) ⟨q.drop 2, k, told, true, rfl, ⟨(prfx_exact (by omega) (by omega) (Or.inr (by simpa using hc17)) (by omega) (by simpa using hc20)).symm.trans hinv6.1, by simp only [List.length_drop]; omega⟩, hA.keep _ ⟨rfl, rfl, rfl, rfl, trivial⟩, hS⟩
      ·
       refine wp_seq_k (fun K21 hK21 => ?_)
       refine wp_region_lit ?_
       refine mv hA rfl rfl rfl fun a hA => ?_
       refine mv hA rfl rfl rfl fun a hA => ?_
       refine seq_do hA rfl rfl rfl (d_assign rfl) fun a hA => ?_
       refine seq_do hA rfl rfl rfl (d_assign rfl) fun a hA => ?_
       refine seq_end ?_
       refine hK21 _ _ ?_
       refine wp_ret ?_
       refine hret _ _ ?_
       refine ends (v := .tuple #[.string (bsL q), .int .i64 (((k : Nat) : Int))]) hA rfl (.cons (res_tmp rfl) (.cons (res_tmp rfl) .nil)) rfl ?_
       have e9 : prfx false false r l = (q, k) := hinv6.1.symm.trans (prfx_stay (by omega) (by omega) (Or.inr (by simpa using hc17)) (Or.inr (by simpa using hc20)))
       exact ⟨by rw [e9], hS.bel⟩
     ·
      have hb19' := ne_of_beq_false hb19
      refine seq_do (v := .bool false) hA rfl rfl rfl (d_bin rfl rfl (fun w => (bin_eql w).trans (by rw [hb19]))) fun a hA => ?_
      refine mv hA rfl rfl rfl fun a hA => ?_
      refine mv hA rfl rfl rfl fun a hA => ?_
      refine seq_do (v := .int .u8 (((btL q 1 : Nat) : Int))) hA rfl rfl rfl (d_ixT (s := q) (i := 1) Tryz.underlying9 rfl rfl (by first | rfl | omega) (by first | omega | (simp only [List.length_drop, List.length_take]; omega))) fun a hA => ?_
      rcases Bool.eq_false_or_eq_true ((((btL q 1 : Nat) : Int) == 69)) with hb22 | hb22
      ·
       have hb22' := eq_of_beq hb22
       refine seq_do (v := .bool true) hA rfl rfl rfl (d_bin rfl rfl (fun w => (bin_eql w).trans (by rw [hb22]))) fun a hA => ?_
       refine seq_do (v := .bool true) hA rfl rfl rfl (d_pick rfl rfl rfl rfl) fun a hA => ?_
       refine mv hA rfl rfl rfl fun a hA => ?_
       refine mv hA rfl rfl rfl fun a hA => ?_
       refine seq_do (v := .bool (!ex)) hA rfl rfl rfl (d_un rfl un_not) fun a hA => ?_
       refine seq_do (v := .bool (!ex)) hA rfl rfl rfl (d_pick rfl rfl rfl rfl) fun a hA => ?_
       refine seq_do hA rfl rfl rfl (d_assign rfl) fun a hA => ?_
       refine seq_end ?_
       refine hK18 _ _ ?_
       refine wp_cond_split (t := !ex) (hA.ev rfl) (fun hc23 => ?_) (fun hc23 => ?_)
       ·
        refine wp_region_lit ?_
        refine seq_do hA rfl rfl rfl (d_assign rfl) fun a hA => ?_
        refine seq_end ?_
        refine hK14 _ _ ?_
        refine wp_region_lit ?_
        refine mv hA rfl rfl rfl fun a hA => ?_
        refine seq_do (v := .string (bsL (q.drop 2))) hA rfl rfl rfl (d_slFrom (p := 2) (s := q) Tryz.underlying9 rfl rfl (by first | rfl | omega) (by first | omega | (simp only [List.length_drop, List.length_take]; omega))) fun a hA => ?_
        refine seq_do hA rfl rfl rfl (d_assign rfl) fun a hA => ?_
        refine seq_end ?_
        refine hK5 _ _ _ (by simp only [List.length_drop]; omega) ⟨q.drop 2, k, told, true, rfl, ⟨(prfx_exact (by omega) (by omega) (Or.inr (by simpa using hc17)) (by omega) (by simpa using hc23)).symm.trans hinv6.1, by simp only [List.length_drop]; omega⟩, hA.keep _ ⟨rfl, rfl, rfl, rfl, trivial⟩, hS⟩
       ·
        refine wp_seq_k (fun K24 hK24 => ?_)
        refine wp_region_lit ?_
        refine mv hA rfl rfl rfl fun a hA => ?_
        refine mv hA rfl rfl rfl fun a hA => ?_
        refine seq_do hA rfl rfl rfl (d_assign rfl) fun a hA => ?_
        refine seq_do hA rfl rfl rfl (d_assign rfl) fun a hA => ?_
        refine seq_end ?_
        refine hK24 _ _ ?_
        refine wp_ret ?_
        refine hret _ _ ?_
        refine ends (v := .tuple #[.string (bsL q), .int .i64 (((k : Nat) : Int))]) hA rfl (.cons (res_tmp rfl) (.cons (res_tmp rfl) .nil)) rfl ?_
        have e9 : prfx false false r l = (q, k) := hinv6.1.symm.trans (prfx_stay (by omega) (by omega) (Or.inr (by simpa using hc17)) (Or.inr (by simpa using hc23)))
        exact ⟨by rw [e9], hS.bel⟩
      ·
       have hb22' := ne_of_beq_false hb22
       refine seq_do (v := .bool false) hA rfl rfl rfl (d_bin rfl rfl (fun w => (bin_eql w).trans (by rw [hb22]))) fun a hA => ?_
       refine seq_do (v := .bool false) hA rfl rfl rfl (d_pick rfl rfl rfl rfl) fun a hA => ?_
       refine mv hA rfl rfl rfl fun a hA => ?_
       refine seq_skip hA rfl rfl rfl fun a hA => ?_
       refine seq_skip hA rfl rfl rfl fun a hA => ?_
       refine seq_do (v := .bool false) hA rfl rfl rfl (d_pick rfl rfl rfl rfl) fun a hA => ?_
       refine seq_do hA rfl rfl rfl (d_assign rfl) fun a hA => ?_
       refine seq_end ?_
       refine hK18 _ _ ?_
       refine wp_cond_false (hA.ev rfl) ?_
       refine wp_seq_k (fun K25 hK25 => ?_)
       refine wp_region_lit ?_
       refine mv hA rfl rfl rfl fun a hA => ?_
       refine mv hA rfl rfl rfl fun a hA => ?_
       refine seq_do hA rfl rfl rfl (d_assign rfl) fun a hA => ?_
       refine seq_do hA rfl rfl rfl (d_assign rfl) fun a hA => ?_
       refine seq_end ?_
       refine hK25 _ _ ?_
       refine wp_ret ?_
       refine hret _ _ ?_
       refine ends (v := .tuple #[.string (bsL q), .int .i64 (((k : Nat) : Int))]) hA rfl (.cons (res_tmp rfl) (.cons (res_tmp rfl) .nil)) rfl ?_
       have e9 : prfx false false r l = (q, k) := hinv6.1.symm.trans (prfx_stay (by omega) (by omega) (Or.inr (by simpa using hc17)) (Or.inl (by omega)))
       exact ⟨by rw [e9], hS.bel⟩
   ·
    have hb16' := of_decide_eq_false hb16
    refine seq_do (v := .bool false) hA rfl rfl rfl (d_bin rfl rfl (fun w => (bin_gtr w).trans (by rw [hb16]))) fun a hA => ?_
    refine mv hA rfl rfl rfl fun a hA => ?_
    refine seq_skip hA rfl rfl rfl fun a hA => ?_
    refine seq_skip hA rfl rfl rfl fun a hA => ?_
    refine seq_do (v := .bool false) hA rfl rfl rfl (d_pick rfl rfl rfl rfl) fun a hA => ?_
    refine seq_do hA rfl rfl rfl (d_assign rfl) fun a hA => ?_
    refine seq_end ?_
    refine hK15 _ _ ?_
    refine wp_cond_false (hA.ev rfl) ?_
    refine wp_seq_k (fun K26 hK26 => ?_)
    refine wp_region_lit ?_
    refine mv hA rfl rfl rfl fun a hA => ?_
    refine seq_do (v := .int .u8 (((btL q 1 : Nat) : Int))) hA rfl rfl rfl (d_ixT (s := q) (i := 1) Tryz.underlying9 rfl rfl (by first | rfl | omega) (by first | omega | (simp only [List.length_drop, List.length_take]; omega))) fun a hA => ?_
    rcases Bool.eq_false_or_eq_true ((((btL q 1 : Nat) : Int) == 101)) with hb27 | hb27
    ·
     have hb27' := eq_of_beq hb27
     refine seq_do (v := .bool true) hA rfl rfl rfl (d_bin rfl rfl (fun w => (bin_eql w).trans (by rw [hb27]))) fun a hA => ?_
     refine mv hA rfl rfl rfl fun a hA => ?_
     refine seq_skip hA rfl rfl rfl fun a hA => ?_
     refine seq_skip hA rfl rfl rfl fun a hA => ?_
     refine seq_skip hA rfl rfl rfl fun a hA => ?_
     refine seq_do (v := .bool true) hA rfl rfl rfl (d_pick rfl rfl rfl rfl) fun a hA => ?_
     refine mv hA rfl rfl rfl fun a hA => ?_
     refine mv hA rfl rfl rfl fun a hA => ?_
     refine seq_do (v := .bool (!ex)) hA rfl rfl rfl (d_un rfl un_not) fun a hA => ?_
     refine seq_do (v := .bool (!ex)) hA rfl rfl rfl (d_pick rfl rfl rfl rfl) fun a hA => ?_
     refine seq_do hA rfl rfl rfl (d_assign rfl) fun a hA => ?_
     refine seq_end ?_
     refine hK26 _ _ ?_
     refine wp_cond_split (t := !ex) (hA.ev rfl) (fun hc28 => ?_) (fun hc28 => ?_)
     ·
      refine wp_region_lit ?_
      refine seq_do hA rfl rfl rfl (d_assign rfl) fun a hA => ?_
      refine seq_end ?_
      refine hK14 _ _ ?_
      refine wp_region_lit ?_
      refine mv hA rfl rfl rfl fun a hA => ?_
      refine seq_do (v := .string (bsL (q.drop 2))) hA rfl rfl rfl (d_slFrom (p := 2) (s := q) Tryz.underlying9 rfl rfl (by first | rfl | omega) (by first | omega | (simp only [List.length_drop, List.length_take]; omega))) fun a hA => ?_
      refine seq_do hA rfl rfl rfl (d_assign rfl) fun a hA => ?_
      refine seq_end ?_
      refine hK5 _ _ _ (by simp only [List.length_drop]; omega) ⟨q.drop 2, k, told, true, rfl, ⟨(prfx_exact (by omega) (by omega) (Or.inl (by omega)) (by omega) (by simpa using hc28)).symm.trans hinv6.1, by simp only [List.length_drop]; omega⟩, hA.keep _ ⟨rfl, rfl, rfl, rfl, trivial⟩, hS⟩
     ·
      refine wp_seq_k (fun K29 hK29 => ?_)
      refine wp_region_lit ?_
      refine mv hA rfl rfl rfl fun a hA => ?_
      refine mv hA rfl rfl rfl fun a hA => ?_
      refine seq_do hA rfl rfl rfl (d_assign rfl) fun a hA => ?_
      refine seq_do hA rfl rfl rfl (d_assign rfl) fun a hA => ?_
      refine seq_end ?_
      refine hK29 _ _ ?_
      refine wp_ret ?_
      refine hret _ _ ?_
      refine ends (v := .tuple #[.string (bsL q), .int .i64 (((k : Nat) : Int))]) hA rfl (.cons (res_tmp rfl) (.cons (res_tmp rfl) .nil)) rfl ?_
      have e9 : prfx false false r l = (q, k) := hinv6.1.symm.trans (prfx_stay (by omega) (by omega) (Or.inl (by omega)) (Or.inr (by simpa using hc28)))
      exact ⟨by rw [e9], hS.bel⟩
    ·
     have hb27' := ne_of_beq_false hb27
     refine seq_do (v := .bool false) hA rfl rfl rfl (d_bin rfl rfl (fun w => (bin_eql w).trans (by rw [hb27]))) fun a hA => ?_
     refine mv hA rfl rfl rfl fun a hA => ?_
     refine mv hA rfl rfl rfl fun a hA => ?_
     refine seq_do (v := .int .u8 (((btL q 1 : Nat) : Int))) hA rfl rfl rfl (d_ixT (s := q) (i := 1) Tryz.underlying9 rfl rfl (by first | rfl | omega) (by first | omega | (simp only [List.length_drop, List.length_take]; omega))) fun a hA => ?_
     rcases Bool.eq_false_or_eq_true ((((btL q 1 : Nat) : Int) == 69)) with hb30 | hb30
     ·
      have hb30' := eq_of_beq hb30
      refine seq_do (v := .bool true) hA rfl rfl rfl (d_bin rfl rfl (fun w => (bin_eql w).trans (by rw [hb30]))) fun a hA => ?_
      refine seq_do (v := .bool true) hA rfl rfl rfl (d_pick rfl rfl rfl rfl) fun a hA => ?_
      refine mv hA rfl rfl rfl fun a hA => ?_
      refine mv hA rfl rfl rfl fun a hA => ?_
      refine seq_do (v := .bool (!ex)) hA rfl rfl rfl (d_un rfl un_not) fun a hA => ?_
      refine seq_do (v := .bool (!ex)) hA rfl rfl rfl (d_pick rfl rfl rfl rfl) fun a hA => ?_
      refine seq_do hA rfl rfl rfl (d_assign rfl) fun a hA => ?_
      refine seq_end ?_
      refine hK26 _ _ ?_
      refine wp_cond_split (t := !ex) (hA.ev rfl) (fun hc31 => ?_) (fun hc31 => ?_)
      ·
       refine wp_region_lit ?_
       refine seq_do hA rfl rfl rfl (d_assign rfl) fun a hA => ?_
       refine seq_end ?_
       refine hK14 _ _ ?_
       refine wp_region_lit ?_
       refine mv hA rfl rfl rfl fun a hA => ?_
       refine seq_do (v := .string (bsL (q.drop 2))) hA rfl rfl rfl (d_slFrom (p := 2) (s := q) Tryz.underlying9 rfl rfl (by first | rfl | omega) (by first | omega | (simp only [List.length_drop, List.length_take]; omega))) fun a hA => ?_
       refine seq_do hA rfl rfl rfl (d_assign rfl) fun a hA => ?_
       refine seq_end ?_
       refine hK5 _ _ _ (by simp only [List.length_drop]; omega) ⟨q.drop 2, k, told, true, rfl, ⟨(prfx_exact (by omega) (by omega) (Or.inl (by omega)) (by omega) (by simpa using hc31)).symm.trans hinv6.1, by simp only [List.length_drop]; omega⟩, hA.keep _ ⟨rfl, rfl, rfl, rfl, trivial⟩, hS⟩
      ·
       refine wp_seq_k (fun K32 hK32 => ?_)
       refine wp_region_lit ?_
       refine mv hA rfl rfl rfl fun a hA => ?_
       refine mv hA rfl rfl rfl fun a hA => ?_
       refine seq_do hA rfl rfl rfl (d_assign rfl) fun a hA => ?_
       refine seq_do hA rfl rfl rfl (d_assign rfl) fun a hA => ?_
       refine seq_end ?_
       refine hK32 _ _ ?_
       refine wp_ret ?_
       refine hret _ _ ?_
       refine ends (v := .tuple #[.string (bsL q), .int .i64 (((k : Nat) : Int))]) hA rfl (.cons (res_tmp rfl) (.cons (res_tmp rfl) .nil)) rfl ?_
       have e9 : prfx false false r l = (q, k) := hinv6.1.symm.trans (prfx_stay (by omega) (by omega) (Or.inl (by omega)) (Or.inr (by simpa using hc31)))
       exact ⟨by rw [e9], hS.bel⟩
     ·
      have hb30' := ne_of_beq_false hb30
      refine seq_do (v := .bool false) hA rfl rfl rfl (d_bin rfl rfl (fun w => (bin_eql w).trans (by rw [hb30]))) fun a hA => ?_
      refine seq_do (v := .bool false) hA rfl rfl rfl (d_pick rfl rfl rfl rfl) fun a hA => ?_
      refine mv hA rfl rfl rfl fun a hA => ?_
      refine seq_skip hA rfl rfl rfl fun a hA => ?_
      refine seq_skip hA rfl rfl rfl fun a hA => ?_
      refine seq_do (v := .bool false) hA rfl rfl rfl (d_pick rfl rfl rfl rfl) fun a hA => ?_
      refine seq_do hA rfl rfl rfl (d_assign rfl) fun a hA => ?_
      refine seq_end ?_
      refine hK26 _ _ ?_
      refine wp_cond_false (hA.ev rfl) ?_
      refine wp_seq_k (fun K33 hK33 => ?_)
      refine wp_region_lit ?_
      refine mv hA rfl rfl rfl fun a hA => ?_
      refine mv hA rfl rfl rfl fun a hA => ?_
      refine seq_do hA rfl rfl rfl (d_assign rfl) fun a hA => ?_
      refine seq_do hA rfl rfl rfl (d_assign rfl) fun a hA => ?_
      refine seq_end ?_
      refine hK33 _ _ ?_
      refine wp_ret ?_
      refine hret _ _ ?_
      refine ends (v := .tuple #[.string (bsL q), .int .i64 (((k : Nat) : Int))]) hA rfl (.cons (res_tmp rfl) (.cons (res_tmp rfl) .nil)) rfl ?_
      have e9 : prfx false false r l = (q, k) := hinv6.1.symm.trans (prfx_stay (by omega) (by omega) (Or.inl (by omega)) (Or.inl (by omega)))
      exact ⟨by rw [e9], hS.bel⟩
  ·
   have hb10' := ne_of_beq_false hb10
   refine seq_do (v := .bool false) hA rfl rfl rfl (d_bin rfl rfl (fun w => (bin_eql w).trans (by rw [hb10]))) fun a hA => ?_
   refine seq_do (v := .bool false) hA rfl rfl rfl (d_pick rfl rfl rfl rfl) fun a hA => ?_
   refine seq_end ?_
   refine hK8 _ _ ?_
   refine wp_cond_false (hA.ev rfl) ?_
   refine wp_exit ?_
   refine hK3 _ _ ?_
   refine wp_seq_k (fun K34 hK34 => ?_)
   refine wp_region_lit ?_
   refine mv hA rfl rfl rfl fun a hA => ?_
   refine mv hA rfl rfl rfl fun a hA => ?_
   refine seq_do hA rfl rfl rfl (d_assign rfl) fun a hA => ?_
   refine seq_do hA rfl rfl rfl (d_assign rfl) fun a hA => ?_
   refine seq_end ?_
   refine hK34 _ _ ?_
   refine wp_ret ?_
   refine hret _ _ ?_
   refine ends (v := .tuple #[.string (bsL q), .int .i64 (((k : Nat) : Int))]) hA rfl (.cons (res_tmp rfl) (.cons (res_tmp rfl) .nil)) rfl ?_
   have e9 : prfx false false r l = (q, k) := hinv6.1.symm.trans (prfx_other (by omega))
   exact ⟨by rw [e9], hS.bel⟩
 ·
  have hb9' := of_decide_eq_false hb9
  refine seq_do (v := .bool false) hA rfl rfl rfl (d_bin rfl rfl (fun w => (bin_gtr w).trans (by rw [hb9]))) fun a hA => ?_
  refine mv hA rfl rfl rfl fun a hA => ?_
  refine seq_skip hA rfl rfl rfl fun a hA => ?_
  refine seq_skip hA rfl rfl rfl fun a hA => ?_
  refine seq_skip hA rfl rfl rfl fun a hA => ?_
  refine seq_do (v := .bool false) hA rfl rfl rfl (d_pick rfl rfl rfl rfl) fun a hA => ?_
  refine seq_end ?_
  refine hK8 _ _ ?_
  refine wp_cond_false (hA.ev rfl) ?_
  refine wp_exit ?_
  refine hK3 _ _ ?_
  refine wp_seq_k (fun K35 hK35 => ?_)
  refine wp_region_lit ?_
  refine mv hA rfl rfl rfl fun a hA => ?_
  refine mv hA rfl rfl rfl fun a hA => ?_
  refine seq_do hA rfl rfl rfl (d_assign rfl) fun a hA => ?_
  refine seq_do hA rfl rfl rfl (d_assign rfl) fun a hA => ?_
  refine seq_end ?_
  refine hK35 _ _ ?_
  refine wp_ret ?_
  refine hret _ _ ?_
  refine ends (v := .tuple #[.string (bsL q), .int .i64 (((k : Nat) : Int))]) hA rfl (.cons (res_tmp rfl) (.cons (res_tmp rfl) .nil)) rfl ?_
  have e9 : prfx false false r l = (q, k) := hinv6.1.symm.trans (prfx_short (by omega))
  exact ⟨by rw [e9], hS.bel⟩
theorem reD_len (r : Nat) (l : List UInt8) : (reD r l).length ≤ l.length := by
 have e : (unS l).length ≤ l.length := by unfold unS; split; rw [List.length_drop]; omega; exact Nat.le_refl _
 have e1 : (qD r l).length ≤ l.length := by unfold qD; rw [List.length_drop]; omega
 unfold reD
 split
 ·
  rw [List.length_drop, List.length_drop]; omega
 ·
  exact e1
theorem cutParts_any {w : World} {r : Nat} {l : List UInt8} (hr : RadN r) (hl : l.length ≤ 9223372036854775807) : Calls Tryz.prog 27 #[.string (bsL l), .int .i64 ((r : Nat) : Int)] w fun e w' => e = .returned (.tuple #[.agg #[.int .u8 (((reP r l).1 : Nat) : Int), .string (bsL (reP r l).2.1), .string (bsL (reP r l).2.2)], .agg #[.int .u8 (((imP r l).1 : Nat) : Int), .string (bsL (imP r l).2.1), .string (bsL (imP r l).2.2)], .bool (okP r l)]) ∧ Below w.heap.size w w' := by
 have hS : St w w [] [] [] := St.start w
 refine walk_of (l := [(0, .string (bsL l)), (1, .int .i64 (((r : Nat) : Int)))]) Tryz.func27 rfl Tryz.ntmps27 rfl rfl ?_
 intro Q hret hnorm hP a hA
 refine wp_seq_k (fun K1 hK1 => ?_)
 refine wp_region_lit ?_
 refine seq_new (vs := [.int .u8 0, .string (bsL []), .string (bsL [])]) (t := 48) hA hS rfl rfl rfl (fun g => .pointer (some ⟨g, 0, none⟩)) (d_alloc (z := .agg #[.int .u8 0, .string (bsL []), .string (bsL [])]) (by kernel_rfl) rfl) rfl ?_
 intro g2 w3 hS a hA
 refine seq_new (vs := [.int .u8 0, .string (bsL []), .string (bsL [])]) (t := 48) hA hS rfl rfl rfl (fun g => .pointer (some ⟨g, 0, none⟩)) (d_alloc (z := .agg #[.int .u8 0, .string (bsL []), .string (bsL [])]) (by kernel_rfl) rfl) rfl ?_
 intro g4 w5 hS a hA
 refine seq_do hA rfl rfl rfl (d_assign rfl) fun a hA => ?_
 refine seq_end ?_
 refine hK1 _ _ ?_
 refine wp_seq_k (fun K6 hK6 => ?_)
 refine wp_region_lit ?_
 refine seq_do (v := .agg #[.int .u8 0, .string (bsL [48]), .string (bsL [])]) hA rfl rfl rfl (d_build rfl (fun w => by kernel_rfl)) fun a hA => ?_
 refine seq_new (vs := [.int .u8 0, .string (bsL []), .string (bsL [])]) (t := 48) hA hS rfl rfl rfl (fun g => .pointer (some ⟨g, 0, none⟩)) (d_alloc (z := .agg #[.int .u8 0, .string (bsL []), .string (bsL [])]) (by kernel_rfl) rfl) rfl ?_
 intro g7 w8 hS a hA
 refine seq_store (us := [.int .u8 0, .string (bsL [48]), .string (bsL [])]) hA hS rfl rfl (sets_store rfl rfl rfl (by kernel_rfl) hS 0 rfl rfl rfl) 0 rfl rfl rfl rfl ?_
 intro w9 hS
 refine seq_end ?_
 refine hK6 _ _ ?_
 refine wp_seq_k (fun K10 hK10 => ?_)
 refine wp_region_lit ?_
 refine mv hA rfl rfl rfl fun a hA => ?_
 refine mv hA rfl rfl rfl fun a hA => ?_
 refine seq_call hA rfl rfl rfl (enters_func  rfl rfl (fun w => by kernel_rfl)) (cutNumeral_any (l := l) hr (by first | omega | (have h9 := reD_len r l; omega))) ?_
 rintro _ w12 ⟨rfl, hb11⟩
 replace hS := hS.call hb11
 refine ⟨_, rfl, ?_⟩
 intro a hA
 refine mv hA rfl rfl rfl fun a hA => ?_
 refine seq_do (v := .agg #[.int .u8 (((sgB l : Nat) : Int)), .string (bsL (tpD r l)), .string (bsL (boD r l))]) hA rfl rfl rfl (d_extract (vs := [.agg #[.int .u8 (((sgB l : Nat) : Int)), .string (bsL (tpD r l)), .string (bsL (boD r l))], .string (bsL (reD r l))]) rfl rfl) fun a hA => ?_
 refine seq_do (v := .string (bsL (reD r l))) hA rfl rfl rfl (d_extract (vs := [.agg #[.int .u8 (((sgB l : Nat) : Int)), .string (bsL (tpD r l)), .string (bsL (boD r l))], .string (bsL (reD r l))]) rfl rfl) fun a hA => ?_
 refine seq_new (vs := [.int .u8 0, .string (bsL []), .string (bsL [])]) (t := 48) hA hS rfl rfl rfl (fun g => .pointer (some ⟨g, 0, none⟩)) (d_alloc (z := .agg #[.int .u8 0, .string (bsL []), .string (bsL [])]) (by kernel_rfl) rfl) rfl ?_
 intro g13 w14 hS a hA
 refine seq_store (us := [.int .u8 (((sgB l : Nat) : Int)), .string (bsL (tpD r l)), .string (bsL (boD r l))]) hA hS rfl rfl (sets_store rfl rfl rfl (by kernel_rfl) hS 0 rfl rfl rfl) 0 rfl rfl rfl rfl ?_
 intro w15 hS
 refine seq_do hA rfl rfl rfl (d_assign rfl) fun a hA => ?_
 refine seq_end ?_
 refine hK10 _ _ ?_
 refine wp_seq_k (fun K16 hK16 => ?_)
 refine wp_seq_k (fun K17 hK17 => ?_)
 refine wp_region_lit ?_
 refine mv hA rfl rfl rfl fun a hA => ?_
 rcases Bool.eq_false_or_eq_true (decide (reD r l = ([] : List UInt8))) with hb18 | hb18
 ·
  have hb18' := of_decide_eq_true hb18
  have hb18n : (reD r l).length = 0 := by rw [hb18']; rfl
  refine seq_do (v := .bool true) hA rfl rfl rfl (d_bin rfl rfl (fun w => (bin_eqlT (a := reD r l) (b := []) Tryz.underlying9 w).trans (by rw [hb18]; try rfl))) fun a hA => ?_
  refine seq_end ?_
  refine hK17 _ _ ?_
  refine wp_cond_true (hA.ev rfl) ?_
  refine wp_seq_k (fun K19 hK19 => ?_)
  refine wp_draw (S := fun w1 => St w w1 [(g13, [.int .u8 (((sgB l : Nat) : Int)), .string (bsL (tpD r l)), .string (bsL (boD r l))]), (g7, [.int .u8 0, .string (bsL [48]), .string (bsL [])])] [] []) (by kernel_rfl) ?_
  replace hS := hS.drew
  refine any_tk hA 0 rfl rfl rfl rfl hP (hS.partD (.cons_cons _ (.cons_cons _ (.cons _ (.cons _ .slnil)))) 0 rfl (.refl _)) (fun w1 hS => d_loadS hS RxD_isS_48 rfl 0 rfl (cs := [.int .u8 (((sgB l : Nat) : Int)), .string (bsL (tpD r l)), .string (bsL (boD r l))]) rfl rfl) fun a hA => ?_
  refine any_tk hA 1 rfl rfl rfl rfl hP (hS.partD (.cons_cons _ (.cons_cons _ (.cons _ (.cons _ .slnil)))) 0 rfl (.refl _)) (fun w1 hS => d_loadS hS RxD_isS_48 rfl 1 rfl (cs := [.int .u8 0, .string (bsL [48]), .string (bsL [])]) rfl rfl) fun a hA => ?_
  refine any_tk (v := .pointer (some ⟨g13, 1, none⟩)) hA 2 rfl rfl rfl rfl hP (hS.partD (.cons_cons _ (.cons_cons _ (.cons _ (.cons _ .slnil)))) 0 rfl (.refl _)) (fun w1 hS => d_field RxD_fld_48_1 rfl rfl) fun a hA => ?_
  refine any_tk hA 3 rfl rfl rfl rfl hP (hS.partD (.cons_cons _ (.cons_cons _ (.cons _ (.cons _ .slnil)))) 0 rfl (.refl _)) (fun w1 hS => d_load1 hS RxD_is1_9 rfl 0 rfl rfl) fun a hA => ?_
  rcases Bool.eq_false_or_eq_true (decide (tpD r l = ([] : List UInt8))) with hb20 | hb20
  ·
   have hb20' := of_decide_eq_true hb20
   have hb20n : (tpD r l).length = 0 := by rw [hb20']; rfl
   refine any_tk (v := .bool false) hA 4 rfl rfl rfl rfl hP (hS.partD (.cons_cons _ (.cons_cons _ (.cons _ (.cons _ .slnil)))) 0 rfl (.refl _)) (fun w1 hS => d_bin rfl rfl (fun w => (bin_neqT (a := tpD r l) (b := []) Tryz.underlying9 w).trans (by rw [hb20]; try rfl))) fun a hA => ?_
   refine any_one (by kernel_rfl) (op_store (us := [.int .u8 (((sgB l : Nat) : Int)), .string (bsL (tpD r l)), .string (bsL (boD r l))]) hA hS 5 rfl rfl rfl (sets_store rfl rfl rfl (by kernel_rfl) hS 3 rfl rfl rfl) 3 rfl rfl rfl rfl ?_)
   intro w21 hS
   refine ⟨(hS.partD (.cons_cons _ (.cons_cons _ (.cons _ (.cons _ .slnil)))) 0 rfl (.refl _)), ?_⟩
   refine any_one (by kernel_rfl) (op_store (us := [.int .u8 0, .string (bsL [48]), .string (bsL [])]) hA hS 6 rfl rfl rfl (sets_store rfl rfl rfl (by kernel_rfl) hS 2 rfl rfl rfl) 2 rfl rfl rfl rfl ?_)
   intro w22 hS
   refine ⟨(hS.partD (.cons_cons _ (.cons_cons _ (.cons _ (.cons _ .slnil)))) 0 rfl (.refl _)), ?_⟩
   refine any_tk hA 7 rfl rfl rfl rfl hP (hS.partD (.cons_cons _ (.cons_cons _ (.cons _ (.cons _ .slnil)))) 0 rfl (.refl _)) (fun w1 hS => d_assign rfl) fun a hA => ?_
   refine any_end (by kernel_rfl) ?_
   refine hK19 _ _ ?_
   refine wp_ret ?_
   refine hret _ _ ?_
   refine ends (v := .tuple #[.agg #[.int .u8 (((sgB l : Nat) : Int)), .string (bsL (tpD r l)), .string (bsL (boD r l))], .agg #[.int .u8 0, .string (bsL [48]), .string (bsL [])], .bool false]) hA rfl (.cons (res_cell hS RxD_isS_48 rfl 3 rfl (cs := [.int .u8 (((sgB l : Nat) : Int)), .string (bsL (tpD r l)), .string (bsL (boD r l))]) rfl rfl) (.cons (res_cell hS RxD_isS_48 rfl 2 rfl (cs := [.int .u8 0, .string (bsL [48]), .string (bsL [])]) rfl rfl) (.cons (res_tmp rfl) .nil))) rfl ?_
   have e1 : reP r l = nlD r l := by unfold reP; rw [if_pos hb18']
   have e2 : imP r l = nl0 := by unfold imP; rw [if_pos hb18']
   have e3 : okP r l = false := by unfold okP; simp [hb18', hb20']
   rw [e1, e2, e3]
   exact ⟨rfl, hS.bel⟩
  ·
   have hb20' := of_decide_eq_false hb20
   have hb20n : ¬ (tpD r l).length = 0 := fun k => hb20' (List.length_eq_zero_iff.1 k)
   refine any_tk (v := .bool true) hA 4 rfl rfl rfl rfl hP (hS.partD (.cons_cons _ (.cons_cons _ (.cons _ (.cons _ .slnil)))) 0 rfl (.refl _)) (fun w1 hS => d_bin rfl rfl (fun w => (bin_neqT (a := tpD r l) (b := []) Tryz.underlying9 w).trans (by rw [hb20]; try rfl))) fun a hA => ?_
   refine any_one (by kernel_rfl) (op_store (us := [.int .u8 (((sgB l : Nat) : Int)), .string (bsL (tpD r l)), .string (bsL (boD r l))]) hA hS 5 rfl rfl rfl (sets_store rfl rfl rfl (by kernel_rfl) hS 3 rfl rfl rfl) 3 rfl rfl rfl rfl ?_)
   intro w23 hS
   refine ⟨(hS.partD (.cons_cons _ (.cons_cons _ (.cons _ (.cons _ .slnil)))) 0 rfl (.refl _)), ?_⟩
   refine any_one (by kernel_rfl) (op_store (us := [.int .u8 0, .string (bsL [48]), .string (bsL [])]) hA hS 6 rfl rfl rfl (sets_store rfl rfl rfl (by kernel_rfl) hS 2 rfl rfl rfl) 2 rfl rfl rfl rfl ?_)
   intro w24 hS
   refine ⟨(hS.partD (.cons_cons _ (.cons_cons _ (.cons _ (.cons _ .slnil)))) 0 rfl (.refl _)), ?_⟩
   refine any_tk hA 7 rfl rfl rfl rfl hP (hS.partD (.cons_cons _ (.cons_cons _ (.cons _ (.cons _ .slnil)))) 0 rfl (.refl _)) (fun w1 hS => d_assign rfl) fun a hA => ?_
   refine any_end (by kernel_rfl) ?_
   refine hK19 _ _ ?_
   refine wp_ret ?_
   refine hret _ _ ?_
   refine ends (v := .tuple #[.agg #[.int .u8 (((sgB l : Nat) : Int)), .string (bsL (tpD r l)), .string (bsL (boD r l))], .agg #[.int .u8 0, .string (bsL [48]), .string (bsL [])], .bool true]) hA rfl (.cons (res_cell hS RxD_isS_48 rfl 3 rfl (cs := [.int .u8 (((sgB l : Nat) : Int)), .string (bsL (tpD r l)), .string (bsL (boD r l))]) rfl rfl) (.cons (res_cell hS RxD_isS_48 rfl 2 rfl (cs := [.int .u8 0, .string (bsL [48]), .string (bsL [])]) rfl rfl) (.cons (res_tmp rfl) .nil))) rfl ?_
   have e1 : reP r l = nlD r l := by unfold reP; rw [if_pos hb18']
   have e2 : imP r l = nl0 := by unfold imP; rw [if_pos hb18']
   have e3 : okP r l = true := by unfold okP; simp [hb18', hb20']
   rw [e1, e2, e3]
   exact ⟨rfl, hS.bel⟩
 ·
  have hb18' := of_decide_eq_false hb18
  have hb18n : ¬ (reD r l).length = 0 := fun k => hb18' (List.length_eq_zero_iff.1 k)
  refine seq_do (v := .bool false) hA rfl rfl rfl (d_bin rfl rfl (fun w => (bin_eqlT (a := reD r l) (b := []) Tryz.underlying9 w).trans (by rw [hb18]; try rfl))) fun a hA => ?_
  refine seq_end ?_
  refine hK17 _ _ ?_
  refine wp_cond_false (hA.ev rfl) ?_
  refine wp_skip ?_
  refine hK16 _ _ ?_
  refine wp_seq_k (fun K25 hK25 => ?_)
  refine wp_seq_k (fun K26 hK26 => ?_)
  refine wp_region_lit ?_
  refine mv hA rfl rfl rfl fun a hA => ?_
  rcases Bool.eq_false_or_eq_true (unitB (reD r l)) with hb27 | hb27
  ·
   refine seq_call hA rfl rfl rfl (enters_func  rfl rfl (fun w => by kernel_rfl)) (isUnit_any hb27) ?_
   rintro _ w29 ⟨rfl, hb28⟩
   replace hS := hS.call hb28
   refine ⟨_, rfl, ?_⟩
   intro a hA
   refine seq_end ?_
   refine hK26 _ _ ?_
   refine wp_cond_true (hA.ev rfl) ?_
   refine wp_seq_k (fun K30 hK30 => ?_)
   refine wp_draw (S := fun w1 => St w w1 [(g13, [.int .u8 (((sgB l : Nat) : Int)), .string (bsL (tpD r l)), .string (bsL (boD r l))]), (g7, [.int .u8 0, .string (bsL [48]), .string (bsL [])])] [] []) (by kernel_rfl) ?_
   replace hS := hS.drew
   refine any_tk hA 0 rfl rfl rfl rfl hP (hS.partD (.cons_cons _ (.cons_cons _ (.cons _ (.cons _ .slnil)))) 0 rfl (.refl _)) (fun w1 hS => d_loadS hS RxD_isS_48 rfl 1 rfl (cs := [.int .u8 0, .string (bsL [48]), .string (bsL [])]) rfl rfl) fun a hA => ?_
   refine any_tk hA 1 rfl rfl rfl rfl hP (hS.partD (.cons_cons _ (.cons_cons _ (.cons _ (.cons _ .slnil)))) 0 rfl (.refl _)) (fun w1 hS => d_loadS hS RxD_isS_48 rfl 0 rfl (cs := [.int .u8 (((sgB l : Nat) : Int)), .string (bsL (tpD r l)), .string (bsL (boD r l))]) rfl rfl) fun a hA => ?_
   refine any_tk (v := .pointer (some ⟨g13, 0, none⟩)) hA 2 rfl rfl rfl rfl hP (hS.partD (.cons_cons _ (.cons_cons _ (.cons _ (.cons _ .slnil)))) 0 rfl (.refl _)) (fun w1 hS => d_field RxD_fld_48_0 rfl rfl) fun a hA => ?_
   refine any_tk hA 3 rfl rfl rfl rfl hP (hS.partD (.cons_cons _ (.cons_cons _ (.cons _ (.cons _ .slnil)))) 0 rfl (.refl _)) (fun w1 hS => d_load1 hS RxD_is1_5 rfl 0 rfl rfl) fun a hA => ?_
   rcases Bool.eq_false_or_eq_true ((((sgB l : Nat) : Int) != 0)) with hb31 | hb31
   ·
    have hb31' := bne_iff_ne.1 hb31
    refine any_tk (v := .bool true) hA 4 rfl rfl rfl rfl hP (hS.partD (.cons_cons _ (.cons_cons _ (.cons _ (.cons _ .slnil)))) 0 rfl (.refl _)) (fun w1 hS => d_bin rfl rfl (fun w => (bin_neq w).trans (by rw [hb31]))) fun a hA => ?_
    refine any_one (by kernel_rfl) (op_store (us := [.int .u8 0, .string (bsL [48]), .string (bsL [])]) hA hS 5 rfl rfl rfl (sets_store rfl rfl rfl (by kernel_rfl) hS 3 rfl rfl rfl) 3 rfl rfl rfl rfl ?_)
    intro w32 hS
    refine ⟨(hS.partD (.cons_cons _ (.cons_cons _ (.cons _ (.cons _ .slnil)))) 0 rfl (.refl _)), ?_⟩
    refine any_one (by kernel_rfl) (op_store (us := [.int .u8 (((sgB l : Nat) : Int)), .string (bsL (tpD r l)), .string (bsL (boD r l))]) hA hS 6 rfl rfl rfl (sets_store rfl rfl rfl (by kernel_rfl) hS 2 rfl rfl rfl) 2 rfl rfl rfl rfl ?_)
    intro w33 hS
    refine ⟨(hS.partD (.cons_cons _ (.cons_cons _ (.cons _ (.cons _ .slnil)))) 0 rfl (.refl _)), ?_⟩
    refine any_tk hA 7 rfl rfl rfl rfl hP (hS.partD (.cons_cons _ (.cons_cons _ (.cons _ (.cons _ .slnil)))) 0 rfl (.refl _)) (fun w1 hS => d_assign rfl) fun a hA => ?_
    refine any_end (by kernel_rfl) ?_
    refine hK30 _ _ ?_
    refine wp_ret ?_
    refine hret _ _ ?_
    refine ends (v := .tuple #[.agg #[.int .u8 0, .string (bsL [48]), .string (bsL [])], .agg #[.int .u8 (((sgB l : Nat) : Int)), .string (bsL (tpD r l)), .string (bsL (boD r l))], .bool true]) hA rfl (.cons (res_cell hS RxD_isS_48 rfl 3 rfl (cs := [.int .u8 0, .string (bsL [48]), .string (bsL [])]) rfl rfl) (.cons (res_cell hS RxD_isS_48 rfl 2 rfl (cs := [.int .u8 (((sgB l : Nat) : Int)), .string (bsL (tpD r l)), .string (bsL (boD r l))]) rfl rfl) (.cons (res_tmp rfl) .nil))) rfl ?_
    rw [sg_bne] at hb31
    have e1 : reP r l = nl0 := by unfold reP; rw [if_neg hb18', hb27]; rfl
    have e2 : imP r l = nlD r l := by unfold imP; rw [if_neg hb18', hb27]; rfl
    have e3 : okP r l = true := by unfold okP; simp [hb18', hb27, hb31]
    rw [e1, e2, e3]
    exact ⟨rfl, hS.bel⟩
   ·
    have hb31' := bne_eq_false_iff_eq.1 hb31
    refine any_tk (v := .bool false) hA 4 rfl rfl rfl rfl hP (hS.partD (.cons_cons _ (.cons_cons _ (.cons _ (.cons _ .slnil)))) 0 rfl (.refl _)) (fun w1 hS => d_bin rfl rfl (fun w => (bin_neq w).trans (by rw [hb31]))) fun a hA => ?_
    refine any_one (by kernel_rfl) (op_store (us := [.int .u8 0, .string (bsL [48]), .string (bsL [])]) hA hS 5 rfl rfl rfl (sets_store rfl rfl rfl (by kernel_rfl) hS 3 rfl rfl rfl) 3 rfl rfl rfl rfl ?_)
    intro w34 hS
    refine ⟨(hS.partD (.cons_cons _ (.cons_cons _ (.cons _ (.cons _ .slnil)))) 0 rfl (.refl _)), ?_⟩
    refine any_one (by kernel_rfl) (op_store (us := [.int .u8 (((sgB l : Nat) : Int)), .string (bsL (tpD r l)), .string (bsL (boD r l))]) hA hS 6 rfl rfl rfl (sets_store rfl rfl rfl (by kernel_rfl) hS 2 rfl rfl rfl) 2 rfl rfl rfl rfl ?_)
    intro w35 hS
    refine ⟨(hS.partD (.cons_cons _ (.cons_cons _ (.cons _ (.cons _ .slnil)))) 0 rfl (.refl _)), ?_⟩
    refine any_tk hA 7 rfl rfl rfl rfl hP (hS.partD (.cons_cons _ (.cons_cons _ (.cons _ (.cons _ .slnil)))) 0 rfl (.refl _)) (fun w1 hS => d_assign rfl) fun a hA => ?_
    refine any_end (by kernel_rfl) ?_
    refine hK30 _ _ ?_
    refine wp_ret ?_
    refine hret _ _ ?_
    refine ends (v := .tuple #[.agg #[.int .u8 0, .string (bsL [48]), .string (bsL [])], .agg #[.int .u8 (((sgB l : Nat) : Int)), .string (bsL (tpD r l)), .string (bsL (boD r l))], .bool false]) hA rfl (.cons (res_cell hS RxD_isS_48 rfl 3 rfl (cs := [.int .u8 0, .string (bsL [48]), .string (bsL [])]) rfl rfl) (.cons (res_cell hS RxD_isS_48 rfl 2 rfl (cs := [.int .u8 (((sgB l : Nat) : Int)), .string (bsL (tpD r l)), .string (bsL (boD r l))]) rfl rfl) (.cons (res_tmp rfl) .nil))) rfl ?_
    rw [sg_bne] at hb31
    have e1 : reP r l = nl0 := by unfold reP; rw [if_neg hb18', hb27]; rfl
    have e2 : imP r l = nlD r l := by unfold imP; rw [if_neg hb18', hb27]; rfl
    have e3 : okP r l = false := by unfold okP; simp [hb18', hb27, hb31]
    rw [e1, e2, e3]
    exact ⟨rfl, hS.bel⟩
  ·
   refine seq_call hA rfl rfl rfl (enters_func  rfl rfl (fun w => by kernel_rfl)) (isUnit_any hb27) ?_
   rintro _ w37 ⟨rfl, hb36⟩
   replace hS := hS.call hb36
   refine ⟨_, rfl, ?_⟩
   intro a hA
   refine seq_end ?_
   refine hK26 _ _ ?_
   refine wp_cond_false (hA.ev rfl) ?_
   refine wp_skip ?_
   refine hK25 _ _ ?_
   refine wp_seq_k (fun K38 hK38 => ?_)
   refine wp_region_lit ?_
   refine mv hA rfl rfl rfl fun a hA => ?_
   refine mv hA rfl rfl rfl fun a hA => ?_
   refine seq_call hA rfl rfl rfl (enters_func  rfl rfl (fun w => by kernel_rfl)) (cutNumeral_any (l := reD r l) hr (by first | omega | (have h9 := reD_len r l; omega))) ?_
   rintro _ w40 ⟨rfl, hb39⟩
   replace hS := hS.call hb39
   refine ⟨_, rfl, ?_⟩
   intro a hA
   refine mv hA rfl rfl rfl fun a hA => ?_
   refine seq_do (v := .agg #[.int .u8 (((sgB (reD r l) : Nat) : Int)), .string (bsL (tpD r (reD r l))), .string (bsL (boD r (reD r l)))]) hA rfl rfl rfl (d_extract (vs := [.agg #[.int .u8 (((sgB (reD r l) : Nat) : Int)), .string (bsL (tpD r (reD r l))), .string (bsL (boD r (reD r l)))], .string (bsL (reD r (reD r l)))]) rfl rfl) fun a hA => ?_
   refine seq_do (v := .string (bsL (reD r (reD r l)))) hA rfl rfl rfl (d_extract (vs := [.agg #[.int .u8 (((sgB (reD r l) : Nat) : Int)), .string (bsL (tpD r (reD r l))), .string (bsL (boD r (reD r l)))], .string (bsL (reD r (reD r l)))]) rfl rfl) fun a hA => ?_
   refine seq_new (vs := [.int .u8 0, .string (bsL []), .string (bsL [])]) (t := 48) hA hS rfl rfl rfl (fun g => .pointer (some ⟨g, 0, none⟩)) (d_alloc (z := .agg #[.int .u8 0, .string (bsL []), .string (bsL [])]) (by kernel_rfl) rfl) rfl ?_
   intro g41 w42 hS a hA
   refine seq_store (us := [.int .u8 (((sgB (reD r l) : Nat) : Int)), .string (bsL (tpD r (reD r l))), .string (bsL (boD r (reD r l)))]) hA hS rfl rfl (sets_store rfl rfl rfl (by kernel_rfl) hS 0 rfl rfl rfl) 0 rfl rfl rfl rfl ?_
   intro w43 hS
   refine seq_do hA rfl rfl rfl (d_assign rfl) fun a hA => ?_
   refine seq_end ?_
   refine hK38 _ _ ?_
   refine wp_seq_k (fun K44 hK44 => ?_)
   refine wp_draw (S := fun w1 => St w w1 [(g41, [.int .u8 (((sgB (reD r l) : Nat) : Int)), .string (bsL (tpD r (reD r l))), .string (bsL (boD r (reD r l)))]), (g13, [.int .u8 (((sgB l : Nat) : Int)), .string (bsL (tpD r l)), .string (bsL (boD r l))]), (g7, [.int .u8 0, .string (bsL [48]), .string (bsL [])])] [] []) (by kernel_rfl) ?_
   replace hS := hS.drew
   refine any_tk hA 0 rfl rfl rfl rfl hP (hS.partD (.cons_cons _ (.cons_cons _ (.cons_cons _ (.cons _ (.cons _ .slnil))))) 0 rfl (.refl _)) (fun w1 hS => d_loadS hS RxD_isS_48 rfl 1 rfl (cs := [.int .u8 (((sgB l : Nat) : Int)), .string (bsL (tpD r l)), .string (bsL (boD r l))]) rfl rfl) fun a hA => ?_
   refine any_tk hA 1 rfl rfl rfl rfl hP (hS.partD (.cons_cons _ (.cons_cons _ (.cons_cons _ (.cons _ (.cons _ .slnil))))) 0 rfl (.refl _)) (fun w1 hS => d_loadS hS RxD_isS_48 rfl 0 rfl (cs := [.int .u8 (((sgB (reD r l) : Nat) : Int)), .string (bsL (tpD r (reD r l))), .string (bsL (boD r (reD r l)))]) rfl rfl) fun a hA => ?_
   refine any_tk (v := .pointer (some ⟨g13, 1, none⟩)) hA 2 rfl rfl rfl rfl hP (hS.partD (.cons_cons _ (.cons_cons _ (.cons_cons _ (.cons _ (.cons _ .slnil))))) 0 rfl (.refl _)) (fun w1 hS => d_field RxD_fld_48_1 rfl rfl) fun a hA => ?_
   refine any_tk hA 3 rfl rfl rfl rfl hP (hS.partD (.cons_cons _ (.cons_cons _ (.cons_cons _ (.cons _ (.cons _ .slnil))))) 0 rfl (.refl _)) (fun w1 hS => d_load1 hS RxD_is1_9 rfl 1 rfl rfl) fun a hA => ?_
   rcases Bool.eq_false_or_eq_true (decide (tpD r l = ([] : List UInt8))) with hb45 | hb45
   ·
    have hb45' := of_decide_eq_true hb45
    have hb45n : (tpD r l).length = 0 := by rw [hb45']; rfl
    refine any_tk (v := .bool false) hA 4 rfl rfl rfl rfl hP (hS.partD (.cons_cons _ (.cons_cons _ (.cons_cons _ (.cons _ (.cons _ .slnil))))) 0 rfl (.refl _)) (fun w1 hS => d_bin rfl rfl (fun w => (bin_neqT (a := tpD r l) (b := []) Tryz.underlying9 w).trans (by rw [hb45]; try rfl))) fun a hA => ?_
    refine any_tk hA 5 rfl rfl rfl rfl hP (hS.partD (.cons_cons _ (.cons_cons _ (.cons_cons _ (.cons _ (.cons _ .slnil))))) 0 rfl (.refl _)) (fun w1 hS => d_move rfl) fun a hA => ?_
    refine any_sk hA 6 rfl rfl rfl rfl hP (hS.partD (.cons_cons _ (.cons_cons _ (.cons_cons _ (.cons _ (.cons _ .slnil))))) 0 rfl (.refl _)) fun a hA => ?_
    refine any_sk hA 7 rfl rfl rfl rfl hP (hS.partD (.cons_cons _ (.cons_cons _ (.cons_cons _ (.cons _ (.cons _ .slnil))))) 0 rfl (.refl _)) fun a hA => ?_
    refine any_sk hA 8 rfl rfl rfl rfl hP (hS.partD (.cons_cons _ (.cons_cons _ (.cons_cons _ (.cons _ (.cons _ .slnil))))) 0 rfl (.refl _)) fun a hA => ?_
    refine any_tk (v := .bool false) hA 9 rfl rfl rfl rfl hP (hS.partD (.cons_cons _ (.cons_cons _ (.cons_cons _ (.cons _ (.cons _ .slnil))))) 0 rfl (.refl _)) (fun w1 hS => d_pick rfl rfl rfl rfl) fun a hA => ?_
    refine any_tk hA 10 rfl rfl rfl rfl hP (hS.partD (.cons_cons _ (.cons_cons _ (.cons_cons _ (.cons _ (.cons _ .slnil))))) 0 rfl (.refl _)) (fun w1 hS => d_move rfl) fun a hA => ?_
    refine any_sk hA 11 rfl rfl rfl rfl hP (hS.partD (.cons_cons _ (.cons_cons _ (.cons_cons _ (.cons _ (.cons _ .slnil))))) 0 rfl (.refl _)) fun a hA => ?_
    refine any_sk hA 12 rfl rfl rfl rfl hP (hS.partD (.cons_cons _ (.cons_cons _ (.cons_cons _ (.cons _ (.cons _ .slnil))))) 0 rfl (.refl _)) fun a hA => ?_
    refine any_tk (v := .bool false) hA 13 rfl rfl rfl rfl hP (hS.partD (.cons_cons _ (.cons_cons _ (.cons_cons _ (.cons _ (.cons _ .slnil))))) 0 rfl (.refl _)) (fun w1 hS => d_pick rfl rfl rfl rfl) fun a hA => ?_
    refine any_one (by kernel_rfl) (op_store (us := [.int .u8 (((sgB l : Nat) : Int)), .string (bsL (tpD r l)), .string (bsL (boD r l))]) hA hS 14 rfl rfl rfl (sets_store rfl rfl rfl (by kernel_rfl) hS 4 rfl rfl rfl) 4 rfl rfl rfl rfl ?_)
    intro w46 hS
    refine ⟨(hS.partD (.cons_cons _ (.cons_cons _ (.cons_cons _ (.cons _ (.cons _ .slnil))))) 0 rfl (.refl _)), ?_⟩
    refine any_one (by kernel_rfl) (op_store (us := [.int .u8 (((sgB (reD r l) : Nat) : Int)), .string (bsL (tpD r (reD r l))), .string (bsL (boD r (reD r l)))]) hA hS 15 rfl rfl rfl (sets_store rfl rfl rfl (by kernel_rfl) hS 3 rfl rfl rfl) 3 rfl rfl rfl rfl ?_)
    intro w47 hS
    refine ⟨(hS.partD (.cons_cons _ (.cons_cons _ (.cons_cons _ (.cons _ (.cons _ .slnil))))) 0 rfl (.refl _)), ?_⟩
    refine any_tk hA 16 rfl rfl rfl rfl hP (hS.partD (.cons_cons _ (.cons_cons _ (.cons_cons _ (.cons _ (.cons _ .slnil))))) 0 rfl (.refl _)) (fun w1 hS => d_assign rfl) fun a hA => ?_
    refine any_end (by kernel_rfl) ?_
    refine hK44 _ _ ?_
    refine wp_ret ?_
    refine hret _ _ ?_
    refine ends (v := .tuple #[.agg #[.int .u8 (((sgB l : Nat) : Int)), .string (bsL (tpD r l)), .string (bsL (boD r l))], .agg #[.int .u8 (((sgB (reD r l) : Nat) : Int)), .string (bsL (tpD r (reD r l))), .string (bsL (boD r (reD r l)))], .bool false]) hA rfl (.cons (res_cell hS RxD_isS_48 rfl 4 rfl (cs := [.int .u8 (((sgB l : Nat) : Int)), .string (bsL (tpD r l)), .string (bsL (boD r l))]) rfl rfl) (.cons (res_cell hS RxD_isS_48 rfl 3 rfl (cs := [.int .u8 (((sgB (reD r l) : Nat) : Int)), .string (bsL (tpD r (reD r l))), .string (bsL (boD r (reD r l)))]) rfl rfl) (.cons (res_tmp rfl) .nil))) rfl ?_
    have e1 : reP r l = nlD r l := by unfold reP; rw [if_neg hb18', hb27]; rfl
    have e2 : imP r l = nlD r (reD r l) := by unfold imP; rw [if_neg hb18', hb27]; rfl
    have e3 : okP r l = false := by unfold okP; simp [hb18', hb27, hb45']
    rw [e1, e2, e3]
    exact ⟨rfl, hS.bel⟩
   ·
    have hb45' := of_decide_eq_false hb45
    have hb45n : ¬ (tpD r l).length = 0 := fun k => hb45' (List.length_eq_zero_iff.1 k)
    refine any_tk (v := .bool true) hA 4 rfl rfl rfl rfl hP (hS.partD (.cons_cons _ (.cons_cons _ (.cons_cons _ (.cons _ (.cons _ .slnil))))) 0 rfl (.refl _)) (fun w1 hS => d_bin rfl rfl (fun w => (bin_neqT (a := tpD r l) (b := []) Tryz.underlying9 w).trans (by rw [hb45]; try rfl))) fun a hA => ?_
    refine any_tk hA 5 rfl rfl rfl rfl hP (hS.partD (.cons_cons _ (.cons_cons _ (.cons_cons _ (.cons _ (.cons _ .slnil))))) 0 rfl (.refl _)) (fun w1 hS => d_move rfl) fun a hA => ?_
    refine any_tk (v := .pointer (some ⟨g41, 0, none⟩)) hA 6 rfl rfl rfl rfl hP (hS.partD (.cons_cons _ (.cons_cons _ (.cons_cons _ (.cons _ (.cons _ .slnil))))) 0 rfl (.refl _)) (fun w1 hS => d_field RxD_fld_48_0 rfl rfl) fun a hA => ?_
    refine any_tk hA 7 rfl rfl rfl rfl hP (hS.partD (.cons_cons _ (.cons_cons _ (.cons_cons _ (.cons _ (.cons _ .slnil))))) 0 rfl (.refl _)) (fun w1 hS => d_load1 hS RxD_is1_5 rfl 0 rfl rfl) fun a hA => ?_
    rcases Bool.eq_false_or_eq_true ((((sgB (reD r l) : Nat) : Int) != 0)) with hb48 | hb48
    ·
     have hb48' := bne_iff_ne.1 hb48
     refine any_tk (v := .bool true) hA 8 rfl rfl rfl rfl hP (hS.partD (.cons_cons _ (.cons_cons _ (.cons_cons _ (.cons _ (.cons _ .slnil))))) 0 rfl (.refl _)) (fun w1 hS => d_bin rfl rfl (fun w => (bin_neq w).trans (by rw [hb48]))) fun a hA => ?_
     refine any_tk (v := .bool true) hA 9 rfl rfl rfl rfl hP (hS.partD (.cons_cons _ (.cons_cons _ (.cons_cons _ (.cons _ (.cons _ .slnil))))) 0 rfl (.refl _)) (fun w1 hS => d_pick rfl rfl rfl rfl) fun a hA => ?_
     refine any_tk hA 10 rfl rfl rfl rfl hP (hS.partD (.cons_cons _ (.cons_cons _ (.cons_cons _ (.cons _ (.cons _ .slnil))))) 0 rfl (.refl _)) (fun w1 hS => d_move rfl) fun a hA => ?_
     refine any_tk hA 11 rfl rfl rfl rfl hP (hS.partD (.cons_cons _ (.cons_cons _ (.cons_cons _ (.cons _ (.cons _ .slnil))))) 0 rfl (.refl _)) (fun w1 hS => d_move rfl) fun a hA => ?_
     rcases Bool.eq_false_or_eq_true (unitB (reD r (reD r l))) with hb49 | hb49
     ·
      refine any_one (by kernel_rfl) (op_call hA 12 rfl rfl rfl rfl (enters_func  rfl rfl (fun w => by kernel_rfl)) (isUnit_any hb49) ?_)
      rintro _ w51 ⟨rfl, hb50⟩
      replace hS := hS.call hb50
      refine ⟨_, rfl, (hS.partD (.cons_cons _ (.cons_cons _ (.cons_cons _ (.cons _ (.cons _ .slnil))))) 0 rfl (.refl _)), ?_⟩
      intro a hA
      refine any_tk (v := .bool true) hA 13 rfl rfl rfl rfl hP (hS.partD (.cons_cons _ (.cons_cons _ (.cons_cons _ (.cons _ (.cons _ .slnil))))) 0 rfl (.refl _)) (fun w1 hS => d_pick rfl rfl rfl rfl) fun a hA => ?_
      refine any_one (by kernel_rfl) (op_store (us := [.int .u8 (((sgB l : Nat) : Int)), .string (bsL (tpD r l)), .string (bsL (boD r l))]) hA hS 14 rfl rfl rfl (sets_store rfl rfl rfl (by kernel_rfl) hS 4 rfl rfl rfl) 4 rfl rfl rfl rfl ?_)
      intro w52 hS
      refine ⟨(hS.partD (.cons_cons _ (.cons_cons _ (.cons_cons _ (.cons _ (.cons _ .slnil))))) 0 rfl (.refl _)), ?_⟩
      refine any_one (by kernel_rfl) (op_store (us := [.int .u8 (((sgB (reD r l) : Nat) : Int)), .string (bsL (tpD r (reD r l))), .string (bsL (boD r (reD r l)))]) hA hS 15 rfl rfl rfl (sets_store rfl rfl rfl (by kernel_rfl) hS 3 rfl rfl rfl) 3 rfl rfl rfl rfl ?_)
      intro w53 hS
      refine ⟨(hS.partD (.cons_cons _ (.cons_cons _ (.cons_cons _ (.cons _ (.cons _ .slnil))))) 0 rfl (.refl _)), ?_⟩
      refine any_tk hA 16 rfl rfl rfl rfl hP (hS.partD (.cons_cons _ (.cons_cons _ (.cons_cons _ (.cons _ (.cons _ .slnil))))) 0 rfl (.refl _)) (fun w1 hS => d_assign rfl) fun a hA => ?_
      refine any_end (by kernel_rfl) ?_
      refine hK44 _ _ ?_
      refine wp_ret ?_
      refine hret _ _ ?_
      refine ends (v := .tuple #[.agg #[.int .u8 (((sgB l : Nat) : Int)), .string (bsL (tpD r l)), .string (bsL (boD r l))], .agg #[.int .u8 (((sgB (reD r l) : Nat) : Int)), .string (bsL (tpD r (reD r l))), .string (bsL (boD r (reD r l)))], .bool true]) hA rfl (.cons (res_cell hS RxD_isS_48 rfl 4 rfl (cs := [.int .u8 (((sgB l : Nat) : Int)), .string (bsL (tpD r l)), .string (bsL (boD r l))]) rfl rfl) (.cons (res_cell hS RxD_isS_48 rfl 3 rfl (cs := [.int .u8 (((sgB (reD r l) : Nat) : Int)), .string (bsL (tpD r (reD r l))), .string (bsL (boD r (reD r l)))]) rfl rfl) (.cons (res_tmp rfl) .nil))) rfl ?_
      rw [sg_bne] at hb48
      have e1 : reP r l = nlD r l := by unfold reP; rw [if_neg hb18', hb27]; rfl
      have e2 : imP r l = nlD r (reD r l) := by unfold imP; rw [if_neg hb18', hb27]; rfl
      have e3 : okP r l = true := by unfold okP; simp [hb18', hb27, hb45', hb48, hb49]
      rw [e1, e2, e3]
      exact ⟨rfl, hS.bel⟩
     ·
      refine any_one (by kernel_rfl) (op_call hA 12 rfl rfl rfl rfl (enters_func  rfl rfl (fun w => by kernel_rfl)) (isUnit_any hb49) ?_)
      rintro _ w55 ⟨rfl, hb54⟩
      replace hS := hS.call hb54
      refine ⟨_, rfl, (hS.partD (.cons_cons _ (.cons_cons _ (.cons_cons _ (.cons _ (.cons _ .slnil))))) 0 rfl (.refl _)), ?_⟩
      intro a hA
      refine any_tk (v := .bool false) hA 13 rfl rfl rfl rfl hP (hS.partD (.cons_cons _ (.cons_cons _ (.cons_cons _ (.cons _ (.cons _ .slnil))))) 0 rfl (.refl _)) (fun w1 hS => d_pick rfl rfl rfl rfl) fun a hA => ?_
      refine any_one (by kernel_rfl) (op_store (us := [.int .u8 (((sgB l : Nat) : Int)), .string (bsL (tpD r l)), .string (bsL (boD r l))]) hA hS 14 rfl rfl rfl (sets_store rfl rfl rfl (by kernel_rfl) hS 4 rfl rfl rfl) 4 rfl rfl rfl rfl ?_)
      intro w56 hS
      refine ⟨(hS.partD (.cons_cons _ (.cons_cons _ (.cons_cons _ (.cons _ (.cons _ .slnil))))) 0 rfl (.refl _)), ?_⟩
      refine any_one (by kernel_rfl) (op_store (us := [.int .u8 (((sgB (reD r l) : Nat) : Int)), .string (bsL (tpD r (reD r l))), .string (bsL (boD r (reD r l)))]) hA hS 15 rfl rfl rfl (sets_store rfl rfl rfl (by kernel_rfl) hS 3 rfl rfl rfl) 3 rfl rfl rfl rfl ?_)
      intro w57 hS
      refine ⟨(hS.partD (.cons_cons _ (.cons_cons _ (.cons_cons _ (.cons _ (.cons _ .slnil))))) 0 rfl (.refl _)), ?_⟩
      refine any_tk hA 16 rfl rfl rfl rfl hP (hS.partD (.cons_cons _ (.cons_cons _ (.cons_cons _ (.cons _ (.cons _ .slnil))))) 0 rfl (.refl _)) (fun w1 hS => d_assign rfl) fun a hA => ?_
      refine any_end (by kernel_rfl) ?_
      refine hK44 _ _ ?_
      refine wp_ret ?_
      refine hret _ _ ?_
      refine ends (v := .tuple #[.agg #[.int .u8 (((sgB l : Nat) : Int)), .string (bsL (tpD r l)), .string (bsL (boD r l))], .agg #[.int .u8 (((sgB (reD r l) : Nat) : Int)), .string (bsL (tpD r (reD r l))), .string (bsL (boD r (reD r l)))], .bool false]) hA rfl (.cons (res_cell hS RxD_isS_48 rfl 4 rfl (cs := [.int .u8 (((sgB l : Nat) : Int)), .string (bsL (tpD r l)), .string (bsL (boD r l))]) rfl rfl) (.cons (res_cell hS RxD_isS_48 rfl 3 rfl (cs := [.int .u8 (((sgB (reD r l) : Nat) : Int)), .string (bsL (tpD r (reD r l))), .string (bsL (boD r (reD r l)))]) rfl rfl) (.cons (res_tmp rfl) .nil))) rfl ?_
      rw [sg_bne] at hb48
      have e1 : reP r l = nlD r l := by unfold reP; rw [if_neg hb18', hb27]; rfl
      have e2 : imP r l = nlD r (reD r l) := by unfold imP; rw [if_neg hb18', hb27]; rfl
      have e3 : okP r l = false := by unfold okP; simp [hb18', hb27, hb45', hb48, hb49]
      rw [e1, e2, e3]
      exact ⟨rfl, hS.bel⟩
    ·
     have hb48' := bne_eq_false_iff_eq.1 hb48
     refine any_tk (v := .bool false) hA 8 rfl rfl rfl rfl hP (hS.partD (.cons_cons _ (.cons_cons _ (.cons_cons _ (.cons _ (.cons _ .slnil))))) 0 rfl (.refl _)) (fun w1 hS => d_bin rfl rfl (fun w => (bin_neq w).trans (by rw [hb48]))) fun a hA => ?_
     refine any_tk (v := .bool false) hA 9 rfl rfl rfl rfl hP (hS.partD (.cons_cons _ (.cons_cons _ (.cons_cons _ (.cons _ (.cons _ .slnil))))) 0 rfl (.refl _)) (fun w1 hS => d_pick rfl rfl rfl rfl) fun a hA => ?_
     refine any_tk hA 10 rfl rfl rfl rfl hP (hS.partD (.cons_cons _ (.cons_cons _ (.cons_cons _ (.cons _ (.cons _ .slnil))))) 0 rfl (.refl _)) (fun w1 hS => d_move rfl) fun a hA => ?_
     refine any_sk hA 11 rfl rfl rfl rfl hP (hS.partD (.cons_cons _ (.cons_cons _ (.cons_cons _ (.cons _ (.cons _ .slnil))))) 0 rfl (.refl _)) fun a hA => ?_
     refine any_sk hA 12 rfl rfl rfl rfl hP (hS.partD (.cons_cons _ (.cons_cons _ (.cons_cons _ (.cons _ (.cons _ .slnil))))) 0 rfl (.refl _)) fun a hA => ?_
     refine any_tk (v := .bool false) hA 13 rfl rfl rfl rfl hP (hS.partD (.cons_cons _ (.cons_cons _ (.cons_cons _ (.cons _ (.cons _ .slnil))))) 0 rfl (.refl _)) (fun w1 hS => d_pick rfl rfl rfl rfl) fun a hA => ?_
     refine any_one (by kernel_rfl) (op_store (us := [.int .u8 (((sgB l : Nat) : Int)), .string (bsL (tpD r l)), .string (bsL (boD r l))]) hA hS 14 rfl rfl rfl (sets_store rfl rfl rfl (by kernel_rfl) hS 4 rfl rfl rfl) 4 rfl rfl rfl rfl ?_)
     intro w58 hS
     refine ⟨(hS.partD (.cons_cons _ (.cons_cons _ (.cons_cons _ (.cons _ (.cons _ .slnil))))) 0 rfl (.refl _)), ?_⟩
     refine any_one (by kernel_rfl) (op_store (us := [.int .u8 (((sgB (reD r l) : Nat) : Int)), .string (bsL (tpD r (reD r l))), .string (bsL (boD r (reD r l)))]) hA hS 15 rfl rfl rfl (sets_store rfl rfl rfl (by kernel_rfl) hS 3 rfl rfl rfl) 3 rfl rfl rfl rfl ?_)
     intro w59 hS
     refine ⟨(hS.partD (.cons_cons _ (.cons_cons _ (.cons_cons _ (.cons _ (.cons _ .slnil))))) 0 rfl (.refl _)), ?_⟩
     refine any_tk hA 16 rfl rfl rfl rfl hP (hS.partD (.cons_cons _ (.cons_cons _ (.cons_cons _ (.cons _ (.cons _ .slnil))))) 0 rfl (.refl _)) (fun w1 hS => d_assign rfl) fun a hA => ?_
     refine any_end (by kernel_rfl) ?_
     refine hK44 _ _ ?_
     refine wp_ret ?_
     refine hret _ _ ?_
     refine ends (v := .tuple #[.agg #[.int .u8 (((sgB l : Nat) : Int)), .string (bsL (tpD r l)), .string (bsL (boD r l))], .agg #[.int .u8 (((sgB (reD r l) : Nat) : Int)), .string (bsL (tpD r (reD r l))), .string (bsL (boD r (reD r l)))], .bool false]) hA rfl (.cons (res_cell hS RxD_isS_48 rfl 4 rfl (cs := [.int .u8 (((sgB l : Nat) : Int)), .string (bsL (tpD r l)), .string (bsL (boD r l))]) rfl rfl) (.cons (res_cell hS RxD_isS_48 rfl 3 rfl (cs := [.int .u8 (((sgB (reD r l) : Nat) : Int)), .string (bsL (tpD r (reD r l))), .string (bsL (boD r (reD r l)))]) rfl rfl) (.cons (res_tmp rfl) .nil))) rfl ?_
     rw [sg_bne] at hb48
     have e1 : reP r l = nlD r l := by unfold reP; rw [if_neg hb18', hb27]; rfl
     have e2 : imP r l = nlD r (reD r l) := by unfold imP; rw [if_neg hb18', hb27]; rfl
     have e3 : okP r l = false := by unfold okP; simp [hb18', hb27, hb45', hb48]
     rw [e1, e2, e3]
     exact ⟨rfl, hS.bel⟩
theorem valueOrOne_any {w : World} {r : Nat} {l : List UInt8} (hr : RadN r) (hl : l.length ≤ 9223372036854775807) : Calls Tryz.prog 71 #[.string (bsL l), .int .i64 ((r : Nat) : Int)] w (Ans w (rdN r l)) := by
 have hS : St w w [] [] [] := St.start w
 refine walk_of (l := [(0, .string (bsL l)), (1, .int .i64 (((r : Nat) : Int)))]) Tryz.func71 rfl Tryz.ntmps71 rfl rfl ?_
 intro Q hret hnorm hP a hA
 refine wp_seq_k (fun K1 hK1 => ?_)
 refine wp_region_lit ?_
 refine seq_do hA rfl rfl rfl (d_assign rfl) fun a hA => ?_
 refine seq_do hA rfl rfl rfl (d_assign rfl) fun a hA => ?_
 refine seq_end ?_
 refine hK1 _ _ ?_
 refine wp_seq_k (fun K2 hK2 => ?_)
 refine wp_seq_k (fun K3 hK3 => ?_)
 refine wp_region_lit ?_
 refine mv hA rfl rfl rfl fun a hA => ?_
 rcases Bool.eq_false_or_eq_true (decide (l = ([] : List UInt8))) with hb4 | hb4
 ·
  have hb4' := of_decide_eq_true hb4
  have hb4n : (l).length = 0 := by rw [hb4']; rfl
  refine seq_do (v := .bool true) hA rfl rfl rfl (d_bin rfl rfl (fun w => (bin_eqlT (a := l) (b := []) Tryz.underlying9 w).trans (by rw [hb4]; try rfl))) fun a hA => ?_
  refine seq_end ?_
  refine hK3 _ _ ?_
  refine wp_cond_true (hA.ev rfl) ?_
  refine wp_seq_k (fun K5 hK5 => ?_)
  refine wp_region_lit ?_
  refine seq_call hA rfl rfl rfl (enters_func  rfl rfl (fun w => by kernel_rfl)) (of_one _) ?_
  rintro _ w10 ⟨ro6, rc7, rfl, ho8, hb9⟩
  replace hS := hS.call hb9
  replace hS := hS.addR ho8.rd
  refine ⟨_, rfl, ?_⟩
  intro a hA
  refine seq_do hA rfl rfl rfl (d_assign rfl) fun a hA => ?_
  refine seq_do hA rfl rfl rfl (d_assign rfl) fun a hA => ?_
  refine seq_end ?_
  refine hK5 _ _ ?_
  refine wp_ret ?_
  refine hret _ _ ?_
  refine ends (v := .tuple #[.slice ro6 1 rc7, .int .i64 0]) hA rfl (.cons (res_tmp rfl) (.cons (res_tmp rfl) .nil)) rfl ?_
  rw [show rdN r l = ([1], 0) from by unfold rdN; rw [if_pos hb4']]
  exact ⟨_, _, rfl, ho8, hS.bel⟩
 ·
  have hb4' := of_decide_eq_false hb4
  have hb4n : ¬ (l).length = 0 := fun k => hb4' (List.length_eq_zero_iff.1 k)
  refine seq_do (v := .bool false) hA rfl rfl rfl (d_bin rfl rfl (fun w => (bin_eqlT (a := l) (b := []) Tryz.underlying9 w).trans (by rw [hb4]; try rfl))) fun a hA => ?_
  refine seq_end ?_
  refine hK3 _ _ ?_
  refine wp_cond_false (hA.ev rfl) ?_
  refine wp_skip ?_
  refine hK2 _ _ ?_
  refine wp_seq_k (fun K11 hK11 => ?_)
  refine wp_region_lit ?_
  refine mv hA rfl rfl rfl fun a hA => ?_
  refine mv hA rfl rfl rfl fun a hA => ?_
  refine seq_call hA rfl rfl rfl (enters_func  rfl rfl (fun w => by kernel_rfl)) (read_any (bsL l) ((r : Nat) : Int) _ (by rw [bsL_size]; exact hl) (by omega) (by rcases hr with h | h | h | h <;> subst h <;> decide)) ?_
  rintro _ w16 ⟨ro12, rc13, rfl, ho14, hb15⟩
  replace hS := hS.call hb15
  replace hS := hS.addR ho14.rd
  refine ⟨_, rfl, ?_⟩
  intro a hA
  refine seq_do (v := .slice ro12 (((readS (bsL l) (r : Int)).1).length) rc13) hA rfl rfl rfl (d_extract (vs := [.slice ro12 (((readS (bsL l) (r : Int)).1).length) rc13, .int .i64 ((readS (bsL l) (r : Int)).2)]) rfl rfl) fun a hA => ?_
  refine seq_do (v := .int .i64 ((readS (bsL l) (r : Int)).2)) hA rfl rfl rfl (d_extract (vs := [.slice ro12 (((readS (bsL l) (r : Int)).1).length) rc13, .int .i64 ((readS (bsL l) (r : Int)).2)]) rfl rfl) fun a hA => ?_
  refine seq_do hA rfl rfl rfl (d_assign rfl) fun a hA => ?_
  refine seq_do hA rfl rfl rfl (d_assign rfl) fun a hA => ?_
  refine seq_end ?_
  refine hK11 _ _ ?_
  refine wp_ret ?_
  refine hret _ _ ?_
  refine ends (v := .tuple #[.slice ro12 (((readS (bsL l) (r : Int)).1).length) rc13, .int .i64 ((readS (bsL l) (r : Int)).2)]) hA rfl (.cons (res_tmp rfl) (.cons (res_tmp rfl) .nil)) rfl ?_
  rw [show rdN r l = readS (bsL l) (r : Int) from by unfold rdN; rw [if_neg hb4']]
  exact ⟨_, _, rfl, ho14, hS.bel⟩
theorem value_ok {w : World} {r : Nat} {n : Nl} (hr : RadN r) (hl1 : n.2.1.length ≤ 9223372036854775807) (hl2 : n.2.2.length ≤ 9223372036854775807) (h1 : rdE r n.2.1 = 0) (h2 : rdE r n.2.2 = 0) : Calls Tryz.prog 46 #[.agg #[.int .u8 (((n.1 : Nat) : Int)), .string (bsL n.2.1), .string (bsL n.2.2)], .int .i64 ((r : Nat) : Int)] w fun e w' => ∃ o c o' c', e = .returned (.tuple #[.agg #[.bool (rb (sgn (decide (n.1 = 45)) (natN r n.2.1))), .slice o (words (sgn (decide (n.1 = 45)) (natN r n.2.1)).natAbs).length c], .slice o' (words (natN r n.2.2)).length c', .int .i64 0]) ∧ Sc w' o c (words (sgn (decide (n.1 = 45)) (natN r n.2.1)).natAbs) ∧ Sc w' o' c' (words (natN r n.2.2)) ∧ Below w.heap.size w w' := by
 have hS : St w w [] [] [] := St.start w
 refine walk_of (l := [(0, .agg #[.int .u8 (((n.1 : Nat) : Int)), .string (bsL n.2.1), .string (bsL n.2.2)]), (1, .int .i64 (((r : Nat) : Int)))]) Tryz.func46 rfl Tryz.ntmps46 rfl rfl ?_
 intro Q hret hnorm hP a hA
 refine wp_seq_k (fun K1 hK1 => ?_)
 refine wp_region_lit ?_
 refine seq_new hA hS rfl rfl rfl (fun g => .pointer (some ⟨g, 0, none⟩)) (d_box rfl rfl) rfl ?_
 intro g2 w3 hS a hA
 refine seq_new (vs := [.bool false, .slice none 0 0]) (t := 60) hA hS rfl rfl rfl (fun g => .pointer (some ⟨g, 0, none⟩)) (d_alloc (z := .agg #[.bool false, .slice none 0 0]) (by kernel_rfl) rfl) rfl ?_
 intro g4 w5 hS a hA
 refine seq_do hA rfl rfl rfl (d_assign rfl) fun a hA => ?_
 refine seq_do hA rfl rfl rfl (d_assign rfl) fun a hA => ?_
 refine seq_end ?_
 refine hK1 _ _ ?_
 refine wp_seq_k (fun K6 hK6 => ?_)
 refine wp_region_lit ?_
 refine seq_do (v := .pointer (some ⟨g2, 1, none⟩)) hA rfl rfl rfl (d_field RxD_fld_48_1 rfl rfl) fun a hA => ?_
 refine seq_do hA rfl rfl rfl (d_load1 hS RxD_is1_9 rfl 1 rfl rfl) fun a hA => ?_
 refine mv hA rfl rfl rfl fun a hA => ?_
 refine seq_call hA rfl rfl rfl (enters_func  rfl rfl (fun w => by kernel_rfl)) ((by have h := valueOrOne_any (w := w5) (r := r) (l := n.2.1) hr hl1; rw [(rdN_ok h1).1] at h; exact h)) ?_
 rintro _ w11 ⟨ro7, rc8, rfl, ho9, hb10⟩
 replace hS := hS.call hb10
 replace hS := hS.addR ho9.rd
 refine ⟨_, rfl, ?_⟩
 intro a hA
 refine mv hA rfl rfl rfl fun a hA => ?_
 refine seq_do (v := .slice ro7 ((words (natN r n.2.1)).length) rc8) hA rfl rfl rfl (d_extract (vs := [.slice ro7 ((words (natN r n.2.1)).length) rc8, .int .i64 0]) rfl rfl) fun a hA => ?_
 refine seq_do (v := .int .i64 0) hA rfl rfl rfl (d_extract (vs := [.slice ro7 ((words (natN r n.2.1)).length) rc8, .int .i64 0]) rfl rfl) fun a hA => ?_
 refine seq_do hA rfl rfl rfl (d_assign rfl) fun a hA => ?_
 refine seq_do hA rfl rfl rfl (d_assign rfl) fun a hA => ?_
 refine seq_end ?_
 refine hK6 _ _ ?_
 refine wp_seq_k (fun K12 hK12 => ?_)
 refine wp_seq_k (fun K13 hK13 => ?_)
 refine wp_region_lit ?_
 refine mv hA rfl rfl rfl fun a hA => ?_
 refine seq_do (v := .bool false) hA rfl rfl rfl (d_bin rfl rfl (fun w => by kernel_rfl)) fun a hA => ?_
 refine seq_end ?_
 refine hK13 _ _ ?_
 refine wp_cond_false (hA.ev rfl) ?_
 refine wp_skip ?_
 refine hK12 _ _ ?_
 refine wp_seq_k (fun K14 hK14 => ?_)
 refine wp_region_lit ?_
 refine seq_do (v := .pointer (some ⟨g2, 2, none⟩)) hA rfl rfl rfl (d_field RxD_fld_48_2 rfl rfl) fun a hA => ?_
 refine seq_do hA rfl rfl rfl (d_load1 hS RxD_is1_9 rfl 1 rfl rfl) fun a hA => ?_
 refine mv hA rfl rfl rfl fun a hA => ?_
 refine seq_call hA rfl rfl rfl (enters_func  rfl rfl (fun w => by kernel_rfl)) ((by have h := valueOrOne_any (w := w11) (r := r) (l := n.2.2) hr hl2; rw [(rdN_ok h2).1] at h; exact h)) ?_
 rintro _ w19 ⟨ro15, rc16, rfl, ho17, hb18⟩
 replace hS := hS.call hb18
 replace hS := hS.addR ho17.rd
 refine ⟨_, rfl, ?_⟩
 intro a hA
 refine mv hA rfl rfl rfl fun a hA => ?_
 refine seq_do (v := .slice ro15 ((words (natN r n.2.2)).length) rc16) hA rfl rfl rfl (d_extract (vs := [.slice ro15 ((words (natN r n.2.2)).length) rc16, .int .i64 0]) rfl rfl) fun a hA => ?_
 refine seq_do (v := .int .i64 0) hA rfl rfl rfl (d_extract (vs := [.slice ro15 ((words (natN r n.2.2)).length) rc16, .int .i64 0]) rfl rfl) fun a hA => ?_
 refine seq_do hA rfl rfl rfl (d_assign rfl) fun a hA => ?_
 refine seq_do hA rfl rfl rfl (d_assign rfl) fun a hA => ?_
 refine seq_end ?_
 refine hK14 _ _ ?_
 refine wp_seq_k (fun K20 hK20 => ?_)
 refine wp_seq_k (fun K21 hK21 => ?_)
 refine wp_region_lit ?_
 refine mv hA rfl rfl rfl fun a hA => ?_
 refine seq_do (v := .bool false) hA rfl rfl rfl (d_bin rfl rfl (fun w => by kernel_rfl)) fun a hA => ?_
 refine seq_end ?_
 refine hK21 _ _ ?_
 refine wp_cond_false (hA.ev rfl) ?_
 refine wp_skip ?_
 refine hK20 _ _ ?_
 refine wp_seq_k (fun K22 hK22 => ?_)
 refine wp_region_lit ?_
 refine seq_do (v := .pointer (some ⟨g2, 0, none⟩)) hA rfl rfl rfl (d_field RxD_fld_48_0 rfl rfl) fun a hA => ?_
 refine seq_do hA rfl rfl rfl (d_load1 hS RxD_is1_5 rfl 1 rfl rfl) fun a hA => ?_
 refine seq_do (v := .bool ((((n.1 : Nat) : Int) == 45))) hA rfl rfl rfl (d_bin rfl rfl bin_eql) fun a hA => ?_
 refine mv hA rfl rfl rfl fun a hA => ?_
 refine seq_call hA rfl rfl rfl (enters_func  rfl rfl (fun w => by kernel_rfl)) (zsigned_any (b := (((n.1 : Nat) : Int) == 45)) (n := natN r n.2.1) (z := sgn (decide (n.1 = 45)) (natN r n.2.1)) ⟨(hS.rd 1 rfl), ho9.nocap, ho9.caps⟩ (by rw [beq45])) ?_
 rintro _ w27 ⟨zo23, zc24, rfl, hs25, hb26⟩
 replace hS := hS.call hb26
 replace hS := hS.addR hs25.rd
 refine ⟨_, rfl, ?_⟩
 intro a hA
 refine mv hA rfl rfl rfl fun a hA => ?_
 refine seq_store (us := [.bool ((rb (sgn (decide (n.1 = 45)) (natN r n.2.1)))), .slice zo23 ((words (sgn (decide (n.1 = 45)) (natN r n.2.1)).natAbs).length) zc24]) hA hS rfl rfl (sets_store rfl rfl rfl (by kernel_rfl) hS 0 rfl rfl rfl) 0 rfl rfl rfl rfl ?_
 intro w28 hS
 refine seq_do hA rfl rfl rfl (d_assign rfl) fun a hA => ?_
 refine seq_do hA rfl rfl rfl (d_assign rfl) fun a hA => ?_
 refine seq_end ?_
 refine hK22 _ _ ?_
 refine wp_ret ?_
 refine hret _ _ ?_
 refine ends (v := .tuple #[.agg #[.bool ((rb (sgn (decide (n.1 = 45)) (natN r n.2.1)))), .slice zo23 ((words (sgn (decide (n.1 = 45)) (natN r n.2.1)).natAbs).length) zc24], .slice ro15 ((words (natN r n.2.2)).length) rc16, .int .i64 0]) hA rfl (.cons (res_cell hS RxD_isS_60 rfl 0 rfl (cs := [.bool ((rb (sgn (decide (n.1 = 45)) (natN r n.2.1)))), .slice zo23 ((words (sgn (decide (n.1 = 45)) (natN r n.2.1)).natAbs).length) zc24]) rfl rfl) (.cons (res_tmp rfl) (.cons (res_tmp rfl) .nil))) rfl ?_
 exact ⟨_, _, _, _, rfl, ⟨(hS.rd 0 rfl), hs25.nil, hs25.cap⟩, ⟨(hS.rd 1 rfl), ho17.nocap, ho17.caps⟩, hS.bel⟩
theorem value_bad1 {w : World} {r : Nat} {n : Nl} (hr : RadN r) (hl1 : n.2.1.length ≤ 9223372036854775807) (hl2 : n.2.2.length ≤ 9223372036854775807) (h1 : rdE r n.2.1 ≠ 0) : Calls Tryz.prog 46 #[.agg #[.int .u8 (((n.1 : Nat) : Int)), .string (bsL n.2.1), .string (bsL n.2.2)], .int .i64 ((r : Nat) : Int)] w fun e w' => e = .returned (.tuple #[.agg #[.bool false, .slice none 0 0], .slice none 0 0, .int .i64 (rdE r n.2.1)]) ∧ Below w.heap.size w w' := by
 have hS : St w w [] [] [] := St.start w
 refine walk_of (l := [(0, .agg #[.int .u8 (((n.1 : Nat) : Int)), .string (bsL n.2.1), .string (bsL n.2.2)]), (1, .int .i64 (((r : Nat) : Int)))]) Tryz.func46 rfl Tryz.ntmps46 rfl rfl ?_
 intro Q hret hnorm hP a hA
 refine wp_seq_k (fun K1 hK1 => ?_)
 refine wp_region_lit ?_
 refine seq_new hA hS rfl rfl rfl (fun g => .pointer (some ⟨g, 0, none⟩)) (d_box rfl rfl) rfl ?_
 intro g2 w3 hS a hA
 refine seq_new (vs := [.bool false, .slice none 0 0]) (t := 60) hA hS rfl rfl rfl (fun g => .pointer (some ⟨g, 0, none⟩)) (d_alloc (z := .agg #[.bool false, .slice none 0 0]) (by kernel_rfl) rfl) rfl ?_
 intro g4 w5 hS a hA
 refine seq_do hA rfl rfl rfl (d_assign rfl) fun a hA => ?_
 refine seq_do hA rfl rfl rfl (d_assign rfl) fun a hA => ?_
 refine seq_end ?_
 refine hK1 _ _ ?_
 refine wp_seq_k (fun K6 hK6 => ?_)
 refine wp_region_lit ?_
 refine seq_do (v := .pointer (some ⟨g2, 1, none⟩)) hA rfl rfl rfl (d_field RxD_fld_48_1 rfl rfl) fun a hA => ?_
 refine seq_do hA rfl rfl rfl (d_load1 hS RxD_is1_9 rfl 1 rfl rfl) fun a hA => ?_
 refine mv hA rfl rfl rfl fun a hA => ?_
 refine seq_call hA rfl rfl rfl (enters_func  rfl rfl (fun w => by kernel_rfl)) ((by have h := valueOrOne_any (w := w5) (r := r) (l := n.2.1) hr hl1; rw [rdN_bad h1] at h; exact h)) ?_
 rintro _ w11 ⟨ro7, rc8, rfl, ho9, hb10⟩
 replace hS := hS.call hb10
 replace hS := hS.addR ho9.rd
 refine ⟨_, rfl, ?_⟩
 intro a hA
 refine mv hA rfl rfl rfl fun a hA => ?_
 refine seq_do (v := .slice ro7 0 rc8) hA rfl rfl rfl (d_extract (vs := [.slice ro7 0 rc8, .int .i64 ((rdE r n.2.1))]) rfl rfl) fun a hA => ?_
 refine seq_do (v := .int .i64 ((rdE r n.2.1))) hA rfl rfl rfl (d_extract (vs := [.slice ro7 0 rc8, .int .i64 ((rdE r n.2.1))]) rfl rfl) fun a hA => ?_
 refine seq_do hA rfl rfl rfl (d_assign rfl) fun a hA => ?_
 refine seq_do hA rfl rfl rfl (d_assign rfl) fun a hA => ?_
 refine seq_end ?_
 refine hK6 _ _ ?_
 refine wp_seq_k (fun K12 hK12 => ?_)
 refine wp_seq_k (fun K13 hK13 => ?_)
 refine wp_region_lit ?_
 refine mv hA rfl rfl rfl fun a hA => ?_
 refine seq_do (v := .bool true) hA rfl rfl rfl (d_bin rfl rfl (fun w => (bin_neq w).trans (by rw [show (((rdE r n.2.1) != 0)) = true from (bne_iff_ne.2 h1)]))) fun a hA => ?_
 refine seq_end ?_
 refine hK13 _ _ ?_
 refine wp_cond_true (hA.ev rfl) ?_
 refine wp_seq_k (fun K14 hK14 => ?_)
 refine wp_region_lit ?_
 refine seq_do (v := .agg #[.bool false, .slice none 0 0]) hA rfl rfl rfl (d_build rfl (fun w => by kernel_rfl)) fun a hA => ?_
 refine mv hA rfl rfl rfl fun a hA => ?_
 refine seq_store (us := [.bool false, .slice none 0 0]) hA hS rfl rfl (sets_store rfl rfl rfl (by kernel_rfl) hS 0 rfl rfl rfl) 0 rfl rfl rfl rfl ?_
 intro w15 hS
 refine seq_do hA rfl rfl rfl (d_assign rfl) fun a hA => ?_
 refine seq_do hA rfl rfl rfl (d_assign rfl) fun a hA => ?_
 refine seq_end ?_
 refine hK14 _ _ ?_
 refine wp_ret ?_
 refine hret _ _ ?_
 refine ends (v := .tuple #[.agg #[.bool false, .slice none 0 0], .slice none 0 0, .int .i64 ((rdE r n.2.1))]) hA rfl (.cons (res_cell hS RxD_isS_60 rfl 0 rfl (cs := [.bool false, .slice none 0 0]) rfl rfl) (.cons (res_tmp rfl) (.cons (res_tmp rfl) .nil))) rfl ?_
 exact ⟨rfl, hS.bel⟩
theorem value_bad2 {w : World} {r : Nat} {n : Nl} (hr : RadN r) (hl1 : n.2.1.length ≤ 9223372036854775807) (hl2 : n.2.2.length ≤ 9223372036854775807) (h1 : rdE r n.2.1 = 0) (h2 : rdE r n.2.2 ≠ 0) : Calls Tryz.prog 46 #[.agg #[.int .u8 (((n.1 : Nat) : Int)), .string (bsL n.2.1), .string (bsL n.2.2)], .int .i64 ((r : Nat) : Int)] w fun e w' => e = .returned (.tuple #[.agg #[.bool false, .slice none 0 0], .slice none 0 0, .int .i64 (rdE r n.2.2)]) ∧ Below w.heap.size w w' := by
 have hS : St w w [] [] [] := St.start w
 refine walk_of (l := [(0, .agg #[.int .u8 (((n.1 : Nat) : Int)), .string (bsL n.2.1), .string (bsL n.2.2)]), (1, .int .i64 (((r : Nat) : Int)))]) Tryz.func46 rfl Tryz.ntmps46 rfl rfl ?_
 intro Q hret hnorm hP a hA
 refine wp_seq_k (fun K1 hK1 => ?_)
 refine wp_region_lit ?_
 refine seq_new hA hS rfl rfl rfl (fun g => .pointer (some ⟨g, 0, none⟩)) (d_box rfl rfl) rfl ?_
 intro g2 w3 hS a hA
 refine seq_new (vs := [.bool false, .slice none 0 0]) (t := 60) hA hS rfl rfl rfl (fun g => .pointer (some ⟨g, 0, none⟩)) (d_alloc (z := .agg #[.bool false, .slice none 0 0]) (by kernel_rfl) rfl) rfl ?_
 intro g4 w5 hS a hA
 refine seq_do hA rfl rfl rfl (d_assign rfl) fun a hA => ?_
 refine seq_do hA rfl rfl rfl (d_assign rfl) fun a hA => ?_
 refine seq_end ?_
 refine hK1 _ _ ?_
 refine wp_seq_k (fun K6 hK6 => ?_)
 refine wp_region_lit ?_
 refine seq_do (v := .pointer (some ⟨g2, 1, none⟩)) hA rfl rfl rfl (d_field RxD_fld_48_1 rfl rfl) fun a hA => ?_
 refine seq_do hA rfl rfl rfl (d_load1 hS RxD_is1_9 rfl 1 rfl rfl) fun a hA => ?_
 refine mv hA rfl rfl rfl fun a hA => ?_
 refine seq_call hA rfl rfl rfl (enters_func  rfl rfl (fun w => by kernel_rfl)) ((by have h := valueOrOne_any (w := w5) (r := r) (l := n.2.1) hr hl1; rw [(rdN_ok h1).1] at h; exact h)) ?_
 rintro _ w11 ⟨ro7, rc8, rfl, ho9, hb10⟩
 replace hS := hS.call hb10
 replace hS := hS.addR ho9.rd
 refine ⟨_, rfl, ?_⟩
 intro a hA
 refine mv hA rfl rfl rfl fun a hA => ?_
 refine seq_do (v := .slice ro7 ((words (natN r n.2.1)).length) rc8) hA rfl rfl rfl (d_extract (vs := [.slice ro7 ((words (natN r n.2.1)).length) rc8, .int .i64 0]) rfl rfl) fun a hA => ?_
 refine seq_do (v := .int .i64 0) hA rfl rfl rfl (d_extract (vs := [.slice ro7 ((words (natN r n.2.1)).length) rc8, .int .i64 0]) rfl rfl) fun a hA => ?_
 refine seq_do hA rfl rfl rfl (d_assign rfl) fun a hA => ?_
 refine seq_do hA rfl rfl rfl (d_assign rfl) fun a hA => ?_
 refine seq_end ?_
 refine hK6 _ _ ?_
 refine wp_seq_k (fun K12 hK12 => ?_)
 refine wp_seq_k (fun K13 hK13 => ?_)
 refine wp_region_lit ?_
 refine mv hA rfl rfl rfl fun a hA => ?_
 refine seq_do (v := .bool false) hA rfl rfl rfl (d_bin rfl rfl (fun w => by kernel_rfl)) fun a hA => ?_
 refine seq_end ?_
 refine hK13 _ _ ?_
 refine wp_cond_false (hA.ev rfl) ?_
 refine wp_skip ?_
 refine hK12 _ _ ?_
 refine wp_seq_k (fun K14 hK14 => ?_)
 refine wp_region_lit ?_
 refine seq_do (v := .pointer (some ⟨g2, 2, none⟩)) hA rfl rfl rfl (d_field RxD_fld_48_2 rfl rfl) fun a hA => ?_
 refine seq_do hA rfl rfl rfl (d_load1 hS RxD_is1_9 rfl 1 rfl rfl) fun a hA => ?_
 refine mv hA rfl rfl rfl fun a hA => ?_
 refine seq_call hA rfl rfl rfl (enters_func  rfl rfl (fun w => by kernel_rfl)) ((by have h := valueOrOne_any (w := w11) (r := r) (l := n.2.2) hr hl2; rw [rdN_bad h2] at h; exact h)) ?_
 rintro _ w19 ⟨ro15, rc16, rfl, ho17, hb18⟩
 replace hS := hS.call hb18
 replace hS := hS.addR ho17.rd
 refine ⟨_, rfl, ?_⟩
 intro a hA
 refine mv hA rfl rfl rfl fun a hA => ?_
 refine seq_do (v := .slice ro15 0 rc16) hA rfl rfl rfl (d_extract (vs := [.slice ro15 0 rc16, .int .i64 ((rdE r n.2.2))]) rfl rfl) fun a hA => ?_
 refine seq_do (v := .int .i64 ((rdE r n.2.2))) hA rfl rfl rfl (d_extract (vs := [.slice ro15 0 rc16, .int .i64 ((rdE r n.2.2))]) rfl rfl) fun a hA => ?_
 refine seq_do hA rfl rfl rfl (d_assign rfl) fun a hA => ?_
 refine seq_do hA rfl rfl rfl (d_assign rfl) fun a hA => ?_
 refine seq_end ?_
 refine hK14 _ _ ?_
 refine wp_seq_k (fun K20 hK20 => ?_)
 refine wp_seq_k (fun K21 hK21 => ?_)
 refine wp_region_lit ?_
 refine mv hA rfl rfl rfl fun a hA => ?_
 refine seq_do (v := .bool true) hA rfl rfl rfl (d_bin rfl rfl (fun w => (bin_neq w).trans (by rw [show (((rdE r n.2.2) != 0)) = true from (bne_iff_ne.2 h2)]))) fun a hA => ?_
 refine seq_end ?_
 refine hK21 _ _ ?_
 refine wp_cond_true (hA.ev rfl) ?_
 refine wp_seq_k (fun K22 hK22 => ?_)
 refine wp_region_lit ?_
 refine seq_do (v := .agg #[.bool false, .slice none 0 0]) hA rfl rfl rfl (d_build rfl (fun w => by kernel_rfl)) fun a hA => ?_
 refine mv hA rfl rfl rfl fun a hA => ?_
 refine seq_store (us := [.bool false, .slice none 0 0]) hA hS rfl rfl (sets_store rfl rfl rfl (by kernel_rfl) hS 0 rfl rfl rfl) 0 rfl rfl rfl rfl ?_
 intro w23 hS
 refine seq_do hA rfl rfl rfl (d_assign rfl) fun a hA => ?_
 refine seq_do hA rfl rfl rfl (d_assign rfl) fun a hA => ?_
 refine seq_end ?_
 refine hK22 _ _ ?_
 refine wp_ret ?_
 refine hret _ _ ?_
 refine ends (v := .tuple #[.agg #[.bool false, .slice none 0 0], .slice none 0 0, .int .i64 ((rdE r n.2.2))]) hA rfl (.cons (res_cell hS RxD_isS_60 rfl 0 rfl (cs := [.bool false, .slice none 0 0]) rfl rfl) (.cons (res_tmp rfl) (.cons (res_tmp rfl) .nil))) rfl ?_
 exact ⟨rfl, hS.bel⟩
theorem value_bad {w : World} {r : Nat} {n : Nl} (hr : RadN r) (hl1 : n.2.1.length ≤ 9223372036854775807) (hl2 : n.2.2.length ≤ 9223372036854775807) (h : errN r n ≠ 0) : Calls Tryz.prog 46 #[.agg #[.int .u8 (((n.1 : Nat) : Int)), .string (bsL n.2.1), .string (bsL n.2.2)], .int .i64 ((r : Nat) : Int)] w fun e w' => e = .returned (.tuple #[.agg #[.bool false, .slice none 0 0], .slice none 0 0, .int .i64 (errN r n)]) ∧ Below w.heap.size w w' := by
 unfold errN at h ⊢
 by_cases h1 : rdE r n.2.1 = 0
 ·
  rw [if_neg (by simpa using h1)] at h ⊢
  exact value_bad2 hr hl1 hl2 h1 h
 ·
  rw [if_pos h1]
  exact value_bad1 hr hl1 hl2 h1
end Go.Proofs.YtjmhdebfpnjceaaGreat
namespace Go.Proofs.YtjmhdebfpnjceaaGreat
open Go.RowKit
set_option linter.unusedVariables false
set_option linter.unusedSimpArgs false
set_option maxRecDepth 100000
theorem RxE_isS_26 : IsS Tryz.prog 26 6 := ⟨⟨_, Tryz.underlying26⟩, by kernel_rfl⟩
theorem RxE_isS_48 : IsS Tryz.prog 48 3 := ⟨⟨_, Tryz.underlying48⟩, by kernel_rfl⟩
theorem RxE_isS_60 : IsS Tryz.prog 60 2 := ⟨⟨_, Tryz.underlying60⟩, by kernel_rfl⟩
theorem valueOf_b0 {w : World} {r : Nat} {n m : Nl} (hr : RadN r) (hl1 : n.2.1.length ≤ 9223372036854775807) (hl2 : n.2.2.length ≤ 9223372036854775807) (hk1 : m.2.1.length ≤ 9223372036854775807) (hk2 : m.2.2.length ≤ 9223372036854775807) (h1 : errN r n ≠ 0) (h2 : errN r m ≠ 0) : Calls Tryz.prog 28 #[.agg #[.int .u8 (((n.1 : Nat) : Int)), .string (bsL n.2.1), .string (bsL n.2.2)], .agg #[.int .u8 (((m.1 : Nat) : Int)), .string (bsL m.2.1), .string (bsL m.2.2)], .int .i64 ((r : Nat) : Int)] w (AnsN w (valX r n m)) := by
 have hS : St w w [] [] [] := St.start w
 refine walk_of (l := [(0, .agg #[.int .u8 (((n.1 : Nat) : Int)), .string (bsL n.2.1), .string (bsL n.2.2)]), (1, .agg #[.int .u8 (((m.1 : Nat) : Int)), .string (bsL m.2.1), .string (bsL m.2.2)]), (2, .int .i64 (((r : Nat) : Int)))]) Tryz.func28 rfl Tryz.ntmps28 rfl rfl ?_
 intro Q hret hnorm hP a hA
 refine wp_seq_k (fun K1 hK1 => ?_)
 refine wp_region_lit ?_
 refine seq_new hA hS rfl rfl rfl (fun g => .pointer (some ⟨g, 0, none⟩)) (d_box rfl rfl) rfl ?_
 intro g2 w3 hS a hA
 refine seq_new hA hS rfl rfl rfl (fun g => .pointer (some ⟨g, 0, none⟩)) (d_box rfl rfl) rfl ?_
 intro g4 w5 hS a hA
 refine seq_new (vs := [.bool false, .slice none 0 0, .slice none 0 0, .bool false, .slice none 0 0, .slice none 0 0]) (t := 26) hA hS rfl rfl rfl (fun g => .pointer (some ⟨g, 0, none⟩)) (d_alloc (z := .agg #[.bool false, .slice none 0 0, .slice none 0 0, .bool false, .slice none 0 0, .slice none 0 0]) (by kernel_rfl) rfl) rfl ?_
 intro g6 w7 hS a hA
 refine seq_do hA rfl rfl rfl (d_assign rfl) fun a hA => ?_
 refine seq_end ?_
 refine hK1 _ _ ?_
 refine wp_seq_k (fun K8 hK8 => ?_)
 refine wp_region_lit ?_
 refine seq_do hA rfl rfl rfl (d_loadS hS RxE_isS_48 rfl 2 rfl (cs := [.int .u8 (((n.1 : Nat) : Int)), .string (bsL n.2.1), .string (bsL n.2.2)]) rfl rfl) fun a hA => ?_
 refine mv hA rfl rfl rfl fun a hA => ?_
 refine seq_call hA rfl rfl rfl (enters_func  rfl rfl (fun w => by kernel_rfl)) (value_bad hr hl1 hl2 h1) ?_
 rintro _ w10 ⟨rfl, hb9⟩
 replace hS := hS.call hb9
 refine ⟨_, rfl, ?_⟩
 intro a hA
 refine mv hA rfl rfl rfl fun a hA => ?_
 refine seq_do (v := .agg #[.bool false, .slice none 0 0]) hA rfl rfl rfl (d_extract (vs := [.agg #[.bool false, .slice none 0 0], .slice none 0 0, .int .i64 ((errN r n))]) rfl rfl) fun a hA => ?_
 refine seq_do (v := .slice none 0 0) hA rfl rfl rfl (d_extract (vs := [.agg #[.bool false, .slice none 0 0], .slice none 0 0, .int .i64 ((errN r n))]) rfl rfl) fun a hA => ?_
 refine seq_do (v := .int .i64 ((errN r n))) hA rfl rfl rfl (d_extract (vs := [.agg #[.bool false, .slice none 0 0], .slice none 0 0, .int .i64 ((errN r n))]) rfl rfl) fun a hA => ?_
 refine seq_new (vs := [.bool false, .slice none 0 0]) (t := 60) hA hS rfl rfl rfl (fun g => .pointer (some ⟨g, 0, none⟩)) (d_alloc (z := .agg #[.bool false, .slice none 0 0]) (by kernel_rfl) rfl) rfl ?_
 intro g11 w12 hS a hA
 refine seq_store (us := [.bool false, .slice none 0 0]) hA hS rfl rfl (sets_store rfl rfl rfl (by kernel_rfl) hS 0 rfl rfl rfl) 0 rfl rfl rfl rfl ?_
 intro w13 hS
 refine seq_do hA rfl rfl rfl (d_assign rfl) fun a hA => ?_
 refine seq_do hA rfl rfl rfl (d_assign rfl) fun a hA => ?_
 refine seq_end ?_
 refine hK8 _ _ ?_
 refine wp_seq_k (fun K14 hK14 => ?_)
 refine wp_region_lit ?_
 refine seq_do hA rfl rfl rfl (d_loadS hS RxE_isS_48 rfl 2 rfl (cs := [.int .u8 (((m.1 : Nat) : Int)), .string (bsL m.2.1), .string (bsL m.2.2)]) rfl rfl) fun a hA => ?_
 refine mv hA rfl rfl rfl fun a hA => ?_
 refine seq_call hA rfl rfl rfl (enters_func  rfl rfl (fun w => by kernel_rfl)) (value_bad hr hk1 hk2 h2) ?_
 rintro _ w16 ⟨rfl, hb15⟩
 replace hS := hS.call hb15
 refine ⟨_, rfl, ?_⟩
 intro a hA
 refine mv hA rfl rfl rfl fun a hA => ?_
 refine seq_do (v := .agg #[.bool false, .slice none 0 0]) hA rfl rfl rfl (d_extract (vs := [.agg #[.bool false, .slice none 0 0], .slice none 0 0, .int .i64 ((errN r m))]) rfl rfl) fun a hA => ?_
 refine seq_do (v := .slice none 0 0) hA rfl rfl rfl (d_extract (vs := [.agg #[.bool false, .slice none 0 0], .slice none 0 0, .int .i64 ((errN r m))]) rfl rfl) fun a hA => ?_
 refine seq_do (v := .int .i64 ((errN r m))) hA rfl rfl rfl (d_extract (vs := [.agg #[.bool false, .slice none 0 0], .slice none 0 0, .int .i64 ((errN r m))]) rfl rfl) fun a hA => ?_
 refine seq_new (vs := [.bool false, .slice none 0 0]) (t := 60) hA hS rfl rfl rfl (fun g => .pointer (some ⟨g, 0, none⟩)) (d_alloc (z := .agg #[.bool false, .slice none 0 0]) (by kernel_rfl) rfl) rfl ?_
 intro g17 w18 hS a hA
 refine seq_store (us := [.bool false, .slice none 0 0]) hA hS rfl rfl (sets_store rfl rfl rfl (by kernel_rfl) hS 0 rfl rfl rfl) 0 rfl rfl rfl rfl ?_
 intro w19 hS
 refine seq_do hA rfl rfl rfl (d_assign rfl) fun a hA => ?_
 refine seq_do hA rfl rfl rfl (d_assign rfl) fun a hA => ?_
 refine seq_end ?_
 refine hK14 _ _ ?_
 refine wp_seq_k (fun K20 hK20 => ?_)
 refine wp_seq_k (fun K21 hK21 => ?_)
 refine wp_region_lit ?_
 refine mv hA rfl rfl rfl fun a hA => ?_
 refine seq_do (v := .bool true) hA rfl rfl rfl (d_bin rfl rfl (fun w => (bin_neq w).trans (by rw [show (((errN r n) != 0)) = true from (bne_iff_ne.2 h1)]))) fun a hA => ?_
 refine mv hA rfl rfl rfl fun a hA => ?_
 refine seq_skip hA rfl rfl rfl fun a hA => ?_
 refine seq_skip hA rfl rfl rfl fun a hA => ?_
 refine seq_do (v := .bool true) hA rfl rfl rfl (d_pick rfl rfl rfl rfl) fun a hA => ?_
 refine seq_end ?_
 refine hK21 _ _ ?_
 refine wp_cond_true (hA.ev rfl) ?_
 refine wp_seq_k (fun K22 hK22 => ?_)
 refine wp_region_lit ?_
 refine seq_do (v := .agg #[.bool false, .slice none 0 0, .slice none 0 0, .bool false, .slice none 0 0, .slice none 0 0]) hA rfl rfl rfl (d_build rfl (fun w => by kernel_rfl)) fun a hA => ?_
 refine seq_store (us := [.bool false, .slice none 0 0, .slice none 0 0, .bool false, .slice none 0 0, .slice none 0 0]) hA hS rfl rfl (sets_store rfl rfl rfl (by kernel_rfl) hS 2 rfl rfl rfl) 2 rfl rfl rfl rfl ?_
 intro w23 hS
 refine seq_do hA rfl rfl rfl (d_assign rfl) fun a hA => ?_
 refine seq_end ?_
 refine hK22 _ _ ?_
 refine wp_ret ?_
 refine hret _ _ ?_
 refine ends (v := .tuple #[.agg #[.bool false, .slice none 0 0, .slice none 0 0, .bool false, .slice none 0 0, .slice none 0 0], .int .i64 4]) hA rfl (.cons (res_cell hS RxE_isS_26 rfl 2 rfl (cs := [.bool false, .slice none 0 0, .slice none 0 0, .bool false, .slice none 0 0, .slice none 0 0]) rfl rfl) (.cons (res_tmp rfl) .nil)) rfl ?_
 rw [valX_bad (by first | exact Or.inl h1 | exact Or.inr h2)]
 exact ⟨none, 0, none, 0, none, 0, none, 0, rfl, ⟨Sc.none _, Sc.none _, Sc.none _, Sc.none _⟩, hS.bel⟩
theorem valueOf_b1 {w : World} {r : Nat} {n m : Nl} (hr : RadN r) (hl1 : n.2.1.length ≤ 9223372036854775807) (hl2 : n.2.2.length ≤ 9223372036854775807) (hk1 : m.2.1.length ≤ 9223372036854775807) (hk2 : m.2.2.length ≤ 9223372036854775807) (h1 : errN r n ≠ 0) (h2 : errN r m = 0) : Calls Tryz.prog 28 #[.agg #[.int .u8 (((n.1 : Nat) : Int)), .string (bsL n.2.1), .string (bsL n.2.2)], .agg #[.int .u8 (((m.1 : Nat) : Int)), .string (bsL m.2.1), .string (bsL m.2.2)], .int .i64 ((r : Nat) : Int)] w (AnsN w (valX r n m)) := by
 have hS : St w w [] [] [] := St.start w
 refine walk_of (l := [(0, .agg #[.int .u8 (((n.1 : Nat) : Int)), .string (bsL n.2.1), .string (bsL n.2.2)]), (1, .agg #[.int .u8 (((m.1 : Nat) : Int)), .string (bsL m.2.1), .string (bsL m.2.2)]), (2, .int .i64 (((r : Nat) : Int)))]) Tryz.func28 rfl Tryz.ntmps28 rfl rfl ?_
 intro Q hret hnorm hP a hA
 refine wp_seq_k (fun K1 hK1 => ?_)
 refine wp_region_lit ?_
 refine seq_new hA hS rfl rfl rfl (fun g => .pointer (some ⟨g, 0, none⟩)) (d_box rfl rfl) rfl ?_
 intro g2 w3 hS a hA
 refine seq_new hA hS rfl rfl rfl (fun g => .pointer (some ⟨g, 0, none⟩)) (d_box rfl rfl) rfl ?_
 intro g4 w5 hS a hA
 refine seq_new (vs := [.bool false, .slice none 0 0, .slice none 0 0, .bool false, .slice none 0 0, .slice none 0 0]) (t := 26) hA hS rfl rfl rfl (fun g => .pointer (some ⟨g, 0, none⟩)) (d_alloc (z := .agg #[.bool false, .slice none 0 0, .slice none 0 0, .bool false, .slice none 0 0, .slice none 0 0]) (by kernel_rfl) rfl) rfl ?_
 intro g6 w7 hS a hA
 refine seq_do hA rfl rfl rfl (d_assign rfl) fun a hA => ?_
 refine seq_end ?_
 refine hK1 _ _ ?_
 refine wp_seq_k (fun K8 hK8 => ?_)
 refine wp_region_lit ?_
 refine seq_do hA rfl rfl rfl (d_loadS hS RxE_isS_48 rfl 2 rfl (cs := [.int .u8 (((n.1 : Nat) : Int)), .string (bsL n.2.1), .string (bsL n.2.2)]) rfl rfl) fun a hA => ?_
 refine mv hA rfl rfl rfl fun a hA => ?_
 refine seq_call hA rfl rfl rfl (enters_func  rfl rfl (fun w => by kernel_rfl)) (value_bad hr hl1 hl2 h1) ?_
 rintro _ w10 ⟨rfl, hb9⟩
 replace hS := hS.call hb9
 refine ⟨_, rfl, ?_⟩
 intro a hA
 refine mv hA rfl rfl rfl fun a hA => ?_
 refine seq_do (v := .agg #[.bool false, .slice none 0 0]) hA rfl rfl rfl (d_extract (vs := [.agg #[.bool false, .slice none 0 0], .slice none 0 0, .int .i64 ((errN r n))]) rfl rfl) fun a hA => ?_
 refine seq_do (v := .slice none 0 0) hA rfl rfl rfl (d_extract (vs := [.agg #[.bool false, .slice none 0 0], .slice none 0 0, .int .i64 ((errN r n))]) rfl rfl) fun a hA => ?_
 refine seq_do (v := .int .i64 ((errN r n))) hA rfl rfl rfl (d_extract (vs := [.agg #[.bool false, .slice none 0 0], .slice none 0 0, .int .i64 ((errN r n))]) rfl rfl) fun a hA => ?_
 refine seq_new (vs := [.bool false, .slice none 0 0]) (t := 60) hA hS rfl rfl rfl (fun g => .pointer (some ⟨g, 0, none⟩)) (d_alloc (z := .agg #[.bool false, .slice none 0 0]) (by kernel_rfl) rfl) rfl ?_
 intro g11 w12 hS a hA
 refine seq_store (us := [.bool false, .slice none 0 0]) hA hS rfl rfl (sets_store rfl rfl rfl (by kernel_rfl) hS 0 rfl rfl rfl) 0 rfl rfl rfl rfl ?_
 intro w13 hS
 refine seq_do hA rfl rfl rfl (d_assign rfl) fun a hA => ?_
 refine seq_do hA rfl rfl rfl (d_assign rfl) fun a hA => ?_
 refine seq_end ?_
 refine hK8 _ _ ?_
 refine wp_seq_k (fun K14 hK14 => ?_)
 refine wp_region_lit ?_
 refine seq_do hA rfl rfl rfl (d_loadS hS RxE_isS_48 rfl 2 rfl (cs := [.int .u8 (((m.1 : Nat) : Int)), .string (bsL m.2.1), .string (bsL m.2.2)]) rfl rfl) fun a hA => ?_
 refine mv hA rfl rfl rfl fun a hA => ?_
 refine seq_call hA rfl rfl rfl (enters_func  rfl rfl (fun w => by kernel_rfl)) (value_ok (n := m) hr hk1 hk2 (errN_zero h2).1 (errN_zero h2).2) ?_
 rintro _ w22 ⟨zo15, zc16, zo17, zc18, rfl, hs19, hs20, hb21⟩
 replace hS := hS.call hb21
 replace hS := hS.addR hs19.rd
 replace hS := hS.addR hs20.rd
 refine ⟨_, rfl, ?_⟩
 intro a hA
 refine mv hA rfl rfl rfl fun a hA => ?_
 refine seq_do (v := .agg #[.bool ((rb (sgn (decide (m.1 = 45)) (natN r m.2.1)))), .slice zo15 ((words (sgn (decide (m.1 = 45)) (natN r m.2.1)).natAbs).length) zc16]) hA rfl rfl rfl (d_extract (vs := [.agg #[.bool ((rb (sgn (decide (m.1 = 45)) (natN r m.2.1)))), .slice zo15 ((words (sgn (decide (m.1 = 45)) (natN r m.2.1)).natAbs).length) zc16], .slice zo17 ((words (natN r m.2.2)).length) zc18, .int .i64 0]) rfl rfl) fun a hA => ?_
 refine seq_do (v := .slice zo17 ((words (natN r m.2.2)).length) zc18) hA rfl rfl rfl (d_extract (vs := [.agg #[.bool ((rb (sgn (decide (m.1 = 45)) (natN r m.2.1)))), .slice zo15 ((words (sgn (decide (m.1 = 45)) (natN r m.2.1)).natAbs).length) zc16], .slice zo17 ((words (natN r m.2.2)).length) zc18, .int .i64 0]) rfl rfl) fun a hA => ?_
 refine seq_do (v := .int .i64 0) hA rfl rfl rfl (d_extract (vs := [.agg #[.bool ((rb (sgn (decide (m.1 = 45)) (natN r m.2.1)))), .slice zo15 ((words (sgn (decide (m.1 = 45)) (natN r m.2.1)).natAbs).length) zc16], .slice zo17 ((words (natN r m.2.2)).length) zc18, .int .i64 0]) rfl rfl) fun a hA => ?_
 refine seq_new (vs := [.bool false, .slice none 0 0]) (t := 60) hA hS rfl rfl rfl (fun g => .pointer (some ⟨g, 0, none⟩)) (d_alloc (z := .agg #[.bool false, .slice none 0 0]) (by kernel_rfl) rfl) rfl ?_
 intro g23 w24 hS a hA
 refine seq_store (us := [.bool ((rb (sgn (decide (m.1 = 45)) (natN r m.2.1)))), .slice zo15 ((words (sgn (decide (m.1 = 45)) (natN r m.2.1)).natAbs).length) zc16]) hA hS rfl rfl (sets_store rfl rfl rfl (by kernel_rfl) hS 0 rfl rfl rfl) 0 rfl rfl rfl rfl ?_
 intro w25 hS
 refine seq_do hA rfl rfl rfl (d_assign rfl) fun a hA => ?_
 refine seq_do hA rfl rfl rfl (d_assign rfl) fun a hA => ?_
 refine seq_end ?_
 refine hK14 _ _ ?_
 refine wp_seq_k (fun K26 hK26 => ?_)
 refine wp_seq_k (fun K27 hK27 => ?_)
 refine wp_region_lit ?_
 refine mv hA rfl rfl rfl fun a hA => ?_
 refine seq_do (v := .bool true) hA rfl rfl rfl (d_bin rfl rfl (fun w => (bin_neq w).trans (by rw [show (((errN r n) != 0)) = true from (bne_iff_ne.2 h1)]))) fun a hA => ?_
 refine mv hA rfl rfl rfl fun a hA => ?_
 refine seq_skip hA rfl rfl rfl fun a hA => ?_
 refine seq_skip hA rfl rfl rfl fun a hA => ?_
 refine seq_do (v := .bool true) hA rfl rfl rfl (d_pick rfl rfl rfl rfl) fun a hA => ?_
 refine seq_end ?_
 refine hK27 _ _ ?_
 refine wp_cond_true (hA.ev rfl) ?_
 refine wp_seq_k (fun K28 hK28 => ?_)
 refine wp_region_lit ?_
 refine seq_do (v := .agg #[.bool false, .slice none 0 0, .slice none 0 0, .bool false, .slice none 0 0, .slice none 0 0]) hA rfl rfl rfl (d_build rfl (fun w => by kernel_rfl)) fun a hA => ?_
 refine seq_store (us := [.bool false, .slice none 0 0, .slice none 0 0, .bool false, .slice none 0 0, .slice none 0 0]) hA hS rfl rfl (sets_store rfl rfl rfl (by kernel_rfl) hS 2 rfl rfl rfl) 2 rfl rfl rfl rfl ?_
 intro w29 hS
 refine seq_do hA rfl rfl rfl (d_assign rfl) fun a hA => ?_
 refine seq_end ?_
 refine hK28 _ _ ?_
 refine wp_ret ?_
 refine hret _ _ ?_
 refine ends (v := .tuple #[.agg #[.bool false, .slice none 0 0, .slice none 0 0, .bool false, .slice none 0 0, .slice none 0 0], .int .i64 4]) hA rfl (.cons (res_cell hS RxE_isS_26 rfl 2 rfl (cs := [.bool false, .slice none 0 0, .slice none 0 0, .bool false, .slice none 0 0, .slice none 0 0]) rfl rfl) (.cons (res_tmp rfl) .nil)) rfl ?_
 rw [valX_bad (by first | exact Or.inl h1 | exact Or.inr h2)]
 exact ⟨none, 0, none, 0, none, 0, none, 0, rfl, ⟨Sc.none _, Sc.none _, Sc.none _, Sc.none _⟩, hS.bel⟩
theorem valueOf_b2 {w : World} {r : Nat} {n m : Nl} (hr : RadN r) (hl1 : n.2.1.length ≤ 9223372036854775807) (hl2 : n.2.2.length ≤ 9223372036854775807) (hk1 : m.2.1.length ≤ 9223372036854775807) (hk2 : m.2.2.length ≤ 9223372036854775807) (h1 : errN r n = 0) (h2 : errN r m ≠ 0) : Calls Tryz.prog 28 #[.agg #[.int .u8 (((n.1 : Nat) : Int)), .string (bsL n.2.1), .string (bsL n.2.2)], .agg #[.int .u8 (((m.1 : Nat) : Int)), .string (bsL m.2.1), .string (bsL m.2.2)], .int .i64 ((r : Nat) : Int)] w (AnsN w (valX r n m)) := by
 have hS : St w w [] [] [] := St.start w
 refine walk_of (l := [(0, .agg #[.int .u8 (((n.1 : Nat) : Int)), .string (bsL n.2.1), .string (bsL n.2.2)]), (1, .agg #[.int .u8 (((m.1 : Nat) : Int)), .string (bsL m.2.1), .string (bsL m.2.2)]), (2, .int .i64 (((r : Nat) : Int)))]) Tryz.func28 rfl Tryz.ntmps28 rfl rfl ?_
 intro Q hret hnorm hP a hA
 refine wp_seq_k (fun K1 hK1 => ?_)
 refine wp_region_lit ?_
 refine seq_new hA hS rfl rfl rfl (fun g => .pointer (some ⟨g, 0, none⟩)) (d_box rfl rfl) rfl ?_
 intro g2 w3 hS a hA
 refine seq_new hA hS rfl rfl rfl (fun g => .pointer (some ⟨g, 0, none⟩)) (d_box rfl rfl) rfl ?_
 intro g4 w5 hS a hA
 refine seq_new (vs := [.bool false, .slice none 0 0, .slice none 0 0, .bool false, .slice none 0 0, .slice none 0 0]) (t := 26) hA hS rfl rfl rfl (fun g => .pointer (some ⟨g, 0, none⟩)) (d_alloc (z := .agg #[.bool false, .slice none 0 0, .slice none 0 0, .bool false, .slice none 0 0, .slice none 0 0]) (by kernel_rfl) rfl) rfl ?_
 intro g6 w7 hS a hA
 refine seq_do hA rfl rfl rfl (d_assign rfl) fun a hA => ?_
 refine seq_end ?_
 refine hK1 _ _ ?_
 refine wp_seq_k (fun K8 hK8 => ?_)
 refine wp_region_lit ?_
 refine seq_do hA rfl rfl rfl (d_loadS hS RxE_isS_48 rfl 2 rfl (cs := [.int .u8 (((n.1 : Nat) : Int)), .string (bsL n.2.1), .string (bsL n.2.2)]) rfl rfl) fun a hA => ?_
 refine mv hA rfl rfl rfl fun a hA => ?_
 refine seq_call hA rfl rfl rfl (enters_func  rfl rfl (fun w => by kernel_rfl)) (value_ok (n := n) hr hl1 hl2 (errN_zero h1).1 (errN_zero h1).2) ?_
 rintro _ w16 ⟨zo9, zc10, zo11, zc12, rfl, hs13, hs14, hb15⟩
 replace hS := hS.call hb15
 replace hS := hS.addR hs13.rd
 replace hS := hS.addR hs14.rd
 refine ⟨_, rfl, ?_⟩
 intro a hA
 refine mv hA rfl rfl rfl fun a hA => ?_
 refine seq_do (v := .agg #[.bool ((rb (sgn (decide (n.1 = 45)) (natN r n.2.1)))), .slice zo9 ((words (sgn (decide (n.1 = 45)) (natN r n.2.1)).natAbs).length) zc10]) hA rfl rfl rfl (d_extract (vs := [.agg #[.bool ((rb (sgn (decide (n.1 = 45)) (natN r n.2.1)))), .slice zo9 ((words (sgn (decide (n.1 = 45)) (natN r n.2.1)).natAbs).length) zc10], .slice zo11 ((words (natN r n.2.2)).length) zc12, .int .i64 0]) rfl rfl) fun a hA => ?_
 refine seq_do (v := .slice zo11 ((words (natN r n.2.2)).length) zc12) hA rfl rfl rfl (d_extract (vs := [.agg #[.bool ((rb (sgn (decide (n.1 = 45)) (natN r n.2.1)))), .slice zo9 ((words (sgn (decide (n.1 = 45)) (natN r n.2.1)).natAbs).length) zc10], .slice zo11 ((words (natN r n.2.2)).length) zc12, .int .i64 0]) rfl rfl) fun a hA => ?_
 refine seq_do (v := .int .i64 0) hA rfl rfl rfl (d_extract (vs := [.agg #[.bool ((rb (sgn (decide (n.1 = 45)) (natN r n.2.1)))), .slice zo9 ((words (sgn (decide (n.1 = 45)) (natN r n.2.1)).natAbs).length) zc10], .slice zo11 ((words (natN r n.2.2)).length) zc12, .int .i64 0]) rfl rfl) fun a hA => ?_
 refine seq_new (vs := [.bool false, .slice none 0 0]) (t := 60) hA hS rfl rfl rfl (fun g => .pointer (some ⟨g, 0, none⟩)) (d_alloc (z := .agg #[.bool false, .slice none 0 0]) (by kernel_rfl) rfl) rfl ?_
 intro g17 w18 hS a hA
 refine seq_store (us := [.bool ((rb (sgn (decide (n.1 = 45)) (natN r n.2.1)))), .slice zo9 ((words (sgn (decide (n.1 = 45)) (natN r n.2.1)).natAbs).length) zc10]) hA hS rfl rfl (sets_store rfl rfl rfl (by kernel_rfl) hS 0 rfl rfl rfl) 0 rfl rfl rfl rfl ?_
 intro w19 hS
 refine seq_do hA rfl rfl rfl (d_assign rfl) fun a hA => ?_
 refine seq_do hA rfl rfl rfl (d_assign rfl) fun a hA => ?_
 refine seq_end ?_
 refine hK8 _ _ ?_
 refine wp_seq_k (fun K20 hK20 => ?_)
 refine wp_region_lit ?_
 refine seq_do hA rfl rfl rfl (d_loadS hS RxE_isS_48 rfl 2 rfl (cs := [.int .u8 (((m.1 : Nat) : Int)), .string (bsL m.2.1), .string (bsL m.2.2)]) rfl rfl) fun a hA => ?_
 refine mv hA rfl rfl rfl fun a hA => ?_
 refine seq_call hA rfl rfl rfl (enters_func  rfl rfl (fun w => by kernel_rfl)) (value_bad hr hk1 hk2 h2) ?_
 rintro _ w22 ⟨rfl, hb21⟩
 replace hS := hS.call hb21
 refine ⟨_, rfl, ?_⟩
 intro a hA
 refine mv hA rfl rfl rfl fun a hA => ?_
 refine seq_do (v := .agg #[.bool false, .slice none 0 0]) hA rfl rfl rfl (d_extract (vs := [.agg #[.bool false, .slice none 0 0], .slice none 0 0, .int .i64 ((errN r m))]) rfl rfl) fun a hA => ?_
 refine seq_do (v := .slice none 0 0) hA rfl rfl rfl (d_extract (vs := [.agg #[.bool false, .slice none 0 0], .slice none 0 0, .int .i64 ((errN r m))]) rfl rfl) fun a hA => ?_
 refine seq_do (v := .int .i64 ((errN r m))) hA rfl rfl rfl (d_extract (vs := [.agg #[.bool false, .slice none 0 0], .slice none 0 0, .int .i64 ((errN r m))]) rfl rfl) fun a hA => ?_
 refine seq_new (vs := [.bool false, .slice none 0 0]) (t := 60) hA hS rfl rfl rfl (fun g => .pointer (some ⟨g, 0, none⟩)) (d_alloc (z := .agg #[.bool false, .slice none 0 0]) (by kernel_rfl) rfl) rfl ?_
 intro g23 w24 hS a hA
 refine seq_store (us := [.bool false, .slice none 0 0]) hA hS rfl rfl (sets_store rfl rfl rfl (by kernel_rfl) hS 0 rfl rfl rfl) 0 rfl rfl rfl rfl ?_
 intro w25 hS
 refine seq_do hA rfl rfl rfl (d_assign rfl) fun a hA => ?_
 refine seq_do hA rfl rfl rfl (d_assign rfl) fun a hA => ?_
 refine seq_end ?_
 refine hK20 _ _ ?_
 refine wp_seq_k (fun K26 hK26 => ?_)
 refine wp_seq_k (fun K27 hK27 => ?_)
 refine wp_region_lit ?_
 refine mv hA rfl rfl rfl fun a hA => ?_
 refine seq_do (v := .bool false) hA rfl rfl rfl (d_bin rfl rfl (fun w => by kernel_rfl)) fun a hA => ?_
 refine mv hA rfl rfl rfl fun a hA => ?_
 refine mv hA rfl rfl rfl fun a hA => ?_
 refine seq_do (v := .bool true) hA rfl rfl rfl (d_bin rfl rfl (fun w => (bin_neq w).trans (by rw [show (((errN r m) != 0)) = true from (bne_iff_ne.2 h2)]))) fun a hA => ?_
 refine seq_do (v := .bool true) hA rfl rfl rfl (d_pick rfl rfl rfl rfl) fun a hA => ?_
 refine seq_end ?_
 refine hK27 _ _ ?_
 refine wp_cond_true (hA.ev rfl) ?_
 refine wp_seq_k (fun K28 hK28 => ?_)
 refine wp_region_lit ?_
 refine seq_do (v := .agg #[.bool false, .slice none 0 0, .slice none 0 0, .bool false, .slice none 0 0, .slice none 0 0]) hA rfl rfl rfl (d_build rfl (fun w => by kernel_rfl)) fun a hA => ?_
 refine seq_store (us := [.bool false, .slice none 0 0, .slice none 0 0, .bool false, .slice none 0 0, .slice none 0 0]) hA hS rfl rfl (sets_store rfl rfl rfl (by kernel_rfl) hS 2 rfl rfl rfl) 2 rfl rfl rfl rfl ?_
 intro w29 hS
 refine seq_do hA rfl rfl rfl (d_assign rfl) fun a hA => ?_
 refine seq_end ?_
 refine hK28 _ _ ?_
 refine wp_ret ?_
 refine hret _ _ ?_
 refine ends (v := .tuple #[.agg #[.bool false, .slice none 0 0, .slice none 0 0, .bool false, .slice none 0 0, .slice none 0 0], .int .i64 4]) hA rfl (.cons (res_cell hS RxE_isS_26 rfl 2 rfl (cs := [.bool false, .slice none 0 0, .slice none 0 0, .bool false, .slice none 0 0, .slice none 0 0]) rfl rfl) (.cons (res_tmp rfl) .nil)) rfl ?_
 rw [valX_bad (by first | exact Or.inl h1 | exact Or.inr h2)]
 exact ⟨none, 0, none, 0, none, 0, none, 0, rfl, ⟨Sc.none _, Sc.none _, Sc.none _, Sc.none _⟩, hS.bel⟩
theorem valueOf_ok {w : World} {r : Nat} {n m : Nl} (hr : RadN r) (hl1 : n.2.1.length ≤ 9223372036854775807) (hl2 : n.2.2.length ≤ 9223372036854775807) (hk1 : m.2.1.length ≤ 9223372036854775807) (hk2 : m.2.2.length ≤ 9223372036854775807) (h1 : errN r n = 0) (h2 : errN r m = 0) (kn : natN r n.2.2 ≠ 0) (km : natN r m.2.2 ≠ 0) : Calls Tryz.prog 28 #[.agg #[.int .u8 (((n.1 : Nat) : Int)), .string (bsL n.2.1), .string (bsL n.2.2)], .agg #[.int .u8 (((m.1 : Nat) : Int)), .string (bsL m.2.1), .string (bsL m.2.2)], .int .i64 ((r : Nat) : Int)] w (AnsN w (valX r n m)) := by
 have jn := words_len_pos.2 kn
 have jm := words_len_pos.2 km
 have hS : St w w [] [] [] := St.start w
 refine walk_of (l := [(0, .agg #[.int .u8 (((n.1 : Nat) : Int)), .string (bsL n.2.1), .string (bsL n.2.2)]), (1, .agg #[.int .u8 (((m.1 : Nat) : Int)), .string (bsL m.2.1), .string (bsL m.2.2)]), (2, .int .i64 (((r : Nat) : Int)))]) Tryz.func28 rfl Tryz.ntmps28 rfl rfl ?_
 intro Q hret hnorm hP a hA
 refine wp_seq_k (fun K1 hK1 => ?_)
 refine wp_region_lit ?_
 refine seq_new hA hS rfl rfl rfl (fun g => .pointer (some ⟨g, 0, none⟩)) (d_box rfl rfl) rfl ?_
 intro g2 w3 hS a hA
 refine seq_new hA hS rfl rfl rfl (fun g => .pointer (some ⟨g, 0, none⟩)) (d_box rfl rfl) rfl ?_
 intro g4 w5 hS a hA
 refine seq_new (vs := [.bool false, .slice none 0 0, .slice none 0 0, .bool false, .slice none 0 0, .slice none 0 0]) (t := 26) hA hS rfl rfl rfl (fun g => .pointer (some ⟨g, 0, none⟩)) (d_alloc (z := .agg #[.bool false, .slice none 0 0, .slice none 0 0, .bool false, .slice none 0 0, .slice none 0 0]) (by kernel_rfl) rfl) rfl ?_
 intro g6 w7 hS a hA
 refine seq_do hA rfl rfl rfl (d_assign rfl) fun a hA => ?_
 refine seq_end ?_
 refine hK1 _ _ ?_
 refine wp_seq_k (fun K8 hK8 => ?_)
 refine wp_region_lit ?_
 refine seq_do hA rfl rfl rfl (d_loadS hS RxE_isS_48 rfl 2 rfl (cs := [.int .u8 (((n.1 : Nat) : Int)), .string (bsL n.2.1), .string (bsL n.2.2)]) rfl rfl) fun a hA => ?_
 refine mv hA rfl rfl rfl fun a hA => ?_
 refine seq_call hA rfl rfl rfl (enters_func  rfl rfl (fun w => by kernel_rfl)) (value_ok (n := n) hr hl1 hl2 (errN_zero h1).1 (errN_zero h1).2) ?_
 rintro _ w16 ⟨zo9, zc10, zo11, zc12, rfl, hs13, hs14, hb15⟩
 replace hS := hS.call hb15
 replace hS := hS.addR hs13.rd
 replace hS := hS.addR hs14.rd
 refine ⟨_, rfl, ?_⟩
 intro a hA
 refine mv hA rfl rfl rfl fun a hA => ?_
 refine seq_do (v := .agg #[.bool ((rb (sgn (decide (n.1 = 45)) (natN r n.2.1)))), .slice zo9 ((words (sgn (decide (n.1 = 45)) (natN r n.2.1)).natAbs).length) zc10]) hA rfl rfl rfl (d_extract (vs := [.agg #[.bool ((rb (sgn (decide (n.1 = 45)) (natN r n.2.1)))), .slice zo9 ((words (sgn (decide (n.1 = 45)) (natN r n.2.1)).natAbs).length) zc10], .slice zo11 ((words (natN r n.2.2)).length) zc12, .int .i64 0]) rfl rfl) fun a hA => ?_
 refine seq_do (v := .slice zo11 ((words (natN r n.2.2)).length) zc12) hA rfl rfl rfl (d_extract (vs := [.agg #[.bool ((rb (sgn (decide (n.1 = 45)) (natN r n.2.1)))), .slice zo9 ((words (sgn (decide (n.1 = 45)) (natN r n.2.1)).natAbs).length) zc10], .slice zo11 ((words (natN r n.2.2)).length) zc12, .int .i64 0]) rfl rfl) fun a hA => ?_
 refine seq_do (v := .int .i64 0) hA rfl rfl rfl (d_extract (vs := [.agg #[.bool ((rb (sgn (decide (n.1 = 45)) (natN r n.2.1)))), .slice zo9 ((words (sgn (decide (n.1 = 45)) (natN r n.2.1)).natAbs).length) zc10], .slice zo11 ((words (natN r n.2.2)).length) zc12, .int .i64 0]) rfl rfl) fun a hA => ?_
 refine seq_new (vs := [.bool false, .slice none 0 0]) (t := 60) hA hS rfl rfl rfl (fun g => .pointer (some ⟨g, 0, none⟩)) (d_alloc (z := .agg #[.bool false, .slice none 0 0]) (by kernel_rfl) rfl) rfl ?_
 intro g17 w18 hS a hA
 refine seq_store (us := [.bool ((rb (sgn (decide (n.1 = 45)) (natN r n.2.1)))), .slice zo9 ((words (sgn (decide (n.1 = 45)) (natN r n.2.1)).natAbs).length) zc10]) hA hS rfl rfl (sets_store rfl rfl rfl (by kernel_rfl) hS 0 rfl rfl rfl) 0 rfl rfl rfl rfl ?_
 intro w19 hS
 refine seq_do hA rfl rfl rfl (d_assign rfl) fun a hA => ?_
 refine seq_do hA rfl rfl rfl (d_assign rfl) fun a hA => ?_
 refine seq_end ?_
 refine hK8 _ _ ?_
 refine wp_seq_k (fun K20 hK20 => ?_)
 refine wp_region_lit ?_
 refine seq_do hA rfl rfl rfl (d_loadS hS RxE_isS_48 rfl 2 rfl (cs := [.int .u8 (((m.1 : Nat) : Int)), .string (bsL m.2.1), .string (bsL m.2.2)]) rfl rfl) fun a hA => ?_
 refine mv hA rfl rfl rfl fun a hA => ?_
 refine seq_call hA rfl rfl rfl (enters_func  rfl rfl (fun w => by kernel_rfl)) (value_ok (n := m) hr hk1 hk2 (errN_zero h2).1 (errN_zero h2).2) ?_
 rintro _ w28 ⟨zo21, zc22, zo23, zc24, rfl, hs25, hs26, hb27⟩
 replace hS := hS.call hb27
 replace hS := hS.addR hs25.rd
 replace hS := hS.addR hs26.rd
 refine ⟨_, rfl, ?_⟩
 intro a hA
 refine mv hA rfl rfl rfl fun a hA => ?_
 refine seq_do (v := .agg #[.bool ((rb (sgn (decide (m.1 = 45)) (natN r m.2.1)))), .slice zo21 ((words (sgn (decide (m.1 = 45)) (natN r m.2.1)).natAbs).length) zc22]) hA rfl rfl rfl (d_extract (vs := [.agg #[.bool ((rb (sgn (decide (m.1 = 45)) (natN r m.2.1)))), .slice zo21 ((words (sgn (decide (m.1 = 45)) (natN r m.2.1)).natAbs).length) zc22], .slice zo23 ((words (natN r m.2.2)).length) zc24, .int .i64 0]) rfl rfl) fun a hA => ?_
 refine seq_do (v := .slice zo23 ((words (natN r m.2.2)).length) zc24) hA rfl rfl rfl (d_extract (vs := [.agg #[.bool ((rb (sgn (decide (m.1 = 45)) (natN r m.2.1)))), .slice zo21 ((words (sgn (decide (m.1 = 45)) (natN r m.2.1)).natAbs).length) zc22], .slice zo23 ((words (natN r m.2.2)).length) zc24, .int .i64 0]) rfl rfl) fun a hA => ?_
 refine seq_do (v := .int .i64 0) hA rfl rfl rfl (d_extract (vs := [.agg #[.bool ((rb (sgn (decide (m.1 = 45)) (natN r m.2.1)))), .slice zo21 ((words (sgn (decide (m.1 = 45)) (natN r m.2.1)).natAbs).length) zc22], .slice zo23 ((words (natN r m.2.2)).length) zc24, .int .i64 0]) rfl rfl) fun a hA => ?_
 refine seq_new (vs := [.bool false, .slice none 0 0]) (t := 60) hA hS rfl rfl rfl (fun g => .pointer (some ⟨g, 0, none⟩)) (d_alloc (z := .agg #[.bool false, .slice none 0 0]) (by kernel_rfl) rfl) rfl ?_
 intro g29 w30 hS a hA
 refine seq_store (us := [.bool ((rb (sgn (decide (m.1 = 45)) (natN r m.2.1)))), .slice zo21 ((words (sgn (decide (m.1 = 45)) (natN r m.2.1)).natAbs).length) zc22]) hA hS rfl rfl (sets_store rfl rfl rfl (by kernel_rfl) hS 0 rfl rfl rfl) 0 rfl rfl rfl rfl ?_
 intro w31 hS
 refine seq_do hA rfl rfl rfl (d_assign rfl) fun a hA => ?_
 refine seq_do hA rfl rfl rfl (d_assign rfl) fun a hA => ?_
 refine seq_end ?_
 refine hK20 _ _ ?_
 refine wp_seq_k (fun K32 hK32 => ?_)
 refine wp_seq_k (fun K33 hK33 => ?_)
 refine wp_region_lit ?_
 refine mv hA rfl rfl rfl fun a hA => ?_
 refine seq_do (v := .bool false) hA rfl rfl rfl (d_bin rfl rfl (fun w => by kernel_rfl)) fun a hA => ?_
 refine mv hA rfl rfl rfl fun a hA => ?_
 refine mv hA rfl rfl rfl fun a hA => ?_
 refine seq_do (v := .bool false) hA rfl rfl rfl (d_bin rfl rfl (fun w => by kernel_rfl)) fun a hA => ?_
 refine seq_do (v := .bool false) hA rfl rfl rfl (d_pick rfl rfl rfl rfl) fun a hA => ?_
 refine seq_end ?_
 refine hK33 _ _ ?_
 refine wp_cond_false (hA.ev rfl) ?_
 refine wp_skip ?_
 refine hK32 _ _ ?_
 refine wp_seq_k (fun K34 hK34 => ?_)
 refine wp_seq_k (fun K35 hK35 => ?_)
 refine wp_region_lit ?_
 refine mv hA rfl rfl rfl fun a hA => ?_
 refine seq_do (v := .int .i64 ((((words (natN r n.2.2)).length : Nat) : Int))) hA rfl rfl rfl (d_len Tryz.underlying22 rfl) fun a hA => ?_
 refine seq_do (v := .bool false) hA rfl rfl rfl (d_bin rfl rfl (fun w => (bin_eql w).trans (by rw [show (((((words (natN r n.2.2)).length : Nat) : Int) == 0)) = false from (beq_eq_false_iff_ne.2 (by omega))]))) fun a hA => ?_
 refine mv hA rfl rfl rfl fun a hA => ?_
 refine mv hA rfl rfl rfl fun a hA => ?_
 refine seq_do (v := .int .i64 ((((words (natN r m.2.2)).length : Nat) : Int))) hA rfl rfl rfl (d_len Tryz.underlying22 rfl) fun a hA => ?_
 refine seq_do (v := .bool false) hA rfl rfl rfl (d_bin rfl rfl (fun w => (bin_eql w).trans (by rw [show (((((words (natN r m.2.2)).length : Nat) : Int) == 0)) = false from (beq_eq_false_iff_ne.2 (by omega))]))) fun a hA => ?_
 refine seq_do (v := .bool false) hA rfl rfl rfl (d_pick rfl rfl rfl rfl) fun a hA => ?_
 refine seq_end ?_
 refine hK35 _ _ ?_
 refine wp_cond_false (hA.ev rfl) ?_
 refine wp_skip ?_
 refine hK34 _ _ ?_
 refine wp_seq_k (fun K36 hK36 => ?_)
 refine wp_draw (S := fun w1 => St w w1 [(g29, [.bool ((rb (sgn (decide (m.1 = 45)) (natN r m.2.1)))), .slice zo21 ((words (sgn (decide (m.1 = 45)) (natN r m.2.1)).natAbs).length) zc22]), (g17, [.bool ((rb (sgn (decide (n.1 = 45)) (natN r n.2.1)))), .slice zo9 ((words (sgn (decide (n.1 = 45)) (natN r n.2.1)).natAbs).length) zc10]), (g4, [.int .u8 (((m.1 : Nat) : Int)), .string (bsL m.2.1), .string (bsL m.2.2)]), (g2, [.int .u8 (((n.1 : Nat) : Int)), .string (bsL n.2.1), .string (bsL n.2.2)])] [(zo23, words (natN r m.2.2)), (zo21, words (sgn (decide (m.1 = 45)) (natN r m.2.1)).natAbs), (zo11, words (natN r n.2.2)), (zo9, words (sgn (decide (n.1 = 45)) (natN r n.2.1)).natAbs)] []) (by kernel_rfl) ?_
 replace hS := hS.drew
 refine any_tk hA 0 rfl rfl rfl rfl hP (hS.partD (.cons_cons _ (.cons_cons _ (.cons _ (.cons_cons _ (.cons_cons _ .slnil))))) 0 rfl (.refl _)) (fun w1 hS => d_loadS hS RxE_isS_60 rfl 1 rfl (cs := [.bool ((rb (sgn (decide (n.1 = 45)) (natN r n.2.1)))), .slice zo9 ((words (sgn (decide (n.1 = 45)) (natN r n.2.1)).natAbs).length) zc10]) rfl rfl) fun a hA => ?_
 refine any_tk hA 1 rfl rfl rfl rfl hP (hS.partD (.cons_cons _ (.cons_cons _ (.cons _ (.cons_cons _ (.cons_cons _ .slnil))))) 0 rfl (.refl _)) (fun w1 hS => d_move rfl) fun a hA => ?_
 refine any_tk hA 3 rfl rfl rfl rfl hP (hS.partD (.cons_cons _ (.cons_cons _ (.cons _ (.cons_cons _ (.cons_cons _ .slnil))))) 0 rfl (.refl _)) (fun w1 hS => d_loadS hS RxE_isS_60 rfl 0 rfl (cs := [.bool ((rb (sgn (decide (m.1 = 45)) (natN r m.2.1)))), .slice zo21 ((words (sgn (decide (m.1 = 45)) (natN r m.2.1)).natAbs).length) zc22]) rfl rfl) fun a hA => ?_
 refine any_tk hA 4 rfl rfl rfl rfl hP (hS.partD (.cons_cons _ (.cons_cons _ (.cons _ (.cons_cons _ (.cons_cons _ .slnil))))) 0 rfl (.refl _)) (fun w1 hS => d_move rfl) fun a hA => ?_
 refine any_one (by kernel_rfl) (op_call hA 2 rfl rfl rfl rfl (enters_func  rfl rfl (fun w => by kernel_rfl)) (zlowest_any (x := (sgn (decide (n.1 = 45)) (natN r n.2.1))) (d := (natN r n.2.2)) ⟨(hS.rd 3 rfl), hs13.nil, hs13.cap⟩ ⟨(hS.rd 2 rfl), hs14.nil, hs14.cap⟩ (sgn_abs_len (Nat.le_trans (rdN_ok (errN_zero h1).1).2 (by decide))) (Nat.le_trans (rdN_ok (errN_zero h1).2).2 (by decide)) kn) ?_)
 rintro _ w41 ⟨f37_1, f37_c1, f37_2, f37_c2, rfl, hs38, hs39, hb40⟩
 replace hS := hS.call hb40
 replace hS := hS.addR hs38.rd
 replace hS := hS.addR hs39.rd
 refine ⟨_, rfl, (hS.partD (.cons_cons _ (.cons_cons _ (.cons _ (.cons_cons _ (.cons_cons _ .slnil))))) 2 rfl (.refl _)), ?_⟩
 intro a hA
 refine any_one (by kernel_rfl) (op_call hA 5 rfl rfl rfl rfl (enters_func  rfl rfl (fun w => by kernel_rfl)) (zlowest_any (x := (sgn (decide (m.1 = 45)) (natN r m.2.1))) (d := (natN r m.2.2)) ⟨(hS.rd 3 rfl), hs25.nil, hs25.cap⟩ ⟨(hS.rd 2 rfl), hs26.nil, hs26.cap⟩ (sgn_abs_len (Nat.le_trans (rdN_ok (errN_zero h2).1).2 (by decide))) (Nat.le_trans (rdN_ok (errN_zero h2).2).2 (by decide)) km) ?_)
 rintro _ w46 ⟨f42_1, f42_c1, f42_2, f42_c2, rfl, hs43, hs44, hb45⟩
 replace hS := hS.call hb45
 replace hS := hS.addR hs43.rd
 replace hS := hS.addR hs44.rd
 refine ⟨_, rfl, (hS.partD (.cons_cons _ (.cons_cons _ (.cons _ (.cons_cons _ (.cons_cons _ .slnil))))) 4 rfl (.refl _)), ?_⟩
 intro a hA
 refine any_tk (v := .agg #[.bool ((rb (sgn (decide (n.1 = 45)) (natN r n.2.1)))), .slice f37_1 ((words (rt (sgn (decide (n.1 = 45)) (natN r n.2.1)) (natN r n.2.2))).length) f37_c1, .slice f37_2 ((words (rq (sgn (decide (n.1 = 45)) (natN r n.2.1)) (natN r n.2.2))).length) f37_c2, .bool ((rb (sgn (decide (m.1 = 45)) (natN r m.2.1)))), .slice f42_1 ((words (rt (sgn (decide (m.1 = 45)) (natN r m.2.1)) (natN r m.2.2))).length) f42_c1, .slice f42_2 ((words (rq (sgn (decide (m.1 = 45)) (natN r m.2.1)) (natN r m.2.2))).length) f42_c2]) hA 6 rfl rfl rfl rfl hP (hS.partD (.cons_cons _ (.cons_cons _ (.cons _ (.cons_cons _ (.cons_cons _ .slnil))))) 4 rfl (.refl _)) (fun w1 hS => d_build rfl (fun w => by kernel_rfl)) fun a hA => ?_
 refine any_one (by kernel_rfl) (op_store (us := [.bool ((rb (sgn (decide (n.1 = 45)) (natN r n.2.1)))), .slice f37_1 ((words (rt (sgn (decide (n.1 = 45)) (natN r n.2.1)) (natN r n.2.2))).length) f37_c1, .slice f37_2 ((words (rq (sgn (decide (n.1 = 45)) (natN r n.2.1)) (natN r n.2.2))).length) f37_c2, .bool ((rb (sgn (decide (m.1 = 45)) (natN r m.2.1)))), .slice f42_1 ((words (rt (sgn (decide (m.1 = 45)) (natN r m.2.1)) (natN r m.2.2))).length) f42_c1, .slice f42_2 ((words (rq (sgn (decide (m.1 = 45)) (natN r m.2.1)) (natN r m.2.2))).length) f42_c2]) hA hS 7 rfl rfl rfl (sets_store rfl rfl rfl (by kernel_rfl) hS 2 rfl rfl rfl) 2 rfl rfl rfl rfl ?_)
 intro w47 hS
 refine ⟨(hS.partD (.cons_cons _ (.cons_cons _ (.cons _ (.cons_cons _ (.cons_cons _ .slnil))))) 4 rfl (.refl _)), ?_⟩
 refine any_tk hA 8 rfl rfl rfl rfl hP (hS.partD (.cons_cons _ (.cons_cons _ (.cons _ (.cons_cons _ (.cons_cons _ .slnil))))) 4 rfl (.refl _)) (fun w1 hS => d_assign rfl) fun a hA => ?_
 refine any_end (by kernel_rfl) ?_
 refine hK36 _ _ ?_
 refine wp_ret ?_
 refine hret _ _ ?_
 refine ends (v := .tuple #[.agg #[.bool ((rb (sgn (decide (n.1 = 45)) (natN r n.2.1)))), .slice f37_1 ((words (rt (sgn (decide (n.1 = 45)) (natN r n.2.1)) (natN r n.2.2))).length) f37_c1, .slice f37_2 ((words (rq (sgn (decide (n.1 = 45)) (natN r n.2.1)) (natN r n.2.2))).length) f37_c2, .bool ((rb (sgn (decide (m.1 = 45)) (natN r m.2.1)))), .slice f42_1 ((words (rt (sgn (decide (m.1 = 45)) (natN r m.2.1)) (natN r m.2.2))).length) f42_c1, .slice f42_2 ((words (rq (sgn (decide (m.1 = 45)) (natN r m.2.1)) (natN r m.2.2))).length) f42_c2], .int .i64 0]) hA rfl (.cons (res_cell hS RxE_isS_26 rfl 2 rfl (cs := [.bool ((rb (sgn (decide (n.1 = 45)) (natN r n.2.1)))), .slice f37_1 ((words (rt (sgn (decide (n.1 = 45)) (natN r n.2.1)) (natN r n.2.2))).length) f37_c1, .slice f37_2 ((words (rq (sgn (decide (n.1 = 45)) (natN r n.2.1)) (natN r n.2.2))).length) f37_c2, .bool ((rb (sgn (decide (m.1 = 45)) (natN r m.2.1)))), .slice f42_1 ((words (rt (sgn (decide (m.1 = 45)) (natN r m.2.1)) (natN r m.2.2))).length) f42_c1, .slice f42_2 ((words (rq (sgn (decide (m.1 = 45)) (natN r m.2.1)) (natN r m.2.2))).length) f42_c2]) rfl rfl) (.cons (res_tmp rfl) .nil)) rfl ?_
 rw [valX_ok h1 h2 kn km]
 exact ⟨f37_1, f37_c1, f37_2, f37_c2, f42_1, f42_c1, f42_2, f42_c2, rfl, ⟨⟨(hS.rd 3 rfl), hs38.nil, hs38.cap⟩, ⟨(hS.rd 2 rfl), hs39.nil, hs39.cap⟩, ⟨(hS.rd 1 rfl), hs43.nil, hs43.cap⟩, ⟨(hS.rd 0 rfl), hs44.nil, hs44.cap⟩⟩, hS.bel⟩
theorem valueOf_z {w : World} {r : Nat} {n m : Nl} (hr : RadN r) (hl1 : n.2.1.length ≤ 9223372036854775807) (hl2 : n.2.2.length ≤ 9223372036854775807) (hk1 : m.2.1.length ≤ 9223372036854775807) (hk2 : m.2.2.length ≤ 9223372036854775807) (h1 : errN r n = 0) (h2 : errN r m = 0) (kz : natN r n.2.2 = 0 ∨ natN r m.2.2 = 0) : Calls Tryz.prog 28 #[.agg #[.int .u8 (((n.1 : Nat) : Int)), .string (bsL n.2.1), .string (bsL n.2.2)], .agg #[.int .u8 (((m.1 : Nat) : Int)), .string (bsL m.2.1), .string (bsL m.2.2)], .int .i64 ((r : Nat) : Int)] w (AnsN w (valX r n m)) := by
 have jz : (words (natN r n.2.2)).length = 0 ∨ (words (natN r m.2.2)).length = 0 := by
  rcases kz with h | h
  ·
   left; rw [h, words_zero]; rfl
  ·
   right; rw [h, words_zero]; rfl
 have hS : St w w [] [] [] := St.start w
 refine walk_of (l := [(0, .agg #[.int .u8 (((n.1 : Nat) : Int)), .string (bsL n.2.1), .string (bsL n.2.2)]), (1, .agg #[.int .u8 (((m.1 : Nat) : Int)), .string (bsL m.2.1), .string (bsL m.2.2)]), (2, .int .i64 (((r : Nat) : Int)))]) Tryz.func28 rfl Tryz.ntmps28 rfl rfl ?_
 intro Q hret hnorm hP a hA
 refine wp_seq_k (fun K1 hK1 => ?_)
 refine wp_region_lit ?_
 refine seq_new hA hS rfl rfl rfl (fun g => .pointer (some ⟨g, 0, none⟩)) (d_box rfl rfl) rfl ?_
 intro g2 w3 hS a hA
 refine seq_new hA hS rfl rfl rfl (fun g => .pointer (some ⟨g, 0, none⟩)) (d_box rfl rfl) rfl ?_
 intro g4 w5 hS a hA
 refine seq_new (vs := [.bool false, .slice none 0 0, .slice none 0 0, .bool false, .slice none 0 0, .slice none 0 0]) (t := 26) hA hS rfl rfl rfl (fun g => .pointer (some ⟨g, 0, none⟩)) (d_alloc (z := .agg #[.bool false, .slice none 0 0, .slice none 0 0, .bool false, .slice none 0 0, .slice none 0 0]) (by kernel_rfl) rfl) rfl ?_
 intro g6 w7 hS a hA
 refine seq_do hA rfl rfl rfl (d_assign rfl) fun a hA => ?_
 refine seq_end ?_
 refine hK1 _ _ ?_
 refine wp_seq_k (fun K8 hK8 => ?_)
 refine wp_region_lit ?_
 refine seq_do hA rfl rfl rfl (d_loadS hS RxE_isS_48 rfl 2 rfl (cs := [.int .u8 (((n.1 : Nat) : Int)), .string (bsL n.2.1), .string (bsL n.2.2)]) rfl rfl) fun a hA => ?_
 refine mv hA rfl rfl rfl fun a hA => ?_
 refine seq_call hA rfl rfl rfl (enters_func  rfl rfl (fun w => by kernel_rfl)) (value_ok (n := n) hr hl1 hl2 (errN_zero h1).1 (errN_zero h1).2) ?_
 rintro _ w16 ⟨zo9, zc10, zo11, zc12, rfl, hs13, hs14, hb15⟩
 replace hS := hS.call hb15
 replace hS := hS.addR hs13.rd
 replace hS := hS.addR hs14.rd
 refine ⟨_, rfl, ?_⟩
 intro a hA
 refine mv hA rfl rfl rfl fun a hA => ?_
 refine seq_do (v := .agg #[.bool ((rb (sgn (decide (n.1 = 45)) (natN r n.2.1)))), .slice zo9 ((words (sgn (decide (n.1 = 45)) (natN r n.2.1)).natAbs).length) zc10]) hA rfl rfl rfl (d_extract (vs := [.agg #[.bool ((rb (sgn (decide (n.1 = 45)) (natN r n.2.1)))), .slice zo9 ((words (sgn (decide (n.1 = 45)) (natN r n.2.1)).natAbs).length) zc10], .slice zo11 ((words (natN r n.2.2)).length) zc12, .int .i64 0]) rfl rfl) fun a hA => ?_
 refine seq_do (v := .slice zo11 ((words (natN r n.2.2)).length) zc12) hA rfl rfl rfl (d_extract (vs := [.agg #[.bool ((rb (sgn (decide (n.1 = 45)) (natN r n.2.1)))), .slice zo9 ((words (sgn (decide (n.1 = 45)) (natN r n.2.1)).natAbs).length) zc10], .slice zo11 ((words (natN r n.2.2)).length) zc12, .int .i64 0]) rfl rfl) fun a hA => ?_
 refine seq_do (v := .int .i64 0) hA rfl rfl rfl (d_extract (vs := [.agg #[.bool ((rb (sgn (decide (n.1 = 45)) (natN r n.2.1)))), .slice zo9 ((words (sgn (decide (n.1 = 45)) (natN r n.2.1)).natAbs).length) zc10], .slice zo11 ((words (natN r n.2.2)).length) zc12, .int .i64 0]) rfl rfl) fun a hA => ?_
 refine seq_new (vs := [.bool false, .slice none 0 0]) (t := 60) hA hS rfl rfl rfl (fun g => .pointer (some ⟨g, 0, none⟩)) (d_alloc (z := .agg #[.bool false, .slice none 0 0]) (by kernel_rfl) rfl) rfl ?_
 intro g17 w18 hS a hA
 refine seq_store (us := [.bool ((rb (sgn (decide (n.1 = 45)) (natN r n.2.1)))), .slice zo9 ((words (sgn (decide (n.1 = 45)) (natN r n.2.1)).natAbs).length) zc10]) hA hS rfl rfl (sets_store rfl rfl rfl (by kernel_rfl) hS 0 rfl rfl rfl) 0 rfl rfl rfl rfl ?_
 intro w19 hS
 refine seq_do hA rfl rfl rfl (d_assign rfl) fun a hA => ?_
 refine seq_do hA rfl rfl rfl (d_assign rfl) fun a hA => ?_
 refine seq_end ?_
 refine hK8 _ _ ?_
 refine wp_seq_k (fun K20 hK20 => ?_)
 refine wp_region_lit ?_
 refine seq_do hA rfl rfl rfl (d_loadS hS RxE_isS_48 rfl 2 rfl (cs := [.int .u8 (((m.1 : Nat) : Int)), .string (bsL m.2.1), .string (bsL m.2.2)]) rfl rfl) fun a hA => ?_
 refine mv hA rfl rfl rfl fun a hA => ?_
 refine seq_call hA rfl rfl rfl (enters_func  rfl rfl (fun w => by kernel_rfl)) (value_ok (n := m) hr hk1 hk2 (errN_zero h2).1 (errN_zero h2).2) ?_
 rintro _ w28 ⟨zo21, zc22, zo23, zc24, rfl, hs25, hs26, hb27⟩
 replace hS := hS.call hb27
 replace hS := hS.addR hs25.rd
 replace hS := hS.addR hs26.rd
 refine ⟨_, rfl, ?_⟩
 intro a hA
 refine mv hA rfl rfl rfl fun a hA => ?_
 refine seq_do (v := .agg #[.bool ((rb (sgn (decide (m.1 = 45)) (natN r m.2.1)))), .slice zo21 ((words (sgn (decide (m.1 = 45)) (natN r m.2.1)).natAbs).length) zc22]) hA rfl rfl rfl (d_extract (vs := [.agg #[.bool ((rb (sgn (decide (m.1 = 45)) (natN r m.2.1)))), .slice zo21 ((words (sgn (decide (m.1 = 45)) (natN r m.2.1)).natAbs).length) zc22], .slice zo23 ((words (natN r m.2.2)).length) zc24, .int .i64 0]) rfl rfl) fun a hA => ?_
 refine seq_do (v := .slice zo23 ((words (natN r m.2.2)).length) zc24) hA rfl rfl rfl (d_extract (vs := [.agg #[.bool ((rb (sgn (decide (m.1 = 45)) (natN r m.2.1)))), .slice zo21 ((words (sgn (decide (m.1 = 45)) (natN r m.2.1)).natAbs).length) zc22], .slice zo23 ((words (natN r m.2.2)).length) zc24, .int .i64 0]) rfl rfl) fun a hA => ?_
 refine seq_do (v := .int .i64 0) hA rfl rfl rfl (d_extract (vs := [.agg #[.bool ((rb (sgn (decide (m.1 = 45)) (natN r m.2.1)))), .slice zo21 ((words (sgn (decide (m.1 = 45)) (natN r m.2.1)).natAbs).length) zc22], .slice zo23 ((words (natN r m.2.2)).length) zc24, .int .i64 0]) rfl rfl) fun a hA => ?_
 refine seq_new (vs := [.bool false, .slice none 0 0]) (t := 60) hA hS rfl rfl rfl (fun g => .pointer (some ⟨g, 0, none⟩)) (d_alloc (z := .agg #[.bool false, .slice none 0 0]) (by kernel_rfl) rfl) rfl ?_
 intro g29 w30 hS a hA
 refine seq_store (us := [.bool ((rb (sgn (decide (m.1 = 45)) (natN r m.2.1)))), .slice zo21 ((words (sgn (decide (m.1 = 45)) (natN r m.2.1)).natAbs).length) zc22]) hA hS rfl rfl (sets_store rfl rfl rfl (by kernel_rfl) hS 0 rfl rfl rfl) 0 rfl rfl rfl rfl ?_
 intro w31 hS
 refine seq_do hA rfl rfl rfl (d_assign rfl) fun a hA => ?_
 refine seq_do hA rfl rfl rfl (d_assign rfl) fun a hA => ?_
 refine seq_end ?_
 refine hK20 _ _ ?_
 refine wp_seq_k (fun K32 hK32 => ?_)
 refine wp_seq_k (fun K33 hK33 => ?_)
 refine wp_region_lit ?_
 refine mv hA rfl rfl rfl fun a hA => ?_
 refine seq_do (v := .bool false) hA rfl rfl rfl (d_bin rfl rfl (fun w => by kernel_rfl)) fun a hA => ?_
 refine mv hA rfl rfl rfl fun a hA => ?_
 refine mv hA rfl rfl rfl fun a hA => ?_
 refine seq_do (v := .bool false) hA rfl rfl rfl (d_bin rfl rfl (fun w => by kernel_rfl)) fun a hA => ?_
 refine seq_do (v := .bool false) hA rfl rfl rfl (d_pick rfl rfl rfl rfl) fun a hA => ?_
 refine seq_end ?_
 refine hK33 _ _ ?_
 refine wp_cond_false (hA.ev rfl) ?_
 refine wp_skip ?_
 refine hK32 _ _ ?_
 refine wp_seq_k (fun K34 hK34 => ?_)
 refine wp_seq_k (fun K35 hK35 => ?_)
 refine wp_region_lit ?_
 refine mv hA rfl rfl rfl fun a hA => ?_
 refine seq_do (v := .int .i64 ((((words (natN r n.2.2)).length : Nat) : Int))) hA rfl rfl rfl (d_len Tryz.underlying22 rfl) fun a hA => ?_
 rcases Bool.eq_false_or_eq_true (((((words (natN r n.2.2)).length : Nat) : Int) == 0)) with hb36 | hb36
 ·
  have hb36' := eq_of_beq hb36
  refine seq_do (v := .bool true) hA rfl rfl rfl (d_bin rfl rfl (fun w => (bin_eql w).trans (by rw [hb36]))) fun a hA => ?_
  refine mv hA rfl rfl rfl fun a hA => ?_
  refine seq_skip hA rfl rfl rfl fun a hA => ?_
  refine seq_skip hA rfl rfl rfl fun a hA => ?_
  refine seq_skip hA rfl rfl rfl fun a hA => ?_
  refine seq_do (v := .bool true) hA rfl rfl rfl (d_pick rfl rfl rfl rfl) fun a hA => ?_
  refine seq_end ?_
  refine hK35 _ _ ?_
  refine wp_cond_true (hA.ev rfl) ?_
  refine wp_seq_k (fun K37 hK37 => ?_)
  refine wp_region_lit ?_
  refine seq_do (v := .agg #[.bool false, .slice none 0 0, .slice none 0 0, .bool false, .slice none 0 0, .slice none 0 0]) hA rfl rfl rfl (d_build rfl (fun w => by kernel_rfl)) fun a hA => ?_
  refine seq_store (us := [.bool false, .slice none 0 0, .slice none 0 0, .bool false, .slice none 0 0, .slice none 0 0]) hA hS rfl rfl (sets_store rfl rfl rfl (by kernel_rfl) hS 2 rfl rfl rfl) 2 rfl rfl rfl rfl ?_
  intro w38 hS
  refine seq_do hA rfl rfl rfl (d_assign rfl) fun a hA => ?_
  refine seq_end ?_
  refine hK37 _ _ ?_
  refine wp_ret ?_
  refine hret _ _ ?_
  refine ends (v := .tuple #[.agg #[.bool false, .slice none 0 0, .slice none 0 0, .bool false, .slice none 0 0, .slice none 0 0], .int .i64 3]) hA rfl (.cons (res_cell hS RxE_isS_26 rfl 2 rfl (cs := [.bool false, .slice none 0 0, .slice none 0 0, .bool false, .slice none 0 0, .slice none 0 0]) rfl rfl) (.cons (res_tmp rfl) .nil)) rfl ?_
  rw [valX_zero h1 h2 kz]
  exact ⟨none, 0, none, 0, none, 0, none, 0, rfl, ⟨Sc.none _, Sc.none _, Sc.none _, Sc.none _⟩, hS.bel⟩
 ·
  have hb36' := ne_of_beq_false hb36
  refine seq_do (v := .bool false) hA rfl rfl rfl (d_bin rfl rfl (fun w => (bin_eql w).trans (by rw [hb36]))) fun a hA => ?_
  refine mv hA rfl rfl rfl fun a hA => ?_
  refine mv hA rfl rfl rfl fun a hA => ?_
  refine seq_do (v := .int .i64 ((((words (natN r m.2.2)).length : Nat) : Int))) hA rfl rfl rfl (d_len Tryz.underlying22 rfl) fun a hA => ?_
  refine seq_do (v := .bool true) hA rfl rfl rfl (d_bin rfl rfl (fun w => (bin_eql w).trans (by rw [show (((((words (natN r m.2.2)).length : Nat) : Int) == 0)) = true from (beq_iff_eq.2 (by omega))]))) fun a hA => ?_
  refine seq_do (v := .bool true) hA rfl rfl rfl (d_pick rfl rfl rfl rfl) fun a hA => ?_
  refine seq_end ?_
  refine hK35 _ _ ?_
  refine wp_cond_true (hA.ev rfl) ?_
  refine wp_seq_k (fun K39 hK39 => ?_)
  refine wp_region_lit ?_
  refine seq_do (v := .agg #[.bool false, .slice none 0 0, .slice none 0 0, .bool false, .slice none 0 0, .slice none 0 0]) hA rfl rfl rfl (d_build rfl (fun w => by kernel_rfl)) fun a hA => ?_
  refine seq_store (us := [.bool false, .slice none 0 0, .slice none 0 0, .bool false, .slice none 0 0, .slice none 0 0]) hA hS rfl rfl (sets_store rfl rfl rfl (by kernel_rfl) hS 2 rfl rfl rfl) 2 rfl rfl rfl rfl ?_
  intro w40 hS
  refine seq_do hA rfl rfl rfl (d_assign rfl) fun a hA => ?_
  refine seq_end ?_
  refine hK39 _ _ ?_
  refine wp_ret ?_
  refine hret _ _ ?_
  refine ends (v := .tuple #[.agg #[.bool false, .slice none 0 0, .slice none 0 0, .bool false, .slice none 0 0, .slice none 0 0], .int .i64 3]) hA rfl (.cons (res_cell hS RxE_isS_26 rfl 2 rfl (cs := [.bool false, .slice none 0 0, .slice none 0 0, .bool false, .slice none 0 0, .slice none 0 0]) rfl rfl) (.cons (res_tmp rfl) .nil)) rfl ?_
  rw [valX_zero h1 h2 kz]
  exact ⟨none, 0, none, 0, none, 0, none, 0, rfl, ⟨Sc.none _, Sc.none _, Sc.none _, Sc.none _⟩, hS.bel⟩
theorem valueX_any {w : World} {r : Nat} {n m : Nl} (hr : RadN r) (hl1 : n.2.1.length ≤ 9223372036854775807) (hl2 : n.2.2.length ≤ 9223372036854775807) (hk1 : m.2.1.length ≤ 9223372036854775807) (hk2 : m.2.2.length ≤ 9223372036854775807) : Calls Tryz.prog 28 #[.agg #[.int .u8 (((n.1 : Nat) : Int)), .string (bsL n.2.1), .string (bsL n.2.2)], .agg #[.int .u8 (((m.1 : Nat) : Int)), .string (bsL m.2.1), .string (bsL m.2.2)], .int .i64 ((r : Nat) : Int)] w (AnsN w (valX r n m)) := by
 by_cases h1 : errN r n = 0
 ·
  by_cases h2 : errN r m = 0
  ·
   by_cases kn : natN r n.2.2 = 0
   ·
    exact valueOf_z hr hl1 hl2 hk1 hk2 h1 h2 (.inl kn)
   ·
    by_cases km : natN r m.2.2 = 0
    ·
     exact valueOf_z hr hl1 hl2 hk1 hk2 h1 h2 (.inr km)
    ·
     exact valueOf_ok hr hl1 hl2 hk1 hk2 h1 h2 kn km
  ·
   exact valueOf_b2 hr hl1 hl2 hk1 hk2 h1 h2
 ·
  by_cases h2 : errN r m = 0
  ·
   exact valueOf_b1 hr hl1 hl2 hk1 hk2 h1 h2
  ·
   exact valueOf_b0 hr hl1 hl2 hk1 hk2 h1 h2
theorem nlD_len (r : Nat) (l : List UInt8) : (nlD r l).2.1.length ≤ l.length ∧ (nlD r l).2.2.length ≤ l.length := by
 have e : (unS l).length ≤ l.length := by unfold unS; split; rw [List.length_drop]; omega; exact Nat.le_refl _
 have e1 : (qD r l).length ≤ l.length := by unfold qD; rw [List.length_drop]; omega
 unfold nlD
 refine ⟨?_, ?_⟩
 ·
  show (tpD r l).length ≤ _
  unfold tpD
  rw [List.length_take]; omega
 ·
  show (boD r l).length ≤ _
  unfold boD
  split
  ·
   rw [List.length_take, List.length_drop]; omega
  ·
   simp
theorem reP_len (r : Nat) (l : List UInt8) : (reP r l).2.1.length ≤ l.length + 1 ∧ (reP r l).2.2.length ≤ l.length + 1 := by
 have h := nlD_len r l
 unfold reP
 split
 ·
  omega
 ·
  split
  ·
   exact ⟨by simp [nl0], by simp [nl0]⟩
  ·
   omega
theorem imP_len (r : Nat) (l : List UInt8) : (imP r l).2.1.length ≤ l.length + 1 ∧ (imP r l).2.2.length ≤ l.length + 1 := by
 have h := nlD_len r l
 have h1 := nlD_len r (reD r l)
 have h2 := reD_len r l
 unfold imP
 split
 ·
  exact ⟨by simp [nl0], by simp [nl0]⟩
 ·
  split
  ·
   omega
  ·
   omega
theorem readX_def {r k : Nat} {l b : List UInt8} (hr : RadN r) (hPx : prfx false false r l = (b, k)) : readX l ((r : Nat) : Int) = if okP k b = true then (if l.length ≤ 16384 then valX k (reP k b) (imP k b) else (Q6.zero, 4)) else (Q6.zero, 5) := by
 have h : radixB ((r : Nat) : Int) = true := by rcases hr with h | h | h | h <;> subst h <;> decide
 unfold readX
 rw [h, if_pos rfl, Int.toNat_natCast, hPx]
theorem radixB_rad {r : Nat} (hr : RadN r) : radixB ((r : Nat) : Int) = true := by rcases hr with h | h | h | h <;> subst h <;> decide
theorem read_rad {w : World} {r k : Nat} {l b : List UInt8} (hr : RadN r) (hl : l.length ≤ 9223372036854775807) (hPx : prfx false false r l = (b, k)) : Calls Tryz.prog 8 #[.string (bsL l), .int .i64 ((r : Nat) : Int)] w (AnsN w (readX l ((r : Nat) : Int))) := by
 have hk : RadN k := by have h := prfx_rad hr false false l; rw [hPx] at h; exact h
 have hb : b.length ≤ l.length := by have h := prfx_len false false r l; rw [hPx] at h; exact h
 have q1 := reP_len k b
 have q2 := imP_len k b
 have hS : St w w [] [] [] := St.start w
 refine walk_of (l := [(0, .string (bsL l)), (1, .int .i64 (((r : Nat) : Int)))]) Tryz.func8 rfl Tryz.ntmps8 rfl rfl ?_
 intro Q hret hnorm hP a hA
 refine wp_seq_k (fun K1 hK1 => ?_)
 refine wp_region_lit ?_
 refine seq_new (vs := [.bool false, .slice none 0 0, .slice none 0 0, .bool false, .slice none 0 0, .slice none 0 0]) (t := 26) hA hS rfl rfl rfl (fun g => .pointer (some ⟨g, 0, none⟩)) (d_alloc (z := .agg #[.bool false, .slice none 0 0, .slice none 0 0, .bool false, .slice none 0 0, .slice none 0 0]) (by kernel_rfl) rfl) rfl ?_
 intro g2 w3 hS a hA
 refine seq_do hA rfl rfl rfl (d_assign rfl) fun a hA => ?_
 refine seq_end ?_
 refine hK1 _ _ ?_
 refine wp_seq_k (fun K4 hK4 => ?_)
 refine wp_seq_k (fun K5 hK5 => ?_)
 refine wp_region_lit ?_
 refine mv hA rfl rfl rfl fun a hA => ?_
 refine seq_call hA rfl rfl rfl (enters_func  rfl rfl (fun w => by kernel_rfl)) (isRadixX_any (radixB_rad hr)) ?_
 rintro _ w7 ⟨rfl, hb6⟩
 replace hS := hS.call hb6
 refine ⟨_, rfl, ?_⟩
 intro a hA
 refine seq_do (v := .bool false) hA rfl rfl rfl (d_un rfl un_not) fun a hA => ?_
 refine seq_end ?_
 refine hK5 _ _ ?_
 refine wp_cond_false (hA.ev rfl) ?_
 refine wp_skip ?_
 refine hK4 _ _ ?_
 refine wp_seq_k (fun K8 hK8 => ?_)
 refine wp_region_lit ?_
 refine mv hA rfl rfl rfl fun a hA => ?_
 refine mv hA rfl rfl rfl fun a hA => ?_
 refine seq_call hA rfl rfl rfl (enters_func  rfl rfl (fun w => by kernel_rfl)) ((by have h := cutPrefixes_any (w := w7) (r := r) (l := l) hl; rw [hPx] at h; exact h)) ?_
 rintro _ w10 ⟨rfl, hb9⟩
 replace hS := hS.call hb9
 refine ⟨_, rfl, ?_⟩
 intro a hA
 refine mv hA rfl rfl rfl fun a hA => ?_
 refine seq_do (v := .string (bsL b)) hA rfl rfl rfl (d_extract (vs := [.string (bsL b), .int .i64 (((k : Nat) : Int))]) rfl rfl) fun a hA => ?_
 refine seq_do (v := .int .i64 (((k : Nat) : Int))) hA rfl rfl rfl (d_extract (vs := [.string (bsL b), .int .i64 (((k : Nat) : Int))]) rfl rfl) fun a hA => ?_
 refine seq_do hA rfl rfl rfl (d_assign rfl) fun a hA => ?_
 refine seq_do hA rfl rfl rfl (d_assign rfl) fun a hA => ?_
 refine seq_end ?_
 refine hK8 _ _ ?_
 refine wp_seq_k (fun K11 hK11 => ?_)
 refine wp_region_lit ?_
 refine mv hA rfl rfl rfl fun a hA => ?_
 refine mv hA rfl rfl rfl fun a hA => ?_
 refine seq_call hA rfl rfl rfl (enters_func  rfl rfl (fun w => by kernel_rfl)) (cutParts_any (l := b) hk (by omega)) ?_
 rintro _ w13 ⟨rfl, hb12⟩
 replace hS := hS.call hb12
 refine ⟨_, rfl, ?_⟩
 intro a hA
 refine mv hA rfl rfl rfl fun a hA => ?_
 refine seq_do (v := .agg #[.int .u8 ((((reP k b).1 : Nat) : Int)), .string (bsL ((reP k b).2.1)), .string (bsL ((reP k b).2.2))]) hA rfl rfl rfl (d_extract (vs := [.agg #[.int .u8 ((((reP k b).1 : Nat) : Int)), .string (bsL ((reP k b).2.1)), .string (bsL ((reP k b).2.2))], .agg #[.int .u8 ((((imP k b).1 : Nat) : Int)), .string (bsL ((imP k b).2.1)), .string (bsL ((imP k b).2.2))], .bool (okP k b)]) rfl rfl) fun a hA => ?_
 refine seq_do (v := .agg #[.int .u8 ((((imP k b).1 : Nat) : Int)), .string (bsL ((imP k b).2.1)), .string (bsL ((imP k b).2.2))]) hA rfl rfl rfl (d_extract (vs := [.agg #[.int .u8 ((((reP k b).1 : Nat) : Int)), .string (bsL ((reP k b).2.1)), .string (bsL ((reP k b).2.2))], .agg #[.int .u8 ((((imP k b).1 : Nat) : Int)), .string (bsL ((imP k b).2.1)), .string (bsL ((imP k b).2.2))], .bool (okP k b)]) rfl rfl) fun a hA => ?_
 refine seq_do (v := .bool (okP k b)) hA rfl rfl rfl (d_extract (vs := [.agg #[.int .u8 ((((reP k b).1 : Nat) : Int)), .string (bsL ((reP k b).2.1)), .string (bsL ((reP k b).2.2))], .agg #[.int .u8 ((((imP k b).1 : Nat) : Int)), .string (bsL ((imP k b).2.1)), .string (bsL ((imP k b).2.2))], .bool (okP k b)]) rfl rfl) fun a hA => ?_
 refine seq_new (vs := [.int .u8 0, .string (bsL []), .string (bsL [])]) (t := 48) hA hS rfl rfl rfl (fun g => .pointer (some ⟨g, 0, none⟩)) (d_alloc (z := .agg #[.int .u8 0, .string (bsL []), .string (bsL [])]) (by kernel_rfl) rfl) rfl ?_
 intro g14 w15 hS a hA
 refine seq_new (vs := [.int .u8 0, .string (bsL []), .string (bsL [])]) (t := 48) hA hS rfl rfl rfl (fun g => .pointer (some ⟨g, 0, none⟩)) (d_alloc (z := .agg #[.int .u8 0, .string (bsL []), .string (bsL [])]) (by kernel_rfl) rfl) rfl ?_
 intro g16 w17 hS a hA
 refine seq_store (us := [.int .u8 ((((reP k b).1 : Nat) : Int)), .string (bsL ((reP k b).2.1)), .string (bsL ((reP k b).2.2))]) hA hS rfl rfl (sets_store rfl rfl rfl (by kernel_rfl) hS 1 rfl rfl rfl) 1 rfl rfl rfl rfl ?_
 intro w18 hS
 refine seq_store (us := [.int .u8 ((((imP k b).1 : Nat) : Int)), .string (bsL ((imP k b).2.1)), .string (bsL ((imP k b).2.2))]) hA hS rfl rfl (sets_store rfl rfl rfl (by kernel_rfl) hS 0 rfl rfl rfl) 0 rfl rfl rfl rfl ?_
 intro w19 hS
 refine seq_do hA rfl rfl rfl (d_assign rfl) fun a hA => ?_
 refine seq_end ?_
 refine hK11 _ _ ?_
 refine wp_seq_k (fun K20 hK20 => ?_)
 refine wp_seq_k (fun K21 hK21 => ?_)
 refine wp_region_lit ?_
 refine mv hA rfl rfl rfl fun a hA => ?_
 refine seq_do (v := .bool (!(okP k b))) hA rfl rfl rfl (d_un rfl un_not) fun a hA => ?_
 refine seq_end ?_
 refine hK21 _ _ ?_
 refine wp_cond_split (t := !(okP k b)) (hA.ev rfl) (fun hc22 => ?_) (fun hc22 => ?_)
 ·
  refine wp_seq_k (fun K23 hK23 => ?_)
  refine wp_region_lit ?_
  refine seq_do (v := .agg #[.bool false, .slice none 0 0, .slice none 0 0, .bool false, .slice none 0 0, .slice none 0 0]) hA rfl rfl rfl (d_build rfl (fun w => by kernel_rfl)) fun a hA => ?_
  refine seq_store (us := [.bool false, .slice none 0 0, .slice none 0 0, .bool false, .slice none 0 0, .slice none 0 0]) hA hS rfl rfl (sets_store rfl rfl rfl (by kernel_rfl) hS 2 rfl rfl rfl) 2 rfl rfl rfl rfl ?_
  intro w24 hS
  refine seq_do hA rfl rfl rfl (d_assign rfl) fun a hA => ?_
  refine seq_end ?_
  refine hK23 _ _ ?_
  refine wp_ret ?_
  refine hret _ _ ?_
  refine ends (v := .tuple #[.agg #[.bool false, .slice none 0 0, .slice none 0 0, .bool false, .slice none 0 0, .slice none 0 0], .int .i64 5]) hA rfl (.cons (res_cell hS RxE_isS_26 rfl 2 rfl (cs := [.bool false, .slice none 0 0, .slice none 0 0, .bool false, .slice none 0 0, .slice none 0 0]) rfl rfl) (.cons (res_tmp rfl) .nil)) rfl ?_
  rw [readX_def hr hPx, if_neg (by simpa using hc22)]
  exact ⟨none, 0, none, 0, none, 0, none, 0, rfl, ⟨Sc.none _, Sc.none _, Sc.none _, Sc.none _⟩, hS.bel⟩
 ·
  refine wp_skip ?_
  refine hK20 _ _ ?_
  refine wp_seq_k (fun K25 hK25 => ?_)
  refine wp_seq_k (fun K26 hK26 => ?_)
  refine wp_region_lit ?_
  refine mv hA rfl rfl rfl fun a hA => ?_
  refine seq_do (v := .int .i64 (((l.length : Nat) : Int))) hA rfl rfl rfl (d_lenT Tryz.underlying9 rfl) fun a hA => ?_
  rcases Bool.eq_false_or_eq_true (decide (16384 < ((l.length : Nat) : Int))) with hb27 | hb27
  ·
   have hb27' := of_decide_eq_true hb27
   refine seq_do (v := .bool true) hA rfl rfl rfl (d_bin rfl rfl (fun w => (bin_gtr w).trans (by rw [hb27]))) fun a hA => ?_
   refine seq_end ?_
   refine hK26 _ _ ?_
   refine wp_cond_true (hA.ev rfl) ?_
   refine wp_seq_k (fun K28 hK28 => ?_)
   refine wp_region_lit ?_
   refine seq_do (v := .agg #[.bool false, .slice none 0 0, .slice none 0 0, .bool false, .slice none 0 0, .slice none 0 0]) hA rfl rfl rfl (d_build rfl (fun w => by kernel_rfl)) fun a hA => ?_
   refine seq_store (us := [.bool false, .slice none 0 0, .slice none 0 0, .bool false, .slice none 0 0, .slice none 0 0]) hA hS rfl rfl (sets_store rfl rfl rfl (by kernel_rfl) hS 2 rfl rfl rfl) 2 rfl rfl rfl rfl ?_
   intro w29 hS
   refine seq_do hA rfl rfl rfl (d_assign rfl) fun a hA => ?_
   refine seq_end ?_
   refine hK28 _ _ ?_
   refine wp_ret ?_
   refine hret _ _ ?_
   refine ends (v := .tuple #[.agg #[.bool false, .slice none 0 0, .slice none 0 0, .bool false, .slice none 0 0, .slice none 0 0], .int .i64 4]) hA rfl (.cons (res_cell hS RxE_isS_26 rfl 2 rfl (cs := [.bool false, .slice none 0 0, .slice none 0 0, .bool false, .slice none 0 0, .slice none 0 0]) rfl rfl) (.cons (res_tmp rfl) .nil)) rfl ?_
   rw [readX_def hr hPx, if_pos (by simpa using hc22), if_neg (by omega)]
   exact ⟨none, 0, none, 0, none, 0, none, 0, rfl, ⟨Sc.none _, Sc.none _, Sc.none _, Sc.none _⟩, hS.bel⟩
  ·
   have hb27' := of_decide_eq_false hb27
   refine seq_do (v := .bool false) hA rfl rfl rfl (d_bin rfl rfl (fun w => (bin_gtr w).trans (by rw [hb27]))) fun a hA => ?_
   refine seq_end ?_
   refine hK26 _ _ ?_
   refine wp_cond_false (hA.ev rfl) ?_
   refine wp_skip ?_
   refine hK25 _ _ ?_
   refine wp_seq_k (fun K30 hK30 => ?_)
   refine wp_region_lit ?_
   refine seq_do hA rfl rfl rfl (d_loadS hS RxE_isS_48 rfl 1 rfl (cs := [.int .u8 ((((reP k b).1 : Nat) : Int)), .string (bsL ((reP k b).2.1)), .string (bsL ((reP k b).2.2))]) rfl rfl) fun a hA => ?_
   refine seq_do hA rfl rfl rfl (d_loadS hS RxE_isS_48 rfl 0 rfl (cs := [.int .u8 ((((imP k b).1 : Nat) : Int)), .string (bsL ((imP k b).2.1)), .string (bsL ((imP k b).2.2))]) rfl rfl) fun a hA => ?_
   refine mv hA rfl rfl rfl fun a hA => ?_
   refine seq_call hA rfl rfl rfl (enters_func  rfl rfl (fun w => by kernel_rfl)) (valueX_any hk (by omega) (by omega) (by omega) (by omega)) ?_
   rintro _ w34 ⟨p31_1, p31_c1, p31_2, p31_c2, p31_3, p31_c3, p31_4, p31_c4, rfl, hn32, hb33⟩
   replace hS := hS.call hb33
   replace hS := hS.addR hn32.s1.rd
   replace hS := hS.addR hn32.s2.rd
   replace hS := hS.addR hn32.s3.rd
   replace hS := hS.addR hn32.s4.rd
   refine ⟨_, rfl, ?_⟩
   intro a hA
   refine seq_do (v := .agg #[.bool ((valX k (reP k b) (imP k b)).1.b1), .slice p31_1 (((valX k (reP k b) (imP k b)).1.t1).length) p31_c1, .slice p31_2 (((valX k (reP k b) (imP k b)).1.q1).length) p31_c2, .bool ((valX k (reP k b) (imP k b)).1.b2), .slice p31_3 (((valX k (reP k b) (imP k b)).1.t2).length) p31_c3, .slice p31_4 (((valX k (reP k b) (imP k b)).1.q2).length) p31_c4]) hA rfl rfl rfl (d_extract (vs := [.agg #[.bool ((valX k (reP k b) (imP k b)).1.b1), .slice p31_1 (((valX k (reP k b) (imP k b)).1.t1).length) p31_c1, .slice p31_2 (((valX k (reP k b) (imP k b)).1.q1).length) p31_c2, .bool ((valX k (reP k b) (imP k b)).1.b2), .slice p31_3 (((valX k (reP k b) (imP k b)).1.t2).length) p31_c3, .slice p31_4 (((valX k (reP k b) (imP k b)).1.q2).length) p31_c4], .int .i64 ((valX k (reP k b) (imP k b)).2)]) rfl rfl) fun a hA => ?_
   refine seq_do (v := .int .i64 ((valX k (reP k b) (imP k b)).2)) hA rfl rfl rfl (d_extract (vs := [.agg #[.bool ((valX k (reP k b) (imP k b)).1.b1), .slice p31_1 (((valX k (reP k b) (imP k b)).1.t1).length) p31_c1, .slice p31_2 (((valX k (reP k b) (imP k b)).1.q1).length) p31_c2, .bool ((valX k (reP k b) (imP k b)).1.b2), .slice p31_3 (((valX k (reP k b) (imP k b)).1.t2).length) p31_c3, .slice p31_4 (((valX k (reP k b) (imP k b)).1.q2).length) p31_c4], .int .i64 ((valX k (reP k b) (imP k b)).2)]) rfl rfl) fun a hA => ?_
   refine seq_store (us := [.bool ((valX k (reP k b) (imP k b)).1.b1), .slice p31_1 (((valX k (reP k b) (imP k b)).1.t1).length) p31_c1, .slice p31_2 (((valX k (reP k b) (imP k b)).1.q1).length) p31_c2, .bool ((valX k (reP k b) (imP k b)).1.b2), .slice p31_3 (((valX k (reP k b) (imP k b)).1.t2).length) p31_c3, .slice p31_4 (((valX k (reP k b) (imP k b)).1.q2).length) p31_c4]) hA hS rfl rfl (sets_store rfl rfl rfl (by kernel_rfl) hS 2 rfl rfl rfl) 2 rfl rfl rfl rfl ?_
   intro w35 hS
   refine seq_do hA rfl rfl rfl (d_assign rfl) fun a hA => ?_
   refine seq_end ?_
   refine hK30 _ _ ?_
   refine wp_ret ?_
   refine hret _ _ ?_
   refine ends (v := .tuple #[.agg #[.bool ((valX k (reP k b) (imP k b)).1.b1), .slice p31_1 (((valX k (reP k b) (imP k b)).1.t1).length) p31_c1, .slice p31_2 (((valX k (reP k b) (imP k b)).1.q1).length) p31_c2, .bool ((valX k (reP k b) (imP k b)).1.b2), .slice p31_3 (((valX k (reP k b) (imP k b)).1.t2).length) p31_c3, .slice p31_4 (((valX k (reP k b) (imP k b)).1.q2).length) p31_c4], .int .i64 ((valX k (reP k b) (imP k b)).2)]) hA rfl (.cons (res_cell hS RxE_isS_26 rfl 2 rfl (cs := [.bool ((valX k (reP k b) (imP k b)).1.b1), .slice p31_1 (((valX k (reP k b) (imP k b)).1.t1).length) p31_c1, .slice p31_2 (((valX k (reP k b) (imP k b)).1.q1).length) p31_c2, .bool ((valX k (reP k b) (imP k b)).1.b2), .slice p31_3 (((valX k (reP k b) (imP k b)).1.t2).length) p31_c3, .slice p31_4 (((valX k (reP k b) (imP k b)).1.q2).length) p31_c4]) rfl rfl) (.cons (res_tmp rfl) .nil)) rfl ?_
   rw [readX_def hr hPx, if_pos (by simpa using hc22), if_pos (by omega)]
   exact ⟨p31_1, p31_c1, p31_2, p31_c2, p31_3, p31_c3, p31_4, p31_c4, rfl, ⟨⟨(hS.rd 3 rfl), hn32.s1.nil, hn32.s1.cap⟩, ⟨(hS.rd 2 rfl), hn32.s2.nil, hn32.s2.cap⟩, ⟨(hS.rd 1 rfl), hn32.s3.nil, hn32.s3.cap⟩, ⟨(hS.rd 0 rfl), hn32.s4.nil, hn32.s4.cap⟩⟩, hS.bel⟩
theorem read_norad {w : World} {n : Int} {l : List UInt8} (hn : radixB n = false) : Calls Tryz.prog 8 #[.string (bsL l), .int .i64 n] w (AnsN w (readX l n)) := by
 have hS : St w w [] [] [] := St.start w
 refine walk_of (l := [(0, .string (bsL l)), (1, .int .i64 n)]) Tryz.func8 rfl Tryz.ntmps8 rfl rfl ?_
 intro Q hret hnorm hP a hA
 refine wp_seq_k (fun K1 hK1 => ?_)
 refine wp_region_lit ?_
 refine seq_new (vs := [.bool false, .slice none 0 0, .slice none 0 0, .bool false, .slice none 0 0, .slice none 0 0]) (t := 26) hA hS rfl rfl rfl (fun g => .pointer (some ⟨g, 0, none⟩)) (d_alloc (z := .agg #[.bool false, .slice none 0 0, .slice none 0 0, .bool false, .slice none 0 0, .slice none 0 0]) (by kernel_rfl) rfl) rfl ?_
 intro g2 w3 hS a hA
 refine seq_do hA rfl rfl rfl (d_assign rfl) fun a hA => ?_
 refine seq_end ?_
 refine hK1 _ _ ?_
 refine wp_seq_k (fun K4 hK4 => ?_)
 refine wp_seq_k (fun K5 hK5 => ?_)
 refine wp_region_lit ?_
 refine mv hA rfl rfl rfl fun a hA => ?_
 refine seq_call hA rfl rfl rfl (enters_func  rfl rfl (fun w => by kernel_rfl)) (isRadixX_any hn) ?_
 rintro _ w7 ⟨rfl, hb6⟩
 replace hS := hS.call hb6
 refine ⟨_, rfl, ?_⟩
 intro a hA
 refine seq_do (v := .bool true) hA rfl rfl rfl (d_un rfl un_not) fun a hA => ?_
 refine seq_end ?_
 refine hK5 _ _ ?_
 refine wp_cond_true (hA.ev rfl) ?_
 refine wp_seq_k (fun K8 hK8 => ?_)
 refine wp_region_lit ?_
 refine seq_do (v := .agg #[.bool false, .slice none 0 0, .slice none 0 0, .bool false, .slice none 0 0, .slice none 0 0]) hA rfl rfl rfl (d_build rfl (fun w => by kernel_rfl)) fun a hA => ?_
 refine seq_store (us := [.bool false, .slice none 0 0, .slice none 0 0, .bool false, .slice none 0 0, .slice none 0 0]) hA hS rfl rfl (sets_store rfl rfl rfl (by kernel_rfl) hS 0 rfl rfl rfl) 0 rfl rfl rfl rfl ?_
 intro w9 hS
 refine seq_do hA rfl rfl rfl (d_assign rfl) fun a hA => ?_
 refine seq_end ?_
 refine hK8 _ _ ?_
 refine wp_ret ?_
 refine hret _ _ ?_
 refine ends (v := .tuple #[.agg #[.bool false, .slice none 0 0, .slice none 0 0, .bool false, .slice none 0 0, .slice none 0 0], .int .i64 1]) hA rfl (.cons (res_cell hS RxE_isS_26 rfl 0 rfl (cs := [.bool false, .slice none 0 0, .slice none 0 0, .bool false, .slice none 0 0, .slice none 0 0]) rfl rfl) (.cons (res_tmp rfl) .nil)) rfl ?_
 rw [show readX l n = (Q6.zero, 1) from by unfold readX; rw [hn]; rfl]
 exact ⟨none, 0, none, 0, none, 0, none, 0, rfl, ⟨Sc.none _, Sc.none _, Sc.none _, Sc.none _⟩, hS.bel⟩
theorem readP_any {w : World} {n : Int} {l : List UInt8} (hl : l.length ≤ 9223372036854775807) : Calls Tryz.prog 8 #[.string (bsL l), .int .i64 n] w (AnsN w (readX l n)) := by
 cases h : radixB n with
 | false => exact read_norad h
 | true =>
  obtain ⟨r, rfl, hr⟩ := radixB_iff h
  exact read_rad (b := (prfx false false r l).1) (k := (prfx false false r l).2) hr hl rfl
end Go.Proofs.YtjmhdebfpnjceaaGreat
namespace Go.Proofs.YtjmhdebfpnjceaaGreat
open Go.RowKit
set_option linter.unusedVariables false
set_option linter.unusedSimpArgs false
set_option maxRecDepth 100000
section
variable {P : Program} {l : List (Nat × Value)} {dst : Option Tmp} {ty t : TypeId} {pos : String} {after : Array Edge} {guard : Option (Nat × Bool)} {w : World} {x y z : Operand} {s : List UInt8}
end
end Go.Proofs.YtjmhdebfpnjceaaGreat
namespace Go.Proofs.YtjmhdebfpnjceaaGreat
open Go.RowKit
set_option linter.unusedVariables false
set_option linter.unusedSimpArgs false
set_option maxRecDepth 100000
end Go.Proofs.YtjmhdebfpnjceaaGreat
namespace Go.Proofs.YtjmhdebfpnjceaaGreat
open Go.RowKit
set_option linter.unusedVariables false
set_option linter.unusedSimpArgs false

def tD (a : List Nat) (r : Nat) : List UInt8 := (textS a (r : Int)).1.data.toList
def szL (r : Nat) (t q : List Nat) : List UInt8 := tD t r ++ (if q = [1] then [] else 47 :: tD q r)
def realL (r : Nat) (b : Bool) (t q : List Nat) : List UInt8 := (if b then [45] else []) ++ szL r t q
def imL (r : Nat) (b : Bool) (t q : List Nat) : List UInt8 := (if b then [45] else [43]) ++ (if t = [1] ∧ q = [1] then [] else szL r t q)
def textL (r : Nat) (q : Q6) : List UInt8 :=
  if q.t2.length = 0 then realL r q.b1 q.t1 q.q1 else (if q.t1.length = 0 then [] else realL r q.b1 q.t1 q.q1) ++ (imL r q.b2 q.t2 q.q2 ++ [105])
theorem tD_bs (a : List Nat) (r : Nat) : bsL (tD a r) = (textS a (r : Int)).1 := bsL_of _
theorem tD_len (a : List Nat) (r : Nat) : (tD a r).length = (textS a (r : Int)).1.size := by rw [← tD_bs, bsL_size]
theorem digs_len {r : Nat} (hr : 2 ≤ r) : ∀ n x, x ≤ n → (digs r x).length ≤ bl x := by
  intro n
  induction n with
  | zero =>
    intro x hx
    have e : x = 0 := by omega
    subst e
    rw [digs_zero]
    simp
  | succ n ih =>
    intro x hx
    by_cases h0 : x = 0
    · subst h0; rw [digs_zero]; simp
    · rw [digs_pos hr h0, List.length_cons]
      have h1 := ih (x / r) (by
        have : x / r < x := Nat.div_lt_self (by omega) (by omega)
        omega)
      have h2 := bl_div1 hr h0
      omega
theorem tD_max {a : List Nat} {r : Nat} (hr : RadN r) (hd : Dig a) : (tD a r).length ≤ 16385 := by
  rw [tD_len]
  have h2 : 2 ≤ r := by rcases hr with h | h | h | h <;> omega
  have h36 : r ≤ 36 := by rcases hr with h | h | h | h <;> omega
  unfold textS
  by_cases hs : sound a = true
  · obtain ⟨ea, na⟩ := sound_words hd hs
    rw [hs, decide_eq_true (show (2 : Int) ≤ (r : Int) ∧ (r : Int) ≤ 36 from by omega), Int.toNat_natCast]
    simp only [if_true]
    split
    · decide
    · show (txt r (val a)).size ≤ _
      rw [txt_size]
      have h3 := digs_len h2 (val a) (val a) (Nat.le_refl _)
      have h4 : bl (val a) ≤ 32 * a.length := bl_le.2 (by rw [← pw_two]; exact words_length_iff.1 (by rw [← ea]; exact Nat.le_refl _))
      omega
  · have hs := Bool.eq_false_iff.2 hs
    rw [hs]
    show (0 : Nat) ≤ 16385
    omega
theorem sz_max {r : Nat} (hr : RadN r) {t q : List Nat} (ht : Dig t) (hq : Dig q) : (szL r t q).length ≤ 40000 := by
  have h1 := tD_max hr ht
  have h2 := tD_max hr hq
  unfold szL
  split
  · simp only [List.append_nil]; omega
  · simp only [List.length_append, List.length_cons]; omega
/-! ### Digits -/
structure DgT (r x : Nat) (l : List UInt8) : Prop where
  ne : l ≠ []
  dig : ∀ b ∈ l, isDg r b = true
  rd : l.length ≤ 16384 → rdE r l = 0 ∧ natN r l = x
theorem dgT {r x : Nat} (hr : RadN r) (hx : (words x).length ≤ 512) : DgT r x (tD (words x) r) := by
  have h2 : 2 ≤ r := by rcases hr with h | h | h | h <;> omega
  have h36 : r ≤ 36 := by rcases hr with h | h | h | h <;> omega
  have hs := words_sound hx
  have hdr : decide ((2 : Int) ≤ (r : Int) ∧ (r : Int) ≤ 36) = true := decide_eq_true (by omega)
  have hv : val (words x) = x := val_words x
  have hne : (textS (words x) (r : Int)).1.size ≠ 0 ∧ ∀ i, i < (textS (words x) (r : Int)).1.size → dvn 36 (byteAt (textS (words x) (r : Int)).1 i) < r := by
    unfold textS
    rw [hs, hdr, hv, Int.toNat_natCast]
    simp only [if_true]
    split
    · exact (numeralS_iff r _).1 (text_zeroX h2).1
    · rename_i h0
      show (txt r x).size ≠ 0 ∧ ∀ i, i < (txt r x).size → dvn 36 (byteAt (txt r x) i) < r
      rw [txt_size]
      refine ⟨digs_ne h2 h0, fun i hi => ?_⟩
      have h := txt_byte (r := r) (x := x) h2 h36 hi
      rw [h.1]
      exact h.2
  have hne2 : tD (words x) r ≠ [] := fun k => hne.1 (by rw [← tD_len, k]; rfl)
  refine ⟨hne2, ?_, ?_⟩
  · intro b hb
    obtain ⟨i, hi, e⟩ := List.mem_iff_getElem.1 hb
    have h := hne.2 i (by rw [← tD_len]; exact hi)
    rw [← tD_bs, btL_byte] at h
    unfold btL at h
    rw [List.getD_eq_getElem?_getD, List.getElem?_eq_getElem hi, e] at h
    exact decide_eq_true h
  · intro hl
    have h := read_back (words_dig x) hs hdr (by rw [← tD_len]; exact hl)
    rw [← tD_bs] at h
    have h0 : (readS (bsL (tD (words x) r)) (r : Int)).2 = 0 := by rw [h]
    obtain ⟨k1, k2⟩ := readS_ok h0
    rw [h] at k1
    unfold rdE natN
    rw [if_neg hne2, if_neg hne2]
    refine ⟨h0, ?_⟩
    have k3 := congrArg Prod.fst k1
    exact (words_inj k3).symm
/-! ### A fraction at the beginning of a text -/
theorem pT_app {r : Nat} {a b : List UInt8} (ha : ∀ x ∈ a, isDg r x = true) (hb : nDg r b = 0) : pT r (a ++ b) = a ∧ pQ r (a ++ b) = b := by
  unfold pT pQ
  rw [nDg_append ha hb]
  simp
def Ends (r : Nat) (l : List UInt8) : Prop := nDg r l = 0 ∧ btL l 0 ≠ 47
theorem ends_nil (r : Nat) : Ends r [] := ⟨rfl, by decide⟩
theorem ends_no {r : Nat} {b : UInt8} {t : List UInt8} (h : isDg r b = false) (h2 : b.toNat ≠ 47) : Ends r (b :: t) := ⟨nDg_no h, h2⟩
theorem piece_sz {r x d : Nat} (hr : RadN r) (hx : (words x).length ≤ 512) (hd : (words d).length ≤ 512) (hd0 : d ≠ 0) {rest : List UInt8} (he : Ends r rest) (hl : (szL r (words x) (words d) ++ rest).length ≤ 16384) (neg : Bool) :
    pieceOk r (szL r (words x) (words d) ++ rest) = true ∧ pieceLen r (szL r (words x) (words d) ++ rest) = (szL r (words x) (words d)).length ∧ pieceErr r (szL r (words x) (words d) ++ rest) = 0 ∧ pieceVal r neg (szL r (words x) (words d) ++ rest) = mkRat (sgn neg x) d := by
  have tx := dgT hr hx
  have td := dgT hr hd
  have k47 : isDg r 47 = false := (dig_no hr).2.2.1
  have hne := tx.ne
  have hnl : (tD (words x) r).length ≠ 0 := fun k => hne (List.length_eq_zero_iff.1 k)
  by_cases h1 : words d = [1]
  · have e : szL r (words x) (words d) = tD (words x) r := by unfold szL; rw [if_pos h1, List.append_nil]
    have hd1 : d = 1 := words_inj (h1.trans words_one.symm)
    rw [e] at hl ⊢
    obtain ⟨e1, e2⟩ := pT_app tx.dig he.1
    have en : nDg r (tD (words x) r ++ rest) = (tD (words x) r).length := nDg_append tx.dig he.1
    have es : pS r (tD (words x) r ++ rest) = false := by unfold pS; rw [e2]; exact decide_eq_false he.2
    obtain ⟨f1, f2⟩ := tx.rd (by rw [List.length_append] at hl; omega)
    have ee : pieceErr r (tD (words x) r ++ rest) = 0 := by unfold pieceErr; rw [es, e1]; exact f1
    refine ⟨?_, ?_, ee, ?_⟩
    · unfold pieceOk; rw [en, es, decide_eq_true hnl]; rfl
    · unfold pieceLen; rw [es, en]; rfl
    · unfold pieceVal; rw [if_pos ee, es, e1, f2, hd1]; rfl
  · have e : szL r (words x) (words d) ++ rest = tD (words x) r ++ (47 :: (tD (words d) r ++ rest)) := by unfold szL; rw [if_neg h1]; simp
    have el : (szL r (words x) (words d)).length = (tD (words x) r).length + 1 + (tD (words d) r).length := by unfold szL; rw [if_neg h1]; simp; omega
    rw [e] at hl ⊢
    have hn0 : nDg r (47 :: (tD (words d) r ++ rest)) = 0 := nDg_no k47
    obtain ⟨e1, e2⟩ := pT_app tx.dig hn0
    have en : nDg r (tD (words x) r ++ (47 :: (tD (words d) r ++ rest))) = (tD (words x) r).length := nDg_append tx.dig hn0
    have es : pS r (tD (words x) r ++ (47 :: (tD (words d) r ++ rest))) = true := by unfold pS; rw [e2]; exact decide_eq_true rfl
    have eb : pB r (tD (words x) r ++ (47 :: (tD (words d) r ++ rest))) = tD (words d) r ++ rest := by unfold pB; rw [e2]; rfl
    have em : nDg r (tD (words d) r ++ rest) = (tD (words d) r).length := nDg_append td.dig he.1
    have eu : pU r (tD (words x) r ++ (47 :: (tD (words d) r ++ rest))) = tD (words d) r := by unfold pU; rw [eb, em]; simp
    have hml : (tD (words d) r).length ≠ 0 := fun k => td.ne (List.length_eq_zero_iff.1 k)
    simp only [List.length_append, List.length_cons] at hl
    obtain ⟨f1, f2⟩ := tx.rd (by omega)
    obtain ⟨g1, g2⟩ := td.rd (by omega)
    have ee : pieceErr r (tD (words x) r ++ (47 :: (tD (words d) r ++ rest))) = 0 := by
      unfold pieceErr
      rw [es, e1, eu, if_pos rfl, if_neg (by rintro (k | k); exact k f1; exact k g1), g2, if_neg hd0]
    refine ⟨?_, ?_, ee, ?_⟩
    · unfold pieceOk; rw [en, es, eb, em, decide_eq_true hnl, decide_eq_true hml]; rfl
    · unfold pieceLen; rw [es, en, eb, em, el]; rfl
    · unfold pieceVal; rw [if_pos ee, es, e1, eu, f2, g2]; rfl
theorem sz_first {r x d : Nat} (hr : RadN r) (hx : (words x).length ≤ 512) (rest : List UInt8) : signB (szL r (words x) (words d) ++ rest) = false ∧ btL (szL r (words x) (words d) ++ rest) 0 ≠ 35 ∧ unitB (szL r (words x) (words d) ++ rest) = false ∧ (szL r (words x) (words d)).length ≠ 0 := by
  have tx := dgT hr hx
  obtain ⟨k1, k2, k3, k4, k5, k6⟩ := dig_no hr
  obtain ⟨b, t, e⟩ : ∃ b t, tD (words x) r = b :: t := by
    cases h : tD (words x) r with
    | nil => exact absurd h tx.ne
    | cons b t => exact ⟨b, t, rfl⟩
  have hb : isDg r b = true := tx.dig b (by rw [e]; simp)
  obtain ⟨t', e'⟩ : ∃ t', szL r (words x) (words d) = b :: t' := by unfold szL; rw [e]; exact ⟨_, rfl⟩
  rw [e']
  have ne : ∀ c : UInt8, isDg r c = false → b ≠ c := fun c hc k => by rw [k, hc] at hb; cases hb
  have nn : ∀ c : UInt8, isDg r c = false → b.toNat ≠ c.toNat := fun c hc k => ne c hc (UInt8.toNat_inj.1 k)
  refine ⟨?_, ?_, ?_, by simp⟩
  · unfold signB
    show (decide (b.toNat = 43) || decide (b.toNat = 45)) = false
    rw [decide_eq_false (show ¬ b.toNat = 43 from nn 43 k1), decide_eq_false (show ¬ b.toNat = 45 from nn 45 k2)]
    rfl
  · exact nn 35 k6
  · unfold unitB
    rw [decide_eq_false (fun k => ne 105 k4 (by simp at k; exact k.1)), decide_eq_false (fun k => ne 73 k5 (by simp at k; exact k.1))]
    rfl
end Go.Proofs.YtjmhdebfpnjceaaGreat
namespace Go.Proofs.YtjmhdebfpnjceaaGreat
open Go.RowKit
set_option linter.unusedVariables false
set_option linter.unusedSimpArgs false

def szR (r : Nat) (u : Rat) : List UInt8 := szL r (words u.num.natAbs) (words u.den)
theorem mk_self (u : Rat) : mkRat (sgn (rb u.num) u.num.natAbs) u.den = u := by rw [sgn_rb, Rat.mkRat_self]
theorem piece_rat {r : Nat} (hr : RadN r) {u : Rat} (hu : fitR u) {rest : List UInt8} (he : Ends r rest) (hl : (szR r u ++ rest).length ≤ 16384) :
    pieceOk r (szR r u ++ rest) = true ∧ pieceLen r (szR r u ++ rest) = (szR r u).length ∧ pieceErr r (szR r u ++ rest) = 0 ∧ pieceVal r (rb u.num) (szR r u ++ rest) = u := by
  obtain ⟨h1, h2, h3, h4⟩ := piece_sz hr hu.1 hu.2 u.den_nz he hl (rb u.num)
  rw [mk_self] at h4
  exact ⟨h1, h2, h3, h4⟩
/-- A number with a sign ahead of it (or none where it is not below 0), and what stands behind it. -/
structure Head (r : Nat) (u : Rat) (rest l : List UInt8) : Prop where
  unit : (signB l && unitB (l.drop 1)) = false
  ok : pieceOk r (l.drop (p0 l)) = true
  err : pieceErr r (l.drop (p0 l)) = 0
  val : pieceVal r (signB l && negB l) (l.drop (p0 l)) = u
  back : l.drop (p1 r l) = rest
  len : p1 r l + rest.length = l.length
  hash : btL l 0 ≠ 35
theorem head_sign {r : Nat} (hr : RadN r) {u : Rat} (hu : fitR u) {rest : List UInt8} (he : Ends r rest) (hl : (szR r u ++ rest).length ≤ 16384) {s : UInt8} (hs : s.toNat = 45 ∧ rb u.num = true ∨ s.toNat = 43 ∧ rb u.num = false) : Head r u rest (s :: (szR r u ++ rest)) ∧ signB (s :: (szR r u ++ rest)) = true := by
  obtain ⟨h1, h2, h3, h4⟩ := piece_rat hr hu he hl
  obtain ⟨f1, f2, f3, f4⟩ := sz_first (d := u.den) hr hu.1 rest
  have e0 : btL (s :: (szR r u ++ rest)) 0 = s.toNat := rfl
  have es : signB (s :: (szR r u ++ rest)) = true := by unfold signB; rw [e0]; rcases hs with h | h <;> rw [h.1] <;> rfl
  have en : negB (s :: (szR r u ++ rest)) = rb u.num := by unfold negB; rw [e0]; rcases hs with h | h <;> rw [h.1, h.2] <;> rfl
  have ep : p0 (s :: (szR r u ++ rest)) = 1 := by unfold p0; rw [es]; rfl
  have ed : (s :: (szR r u ++ rest)).drop 1 = szR r u ++ rest := rfl
  have e1 : p1 r (s :: (szR r u ++ rest)) = 1 + (szR r u).length := by unfold p1; rw [ep, ed, h2]
  refine ⟨⟨?_, ?_, ?_, ?_, ?_, ?_, ?_⟩, es⟩
  · rw [ed, show unitB (szR r u ++ rest) = false from f3, Bool.and_false]
  · rw [ep, ed]; exact h1
  · rw [ep, ed]; exact h3
  · rw [ep, ed, es, en, Bool.true_and]; exact h4
  · rw [e1, Nat.add_comm, List.drop_succ_cons, List.drop_left]
  · rw [e1]; simp; omega
  · rw [e0]; rcases hs with h | h <;> rw [h.1] <;> decide
theorem head_none {r : Nat} (hr : RadN r) {u : Rat} (hu : fitR u) {rest : List UInt8} (he : Ends r rest) (hl : (szR r u ++ rest).length ≤ 16384) (hb : rb u.num = false) : Head r u rest (szR r u ++ rest) := by
  obtain ⟨h1, h2, h3, h4⟩ := piece_rat hr hu he hl
  obtain ⟨f1, f2, f3, f4⟩ := sz_first (d := u.den) hr hu.1 rest
  have es : signB (szR r u ++ rest) = false := f1
  have ep : p0 (szR r u ++ rest) = 0 := by unfold p0; rw [es]; rfl
  have ed : (szR r u ++ rest).drop 0 = szR r u ++ rest := rfl
  have e1 : p1 r (szR r u ++ rest) = (szR r u).length := by unfold p1; rw [ep, ed, h2, Nat.zero_add]
  refine ⟨?_, ?_, ?_, ?_, ?_, ?_, f2⟩
  · rw [es]; rfl
  · rw [ep, ed]; exact h1
  · rw [ep, ed]; exact h3
  · rw [ep, ed, es, Bool.false_and, ← hb]; exact h4
  · rw [e1, List.drop_left]
  · rw [e1]; simp
theorem head_real {r : Nat} (hr : RadN r) {u : Rat} (hu : fitR u) {rest : List UInt8} (he : Ends r rest) (hl : (realL r (rb u.num) (words u.num.natAbs) (words u.den) ++ rest).length ≤ 16384) : Head r u rest (realL r (rb u.num) (words u.num.natAbs) (words u.den) ++ rest) := by
  unfold realL at hl ⊢
  cases hb : rb u.num with
  | true =>
    rw [hb] at hl
    simp only [if_true, List.append_assoc, List.length_append, List.length_cons, List.length_nil] at hl ⊢
    exact (head_sign hr hu he (s := 45) (by rw [List.length_append]; show (szL r _ _).length + _ ≤ _; omega) (.inl ⟨rfl, hb⟩)).1
  | false =>
    rw [hb] at hl
    simp only [Bool.false_eq_true, if_false, List.nil_append] at hl ⊢
    exact head_none hr hu he hl hb
theorem one_of {v : Rat} (h : words v.num.natAbs = [1] ∧ words v.den = [1]) : v = oneS (rb v.num) := by
  have h1 : v.num.natAbs = 1 := words_inj (h.1.trans words_one.symm)
  have h2 : v.den = 1 := words_inj (h.2.trans words_one.symm)
  have h3 := mk_self v
  rw [h1, h2] at h3
  rw [← h3]
  unfold oneS
  cases rb v.num with
  | true => rw [show mkRat (sgn true 1) 1 = -1 from by decide +kernel]; decide +kernel
  | false => rw [show mkRat (sgn false 1) 1 = 1 from by decide +kernel]; decide +kernel
theorem im_form (r : Nat) (v : Rat) : ∃ s : UInt8, (s.toNat = 45 ∧ rb v.num = true ∨ s.toNat = 43 ∧ rb v.num = false) ∧ imL r (rb v.num) (words v.num.natAbs) (words v.den) ++ [105] = s :: ((if words v.num.natAbs = [1] ∧ words v.den = [1] then [] else szR r v) ++ [105]) := by
  unfold imL
  cases hb : rb v.num with
  | true => exact ⟨45, .inl ⟨rfl, rfl⟩, by simp [szR]⟩
  | false => exact ⟨43, .inr ⟨rfl, rfl⟩, by simp [szR]⟩
theorem sign_of {s : UInt8} {b : Bool} {t : List UInt8} (hs : s.toNat = 45 ∧ b = true ∨ s.toNat = 43 ∧ b = false) : signB (s :: t) = true ∧ negB (s :: t) = b ∧ btL (s :: t) 0 ≠ 35 := by
  have e0 : btL (s :: t) 0 = s.toNat := rfl
  unfold signB negB
  rw [e0]
  rcases hs with ⟨h, rfl⟩ | ⟨h, rfl⟩ <;> rw [h] <;> decide
theorem unit105 : unitB [105] = true := rfl
theorem body_im {r : Nat} (hr : RadN r) {v : Rat} (hv : fitR v) (hl : (imL r (rb v.num) (words v.num.natAbs) (words v.den) ++ [105]).length ≤ 16384) : bodyS r (imL r (rb v.num) (words v.num.natAbs) (words v.den) ++ [105]) = (true, 0, v, 0) ∧ btL (imL r (rb v.num) (words v.num.natAbs) (words v.den) ++ [105]) 0 ≠ 35 := by
  obtain ⟨s, hs, e⟩ := im_form r v
  rw [e] at hl ⊢
  obtain ⟨g1, g2, g3⟩ := sign_of (t := (if words v.num.natAbs = [1] ∧ words v.den = [1] then [] else szR r v) ++ [105]) hs
  refine ⟨?_, g3⟩
  by_cases h1 : words v.num.natAbs = [1] ∧ words v.den = [1]
  · rw [if_pos h1] at g1 g2 ⊢
    unfold bodyS
    rw [g1, show unitB ((s :: ([] ++ [105])).drop 1) = true from rfl, g2, ← one_of h1]
    rfl
  · rw [if_neg h1] at hl g1 g2 ⊢
    have he : Ends r [105] := ends_no (dig_no hr).2.2.2.1 (by decide)
    obtain ⟨H, hg⟩ := head_sign hr hv he (s := s) (by simp only [List.length_cons] at hl; omega) hs
    have hlen := H.len
    simp only [List.length_cons, List.length_nil] at hlen
    unfold bodyS
    rw [H.unit, H.ok, H.err, H.val, H.back, hg, unit105]
    have h3 : ¬ p1 r (s :: (szR r v ++ [105])) = (s :: (szR r v ++ [105])).length := by simp only [List.length_cons]; omega
    rw [if_neg h3]
    rfl
theorem body_real {r : Nat} (hr : RadN r) {u : Rat} (hu : fitR u) (hl : (realL r (rb u.num) (words u.num.natAbs) (words u.den)).length ≤ 16384) : bodyS r (realL r (rb u.num) (words u.num.natAbs) (words u.den)) = (true, u, 0, 0) ∧ btL (realL r (rb u.num) (words u.num.natAbs) (words u.den)) 0 ≠ 35 := by
  have H := head_real hr hu (ends_nil r) (by rw [List.append_nil]; exact hl)
  rw [List.append_nil] at H
  have hlen := H.len
  simp only [List.length_nil, Nat.add_zero] at hlen
  refine ⟨?_, H.hash⟩
  unfold bodyS
  rw [H.unit, H.ok, H.err, H.val, if_pos hlen]
  rfl
theorem body_both {r : Nat} (hr : RadN r) {u v : Rat} (hu : fitR u) (hv : fitR v) (hl : (realL r (rb u.num) (words u.num.natAbs) (words u.den) ++ (imL r (rb v.num) (words v.num.natAbs) (words v.den) ++ [105])).length ≤ 16384) :
    bodyS r (realL r (rb u.num) (words u.num.natAbs) (words u.den) ++ (imL r (rb v.num) (words v.num.natAbs) (words v.den) ++ [105])) = (true, u, v, 0) ∧ btL (realL r (rb u.num) (words u.num.natAbs) (words u.den) ++ (imL r (rb v.num) (words v.num.natAbs) (words v.den) ++ [105])) 0 ≠ 35 := by
  obtain ⟨s, hs, e⟩ := im_form r v
  rw [e] at hl ⊢
  obtain ⟨g1, g2, g3⟩ := sign_of (t := (if words v.num.natAbs = [1] ∧ words v.den = [1] then [] else szR r v) ++ [105]) hs
  obtain ⟨k1, k2, k3, k4, k5, k6⟩ := dig_no hr
  have he : Ends r (s :: ((if words v.num.natAbs = [1] ∧ words v.den = [1] then [] else szR r v) ++ [105])) := by
    rcases hs with ⟨h, _⟩ | ⟨h, _⟩
    · rw [show s = 45 from UInt8.toNat_inj.1 h]; exact ends_no k2 (by decide)
    · rw [show s = 43 from UInt8.toNat_inj.1 h]; exact ends_no k1 (by decide)
  have H := head_real hr hu he hl
  have hlen := H.len
  refine ⟨?_, H.hash⟩
  have hm : m1 r (realL r (rb u.num) (words u.num.natAbs) (words u.den) ++ (s :: ((if words v.num.natAbs = [1] ∧ words v.den = [1] then [] else szR r v) ++ [105]))) = (if words v.num.natAbs = [1] ∧ words v.den = [1] then [] else szR r v) ++ [105] := by
    unfold m1
    rw [← List.drop_drop, H.back]
    rfl
  have h3 : ¬ p1 r (realL r (rb u.num) (words u.num.natAbs) (words u.den) ++ (s :: ((if words v.num.natAbs = [1] ∧ words v.den = [1] then [] else szR r v) ++ [105]))) = (realL r (rb u.num) (words u.num.natAbs) (words u.den) ++ (s :: ((if words v.num.natAbs = [1] ∧ words v.den = [1] then [] else szR r v) ++ [105]))).length := by
    simp only [List.length_cons] at hlen ⊢
    omega
  have h4 : unitB (s :: ((if words v.num.natAbs = [1] ∧ words v.den = [1] then [] else szR r v) ++ [105])) = false := by
    cases k : unitB (s :: ((if words v.num.natAbs = [1] ∧ words v.den = [1] then [] else szR r v) ++ [105])) with
    | false => rfl
    | true => rw [unit_sign k] at g1; cases g1
  have tail : ∀ n, (realL r (rb u.num) (words u.num.natAbs) (words u.den) ++ (s :: ((if words v.num.natAbs = [1] ∧ words v.den = [1] then [] else szR r v) ++ [105]))).drop (p1 r (realL r (rb u.num) (words u.num.natAbs) (words u.den) ++ (s :: ((if words v.num.natAbs = [1] ∧ words v.den = [1] then [] else szR r v) ++ [105]))) + 1 + n) = ((if words v.num.natAbs = [1] ∧ words v.den = [1] then [] else szR r v) ++ [105]).drop n := by
    intro n
    rw [← List.drop_drop, ← List.drop_drop, H.back]
    rfl
  unfold bodyS
  rw [H.unit, H.ok, H.err, H.val, if_neg h3, H.back, h4, g1, g2, hm, tail, Bool.and_false]
  by_cases h1 : words v.num.natAbs = [1] ∧ words v.den = [1]
  · rw [if_pos h1, ← one_of h1]
    rfl
  · rw [if_neg h1] at hl ⊢
    have he2 : Ends r [105] := ends_no k4 (by decide)
    have hl2 : (szR r v ++ [105]).length ≤ 16384 := by
      simp only [List.length_append, List.length_cons] at hl ⊢
      omega
    obtain ⟨j1, j2, j3, j4⟩ := piece_rat hr hv he2 hl2
    obtain ⟨f1, f2, f3, f4⟩ := sz_first (d := v.den) hr hv.1 [105]
    rw [show unitB (szR r v ++ [105]) = false from f3, j1, j2, j3, j4, List.drop_left, unit105]
    rfl
theorem t_zero {u : Rat} : (words u.num.natAbs).length = 0 ↔ u = 0 := by
  constructor
  · intro h
    have h1 : ¬ u.num.natAbs ≠ 0 := fun k => by have := words_len_pos.2 k; omega
    have h2 : u.num = 0 := by omega
    exact Rat.num_eq_zero.1 h2
  · rintro rfl; rw [show (0 : Rat).num.natAbs = 0 from rfl, words_zero]; rfl
theorem body_text {r : Nat} (hr : RadN r) {u v : Rat} (hu : fitR u) (hv : fitR v) (hl : (textL r (Q6.rat u v)).length ≤ 16384) : bodyS r (textL r (Q6.rat u v)) = (true, u, v, 0) ∧ btL (textL r (Q6.rat u v)) 0 ≠ 35 := by
  have e : textL r (Q6.rat u v) = if (words v.num.natAbs).length = 0 then realL r (rb u.num) (words u.num.natAbs) (words u.den) else (if (words u.num.natAbs).length = 0 then [] else realL r (rb u.num) (words u.num.natAbs) (words u.den)) ++ (imL r (rb v.num) (words v.num.natAbs) (words v.den) ++ [105]) := rfl
  rw [e] at hl ⊢
  by_cases h1 : (words v.num.natAbs).length = 0
  · rw [if_pos h1] at hl ⊢
    have := t_zero.1 h1
    subst this
    exact body_real hr hu hl
  · rw [if_neg h1] at hl ⊢
    by_cases h2 : (words u.num.natAbs).length = 0
    · rw [if_pos h2, List.nil_append] at hl ⊢
      have := t_zero.1 h2
      subst this
      exact body_im hr hv hl
    · rw [if_neg h2] at hl ⊢
      exact body_both hr hu hv hl
theorem read_text {r : Nat} (hr : RadN r) {u v : Rat} (hu : fitR u) (hv : fitR v) (hl : (textL r (Q6.rat u v)).length ≤ 16384) : readX (textL r (Q6.rat u v)) ((r : Nat) : Int) = (Q6.rat u v, 0) := by
  obtain ⟨h1, h2⟩ := body_text hr hu hv hl
  have hok : okP r (textL r (Q6.rat u v)) = true := by rw [← body_ok hr, h1]
  rw [readX_def hr (prfx_other h2), if_pos hok, if_pos hl, body_val hr h1, if_pos rfl]
end Go.Proofs.YtjmhdebfpnjceaaGreat
namespace Go.Proofs.YtjmhdebfpnjceaaGreat
open Go.RowKit
set_option linter.unusedVariables false
set_option linter.unusedSimpArgs false
set_option maxRecDepth 100000
theorem RxI_is1_22 : Is1 Tryz.prog 22 := ⟨⟨_, Tryz.underlying22, rfl⟩, by kernel_rfl⟩
theorem RxI_is1_4 : Is1 Tryz.prog 4 := ⟨⟨_, Tryz.underlying4, rfl⟩, by kernel_rfl⟩
theorem RxI_fld_24_0 : FieldAt Tryz.prog 24 0 0 := ⟨_, _, Tryz.underlying24, rfl, rfl, by kernel_rfl⟩
theorem RxI_fld_24_1 : FieldAt Tryz.prog 24 1 1 := ⟨_, _, Tryz.underlying24, rfl, rfl, by kernel_rfl⟩
theorem RxI_fld_24_2 : FieldAt Tryz.prog 24 2 2 := ⟨_, _, Tryz.underlying24, rfl, rfl, by kernel_rfl⟩
theorem RxI_fld_26_0 : FieldAt Tryz.prog 26 0 0 := ⟨_, _, Tryz.underlying26, rfl, rfl, by kernel_rfl⟩
theorem RxI_fld_26_1 : FieldAt Tryz.prog 26 1 3 := ⟨_, _, Tryz.underlying26, rfl, rfl, by kernel_rfl⟩
theorem RxI_isS_24 : IsS Tryz.prog 24 3 := ⟨⟨_, Tryz.underlying24⟩, by kernel_rfl⟩
theorem RxI_isS_26 : IsS Tryz.prog 26 6 := ⟨⟨_, Tryz.underlying26⟩, by kernel_rfl⟩
def sgL (b : Bool) : List UInt8 := if b then [45] else [43]
def unL (r : Nat) (t q : List Nat) : List UInt8 := if t = [1] ∧ q = [1] then [] else szL r t q
theorem imL_eq (r : Nat) (b : Bool) (t q : List Nat) : imL r b t q = sgL b ++ unL r t q := rfl
theorem sgL_len (b : Bool) : (sgL b).length = 1 := by cases b <;> rfl
theorem unL_len {r : Nat} (hr : RadN r) {t q : List Nat} (ht : Dig t) (hq : Dig q) : (unL r t q).length ≤ 40000 := by
 unfold unL
 split
 ·
  simp
 ·
  exact sz_max hr ht hq
theorem realL_len {r : Nat} (hr : RadN r) {b : Bool} {t q : List Nat} (ht : Dig t) (hq : Dig q) : (realL r b t q).length ≤ 40001 := by
 have h := sz_max hr ht hq
 unfold realL
 rw [List.length_append]
 cases b <;> simp <;> omega
theorem textT_any {w : World} {ao : Option Addr} {a : List Nat} {r : Nat} (ca : Nat) (ha : Rd w ao a) (la : a.length ≤ 9223372036854775807) (hr : RadN r) : Calls Tryz.prog 55 #[.slice ao a.length ca, .int .i64 ((r : Nat) : Int)] w fun e w' => e = .returned (.tuple #[.string (bsL (tD a r)), .int .i64 (textS a (r : Int)).2]) ∧ Below w.heap.size w w' := by
 rw [tD_bs]
 exact text_any ca _ ha la (by omega) (by rcases hr with h | h | h | h <;> subst h <;> decide)
theorem rtextT_any {w : World} {ao : Option Addr} {a : List Nat} {r : Nat} (ca : Nat) (ha : Sc w ao ca a) (la : a.length ≤ 9223372036854775807) (hr : RadN r) : Calls Tryz.prog 35 #[.slice ao a.length ca, .int .i64 ((r : Nat) : Int)] w fun e w' => e = .returned (.tuple #[.string (bsL (tD a r)), .int .i64 (textS a (r : Int)).2]) ∧ Below w.heap.size w w' := by
 rw [tD_bs]
 exact rtext_any ca _ ha.rd la ha.cap ha.nil (by omega) (by rcases hr with h | h | h | h <;> subst h <;> decide)
theorem im1 {r : Nat} {b : Bool} {t q : List Nat} (h : sameF b t q false [1] [1] = true) : imL r b t q = [43] := by
 unfold sameF at h
 simp at h
 obtain ⟨rfl, rfl, rfl⟩ : b = false ∧ t = [1] ∧ q = [1] := by cases b <;> simp_all
 rfl
theorem im2 {r : Nat} {b : Bool} {t q : List Nat} (h : sameF b t q true [1] [1] = true) : imL r b t q = [45] := by
 unfold sameF at h
 simp at h
 obtain ⟨rfl, rfl, rfl⟩ : b = true ∧ t = [1] ∧ q = [1] := by cases b <;> simp_all
 rfl
theorem im_not {b : Bool} {t q : List Nat} (h1 : sameF b t q false [1] [1] = false) (h2 : sameF b t q true [1] [1] = false) : ¬ (t = [1] ∧ q = [1]) := by
 rintro ⟨rfl, rfl⟩
 cases b
 ·
  exact absurd h1 (by decide)
 ·
  exact absurd h2 (by decide)
theorem im3 {r : Nat} {b : Bool} {t q : List Nat} (h1 : sameF b t q false [1] [1] = false) (h2 : sameF b t q true [1] [1] = false) (hb : b = true) : imL r b t q = realL r b t q := by
 unfold imL realL
 rw [if_neg (im_not h1 h2), hb]
 rfl
theorem im4 {r : Nat} {b : Bool} {t q : List Nat} (h1 : sameF b t q false [1] [1] = false) (h2 : sameF b t q true [1] [1] = false) (hb : b = false) : imL r b t q = [43] ++ realL r b t q := by
 unfold imL realL
 rw [if_neg (im_not h1 h2), hb]
 rfl
theorem sizeT_any {w : World} {b : Bool} {t q : List Nat} {r : Nat} {a1 a2 : Option Addr} {ac1 ac2 : Nat} (ha1 : Sc w a1 ac1 t) (ha2 : Sc w a2 ac2 q) (hr : RadN r) (l1 : t.length ≤ 9223372036854775807) (l2 : q.length ≤ 9223372036854775807) : Calls Tryz.prog 32 #[.agg #[.bool b, .slice a1 t.length ac1, .slice a2 q.length ac2], .int .i64 (((r : Nat) : Int))] w fun e w' => e = .returned (.string (bsL (szL r t q))) ∧ Below w.heap.size w w' := by
 have d1 := tD_max hr ha1.rd.dig
 have d2 := tD_max hr ha2.rd.dig
 have d3 := sz_max hr ha1.rd.dig ha2.rd.dig
 have hS : St w w [] [(a2, q), (a1, t)] [] := ((St.start w).addR ha1.rd).addR ha2.rd
 refine walk_of (l := [(0, .agg #[.bool b, .slice a1 t.length ac1, .slice a2 q.length ac2]), (1, .int .i64 (((r : Nat) : Int)))]) Tryz.func32 rfl Tryz.ntmps32 rfl rfl ?_
 intro Q hret hnorm hP a hA
 refine wp_seq_k (fun K1 hK1 => ?_)
 refine wp_region_lit ?_
 refine seq_new hA hS rfl rfl rfl (fun g => .pointer (some ⟨g, 0, none⟩)) (d_box rfl rfl) rfl ?_
 intro g2 w3 hS a hA
 refine seq_do hA rfl rfl rfl (d_assign rfl) fun a hA => ?_
 refine seq_end ?_
 refine hK1 _ _ ?_
 refine wp_seq_k (fun K4 hK4 => ?_)
 refine wp_region_lit ?_
 refine seq_do (v := .pointer (some ⟨g2, 1, none⟩)) hA rfl rfl rfl (d_field RxI_fld_24_1 rfl rfl) fun a hA => ?_
 refine seq_do hA rfl rfl rfl (d_load1 hS RxI_is1_22 rfl 0 rfl rfl) fun a hA => ?_
 refine mv hA rfl rfl rfl fun a hA => ?_
 refine seq_call hA rfl rfl rfl (enters_func  rfl rfl (fun w => by kernel_rfl)) (textT_any ac1 (hS.rd 1 rfl) l1 hr) ?_
 rintro _ w6 ⟨rfl, hb5⟩
 replace hS := hS.call hb5
 refine ⟨_, rfl, ?_⟩
 intro a hA
 refine mv hA rfl rfl rfl fun a hA => ?_
 refine seq_do (v := .string (bsL (tD t r))) hA rfl rfl rfl (d_extract (vs := [.string (bsL (tD t r)), .int .i64 ((textS t (r : Int)).2)]) rfl rfl) fun a hA => ?_
 refine seq_do (v := .int .i64 ((textS t (r : Int)).2)) hA rfl rfl rfl (d_extract (vs := [.string (bsL (tD t r)), .int .i64 ((textS t (r : Int)).2)]) rfl rfl) fun a hA => ?_
 refine seq_do hA rfl rfl rfl (d_assign rfl) fun a hA => ?_
 refine seq_do hA rfl rfl rfl (d_assign rfl) fun a hA => ?_
 refine seq_end ?_
 refine hK4 _ _ ?_
 refine wp_seq_k (fun K7 hK7 => ?_)
 refine wp_seq_k (fun K8 hK8 => ?_)
 refine wp_region_lit ?_
 refine seq_do (v := .pointer (some ⟨g2, 2, none⟩)) hA rfl rfl rfl (d_field RxI_fld_24_2 rfl rfl) fun a hA => ?_
 refine seq_do hA rfl rfl rfl (d_load1 hS RxI_is1_22 rfl 0 rfl rfl) fun a hA => ?_
 rcases Bool.eq_false_or_eq_true (decide (q = [1])) with hb9 | hb9
 ·
  have hb9' := of_decide_eq_true hb9
  refine seq_call hA rfl rfl rfl (enters_func  rfl rfl (fun w => by kernel_rfl)) (isOneQ_any _ (hS.rd 0 rfl) l2 hb9) ?_
  rintro _ w11 ⟨rfl, hb10⟩
  replace hb10 := below_eq hb10
  replace hS := hS.call hb10
  refine ⟨_, rfl, ?_⟩
  intro a hA
  refine seq_end ?_
  refine hK8 _ _ ?_
  refine wp_cond_true (hA.ev rfl) ?_
  refine wp_seq_k (fun K12 hK12 => ?_)
  refine wp_region_lit ?_
  refine mv hA rfl rfl rfl fun a hA => ?_
  refine seq_do hA rfl rfl rfl (d_assign rfl) fun a hA => ?_
  refine seq_end ?_
  refine hK12 _ _ ?_
  refine wp_ret ?_
  refine hret _ _ ?_
  refine ends (v := .string (bsL (tD t r))) hA rfl (.cons (res_tmp rfl) .nil) rfl ?_
  exact ⟨by rw [show szL r t q = tD t r from by unfold szL; rw [if_pos hb9']; simp], hS.bel⟩
 ·
  have hb9' := of_decide_eq_false hb9
  refine seq_call hA rfl rfl rfl (enters_func  rfl rfl (fun w => by kernel_rfl)) (isOneQ_any _ (hS.rd 0 rfl) l2 hb9) ?_
  rintro _ w14 ⟨rfl, hb13⟩
  replace hb13 := below_eq hb13
  replace hS := hS.call hb13
  refine ⟨_, rfl, ?_⟩
  intro a hA
  refine seq_end ?_
  refine hK8 _ _ ?_
  refine wp_cond_false (hA.ev rfl) ?_
  refine wp_skip ?_
  refine hK7 _ _ ?_
  refine wp_seq_k (fun K15 hK15 => ?_)
  refine wp_region_lit ?_
  refine seq_do (v := .pointer (some ⟨g2, 2, none⟩)) hA rfl rfl rfl (d_field RxI_fld_24_2 rfl rfl) fun a hA => ?_
  refine seq_do hA rfl rfl rfl (d_load1 hS RxI_is1_22 rfl 0 rfl rfl) fun a hA => ?_
  refine mv hA rfl rfl rfl fun a hA => ?_
  refine seq_call hA rfl rfl rfl (enters_func  rfl rfl (fun w => by kernel_rfl)) (textT_any ac2 (hS.rd 0 rfl) l2 hr) ?_
  rintro _ w17 ⟨rfl, hb16⟩
  replace hS := hS.call hb16
  refine ⟨_, rfl, ?_⟩
  intro a hA
  refine mv hA rfl rfl rfl fun a hA => ?_
  refine seq_do (v := .string (bsL (tD q r))) hA rfl rfl rfl (d_extract (vs := [.string (bsL (tD q r)), .int .i64 ((textS q (r : Int)).2)]) rfl rfl) fun a hA => ?_
  refine seq_do (v := .int .i64 ((textS q (r : Int)).2)) hA rfl rfl rfl (d_extract (vs := [.string (bsL (tD q r)), .int .i64 ((textS q (r : Int)).2)]) rfl rfl) fun a hA => ?_
  refine seq_do hA rfl rfl rfl (d_assign rfl) fun a hA => ?_
  refine seq_do hA rfl rfl rfl (d_assign rfl) fun a hA => ?_
  refine seq_end ?_
  refine hK15 _ _ ?_
  refine wp_seq_k (fun K18 hK18 => ?_)
  refine wp_region_lit ?_
  refine mv hA rfl rfl rfl fun a hA => ?_
  refine seq_do (v := .string (bsL (tD t r ++ ([47])))) hA rfl rfl rfl (d_bin rfl rfl (bin_addT (a := tD t r) (b := [47]) (by first | omega | (simp only [List.length_append, List.length_cons, List.length_nil]; omega)))) fun a hA => ?_
  refine mv hA rfl rfl rfl fun a hA => ?_
  refine seq_do (v := .string (bsL (tD t r ++ ([47]) ++ (tD q r)))) hA rfl rfl rfl (d_bin rfl rfl (bin_addT (a := tD t r ++ ([47])) (b := tD q r) (by first | omega | (simp only [List.length_append, List.length_cons, List.length_nil]; omega)))) fun a hA => ?_
  refine seq_do hA rfl rfl rfl (d_assign rfl) fun a hA => ?_
  refine seq_end ?_
  refine hK18 _ _ ?_
  refine wp_ret ?_
  refine hret _ _ ?_
  refine ends (v := .string (bsL (tD t r ++ ([47]) ++ (tD q r)))) hA rfl (.cons (res_tmp rfl) .nil) rfl ?_
  exact ⟨by rw [show szL r t q = tD t r ++ ([47]) ++ (tD q r) from by unfold szL; rw [if_neg hb9']; simp], hS.bel⟩
theorem realT_any {w : World} {b : Bool} {t q : List Nat} {r : Nat} {a1 a2 : Option Addr} {ac1 ac2 : Nat} (ha1 : Sc w a1 ac1 t) (ha2 : Sc w a2 ac2 q) (hr : RadN r) (l1 : t.length ≤ 9223372036854775807) (l2 : q.length ≤ 9223372036854775807) : Calls Tryz.prog 15 #[.agg #[.bool b, .slice a1 t.length ac1, .slice a2 q.length ac2], .int .i64 (((r : Nat) : Int))] w fun e w' => e = .returned (.string (bsL (realL r b t q))) ∧ Below w.heap.size w w' := by
 have d1 := tD_max hr ha1.rd.dig
 have d2 := tD_max hr ha2.rd.dig
 have d3 := sz_max hr ha1.rd.dig ha2.rd.dig
 have hS : St w w [] [(a2, q), (a1, t)] [] := ((St.start w).addR ha1.rd).addR ha2.rd
 refine walk_of (l := [(0, .agg #[.bool b, .slice a1 t.length ac1, .slice a2 q.length ac2]), (1, .int .i64 (((r : Nat) : Int)))]) Tryz.func15 rfl Tryz.ntmps15 rfl rfl ?_
 intro Q hret hnorm hP a hA
 refine wp_seq_k (fun K1 hK1 => ?_)
 refine wp_region_lit ?_
 refine seq_new hA hS rfl rfl rfl (fun g => .pointer (some ⟨g, 0, none⟩)) (d_box rfl rfl) rfl ?_
 intro g2 w3 hS a hA
 refine seq_do hA rfl rfl rfl (d_assign rfl) fun a hA => ?_
 refine seq_end ?_
 refine hK1 _ _ ?_
 refine wp_seq_k (fun K4 hK4 => ?_)
 refine wp_seq_k (fun K5 hK5 => ?_)
 refine wp_region_lit ?_
 refine seq_do (v := .pointer (some ⟨g2, 0, none⟩)) hA rfl rfl rfl (d_field RxI_fld_24_0 rfl rfl) fun a hA => ?_
 refine seq_do hA rfl rfl rfl (d_load1 hS RxI_is1_4 rfl 0 rfl rfl) fun a hA => ?_
 refine seq_end ?_
 refine hK5 _ _ ?_
 refine wp_cond_split (t := b) (hA.ev rfl) (fun hc6 => ?_) (fun hc6 => ?_)
 ·
  refine wp_seq_k (fun K7 hK7 => ?_)
  refine wp_region_lit ?_
  refine seq_do hA rfl rfl rfl (d_loadS hS RxI_isS_24 rfl 0 rfl (cs := [.bool b, .slice a1 t.length ac1, .slice a2 q.length ac2]) rfl rfl) fun a hA => ?_
  refine mv hA rfl rfl rfl fun a hA => ?_
  refine seq_call hA rfl rfl rfl (enters_func  rfl rfl (fun w => by kernel_rfl)) (sizeT_any ⟨(hS.rd 1 rfl), ha1.nil, ha1.cap⟩ ⟨(hS.rd 0 rfl), ha2.nil, ha2.cap⟩ hr l1 l2) ?_
  rintro _ w9 ⟨rfl, hb8⟩
  replace hS := hS.call hb8
  refine ⟨_, rfl, ?_⟩
  intro a hA
  refine seq_do (v := .string (bsL ([45] ++ (szL r t q)))) hA rfl rfl rfl (d_bin rfl rfl (bin_addT (a := [45]) (b := szL r t q) (by first | omega | (simp only [List.length_append, List.length_cons, List.length_nil]; omega)))) fun a hA => ?_
  refine seq_do hA rfl rfl rfl (d_assign rfl) fun a hA => ?_
  refine seq_end ?_
  refine hK7 _ _ ?_
  refine wp_ret ?_
  refine hret _ _ ?_
  refine ends (v := .string (bsL ([45] ++ (szL r t q)))) hA rfl (.cons (res_tmp rfl) .nil) rfl ?_
  exact ⟨by rw [show realL r b t q = [45] ++ (szL r t q) from by unfold realL; rw [hc6]; rfl], hS.bel⟩
 ·
  refine wp_skip ?_
  refine hK4 _ _ ?_
  refine wp_seq_k (fun K10 hK10 => ?_)
  refine wp_region_lit ?_
  refine seq_do hA rfl rfl rfl (d_loadS hS RxI_isS_24 rfl 0 rfl (cs := [.bool b, .slice a1 t.length ac1, .slice a2 q.length ac2]) rfl rfl) fun a hA => ?_
  refine mv hA rfl rfl rfl fun a hA => ?_
  refine seq_call hA rfl rfl rfl (enters_func  rfl rfl (fun w => by kernel_rfl)) (sizeT_any ⟨(hS.rd 1 rfl), ha1.nil, ha1.cap⟩ ⟨(hS.rd 0 rfl), ha2.nil, ha2.cap⟩ hr l1 l2) ?_
  rintro _ w12 ⟨rfl, hb11⟩
  replace hS := hS.call hb11
  refine ⟨_, rfl, ?_⟩
  intro a hA
  refine seq_do hA rfl rfl rfl (d_assign rfl) fun a hA => ?_
  refine seq_end ?_
  refine hK10 _ _ ?_
  refine wp_ret ?_
  refine hret _ _ ?_
  refine ends (v := .string (bsL (szL r t q))) hA rfl (.cons (res_tmp rfl) .nil) rfl ?_
  exact ⟨by rw [show realL r b t q = szL r t q from by unfold realL; rw [hc6]; rfl], hS.bel⟩
theorem signOf_any {w : World} {b : Bool} {t q : List Nat} {r : Nat} {a1 a2 : Option Addr} {ac1 ac2 : Nat} (ha1 : Sc w a1 ac1 t) (ha2 : Sc w a2 ac2 q) (hr : RadN r) (l1 : t.length ≤ 9223372036854775807) (l2 : q.length ≤ 9223372036854775807) : Calls Tryz.prog 16 #[.agg #[.bool b, .slice a1 t.length ac1, .slice a2 q.length ac2]] w fun e w' => e = .returned (.string (bsL (sgL b))) ∧ Below w.heap.size w w' := by
 have hS : St w w [] [(a2, q), (a1, t)] [] := ((St.start w).addR ha1.rd).addR ha2.rd
 refine walk_of (l := [(0, .agg #[.bool b, .slice a1 t.length ac1, .slice a2 q.length ac2])]) Tryz.func16 rfl Tryz.ntmps16 rfl rfl ?_
 intro Q hret hnorm hP a hA
 refine wp_seq_k (fun K1 hK1 => ?_)
 refine wp_region_lit ?_
 refine seq_new hA hS rfl rfl rfl (fun g => .pointer (some ⟨g, 0, none⟩)) (d_box rfl rfl) rfl ?_
 intro g2 w3 hS a hA
 refine seq_do hA rfl rfl rfl (d_assign rfl) fun a hA => ?_
 refine seq_end ?_
 refine hK1 _ _ ?_
 refine wp_seq_k (fun K4 hK4 => ?_)
 refine wp_seq_k (fun K5 hK5 => ?_)
 refine wp_region_lit ?_
 refine seq_do (v := .pointer (some ⟨g2, 0, none⟩)) hA rfl rfl rfl (d_field RxI_fld_24_0 rfl rfl) fun a hA => ?_
 refine seq_do hA rfl rfl rfl (d_load1 hS RxI_is1_4 rfl 0 rfl rfl) fun a hA => ?_
 refine seq_end ?_
 refine hK5 _ _ ?_
 refine wp_cond_split (t := b) (hA.ev rfl) (fun hc6 => ?_) (fun hc6 => ?_)
 ·
  refine wp_seq_k (fun K7 hK7 => ?_)
  refine wp_region_lit ?_
  refine seq_do hA rfl rfl rfl (d_assign rfl) fun a hA => ?_
  refine seq_end ?_
  refine hK7 _ _ ?_
  refine wp_ret ?_
  refine hret _ _ ?_
  refine ends (v := .string (bsL [45])) hA rfl (.cons (res_tmp rfl) .nil) rfl ?_
  exact ⟨by rw [show sgL b = [45] from by unfold sgL; rw [hc6]; rfl], hS.bel⟩
 ·
  refine wp_skip ?_
  refine hK4 _ _ ?_
  refine wp_seq_k (fun K8 hK8 => ?_)
  refine wp_region_lit ?_
  refine seq_do hA rfl rfl rfl (d_assign rfl) fun a hA => ?_
  refine seq_end ?_
  refine hK8 _ _ ?_
  refine wp_ret ?_
  refine hret _ _ ?_
  refine ends (v := .string (bsL [43])) hA rfl (.cons (res_tmp rfl) .nil) rfl ?_
  exact ⟨by rw [show sgL b = [43] from by unfold sgL; rw [hc6]; rfl], hS.bel⟩
theorem unless_any {w : World} {b : Bool} {t q : List Nat} {r : Nat} {a1 a2 : Option Addr} {ac1 ac2 : Nat} (ha1 : Sc w a1 ac1 t) (ha2 : Sc w a2 ac2 q) (hr : RadN r) (l1 : t.length ≤ 9223372036854775807) (l2 : q.length ≤ 9223372036854775807) : Calls Tryz.prog 17 #[.agg #[.bool b, .slice a1 t.length ac1, .slice a2 q.length ac2], .int .i64 (((r : Nat) : Int))] w fun e w' => e = .returned (.string (bsL (unL r t q))) ∧ Below w.heap.size w w' := by
 have d1 := tD_max hr ha1.rd.dig
 have d2 := tD_max hr ha2.rd.dig
 have d3 := sz_max hr ha1.rd.dig ha2.rd.dig
 have hS : St w w [] [(a2, q), (a1, t)] [] := ((St.start w).addR ha1.rd).addR ha2.rd
 refine walk_of (l := [(0, .agg #[.bool b, .slice a1 t.length ac1, .slice a2 q.length ac2]), (1, .int .i64 (((r : Nat) : Int)))]) Tryz.func17 rfl Tryz.ntmps17 rfl rfl ?_
 intro Q hret hnorm hP a hA
 refine wp_seq_k (fun K1 hK1 => ?_)
 refine wp_region_lit ?_
 refine seq_new hA hS rfl rfl rfl (fun g => .pointer (some ⟨g, 0, none⟩)) (d_box rfl rfl) rfl ?_
 intro g2 w3 hS a hA
 refine seq_do hA rfl rfl rfl (d_assign rfl) fun a hA => ?_
 refine seq_end ?_
 refine hK1 _ _ ?_
 refine wp_seq_k (fun K4 hK4 => ?_)
 refine wp_seq_k (fun K5 hK5 => ?_)
 refine wp_region_lit ?_
 refine seq_do (v := .pointer (some ⟨g2, 1, none⟩)) hA rfl rfl rfl (d_field RxI_fld_24_1 rfl rfl) fun a hA => ?_
 refine seq_do hA rfl rfl rfl (d_load1 hS RxI_is1_22 rfl 0 rfl rfl) fun a hA => ?_
 rcases Bool.eq_false_or_eq_true (decide (t = [1])) with hb6 | hb6
 ·
  have hb6' := of_decide_eq_true hb6
  refine seq_call hA rfl rfl rfl (enters_func  rfl rfl (fun w => by kernel_rfl)) (isOneQ_any _ (hS.rd 1 rfl) l1 hb6) ?_
  rintro _ w8 ⟨rfl, hb7⟩
  replace hb7 := below_eq hb7
  replace hS := hS.call hb7
  refine ⟨_, rfl, ?_⟩
  intro a hA
  refine mv hA rfl rfl rfl fun a hA => ?_
  refine seq_do (v := .pointer (some ⟨g2, 2, none⟩)) hA rfl rfl rfl (d_field RxI_fld_24_2 rfl rfl) fun a hA => ?_
  refine seq_do hA rfl rfl rfl (d_load1 hS RxI_is1_22 rfl 0 rfl rfl) fun a hA => ?_
  rcases Bool.eq_false_or_eq_true (decide (q = [1])) with hb9 | hb9
  ·
   have hb9' := of_decide_eq_true hb9
   refine seq_call hA rfl rfl rfl (enters_func  rfl rfl (fun w => by kernel_rfl)) (isOneQ_any _ (hS.rd 0 rfl) l2 hb9) ?_
   rintro _ w11 ⟨rfl, hb10⟩
   replace hb10 := below_eq hb10
   replace hS := hS.call hb10
   refine ⟨_, rfl, ?_⟩
   intro a hA
   refine seq_do (v := .bool true) hA rfl rfl rfl (d_pick rfl rfl rfl rfl) fun a hA => ?_
   refine seq_end ?_
   refine hK5 _ _ ?_
   refine wp_cond_true (hA.ev rfl) ?_
   refine wp_seq_k (fun K12 hK12 => ?_)
   refine wp_region_lit ?_
   refine seq_do hA rfl rfl rfl (d_assign rfl) fun a hA => ?_
   refine seq_end ?_
   refine hK12 _ _ ?_
   refine wp_ret ?_
   refine hret _ _ ?_
   refine ends (v := .string (bsL [])) hA rfl (.cons (res_tmp rfl) .nil) rfl ?_
   exact ⟨by rw [show unL r t q = [] from by unfold unL; simp [hb6', hb9']], hS.bel⟩
  ·
   have hb9' := of_decide_eq_false hb9
   refine seq_call hA rfl rfl rfl (enters_func  rfl rfl (fun w => by kernel_rfl)) (isOneQ_any _ (hS.rd 0 rfl) l2 hb9) ?_
   rintro _ w14 ⟨rfl, hb13⟩
   replace hb13 := below_eq hb13
   replace hS := hS.call hb13
   refine ⟨_, rfl, ?_⟩
   intro a hA
   refine seq_do (v := .bool false) hA rfl rfl rfl (d_pick rfl rfl rfl rfl) fun a hA => ?_
   refine seq_end ?_
   refine hK5 _ _ ?_
   refine wp_cond_false (hA.ev rfl) ?_
   refine wp_skip ?_
   refine hK4 _ _ ?_
   refine wp_seq_k (fun K15 hK15 => ?_)
   refine wp_region_lit ?_
   refine seq_do hA rfl rfl rfl (d_loadS hS RxI_isS_24 rfl 0 rfl (cs := [.bool b, .slice a1 t.length ac1, .slice a2 q.length ac2]) rfl rfl) fun a hA => ?_
   refine mv hA rfl rfl rfl fun a hA => ?_
   refine seq_call hA rfl rfl rfl (enters_func  rfl rfl (fun w => by kernel_rfl)) (sizeT_any ⟨(hS.rd 1 rfl), ha1.nil, ha1.cap⟩ ⟨(hS.rd 0 rfl), ha2.nil, ha2.cap⟩ hr l1 l2) ?_
   rintro _ w17 ⟨rfl, hb16⟩
   replace hS := hS.call hb16
   refine ⟨_, rfl, ?_⟩
   intro a hA
   refine seq_do hA rfl rfl rfl (d_assign rfl) fun a hA => ?_
   refine seq_end ?_
   refine hK15 _ _ ?_
   refine wp_ret ?_
   refine hret _ _ ?_
   refine ends (v := .string (bsL (szL r t q))) hA rfl (.cons (res_tmp rfl) .nil) rfl ?_
   exact ⟨by rw [show unL r t q = szL r t q from by unfold unL; simp [hb6', hb9']], hS.bel⟩
 ·
  have hb6' := of_decide_eq_false hb6
  refine seq_call hA rfl rfl rfl (enters_func  rfl rfl (fun w => by kernel_rfl)) (isOneQ_any _ (hS.rd 1 rfl) l1 hb6) ?_
  rintro _ w19 ⟨rfl, hb18⟩
  replace hb18 := below_eq hb18
  replace hS := hS.call hb18
  refine ⟨_, rfl, ?_⟩
  intro a hA
  refine mv hA rfl rfl rfl fun a hA => ?_
  refine seq_skip hA rfl rfl rfl fun a hA => ?_
  refine seq_skip hA rfl rfl rfl fun a hA => ?_
  refine seq_skip hA rfl rfl rfl fun a hA => ?_
  refine seq_do (v := .bool false) hA rfl rfl rfl (d_pick rfl rfl rfl rfl) fun a hA => ?_
  refine seq_end ?_
  refine hK5 _ _ ?_
  refine wp_cond_false (hA.ev rfl) ?_
  refine wp_skip ?_
  refine hK4 _ _ ?_
  refine wp_seq_k (fun K20 hK20 => ?_)
  refine wp_region_lit ?_
  refine seq_do hA rfl rfl rfl (d_loadS hS RxI_isS_24 rfl 0 rfl (cs := [.bool b, .slice a1 t.length ac1, .slice a2 q.length ac2]) rfl rfl) fun a hA => ?_
  refine mv hA rfl rfl rfl fun a hA => ?_
  refine seq_call hA rfl rfl rfl (enters_func  rfl rfl (fun w => by kernel_rfl)) (sizeT_any ⟨(hS.rd 1 rfl), ha1.nil, ha1.cap⟩ ⟨(hS.rd 0 rfl), ha2.nil, ha2.cap⟩ hr l1 l2) ?_
  rintro _ w22 ⟨rfl, hb21⟩
  replace hS := hS.call hb21
  refine ⟨_, rfl, ?_⟩
  intro a hA
  refine seq_do hA rfl rfl rfl (d_assign rfl) fun a hA => ?_
  refine seq_end ?_
  refine hK20 _ _ ?_
  refine wp_ret ?_
  refine hret _ _ ?_
  refine ends (v := .string (bsL (szL r t q))) hA rfl (.cons (res_tmp rfl) .nil) rfl ?_
  exact ⟨by rw [show unL r t q = szL r t q from by unfold unL; simp [hb6']], hS.bel⟩
theorem textP_rad {w : World} {q : Q6} {a1 a2 a3 a4 : Option Addr} {ac1 ac2 ac3 ac4 : Nat} (ha : Nm w q a1 ac1 a2 ac2 a3 ac3 a4 ac4) (hl : LenQ q) {r : Nat} (hr : RadN r) (hs : soundQ q = true) : Calls Tryz.prog 5 #[numV q a1 ac1 a2 ac2 a3 ac3 a4 ac4, .int .i64 (((r : Nat) : Int))] w fun e w' => e = .returned (.tuple #[.string (bsL (textL r q)), .int .i64 0]) ∧ Below w.heap.size w w' := by
 have d1 := realL_len hr (b := q.b1) ha.s1.rd.dig ha.s2.rd.dig
 have d2 := realL_len hr (b := q.b2) ha.s3.rd.dig ha.s4.rd.dig
 have d3 := sgL_len q.b2
 have d4 := unL_len hr ha.s3.rd.dig ha.s4.rd.dig
 have hS : St w w [] [(a4, q.q2), (a3, q.t2), (a2, q.q1), (a1, q.t1)] [] := ((((St.start w).addR ha.s1.rd).addR ha.s2.rd).addR ha.s3.rd).addR ha.s4.rd
 refine walk_of (l := [(0, .agg #[.bool q.b1, .slice a1 q.t1.length ac1, .slice a2 q.q1.length ac2, .bool q.b2, .slice a3 q.t2.length ac3, .slice a4 q.q2.length ac4]), (1, .int .i64 (((r : Nat) : Int)))]) Tryz.func5 rfl Tryz.ntmps5 rfl rfl ?_
 intro Q hret hnorm hP a hA
 refine wp_seq_k (fun K1 hK1 => ?_)
 refine wp_region_lit ?_
 refine seq_new hA hS rfl rfl rfl (fun g => .pointer (some ⟨g, 0, none⟩)) (d_box rfl rfl) rfl ?_
 intro g2 w3 hS a hA
 refine seq_do hA rfl rfl rfl (d_assign rfl) fun a hA => ?_
 refine seq_do hA rfl rfl rfl (d_assign rfl) fun a hA => ?_
 refine seq_end ?_
 refine hK1 _ _ ?_
 refine wp_seq_k (fun K4 hK4 => ?_)
 refine wp_seq_k (fun K5 hK5 => ?_)
 refine wp_region_lit ?_
 refine seq_do hA rfl rfl rfl (d_loadS hS RxI_isS_26 rfl 0 rfl (cs := [.bool q.b1, .slice a1 q.t1.length ac1, .slice a2 q.q1.length ac2, .bool q.b2, .slice a3 q.t2.length ac3, .slice a4 q.q2.length ac4]) rfl rfl) fun a hA => ?_
 refine seq_call hA rfl rfl rfl (enters_func  rfl rfl (fun w => by kernel_rfl)) (soundQ_any (show Nm _ _ a1 ac1 a2 ac2 a3 ac3 a4 ac4 from ⟨⟨(hS.rd 3 rfl), ha.s1.nil, ha.s1.cap⟩, ⟨(hS.rd 2 rfl), ha.s2.nil, ha.s2.cap⟩, ⟨(hS.rd 1 rfl), ha.s3.nil, ha.s3.cap⟩, ⟨(hS.rd 0 rfl), ha.s4.nil, ha.s4.cap⟩⟩) hl hs) ?_
 rintro _ w7 ⟨rfl, hb6⟩
 replace hS := hS.call hb6
 refine ⟨_, rfl, ?_⟩
 intro a hA
 refine seq_do (v := .bool false) hA rfl rfl rfl (d_un rfl un_not) fun a hA => ?_
 refine seq_end ?_
 refine hK5 _ _ ?_
 refine wp_cond_false (hA.ev rfl) ?_
 refine wp_skip ?_
 refine hK4 _ _ ?_
 refine wp_seq_k (fun K8 hK8 => ?_)
 refine wp_seq_k (fun K9 hK9 => ?_)
 refine wp_region_lit ?_
 refine mv hA rfl rfl rfl fun a hA => ?_
 refine seq_call hA rfl rfl rfl (enters_func  rfl rfl (fun w => by kernel_rfl)) (isRadixX_any (radixB_rad hr)) ?_
 rintro _ w11 ⟨rfl, hb10⟩
 replace hS := hS.call hb10
 refine ⟨_, rfl, ?_⟩
 intro a hA
 refine seq_do (v := .bool false) hA rfl rfl rfl (d_un rfl un_not) fun a hA => ?_
 refine seq_end ?_
 refine hK9 _ _ ?_
 refine wp_cond_false (hA.ev rfl) ?_
 refine wp_skip ?_
 refine hK8 _ _ ?_
 refine wp_seq_k (fun K12 hK12 => ?_)
 refine wp_seq_k (fun K13 hK13 => ?_)
 refine wp_region_lit ?_
 refine seq_do hA rfl rfl rfl (d_loadS hS RxI_isS_26 rfl 0 rfl (cs := [.bool q.b1, .slice a1 q.t1.length ac1, .slice a2 q.q1.length ac2, .bool q.b2, .slice a3 q.t2.length ac3, .slice a4 q.q2.length ac4]) rfl rfl) fun a hA => ?_
 rcases Bool.eq_false_or_eq_true (decide (q.t2.length = 0)) with hb14 | hb14
 ·
  have hb14' := of_decide_eq_true hb14
  refine seq_call hA rfl rfl rfl (enters_func  rfl rfl (fun w => by kernel_rfl)) (isRealQ_any hl hb14) ?_
  rintro _ w16 ⟨rfl, hb15⟩
  replace hS := hS.call hb15
  refine ⟨_, rfl, ?_⟩
  intro a hA
  refine seq_end ?_
  refine hK13 _ _ ?_
  refine wp_cond_true (hA.ev rfl) ?_
  refine wp_seq_k (fun K17 hK17 => ?_)
  refine wp_region_lit ?_
  refine seq_do (v := .pointer (some ⟨g2, 0, none⟩)) hA rfl rfl rfl (d_field RxI_fld_26_0 rfl rfl) fun a hA => ?_
  refine seq_do hA rfl rfl rfl (d_loadS hS RxI_isS_24 rfl 0 rfl (cs := [.bool q.b1, .slice a1 q.t1.length ac1, .slice a2 q.q1.length ac2]) rfl rfl) fun a hA => ?_
  refine mv hA rfl rfl rfl fun a hA => ?_
  refine seq_call hA rfl rfl rfl (enters_func  rfl rfl (fun w => by kernel_rfl)) (realT_any (b := q.b1) (t := q.t1) (q := q.q1) (r := r) ⟨(hS.rd 3 rfl), ha.s1.nil, ha.s1.cap⟩ ⟨(hS.rd 2 rfl), ha.s2.nil, ha.s2.cap⟩ hr hl.l1 hl.l2) ?_
  rintro _ w19 ⟨rfl, hb18⟩
  replace hS := hS.call hb18
  refine ⟨_, rfl, ?_⟩
  intro a hA
  refine seq_do hA rfl rfl rfl (d_assign rfl) fun a hA => ?_
  refine seq_do hA rfl rfl rfl (d_assign rfl) fun a hA => ?_
  refine seq_end ?_
  refine hK17 _ _ ?_
  refine wp_ret ?_
  refine hret _ _ ?_
  refine ends (v := .tuple #[.string (bsL (realL r q.b1 q.t1 q.q1)), .int .i64 0]) hA rfl (.cons (res_tmp rfl) (.cons (res_tmp rfl) .nil)) rfl ?_
  exact ⟨by rw [show textL r q = realL r q.b1 q.t1 q.q1 from by unfold textL; rw [if_pos hb14']], hS.bel⟩
 ·
  have hb14' := of_decide_eq_false hb14
  refine seq_call hA rfl rfl rfl (enters_func  rfl rfl (fun w => by kernel_rfl)) (isRealQ_any hl hb14) ?_
  rintro _ w21 ⟨rfl, hb20⟩
  replace hS := hS.call hb20
  refine ⟨_, rfl, ?_⟩
  intro a hA
  refine seq_end ?_
  refine hK13 _ _ ?_
  refine wp_cond_false (hA.ev rfl) ?_
  refine wp_skip ?_
  refine hK12 _ _ ?_
  refine wp_seq_k (fun K22 hK22 => ?_)
  refine wp_draw (S := fun w1 => St w w1 [(g2, [.bool q.b1, .slice a1 q.t1.length ac1, .slice a2 q.q1.length ac2, .bool q.b2, .slice a3 q.t2.length ac3, .slice a4 q.q2.length ac4])] [(a4, q.q2), (a3, q.t2), (a2, q.q1), (a1, q.t1)] []) (by kernel_rfl) ?_
  replace hS := hS.drew
  refine any_tk (v := .pointer (some ⟨g2, 3, none⟩)) hA 0 rfl rfl rfl rfl hP hS (fun w1 hS => d_field RxI_fld_26_1 rfl rfl) fun a hA => ?_
  refine any_tk hA 1 rfl rfl rfl rfl hP hS (fun w1 hS => d_loadS hS RxI_isS_24 rfl 0 rfl (cs := [.bool q.b2, .slice a3 q.t2.length ac3, .slice a4 q.q2.length ac4]) rfl rfl) fun a hA => ?_
  refine any_tk (v := .pointer (some ⟨g2, 3, none⟩)) hA 3 rfl rfl rfl rfl hP hS (fun w1 hS => d_field RxI_fld_26_1 rfl rfl) fun a hA => ?_
  refine any_tk hA 4 rfl rfl rfl rfl hP hS (fun w1 hS => d_loadS hS RxI_isS_24 rfl 0 rfl (cs := [.bool q.b2, .slice a3 q.t2.length ac3, .slice a4 q.q2.length ac4]) rfl rfl) fun a hA => ?_
  refine any_tk hA 5 rfl rfl rfl rfl hP hS (fun w1 hS => d_move rfl) fun a hA => ?_
  refine any_one (by kernel_rfl) (op_call hA 2 rfl rfl rfl rfl (enters_func  rfl rfl (fun w => by kernel_rfl)) (signOf_any (b := q.b2) (t := q.t2) (q := q.q2) (r := r) ⟨(hS.rd 1 rfl), ha.s3.nil, ha.s3.cap⟩ ⟨(hS.rd 0 rfl), ha.s4.nil, ha.s4.cap⟩ hr hl.l3 hl.l4) ?_)
  rintro _ w24 ⟨rfl, hb23⟩
  replace hS := hS.call hb23
  refine ⟨_, rfl, hS, ?_⟩
  intro a hA
  refine any_one (by kernel_rfl) (op_call hA 6 rfl rfl rfl rfl (enters_func  rfl rfl (fun w => by kernel_rfl)) (unless_any (b := q.b2) (t := q.t2) (q := q.q2) (r := r) ⟨(hS.rd 1 rfl), ha.s3.nil, ha.s3.cap⟩ ⟨(hS.rd 0 rfl), ha.s4.nil, ha.s4.cap⟩ hr hl.l3 hl.l4) ?_)
  rintro _ w26 ⟨rfl, hb25⟩
  replace hS := hS.call hb25
  refine ⟨_, rfl, hS, ?_⟩
  intro a hA
  refine any_tk (v := .string (bsL (sgL q.b2 ++ (unL r q.t2 q.q2)))) hA 7 rfl rfl rfl rfl hP hS (fun w1 hS => d_bin rfl rfl (bin_addT (a := sgL q.b2) (b := unL r q.t2 q.q2) (by first | omega | (simp only [List.length_append, List.length_cons, List.length_nil]; omega)))) fun a hA => ?_
  refine any_tk (v := .string (bsL (sgL q.b2 ++ (unL r q.t2 q.q2) ++ ([105])))) hA 8 rfl rfl rfl rfl hP hS (fun w1 hS => d_bin rfl rfl (bin_addT (a := sgL q.b2 ++ (unL r q.t2 q.q2)) (b := [105]) (by first | omega | (simp only [List.length_append, List.length_cons, List.length_nil]; omega)))) fun a hA => ?_
  refine any_tk hA 9 rfl rfl rfl rfl hP hS (fun w1 hS => d_assign rfl) fun a hA => ?_
  refine any_end (by kernel_rfl) ?_
  refine hK22 _ _ ?_
  refine wp_seq_k (fun K27 hK27 => ?_)
  refine wp_seq_k (fun K28 hK28 => ?_)
  refine wp_region_lit ?_
  refine seq_do (v := .pointer (some ⟨g2, 0, none⟩)) hA rfl rfl rfl (d_field RxI_fld_26_0 rfl rfl) fun a hA => ?_
  refine seq_do (v := .pointer (some ⟨g2, 1, none⟩)) hA rfl rfl rfl (d_field RxI_fld_24_1 rfl rfl) fun a hA => ?_
  refine seq_do hA rfl rfl rfl (d_load1 hS RxI_is1_22 rfl 0 rfl rfl) fun a hA => ?_
  refine seq_do (v := .int .i64 (((q.t1.length : Nat) : Int))) hA rfl rfl rfl (d_len Tryz.underlying22 rfl) fun a hA => ?_
  rcases Bool.eq_false_or_eq_true ((((q.t1.length : Nat) : Int) == 0)) with hb29 | hb29
  ·
   have hb29' := eq_of_beq hb29
   refine seq_do (v := .bool true) hA rfl rfl rfl (d_bin rfl rfl (fun w => (bin_eql w).trans (by rw [hb29]))) fun a hA => ?_
   refine seq_end ?_
   refine hK28 _ _ ?_
   refine wp_cond_true (hA.ev rfl) ?_
   refine wp_seq_k (fun K30 hK30 => ?_)
   refine wp_region_lit ?_
   refine mv hA rfl rfl rfl fun a hA => ?_
   refine seq_do hA rfl rfl rfl (d_assign rfl) fun a hA => ?_
   refine seq_do hA rfl rfl rfl (d_assign rfl) fun a hA => ?_
   refine seq_end ?_
   refine hK30 _ _ ?_
   refine wp_ret ?_
   refine hret _ _ ?_
   refine ends (v := .tuple #[.string (bsL (sgL q.b2 ++ (unL r q.t2 q.q2) ++ ([105]))), .int .i64 0]) hA rfl (.cons (res_tmp rfl) (.cons (res_tmp rfl) .nil)) rfl ?_
   exact ⟨by rw [show textL r q = sgL q.b2 ++ (unL r q.t2 q.q2) ++ ([105]) from by unfold textL; rw [if_neg hb14', if_pos (show q.t1.length = 0 from by omega)]; first | rfl | simp only [List.nil_append, imL_eq]], hS.bel⟩
  ·
   have hb29' := ne_of_beq_false hb29
   refine seq_do (v := .bool false) hA rfl rfl rfl (d_bin rfl rfl (fun w => (bin_eql w).trans (by rw [hb29]))) fun a hA => ?_
   refine seq_end ?_
   refine hK28 _ _ ?_
   refine wp_cond_false (hA.ev rfl) ?_
   refine wp_skip ?_
   refine hK27 _ _ ?_
   refine wp_seq_k (fun K31 hK31 => ?_)
   refine wp_region_lit ?_
   refine seq_do (v := .pointer (some ⟨g2, 0, none⟩)) hA rfl rfl rfl (d_field RxI_fld_26_0 rfl rfl) fun a hA => ?_
   refine seq_do hA rfl rfl rfl (d_loadS hS RxI_isS_24 rfl 0 rfl (cs := [.bool q.b1, .slice a1 q.t1.length ac1, .slice a2 q.q1.length ac2]) rfl rfl) fun a hA => ?_
   refine mv hA rfl rfl rfl fun a hA => ?_
   refine seq_call hA rfl rfl rfl (enters_func  rfl rfl (fun w => by kernel_rfl)) (realT_any (b := q.b1) (t := q.t1) (q := q.q1) (r := r) ⟨(hS.rd 3 rfl), ha.s1.nil, ha.s1.cap⟩ ⟨(hS.rd 2 rfl), ha.s2.nil, ha.s2.cap⟩ hr hl.l1 hl.l2) ?_
   rintro _ w33 ⟨rfl, hb32⟩
   replace hS := hS.call hb32
   refine ⟨_, rfl, ?_⟩
   intro a hA
   refine mv hA rfl rfl rfl fun a hA => ?_
   refine seq_do (v := .string (bsL (realL r q.b1 q.t1 q.q1 ++ (sgL q.b2 ++ (unL r q.t2 q.q2) ++ ([105]))))) hA rfl rfl rfl (d_bin rfl rfl (bin_addT (a := realL r q.b1 q.t1 q.q1) (b := sgL q.b2 ++ (unL r q.t2 q.q2) ++ ([105])) (by first | omega | (simp only [List.length_append, List.length_cons, List.length_nil]; omega)))) fun a hA => ?_
   refine seq_do hA rfl rfl rfl (d_assign rfl) fun a hA => ?_
   refine seq_do hA rfl rfl rfl (d_assign rfl) fun a hA => ?_
   refine seq_end ?_
   refine hK31 _ _ ?_
   refine wp_ret ?_
   refine hret _ _ ?_
   refine ends (v := .tuple #[.string (bsL (realL r q.b1 q.t1 q.q1 ++ (sgL q.b2 ++ (unL r q.t2 q.q2) ++ ([105])))), .int .i64 0]) hA rfl (.cons (res_tmp rfl) (.cons (res_tmp rfl) .nil)) rfl ?_
   exact ⟨by rw [show textL r q = realL r q.b1 q.t1 q.q1 ++ (sgL q.b2 ++ (unL r q.t2 q.q2) ++ ([105])) from by unfold textL; rw [if_neg hb14', if_neg (show ¬ q.t1.length = 0 from by omega)]; first | rfl | simp only [List.nil_append, imL_eq]], hS.bel⟩
theorem textP_form {w : World} {q : Q6} {a1 a2 a3 a4 : Option Addr} {ac1 ac2 ac3 ac4 : Nat} (ha : Nm w q a1 ac1 a2 ac2 a3 ac3 a4 ac4) (hl : LenQ q) {n : Int} (hs : soundQ q = false) : Calls Tryz.prog 5 #[numV q a1 ac1 a2 ac2 a3 ac3 a4 ac4, .int .i64 n] w fun e w' => e = .returned (.tuple #[.string (bsL []), .int .i64 2]) ∧ Below w.heap.size w w' := by
 have hS : St w w [] [(a4, q.q2), (a3, q.t2), (a2, q.q1), (a1, q.t1)] [] := ((((St.start w).addR ha.s1.rd).addR ha.s2.rd).addR ha.s3.rd).addR ha.s4.rd
 refine walk_of (l := [(0, .agg #[.bool q.b1, .slice a1 q.t1.length ac1, .slice a2 q.q1.length ac2, .bool q.b2, .slice a3 q.t2.length ac3, .slice a4 q.q2.length ac4]), (1, .int .i64 n)]) Tryz.func5 rfl Tryz.ntmps5 rfl rfl ?_
 intro Q hret hnorm hP a hA
 refine wp_seq_k (fun K1 hK1 => ?_)
 refine wp_region_lit ?_
 refine seq_new hA hS rfl rfl rfl (fun g => .pointer (some ⟨g, 0, none⟩)) (d_box rfl rfl) rfl ?_
 intro g2 w3 hS a hA
 refine seq_do hA rfl rfl rfl (d_assign rfl) fun a hA => ?_
 refine seq_do hA rfl rfl rfl (d_assign rfl) fun a hA => ?_
 refine seq_end ?_
 refine hK1 _ _ ?_
 refine wp_seq_k (fun K4 hK4 => ?_)
 refine wp_seq_k (fun K5 hK5 => ?_)
 refine wp_region_lit ?_
 refine seq_do hA rfl rfl rfl (d_loadS hS RxI_isS_26 rfl 0 rfl (cs := [.bool q.b1, .slice a1 q.t1.length ac1, .slice a2 q.q1.length ac2, .bool q.b2, .slice a3 q.t2.length ac3, .slice a4 q.q2.length ac4]) rfl rfl) fun a hA => ?_
 refine seq_call hA rfl rfl rfl (enters_func  rfl rfl (fun w => by kernel_rfl)) (soundQ_any (show Nm _ _ a1 ac1 a2 ac2 a3 ac3 a4 ac4 from ⟨⟨(hS.rd 3 rfl), ha.s1.nil, ha.s1.cap⟩, ⟨(hS.rd 2 rfl), ha.s2.nil, ha.s2.cap⟩, ⟨(hS.rd 1 rfl), ha.s3.nil, ha.s3.cap⟩, ⟨(hS.rd 0 rfl), ha.s4.nil, ha.s4.cap⟩⟩) hl hs) ?_
 rintro _ w7 ⟨rfl, hb6⟩
 replace hS := hS.call hb6
 refine ⟨_, rfl, ?_⟩
 intro a hA
 refine seq_do (v := .bool true) hA rfl rfl rfl (d_un rfl un_not) fun a hA => ?_
 refine seq_end ?_
 refine hK5 _ _ ?_
 refine wp_cond_true (hA.ev rfl) ?_
 refine wp_seq_k (fun K8 hK8 => ?_)
 refine wp_region_lit ?_
 refine seq_do hA rfl rfl rfl (d_assign rfl) fun a hA => ?_
 refine seq_do hA rfl rfl rfl (d_assign rfl) fun a hA => ?_
 refine seq_end ?_
 refine hK8 _ _ ?_
 refine wp_ret ?_
 refine hret _ _ ?_
 refine ends (v := .tuple #[.string (bsL []), .int .i64 2]) hA rfl (.cons (res_tmp rfl) (.cons (res_tmp rfl) .nil)) rfl ?_
 exact ⟨rfl, hS.bel⟩
theorem textP_norad {w : World} {q : Q6} {a1 a2 a3 a4 : Option Addr} {ac1 ac2 ac3 ac4 : Nat} (ha : Nm w q a1 ac1 a2 ac2 a3 ac3 a4 ac4) (hl : LenQ q) {n : Int} (hs : soundQ q = true) (hn : radixB n = false) : Calls Tryz.prog 5 #[numV q a1 ac1 a2 ac2 a3 ac3 a4 ac4, .int .i64 n] w fun e w' => e = .returned (.tuple #[.string (bsL []), .int .i64 1]) ∧ Below w.heap.size w w' := by
 have hS : St w w [] [(a4, q.q2), (a3, q.t2), (a2, q.q1), (a1, q.t1)] [] := ((((St.start w).addR ha.s1.rd).addR ha.s2.rd).addR ha.s3.rd).addR ha.s4.rd
 refine walk_of (l := [(0, .agg #[.bool q.b1, .slice a1 q.t1.length ac1, .slice a2 q.q1.length ac2, .bool q.b2, .slice a3 q.t2.length ac3, .slice a4 q.q2.length ac4]), (1, .int .i64 n)]) Tryz.func5 rfl Tryz.ntmps5 rfl rfl ?_
 intro Q hret hnorm hP a hA
 refine wp_seq_k (fun K1 hK1 => ?_)
 refine wp_region_lit ?_
 refine seq_new hA hS rfl rfl rfl (fun g => .pointer (some ⟨g, 0, none⟩)) (d_box rfl rfl) rfl ?_
 intro g2 w3 hS a hA
 refine seq_do hA rfl rfl rfl (d_assign rfl) fun a hA => ?_
 refine seq_do hA rfl rfl rfl (d_assign rfl) fun a hA => ?_
 refine seq_end ?_
 refine hK1 _ _ ?_
 refine wp_seq_k (fun K4 hK4 => ?_)
 refine wp_seq_k (fun K5 hK5 => ?_)
 refine wp_region_lit ?_
 refine seq_do hA rfl rfl rfl (d_loadS hS RxI_isS_26 rfl 0 rfl (cs := [.bool q.b1, .slice a1 q.t1.length ac1, .slice a2 q.q1.length ac2, .bool q.b2, .slice a3 q.t2.length ac3, .slice a4 q.q2.length ac4]) rfl rfl) fun a hA => ?_
 refine seq_call hA rfl rfl rfl (enters_func  rfl rfl (fun w => by kernel_rfl)) (soundQ_any (show Nm _ _ a1 ac1 a2 ac2 a3 ac3 a4 ac4 from ⟨⟨(hS.rd 3 rfl), ha.s1.nil, ha.s1.cap⟩, ⟨(hS.rd 2 rfl), ha.s2.nil, ha.s2.cap⟩, ⟨(hS.rd 1 rfl), ha.s3.nil, ha.s3.cap⟩, ⟨(hS.rd 0 rfl), ha.s4.nil, ha.s4.cap⟩⟩) hl hs) ?_
 rintro _ w7 ⟨rfl, hb6⟩
 replace hS := hS.call hb6
 refine ⟨_, rfl, ?_⟩
 intro a hA
 refine seq_do (v := .bool false) hA rfl rfl rfl (d_un rfl un_not) fun a hA => ?_
 refine seq_end ?_
 refine hK5 _ _ ?_
 refine wp_cond_false (hA.ev rfl) ?_
 refine wp_skip ?_
 refine hK4 _ _ ?_
 refine wp_seq_k (fun K8 hK8 => ?_)
 refine wp_seq_k (fun K9 hK9 => ?_)
 refine wp_region_lit ?_
 refine mv hA rfl rfl rfl fun a hA => ?_
 refine seq_call hA rfl rfl rfl (enters_func  rfl rfl (fun w => by kernel_rfl)) (isRadixX_any hn) ?_
 rintro _ w11 ⟨rfl, hb10⟩
 replace hS := hS.call hb10
 refine ⟨_, rfl, ?_⟩
 intro a hA
 refine seq_do (v := .bool true) hA rfl rfl rfl (d_un rfl un_not) fun a hA => ?_
 refine seq_end ?_
 refine hK9 _ _ ?_
 refine wp_cond_true (hA.ev rfl) ?_
 refine wp_seq_k (fun K12 hK12 => ?_)
 refine wp_region_lit ?_
 refine seq_do hA rfl rfl rfl (d_assign rfl) fun a hA => ?_
 refine seq_do hA rfl rfl rfl (d_assign rfl) fun a hA => ?_
 refine seq_end ?_
 refine hK12 _ _ ?_
 refine wp_ret ?_
 refine hret _ _ ?_
 refine ends (v := .tuple #[.string (bsL []), .int .i64 1]) hA rfl (.cons (res_tmp rfl) (.cons (res_tmp rfl) .nil)) rfl ?_
 exact ⟨rfl, hS.bel⟩
theorem textR_form {w : World} {q : Q6} {a1 a2 a3 a4 : Option Addr} {ac1 ac2 ac3 ac4 : Nat} (ha : Nm w q a1 ac1 a2 ac2 a3 ac3 a4 ac4) (hl : LenQ q) {n : Int} (hs : soundQ q = false) : Calls Tryz.prog 6 #[numV q a1 ac1 a2 ac2 a3 ac3 a4 ac4, .int .i64 n] w fun e w' => e = .returned (.tuple #[.string (bsL []), .int .i64 2]) ∧ Below w.heap.size w w' := by
 have hS : St w w [] [(a4, q.q2), (a3, q.t2), (a2, q.q1), (a1, q.t1)] [] := ((((St.start w).addR ha.s1.rd).addR ha.s2.rd).addR ha.s3.rd).addR ha.s4.rd
 refine walk_of (l := [(0, .agg #[.bool q.b1, .slice a1 q.t1.length ac1, .slice a2 q.q1.length ac2, .bool q.b2, .slice a3 q.t2.length ac3, .slice a4 q.q2.length ac4]), (1, .int .i64 n)]) Tryz.func6 rfl Tryz.ntmps6 rfl rfl ?_
 intro Q hret hnorm hP a hA
 refine wp_seq_k (fun K1 hK1 => ?_)
 refine wp_region_lit ?_
 refine seq_new hA hS rfl rfl rfl (fun g => .pointer (some ⟨g, 0, none⟩)) (d_box rfl rfl) rfl ?_
 intro g2 w3 hS a hA
 refine seq_do hA rfl rfl rfl (d_assign rfl) fun a hA => ?_
 refine seq_do hA rfl rfl rfl (d_assign rfl) fun a hA => ?_
 refine seq_end ?_
 refine hK1 _ _ ?_
 refine wp_seq_k (fun K4 hK4 => ?_)
 refine wp_seq_k (fun K5 hK5 => ?_)
 refine wp_region_lit ?_
 refine seq_do hA rfl rfl rfl (d_loadS hS RxI_isS_26 rfl 0 rfl (cs := [.bool q.b1, .slice a1 q.t1.length ac1, .slice a2 q.q1.length ac2, .bool q.b2, .slice a3 q.t2.length ac3, .slice a4 q.q2.length ac4]) rfl rfl) fun a hA => ?_
 refine seq_call hA rfl rfl rfl (enters_func  rfl rfl (fun w => by kernel_rfl)) (rsoundQ_any (show Nm _ _ a1 ac1 a2 ac2 a3 ac3 a4 ac4 from ⟨⟨(hS.rd 3 rfl), ha.s1.nil, ha.s1.cap⟩, ⟨(hS.rd 2 rfl), ha.s2.nil, ha.s2.cap⟩, ⟨(hS.rd 1 rfl), ha.s3.nil, ha.s3.cap⟩, ⟨(hS.rd 0 rfl), ha.s4.nil, ha.s4.cap⟩⟩) hl hs) ?_
 rintro _ w7 ⟨rfl, hb6⟩
 replace hS := hS.call hb6
 refine ⟨_, rfl, ?_⟩
 intro a hA
 refine seq_do (v := .bool true) hA rfl rfl rfl (d_un rfl un_not) fun a hA => ?_
 refine seq_end ?_
 refine hK5 _ _ ?_
 refine wp_cond_true (hA.ev rfl) ?_
 refine wp_seq_k (fun K8 hK8 => ?_)
 refine wp_region_lit ?_
 refine seq_do hA rfl rfl rfl (d_assign rfl) fun a hA => ?_
 refine seq_do hA rfl rfl rfl (d_assign rfl) fun a hA => ?_
 refine seq_end ?_
 refine hK8 _ _ ?_
 refine wp_ret ?_
 refine hret _ _ ?_
 refine ends (v := .tuple #[.string (bsL []), .int .i64 2]) hA rfl (.cons (res_tmp rfl) (.cons (res_tmp rfl) .nil)) rfl ?_
 exact ⟨rfl, hS.bel⟩
theorem textR_norad {w : World} {q : Q6} {a1 a2 a3 a4 : Option Addr} {ac1 ac2 ac3 ac4 : Nat} (ha : Nm w q a1 ac1 a2 ac2 a3 ac3 a4 ac4) (hl : LenQ q) {n : Int} (hs : soundQ q = true) (hn : radixB n = false) : Calls Tryz.prog 6 #[numV q a1 ac1 a2 ac2 a3 ac3 a4 ac4, .int .i64 n] w fun e w' => e = .returned (.tuple #[.string (bsL []), .int .i64 1]) ∧ Below w.heap.size w w' := by
 have hS : St w w [] [(a4, q.q2), (a3, q.t2), (a2, q.q1), (a1, q.t1)] [] := ((((St.start w).addR ha.s1.rd).addR ha.s2.rd).addR ha.s3.rd).addR ha.s4.rd
 refine walk_of (l := [(0, .agg #[.bool q.b1, .slice a1 q.t1.length ac1, .slice a2 q.q1.length ac2, .bool q.b2, .slice a3 q.t2.length ac3, .slice a4 q.q2.length ac4]), (1, .int .i64 n)]) Tryz.func6 rfl Tryz.ntmps6 rfl rfl ?_
 intro Q hret hnorm hP a hA
 refine wp_seq_k (fun K1 hK1 => ?_)
 refine wp_region_lit ?_
 refine seq_new hA hS rfl rfl rfl (fun g => .pointer (some ⟨g, 0, none⟩)) (d_box rfl rfl) rfl ?_
 intro g2 w3 hS a hA
 refine seq_do hA rfl rfl rfl (d_assign rfl) fun a hA => ?_
 refine seq_do hA rfl rfl rfl (d_assign rfl) fun a hA => ?_
 refine seq_end ?_
 refine hK1 _ _ ?_
 refine wp_seq_k (fun K4 hK4 => ?_)
 refine wp_seq_k (fun K5 hK5 => ?_)
 refine wp_region_lit ?_
 refine seq_do hA rfl rfl rfl (d_loadS hS RxI_isS_26 rfl 0 rfl (cs := [.bool q.b1, .slice a1 q.t1.length ac1, .slice a2 q.q1.length ac2, .bool q.b2, .slice a3 q.t2.length ac3, .slice a4 q.q2.length ac4]) rfl rfl) fun a hA => ?_
 refine seq_call hA rfl rfl rfl (enters_func  rfl rfl (fun w => by kernel_rfl)) (rsoundQ_any (show Nm _ _ a1 ac1 a2 ac2 a3 ac3 a4 ac4 from ⟨⟨(hS.rd 3 rfl), ha.s1.nil, ha.s1.cap⟩, ⟨(hS.rd 2 rfl), ha.s2.nil, ha.s2.cap⟩, ⟨(hS.rd 1 rfl), ha.s3.nil, ha.s3.cap⟩, ⟨(hS.rd 0 rfl), ha.s4.nil, ha.s4.cap⟩⟩) hl hs) ?_
 rintro _ w7 ⟨rfl, hb6⟩
 replace hS := hS.call hb6
 refine ⟨_, rfl, ?_⟩
 intro a hA
 refine seq_do (v := .bool false) hA rfl rfl rfl (d_un rfl un_not) fun a hA => ?_
 refine seq_end ?_
 refine hK5 _ _ ?_
 refine wp_cond_false (hA.ev rfl) ?_
 refine wp_skip ?_
 refine hK4 _ _ ?_
 refine wp_seq_k (fun K8 hK8 => ?_)
 refine wp_seq_k (fun K9 hK9 => ?_)
 refine wp_region_lit ?_
 refine mv hA rfl rfl rfl fun a hA => ?_
 refine seq_call hA rfl rfl rfl (enters_func  rfl rfl (fun w => by kernel_rfl)) (rradixX_any hn) ?_
 rintro _ w11 ⟨rfl, hb10⟩
 replace hS := hS.call hb10
 refine ⟨_, rfl, ?_⟩
 intro a hA
 refine seq_do (v := .bool true) hA rfl rfl rfl (d_un rfl un_not) fun a hA => ?_
 refine seq_end ?_
 refine hK9 _ _ ?_
 refine wp_cond_true (hA.ev rfl) ?_
 refine wp_seq_k (fun K12 hK12 => ?_)
 refine wp_region_lit ?_
 refine seq_do hA rfl rfl rfl (d_assign rfl) fun a hA => ?_
 refine seq_do hA rfl rfl rfl (d_assign rfl) fun a hA => ?_
 refine seq_end ?_
 refine hK12 _ _ ?_
 refine wp_ret ?_
 refine hret _ _ ?_
 refine ends (v := .tuple #[.string (bsL []), .int .i64 1]) hA rfl (.cons (res_tmp rfl) (.cons (res_tmp rfl) .nil)) rfl ?_
 exact ⟨rfl, hS.bel⟩
theorem ratT_any {w : World} {b : Bool} {t q : List Nat} {r : Nat} {a1 a2 : Option Addr} {ac1 ac2 : Nat} (ha1 : Sc w a1 ac1 t) (ha2 : Sc w a2 ac2 q) (hr : RadN r) (l1 : t.length ≤ 9223372036854775807) (l2 : q.length ≤ 9223372036854775807) : Calls Tryz.prog 21 #[.agg #[.bool b, .slice a1 t.length ac1, .slice a2 q.length ac2], .int .i64 (((r : Nat) : Int))] w fun e w' => e = .returned (.string (bsL (realL r b t q))) ∧ Below w.heap.size w w' := by
 have d1 := tD_max hr ha1.rd.dig
 have d2 := tD_max hr ha2.rd.dig
 have d3 := sz_max hr ha1.rd.dig ha2.rd.dig
 have hS : St w w [] [(a2, q), (a1, t)] [] := ((St.start w).addR ha1.rd).addR ha2.rd
 refine walk_of (l := [(0, .agg #[.bool b, .slice a1 t.length ac1, .slice a2 q.length ac2]), (1, .int .i64 (((r : Nat) : Int)))]) Tryz.func21 rfl Tryz.ntmps21 rfl rfl ?_
 intro Q hret hnorm hP a hA
 refine wp_seq_k (fun K1 hK1 => ?_)
 refine wp_region_lit ?_
 refine seq_new hA hS rfl rfl rfl (fun g => .pointer (some ⟨g, 0, none⟩)) (d_box rfl rfl) rfl ?_
 intro g2 w3 hS a hA
 refine seq_do hA rfl rfl rfl (d_assign rfl) fun a hA => ?_
 refine seq_end ?_
 refine hK1 _ _ ?_
 refine wp_seq_k (fun K4 hK4 => ?_)
 refine wp_region_lit ?_
 refine seq_do (v := .pointer (some ⟨g2, 1, none⟩)) hA rfl rfl rfl (d_field RxI_fld_24_1 rfl rfl) fun a hA => ?_
 refine seq_do hA rfl rfl rfl (d_load1 hS RxI_is1_22 rfl 0 rfl rfl) fun a hA => ?_
 refine mv hA rfl rfl rfl fun a hA => ?_
 refine seq_call hA rfl rfl rfl (enters_func  rfl rfl (fun w => by kernel_rfl)) (rtextT_any ac1 ⟨(hS.rd 1 rfl), ha1.nil, ha1.cap⟩ l1 hr) ?_
 rintro _ w6 ⟨rfl, hb5⟩
 replace hS := hS.call hb5
 refine ⟨_, rfl, ?_⟩
 intro a hA
 refine mv hA rfl rfl rfl fun a hA => ?_
 refine seq_do (v := .string (bsL (tD t r))) hA rfl rfl rfl (d_extract (vs := [.string (bsL (tD t r)), .int .i64 ((textS t (r : Int)).2)]) rfl rfl) fun a hA => ?_
 refine seq_do (v := .int .i64 ((textS t (r : Int)).2)) hA rfl rfl rfl (d_extract (vs := [.string (bsL (tD t r)), .int .i64 ((textS t (r : Int)).2)]) rfl rfl) fun a hA => ?_
 refine seq_do hA rfl rfl rfl (d_assign rfl) fun a hA => ?_
 refine seq_do hA rfl rfl rfl (d_assign rfl) fun a hA => ?_
 refine seq_end ?_
 refine hK4 _ _ ?_
 refine wp_seq_k (fun K7 hK7 => ?_)
 refine wp_seq_k (fun K8 hK8 => ?_)
 refine wp_region_lit ?_
 refine seq_do (v := .pointer (some ⟨g2, 0, none⟩)) hA rfl rfl rfl (d_field RxI_fld_24_0 rfl rfl) fun a hA => ?_
 refine seq_do hA rfl rfl rfl (d_load1 hS RxI_is1_4 rfl 0 rfl rfl) fun a hA => ?_
 refine seq_end ?_
 refine hK8 _ _ ?_
 refine wp_cond_split (t := b) (hA.ev rfl) (fun hc9 => ?_) (fun hc9 => ?_)
 ·
  refine wp_region_lit ?_
  refine mv hA rfl rfl rfl fun a hA => ?_
  refine seq_do (v := .string (bsL ([45] ++ (tD t r)))) hA rfl rfl rfl (d_bin rfl rfl (bin_addT (a := [45]) (b := tD t r) (by first | omega | (simp only [List.length_append, List.length_cons, List.length_nil]; omega)))) fun a hA => ?_
  refine seq_do hA rfl rfl rfl (d_assign rfl) fun a hA => ?_
  refine seq_end ?_
  refine hK7 _ _ ?_
  refine wp_seq_k (fun K10 hK10 => ?_)
  refine wp_seq_k (fun K11 hK11 => ?_)
  refine wp_region_lit ?_
  refine seq_do (v := .pointer (some ⟨g2, 2, none⟩)) hA rfl rfl rfl (d_field RxI_fld_24_2 rfl rfl) fun a hA => ?_
  refine seq_do hA rfl rfl rfl (d_load1 hS RxI_is1_22 rfl 0 rfl rfl) fun a hA => ?_
  refine seq_newU (us := [1]) (t := 40) (m := 1) hA hS rfl rfl rfl (d_buildSlice rfl (by kernel_rfl)) (by simp [Dig]) ?_
  intro g12 w13 hS a hA
  rcases Bool.eq_false_or_eq_true (decide (q = [1])) with hb14 | hb14
  ·
   have hb14' := of_decide_eq_true hb14
   refine seq_call hA rfl rfl rfl (enters_func  rfl rfl (fun w => by kernel_rfl)) (rsameB_any _ _ (hS.rd 1 rfl) (hS.rd 0 rfl) l2 (by decide) hb14) ?_
   rintro _ w16 ⟨rfl, hb15⟩
   replace hS := hS.call hb15
   refine ⟨_, rfl, ?_⟩
   intro a hA
   refine seq_do (v := .bool false) hA rfl rfl rfl (d_un rfl un_not) fun a hA => ?_
   refine seq_end ?_
   refine hK11 _ _ ?_
   refine wp_cond_false (hA.ev rfl) ?_
   refine wp_skip ?_
   refine hK10 _ _ ?_
   refine wp_seq_k (fun K17 hK17 => ?_)
   refine wp_region_lit ?_
   refine mv hA rfl rfl rfl fun a hA => ?_
   refine seq_do hA rfl rfl rfl (d_assign rfl) fun a hA => ?_
   refine seq_end ?_
   refine hK17 _ _ ?_
   refine wp_ret ?_
   refine hret _ _ ?_
   refine ends (v := .string (bsL ([45] ++ (tD t r)))) hA rfl (.cons (res_tmp rfl) .nil) rfl ?_
   exact ⟨by rw [show realL r b t q = [45] ++ (tD t r) from by unfold realL szL; rw [hc9, if_pos hb14']; simp], hS.bel⟩
  ·
   have hb14' := of_decide_eq_false hb14
   refine seq_call hA rfl rfl rfl (enters_func  rfl rfl (fun w => by kernel_rfl)) (rsameB_any _ _ (hS.rd 1 rfl) (hS.rd 0 rfl) l2 (by decide) hb14) ?_
   rintro _ w19 ⟨rfl, hb18⟩
   replace hS := hS.call hb18
   refine ⟨_, rfl, ?_⟩
   intro a hA
   refine seq_do (v := .bool true) hA rfl rfl rfl (d_un rfl un_not) fun a hA => ?_
   refine seq_end ?_
   refine hK11 _ _ ?_
   refine wp_cond_true (hA.ev rfl) ?_
   refine wp_seq_k (fun K20 hK20 => ?_)
   refine wp_region_lit ?_
   refine seq_do (v := .pointer (some ⟨g2, 2, none⟩)) hA rfl rfl rfl (d_field RxI_fld_24_2 rfl rfl) fun a hA => ?_
   refine seq_do hA rfl rfl rfl (d_load1 hS RxI_is1_22 rfl 0 rfl rfl) fun a hA => ?_
   refine mv hA rfl rfl rfl fun a hA => ?_
   refine seq_call hA rfl rfl rfl (enters_func  rfl rfl (fun w => by kernel_rfl)) (rtextT_any ac2 ⟨(hS.rd 1 rfl), ha2.nil, ha2.cap⟩ l2 hr) ?_
   rintro _ w22 ⟨rfl, hb21⟩
   replace hS := hS.call hb21
   refine ⟨_, rfl, ?_⟩
   intro a hA
   refine mv hA rfl rfl rfl fun a hA => ?_
   refine seq_do (v := .string (bsL (tD q r))) hA rfl rfl rfl (d_extract (vs := [.string (bsL (tD q r)), .int .i64 ((textS q (r : Int)).2)]) rfl rfl) fun a hA => ?_
   refine seq_do (v := .int .i64 ((textS q (r : Int)).2)) hA rfl rfl rfl (d_extract (vs := [.string (bsL (tD q r)), .int .i64 ((textS q (r : Int)).2)]) rfl rfl) fun a hA => ?_
   refine seq_do hA rfl rfl rfl (d_assign rfl) fun a hA => ?_
   refine seq_do hA rfl rfl rfl (d_assign rfl) fun a hA => ?_
   refine seq_end ?_
   refine hK20 _ _ ?_
   refine wp_region_lit ?_
   refine mv hA rfl rfl rfl fun a hA => ?_
   refine mv hA rfl rfl rfl fun a hA => ?_
   refine seq_do (v := .string (bsL ([47] ++ (tD q r)))) hA rfl rfl rfl (d_bin rfl rfl (bin_addT (a := [47]) (b := tD q r) (by first | omega | (simp only [List.length_append, List.length_cons, List.length_nil]; omega)))) fun a hA => ?_
   refine seq_do (v := .string (bsL ([45] ++ (tD t r) ++ ([47] ++ (tD q r))))) hA rfl rfl rfl (d_bin rfl rfl (bin_addT (a := [45] ++ (tD t r)) (b := [47] ++ (tD q r)) (by first | omega | (simp only [List.length_append, List.length_cons, List.length_nil]; omega)))) fun a hA => ?_
   refine seq_do hA rfl rfl rfl (d_assign rfl) fun a hA => ?_
   refine seq_end ?_
   refine hK10 _ _ ?_
   refine wp_seq_k (fun K23 hK23 => ?_)
   refine wp_region_lit ?_
   refine mv hA rfl rfl rfl fun a hA => ?_
   refine seq_do hA rfl rfl rfl (d_assign rfl) fun a hA => ?_
   refine seq_end ?_
   refine hK23 _ _ ?_
   refine wp_ret ?_
   refine hret _ _ ?_
   refine ends (v := .string (bsL ([45] ++ (tD t r) ++ ([47] ++ (tD q r))))) hA rfl (.cons (res_tmp rfl) .nil) rfl ?_
   exact ⟨by rw [show realL r b t q = [45] ++ (tD t r) ++ ([47] ++ (tD q r)) from by unfold realL szL; rw [hc9, if_neg hb14']; simp], hS.bel⟩
 ·
  refine wp_skip ?_
  refine hK7 _ _ ?_
  refine wp_seq_k (fun K24 hK24 => ?_)
  refine wp_seq_k (fun K25 hK25 => ?_)
  refine wp_region_lit ?_
  refine seq_do (v := .pointer (some ⟨g2, 2, none⟩)) hA rfl rfl rfl (d_field RxI_fld_24_2 rfl rfl) fun a hA => ?_
  refine seq_do hA rfl rfl rfl (d_load1 hS RxI_is1_22 rfl 0 rfl rfl) fun a hA => ?_
  refine seq_newU (us := [1]) (t := 40) (m := 1) hA hS rfl rfl rfl (d_buildSlice rfl (by kernel_rfl)) (by simp [Dig]) ?_
  intro g26 w27 hS a hA
  rcases Bool.eq_false_or_eq_true (decide (q = [1])) with hb28 | hb28
  ·
   have hb28' := of_decide_eq_true hb28
   refine seq_call hA rfl rfl rfl (enters_func  rfl rfl (fun w => by kernel_rfl)) (rsameB_any _ _ (hS.rd 1 rfl) (hS.rd 0 rfl) l2 (by decide) hb28) ?_
   rintro _ w30 ⟨rfl, hb29⟩
   replace hS := hS.call hb29
   refine ⟨_, rfl, ?_⟩
   intro a hA
   refine seq_do (v := .bool false) hA rfl rfl rfl (d_un rfl un_not) fun a hA => ?_
   refine seq_end ?_
   refine hK25 _ _ ?_
   refine wp_cond_false (hA.ev rfl) ?_
   refine wp_skip ?_
   refine hK24 _ _ ?_
   refine wp_seq_k (fun K31 hK31 => ?_)
   refine wp_region_lit ?_
   refine mv hA rfl rfl rfl fun a hA => ?_
   refine seq_do hA rfl rfl rfl (d_assign rfl) fun a hA => ?_
   refine seq_end ?_
   refine hK31 _ _ ?_
   refine wp_ret ?_
   refine hret _ _ ?_
   refine ends (v := .string (bsL (tD t r))) hA rfl (.cons (res_tmp rfl) .nil) rfl ?_
   exact ⟨by rw [show realL r b t q = tD t r from by unfold realL szL; rw [hc9, if_pos hb28']; simp], hS.bel⟩
  ·
   have hb28' := of_decide_eq_false hb28
   refine seq_call hA rfl rfl rfl (enters_func  rfl rfl (fun w => by kernel_rfl)) (rsameB_any _ _ (hS.rd 1 rfl) (hS.rd 0 rfl) l2 (by decide) hb28) ?_
   rintro _ w33 ⟨rfl, hb32⟩
   replace hS := hS.call hb32
   refine ⟨_, rfl, ?_⟩
   intro a hA
   refine seq_do (v := .bool true) hA rfl rfl rfl (d_un rfl un_not) fun a hA => ?_
   refine seq_end ?_
   refine hK25 _ _ ?_
   refine wp_cond_true (hA.ev rfl) ?_
   refine wp_seq_k (fun K34 hK34 => ?_)
   refine wp_region_lit ?_
   refine seq_do (v := .pointer (some ⟨g2, 2, none⟩)) hA rfl rfl rfl (d_field RxI_fld_24_2 rfl rfl) fun a hA => ?_
   refine seq_do hA rfl rfl rfl (d_load1 hS RxI_is1_22 rfl 0 rfl rfl) fun a hA => ?_
   refine mv hA rfl rfl rfl fun a hA => ?_
   refine seq_call hA rfl rfl rfl (enters_func  rfl rfl (fun w => by kernel_rfl)) (rtextT_any ac2 ⟨(hS.rd 1 rfl), ha2.nil, ha2.cap⟩ l2 hr) ?_
   rintro _ w36 ⟨rfl, hb35⟩
   replace hS := hS.call hb35
   refine ⟨_, rfl, ?_⟩
   intro a hA
   refine mv hA rfl rfl rfl fun a hA => ?_
   refine seq_do (v := .string (bsL (tD q r))) hA rfl rfl rfl (d_extract (vs := [.string (bsL (tD q r)), .int .i64 ((textS q (r : Int)).2)]) rfl rfl) fun a hA => ?_
   refine seq_do (v := .int .i64 ((textS q (r : Int)).2)) hA rfl rfl rfl (d_extract (vs := [.string (bsL (tD q r)), .int .i64 ((textS q (r : Int)).2)]) rfl rfl) fun a hA => ?_
   refine seq_do hA rfl rfl rfl (d_assign rfl) fun a hA => ?_
   refine seq_do hA rfl rfl rfl (d_assign rfl) fun a hA => ?_
   refine seq_end ?_
   refine hK34 _ _ ?_
   refine wp_region_lit ?_
   refine mv hA rfl rfl rfl fun a hA => ?_
   refine mv hA rfl rfl rfl fun a hA => ?_
   refine seq_do (v := .string (bsL ([47] ++ (tD q r)))) hA rfl rfl rfl (d_bin rfl rfl (bin_addT (a := [47]) (b := tD q r) (by first | omega | (simp only [List.length_append, List.length_cons, List.length_nil]; omega)))) fun a hA => ?_
   refine seq_do (v := .string (bsL (tD t r ++ ([47] ++ (tD q r))))) hA rfl rfl rfl (d_bin rfl rfl (bin_addT (a := tD t r) (b := [47] ++ (tD q r)) (by first | omega | (simp only [List.length_append, List.length_cons, List.length_nil]; omega)))) fun a hA => ?_
   refine seq_do hA rfl rfl rfl (d_assign rfl) fun a hA => ?_
   refine seq_end ?_
   refine hK24 _ _ ?_
   refine wp_seq_k (fun K37 hK37 => ?_)
   refine wp_region_lit ?_
   refine mv hA rfl rfl rfl fun a hA => ?_
   refine seq_do hA rfl rfl rfl (d_assign rfl) fun a hA => ?_
   refine seq_end ?_
   refine hK37 _ _ ?_
   refine wp_ret ?_
   refine hret _ _ ?_
   refine ends (v := .string (bsL (tD t r ++ ([47] ++ (tD q r))))) hA rfl (.cons (res_tmp rfl) .nil) rfl ?_
   exact ⟨by rw [show realL r b t q = tD t r ++ ([47] ++ (tD q r)) from by unfold realL szL; rw [hc9, if_neg hb28']; simp], hS.bel⟩
theorem textR_rad {w : World} {q : Q6} {a1 a2 a3 a4 : Option Addr} {ac1 ac2 ac3 ac4 : Nat} (ha : Nm w q a1 ac1 a2 ac2 a3 ac3 a4 ac4) (hl : LenQ q) {r : Nat} (hr : RadN r) (hs : soundQ q = true) : Calls Tryz.prog 6 #[numV q a1 ac1 a2 ac2 a3 ac3 a4 ac4, .int .i64 (((r : Nat) : Int))] w fun e w' => e = .returned (.tuple #[.string (bsL (textL r q)), .int .i64 0]) ∧ Below w.heap.size w w' := by
 have d1 := realL_len hr (b := q.b1) ha.s1.rd.dig ha.s2.rd.dig
 have d2 := realL_len hr (b := q.b2) ha.s3.rd.dig ha.s4.rd.dig
 have d3 := sgL_len q.b2
 have d4 := unL_len hr ha.s3.rd.dig ha.s4.rd.dig
 have hS : St w w [] [(a4, q.q2), (a3, q.t2), (a2, q.q1), (a1, q.t1)] [] := ((((St.start w).addR ha.s1.rd).addR ha.s2.rd).addR ha.s3.rd).addR ha.s4.rd
 refine walk_of (l := [(0, .agg #[.bool q.b1, .slice a1 q.t1.length ac1, .slice a2 q.q1.length ac2, .bool q.b2, .slice a3 q.t2.length ac3, .slice a4 q.q2.length ac4]), (1, .int .i64 (((r : Nat) : Int)))]) Tryz.func6 rfl Tryz.ntmps6 rfl rfl ?_
 intro Q hret hnorm hP a hA
 refine wp_seq_k (fun K1 hK1 => ?_)
 refine wp_region_lit ?_
 refine seq_new hA hS rfl rfl rfl (fun g => .pointer (some ⟨g, 0, none⟩)) (d_box rfl rfl) rfl ?_
 intro g2 w3 hS a hA
 refine seq_do hA rfl rfl rfl (d_assign rfl) fun a hA => ?_
 refine seq_do hA rfl rfl rfl (d_assign rfl) fun a hA => ?_
 refine seq_end ?_
 refine hK1 _ _ ?_
 refine wp_seq_k (fun K4 hK4 => ?_)
 refine wp_seq_k (fun K5 hK5 => ?_)
 refine wp_region_lit ?_
 refine seq_do hA rfl rfl rfl (d_loadS hS RxI_isS_26 rfl 0 rfl (cs := [.bool q.b1, .slice a1 q.t1.length ac1, .slice a2 q.q1.length ac2, .bool q.b2, .slice a3 q.t2.length ac3, .slice a4 q.q2.length ac4]) rfl rfl) fun a hA => ?_
 refine seq_call hA rfl rfl rfl (enters_func  rfl rfl (fun w => by kernel_rfl)) (rsoundQ_any (show Nm _ _ a1 ac1 a2 ac2 a3 ac3 a4 ac4 from ⟨⟨(hS.rd 3 rfl), ha.s1.nil, ha.s1.cap⟩, ⟨(hS.rd 2 rfl), ha.s2.nil, ha.s2.cap⟩, ⟨(hS.rd 1 rfl), ha.s3.nil, ha.s3.cap⟩, ⟨(hS.rd 0 rfl), ha.s4.nil, ha.s4.cap⟩⟩) hl hs) ?_
 rintro _ w7 ⟨rfl, hb6⟩
 replace hS := hS.call hb6
 refine ⟨_, rfl, ?_⟩
 intro a hA
 refine seq_do (v := .bool false) hA rfl rfl rfl (d_un rfl un_not) fun a hA => ?_
 refine seq_end ?_
 refine hK5 _ _ ?_
 refine wp_cond_false (hA.ev rfl) ?_
 refine wp_skip ?_
 refine hK4 _ _ ?_
 refine wp_seq_k (fun K8 hK8 => ?_)
 refine wp_seq_k (fun K9 hK9 => ?_)
 refine wp_region_lit ?_
 refine mv hA rfl rfl rfl fun a hA => ?_
 refine seq_call hA rfl rfl rfl (enters_func  rfl rfl (fun w => by kernel_rfl)) (rradixX_any (radixB_rad hr)) ?_
 rintro _ w11 ⟨rfl, hb10⟩
 replace hS := hS.call hb10
 refine ⟨_, rfl, ?_⟩
 intro a hA
 refine seq_do (v := .bool false) hA rfl rfl rfl (d_un rfl un_not) fun a hA => ?_
 refine seq_end ?_
 refine hK9 _ _ ?_
 refine wp_cond_false (hA.ev rfl) ?_
 refine wp_skip ?_
 refine hK8 _ _ ?_
 refine wp_seq_k (fun K12 hK12 => ?_)
 refine wp_seq_k (fun K13 hK13 => ?_)
 refine wp_region_lit ?_
 refine seq_do hA rfl rfl rfl (d_loadS hS RxI_isS_26 rfl 0 rfl (cs := [.bool q.b1, .slice a1 q.t1.length ac1, .slice a2 q.q1.length ac2, .bool q.b2, .slice a3 q.t2.length ac3, .slice a4 q.q2.length ac4]) rfl rfl) fun a hA => ?_
 rcases Bool.eq_false_or_eq_true (decide (q.t2.length = 0)) with hb14 | hb14
 ·
  have hb14' := of_decide_eq_true hb14
  refine seq_call hA rfl rfl rfl (enters_func  rfl rfl (fun w => by kernel_rfl)) (rrealQ_any (show Nm _ _ a1 ac1 a2 ac2 a3 ac3 a4 ac4 from ⟨⟨(hS.rd 3 rfl), ha.s1.nil, ha.s1.cap⟩, ⟨(hS.rd 2 rfl), ha.s2.nil, ha.s2.cap⟩, ⟨(hS.rd 1 rfl), ha.s3.nil, ha.s3.cap⟩, ⟨(hS.rd 0 rfl), ha.s4.nil, ha.s4.cap⟩⟩) hl hb14) ?_
  rintro _ w16 ⟨rfl, hb15⟩
  replace hS := hS.call hb15
  refine ⟨_, rfl, ?_⟩
  intro a hA
  refine seq_end ?_
  refine hK13 _ _ ?_
  refine wp_cond_true (hA.ev rfl) ?_
  refine wp_seq_k (fun K17 hK17 => ?_)
  refine wp_region_lit ?_
  refine seq_do (v := .pointer (some ⟨g2, 0, none⟩)) hA rfl rfl rfl (d_field RxI_fld_26_0 rfl rfl) fun a hA => ?_
  refine seq_do hA rfl rfl rfl (d_loadS hS RxI_isS_24 rfl 0 rfl (cs := [.bool q.b1, .slice a1 q.t1.length ac1, .slice a2 q.q1.length ac2]) rfl rfl) fun a hA => ?_
  refine mv hA rfl rfl rfl fun a hA => ?_
  refine seq_call hA rfl rfl rfl (enters_func  rfl rfl (fun w => by kernel_rfl)) (ratT_any (b := q.b1) (t := q.t1) (q := q.q1) (r := r) ⟨(hS.rd 3 rfl), ha.s1.nil, ha.s1.cap⟩ ⟨(hS.rd 2 rfl), ha.s2.nil, ha.s2.cap⟩ hr hl.l1 hl.l2) ?_
  rintro _ w19 ⟨rfl, hb18⟩
  replace hS := hS.call hb18
  refine ⟨_, rfl, ?_⟩
  intro a hA
  refine seq_do hA rfl rfl rfl (d_assign rfl) fun a hA => ?_
  refine seq_do hA rfl rfl rfl (d_assign rfl) fun a hA => ?_
  refine seq_end ?_
  refine hK17 _ _ ?_
  refine wp_ret ?_
  refine hret _ _ ?_
  refine ends (v := .tuple #[.string (bsL (realL r q.b1 q.t1 q.q1)), .int .i64 0]) hA rfl (.cons (res_tmp rfl) (.cons (res_tmp rfl) .nil)) rfl ?_
  exact ⟨by rw [show textL r q = realL r q.b1 q.t1 q.q1 from by unfold textL; rw [if_pos hb14']], hS.bel⟩
 ·
  have hb14' := of_decide_eq_false hb14
  refine seq_call hA rfl rfl rfl (enters_func  rfl rfl (fun w => by kernel_rfl)) (rrealQ_any (show Nm _ _ a1 ac1 a2 ac2 a3 ac3 a4 ac4 from ⟨⟨(hS.rd 3 rfl), ha.s1.nil, ha.s1.cap⟩, ⟨(hS.rd 2 rfl), ha.s2.nil, ha.s2.cap⟩, ⟨(hS.rd 1 rfl), ha.s3.nil, ha.s3.cap⟩, ⟨(hS.rd 0 rfl), ha.s4.nil, ha.s4.cap⟩⟩) hl hb14) ?_
  rintro _ w21 ⟨rfl, hb20⟩
  replace hS := hS.call hb20
  refine ⟨_, rfl, ?_⟩
  intro a hA
  refine seq_end ?_
  refine hK13 _ _ ?_
  refine wp_cond_false (hA.ev rfl) ?_
  refine wp_skip ?_
  refine hK12 _ _ ?_
  refine wp_seq_k (fun K22 hK22 => ?_)
  refine wp_region_lit ?_
  refine seq_do hA rfl rfl rfl (d_assign rfl) fun a hA => ?_
  refine seq_end ?_
  refine hK22 _ _ ?_
  refine wp_seq_k (fun K23 hK23 => ?_)
  refine wp_seq_k (fun K24 hK24 => ?_)
  refine wp_region_lit ?_
  refine seq_do (v := .pointer (some ⟨g2, 0, none⟩)) hA rfl rfl rfl (d_field RxI_fld_26_0 rfl rfl) fun a hA => ?_
  refine seq_do (v := .pointer (some ⟨g2, 1, none⟩)) hA rfl rfl rfl (d_field RxI_fld_24_1 rfl rfl) fun a hA => ?_
  refine seq_do hA rfl rfl rfl (d_load1 hS RxI_is1_22 rfl 0 rfl rfl) fun a hA => ?_
  refine seq_do (v := .int .i64 (((q.t1.length : Nat) : Int))) hA rfl rfl rfl (d_len Tryz.underlying22 rfl) fun a hA => ?_
  rcases Bool.eq_false_or_eq_true (decide (0 < ((q.t1.length : Nat) : Int))) with hb25 | hb25
  ·
   have hb25' := of_decide_eq_true hb25
   refine seq_do (v := .bool true) hA rfl rfl rfl (d_bin rfl rfl (fun w => (bin_gtr w).trans (by rw [hb25]))) fun a hA => ?_
   refine seq_end ?_
   refine hK24 _ _ ?_
   refine wp_cond_true (hA.ev rfl) ?_
   refine wp_region_lit ?_
   refine seq_do (v := .pointer (some ⟨g2, 0, none⟩)) hA rfl rfl rfl (d_field RxI_fld_26_0 rfl rfl) fun a hA => ?_
   refine seq_do hA rfl rfl rfl (d_loadS hS RxI_isS_24 rfl 0 rfl (cs := [.bool q.b1, .slice a1 q.t1.length ac1, .slice a2 q.q1.length ac2]) rfl rfl) fun a hA => ?_
   refine mv hA rfl rfl rfl fun a hA => ?_
   refine seq_call hA rfl rfl rfl (enters_func  rfl rfl (fun w => by kernel_rfl)) (ratT_any (b := q.b1) (t := q.t1) (q := q.q1) (r := r) ⟨(hS.rd 3 rfl), ha.s1.nil, ha.s1.cap⟩ ⟨(hS.rd 2 rfl), ha.s2.nil, ha.s2.cap⟩ hr hl.l1 hl.l2) ?_
   rintro _ w27 ⟨rfl, hb26⟩
   replace hS := hS.call hb26
   refine ⟨_, rfl, ?_⟩
   intro a hA
   refine seq_do hA rfl rfl rfl (d_assign rfl) fun a hA => ?_
   refine seq_end ?_
   refine hK23 _ _ ?_
   refine wp_seq_k (fun K28 hK28 => ?_)
   refine wp_region_lit ?_
   refine seq_newU (us := [1]) (t := 40) (m := 1) hA hS rfl rfl rfl (d_buildSlice rfl (by kernel_rfl)) (by simp [Dig]) ?_
   intro g29 w30 hS a hA
   refine seq_newU (us := [1]) (t := 40) (m := 1) hA hS rfl rfl rfl (d_buildSlice rfl (by kernel_rfl)) (by simp [Dig]) ?_
   intro g31 w32 hS a hA
   refine seq_do (v := .agg #[.bool false, .slice (some ⟨g29, 0, none⟩) 1 1, .slice (some ⟨g31, 0, none⟩) 1 1]) hA rfl rfl rfl (d_build rfl (fun w => by kernel_rfl)) fun a hA => ?_
   refine seq_new (vs := [.bool false, .slice none 0 0, .slice none 0 0]) (t := 24) hA hS rfl rfl rfl (fun g => .pointer (some ⟨g, 0, none⟩)) (d_alloc (z := .agg #[.bool false, .slice none 0 0, .slice none 0 0]) (by kernel_rfl) rfl) rfl ?_
   intro g33 w34 hS a hA
   refine seq_store (us := [.bool false, .slice (some ⟨g29, 0, none⟩) 1 1, .slice (some ⟨g31, 0, none⟩) 1 1]) hA hS rfl rfl (sets_store rfl rfl rfl (by kernel_rfl) hS 0 rfl rfl rfl) 0 rfl rfl rfl rfl ?_
   intro w35 hS
   refine seq_end ?_
   refine hK28 _ _ ?_
   refine wp_seq_k (fun K36 hK36 => ?_)
   refine wp_block ?_
   refine wp_seq_k (fun K37 hK37 => ?_)
   refine wp_region_lit ?_
   refine seq_do (v := .pointer (some ⟨g2, 3, none⟩)) hA rfl rfl rfl (d_field RxI_fld_26_1 rfl rfl) fun a hA => ?_
   refine seq_do hA rfl rfl rfl (d_loadS hS RxI_isS_24 rfl 1 rfl (cs := [.bool q.b2, .slice a3 q.t2.length ac3, .slice a4 q.q2.length ac4]) rfl rfl) fun a hA => ?_
   refine seq_do hA rfl rfl rfl (d_loadS hS RxI_isS_24 rfl 0 rfl (cs := [.bool false, .slice (some ⟨g29, 0, none⟩) 1 1, .slice (some ⟨g31, 0, none⟩) 1 1]) rfl rfl) fun a hA => ?_
   rcases Bool.eq_false_or_eq_true (sameF q.b2 q.t2 q.q2 false [1] [1]) with hb38 | hb38
   ·
    refine seq_call hA rfl rfl rfl (enters_func  rfl rfl (fun w => by kernel_rfl)) (ratSame_any ⟨(hS.rd 3 rfl), ha.s3.nil, ha.s3.cap⟩ ⟨(hS.rd 2 rfl), ha.s4.nil, ha.s4.cap⟩ ⟨(hS.rd 1 rfl), (fun h => by cases h), (Nat.le_refl _)⟩ ⟨(hS.rd 0 rfl), (fun h => by cases h), (Nat.le_refl _)⟩ hl.l3 hl.l4 (by decide) (by decide) hb38) ?_
    rintro _ w40 ⟨rfl, hb39⟩
    replace hS := hS.call hb39
    refine ⟨_, rfl, ?_⟩
    intro a hA
    refine seq_do hA rfl rfl rfl (d_assign rfl) fun a hA => ?_
    refine seq_end ?_
    refine hK37 _ _ ?_
    refine wp_cond_true (hA.ev rfl) ?_
    refine wp_region_lit ?_
    refine mv hA rfl rfl rfl fun a hA => ?_
    refine seq_do (v := .string (bsL (realL r q.b1 q.t1 q.q1 ++ ([43])))) hA rfl rfl rfl (d_bin rfl rfl (bin_addT (a := realL r q.b1 q.t1 q.q1) (b := [43]) (by first | omega | (simp only [List.length_append, List.length_cons, List.length_nil]; omega)))) fun a hA => ?_
    refine seq_do hA rfl rfl rfl (d_assign rfl) fun a hA => ?_
    refine seq_end ?_
    refine hK36 _ _ ?_
    refine wp_seq_k (fun K41 hK41 => ?_)
    refine wp_region_lit ?_
    refine mv hA rfl rfl rfl fun a hA => ?_
    refine seq_do (v := .string (bsL (realL r q.b1 q.t1 q.q1 ++ ([43]) ++ ([105])))) hA rfl rfl rfl (d_bin rfl rfl (bin_addT (a := realL r q.b1 q.t1 q.q1 ++ ([43])) (b := [105]) (by first | omega | (simp only [List.length_append, List.length_cons, List.length_nil]; omega)))) fun a hA => ?_
    refine seq_do hA rfl rfl rfl (d_assign rfl) fun a hA => ?_
    refine seq_do hA rfl rfl rfl (d_assign rfl) fun a hA => ?_
    refine seq_end ?_
    refine hK41 _ _ ?_
    refine wp_ret ?_
    refine hret _ _ ?_
    refine ends (v := .tuple #[.string (bsL (realL r q.b1 q.t1 q.q1 ++ ([43]) ++ ([105]))), .int .i64 0]) hA rfl (.cons (res_tmp rfl) (.cons (res_tmp rfl) .nil)) rfl ?_
    exact ⟨by rw [show textL r q = realL r q.b1 q.t1 q.q1 ++ ([43]) ++ ([105]) from by unfold textL; rw [if_neg hb14', if_neg (show ¬ q.t1.length = 0 from by omega), im1 hb38]; simp only [List.append_assoc, List.nil_append]], hS.bel⟩
   ·
    refine seq_call hA rfl rfl rfl (enters_func  rfl rfl (fun w => by kernel_rfl)) (ratSame_any ⟨(hS.rd 3 rfl), ha.s3.nil, ha.s3.cap⟩ ⟨(hS.rd 2 rfl), ha.s4.nil, ha.s4.cap⟩ ⟨(hS.rd 1 rfl), (fun h => by cases h), (Nat.le_refl _)⟩ ⟨(hS.rd 0 rfl), (fun h => by cases h), (Nat.le_refl _)⟩ hl.l3 hl.l4 (by decide) (by decide) hb38) ?_
    rintro _ w43 ⟨rfl, hb42⟩
    replace hS := hS.call hb42
    refine ⟨_, rfl, ?_⟩
    intro a hA
    refine seq_do hA rfl rfl rfl (d_assign rfl) fun a hA => ?_
    refine seq_end ?_
    refine hK37 _ _ ?_
    refine wp_cond_false (hA.ev rfl) ?_
    refine wp_seq_k (fun K44 hK44 => ?_)
    refine wp_draw (S := fun w1 => St w w1 [(g33, [.bool false, .slice (some ⟨g29, 0, none⟩) 1 1, .slice (some ⟨g31, 0, none⟩) 1 1]), (g2, [.bool q.b1, .slice a1 q.t1.length ac1, .slice a2 q.q1.length ac2, .bool q.b2, .slice a3 q.t2.length ac3, .slice a4 q.q2.length ac4])] [(some ⟨g31, 0, none⟩, [1]), (some ⟨g29, 0, none⟩, [1]), (a4, q.q2), (a3, q.t2), (a2, q.q1), (a1, q.t1)] []) (by kernel_rfl) ?_
    replace hS := hS.drew
    refine any_tk (v := .pointer (some ⟨g2, 3, none⟩)) hA 0 rfl rfl rfl rfl hP hS (fun w1 hS => d_field RxI_fld_26_1 rfl rfl) fun a hA => ?_
    refine any_tk hA 1 rfl rfl rfl rfl hP hS (fun w1 hS => d_loadS hS RxI_isS_24 rfl 1 rfl (cs := [.bool q.b2, .slice a3 q.t2.length ac3, .slice a4 q.q2.length ac4]) rfl rfl) fun a hA => ?_
    refine any_tk hA 2 rfl rfl rfl rfl hP hS (fun w1 hS => d_loadS hS RxI_isS_24 rfl 0 rfl (cs := [.bool false, .slice (some ⟨g29, 0, none⟩) 1 1, .slice (some ⟨g31, 0, none⟩) 1 1]) rfl rfl) fun a hA => ?_
    refine any_one (by kernel_rfl) (op_call hA 3 rfl rfl rfl rfl (enters_func  rfl rfl (fun w => by kernel_rfl)) (rminus_any (r := true) rfl) ?_)
    rintro _ w46 ⟨rfl, hb45⟩
    replace hS := hS.call hb45
    refine ⟨_, rfl, hS, ?_⟩
    intro a hA
    rcases Bool.eq_false_or_eq_true (sameF q.b2 q.t2 q.q2 true [1] [1]) with hb47 | hb47
    ·
     refine any_one (by kernel_rfl) (op_call hA 4 rfl rfl rfl rfl (enters_func  rfl rfl (fun w => by kernel_rfl)) (ratSame_any ⟨(hS.rd 3 rfl), ha.s3.nil, ha.s3.cap⟩ ⟨(hS.rd 2 rfl), ha.s4.nil, ha.s4.cap⟩ ⟨(hS.rd 1 rfl), (fun h => by cases h), (Nat.le_refl _)⟩ ⟨(hS.rd 0 rfl), (fun h => by cases h), (Nat.le_refl _)⟩ hl.l3 hl.l4 (by decide) (by decide) hb47) ?_)
     rintro _ w49 ⟨rfl, hb48⟩
     replace hS := hS.call hb48
     refine ⟨_, rfl, hS, ?_⟩
     intro a hA
     refine any_tk hA 5 rfl rfl rfl rfl hP hS (fun w1 hS => d_assign rfl) fun a hA => ?_
     refine any_end (by kernel_rfl) ?_
     refine hK44 _ _ ?_
     refine wp_cond_true (hA.ev rfl) ?_
     refine wp_region_lit ?_
     refine mv hA rfl rfl rfl fun a hA => ?_
     refine seq_do (v := .string (bsL (realL r q.b1 q.t1 q.q1 ++ ([45])))) hA rfl rfl rfl (d_bin rfl rfl (bin_addT (a := realL r q.b1 q.t1 q.q1) (b := [45]) (by first | omega | (simp only [List.length_append, List.length_cons, List.length_nil]; omega)))) fun a hA => ?_
     refine seq_do hA rfl rfl rfl (d_assign rfl) fun a hA => ?_
     refine seq_end ?_
     refine hK36 _ _ ?_
     refine wp_seq_k (fun K50 hK50 => ?_)
     refine wp_region_lit ?_
     refine mv hA rfl rfl rfl fun a hA => ?_
     refine seq_do (v := .string (bsL (realL r q.b1 q.t1 q.q1 ++ ([45]) ++ ([105])))) hA rfl rfl rfl (d_bin rfl rfl (bin_addT (a := realL r q.b1 q.t1 q.q1 ++ ([45])) (b := [105]) (by first | omega | (simp only [List.length_append, List.length_cons, List.length_nil]; omega)))) fun a hA => ?_
     refine seq_do hA rfl rfl rfl (d_assign rfl) fun a hA => ?_
     refine seq_do hA rfl rfl rfl (d_assign rfl) fun a hA => ?_
     refine seq_end ?_
     refine hK50 _ _ ?_
     refine wp_ret ?_
     refine hret _ _ ?_
     refine ends (v := .tuple #[.string (bsL (realL r q.b1 q.t1 q.q1 ++ ([45]) ++ ([105]))), .int .i64 0]) hA rfl (.cons (res_tmp rfl) (.cons (res_tmp rfl) .nil)) rfl ?_
     exact ⟨by rw [show textL r q = realL r q.b1 q.t1 q.q1 ++ ([45]) ++ ([105]) from by unfold textL; rw [if_neg hb14', if_neg (show ¬ q.t1.length = 0 from by omega), im2 hb47]; simp only [List.append_assoc, List.nil_append]], hS.bel⟩
    ·
     refine any_one (by kernel_rfl) (op_call hA 4 rfl rfl rfl rfl (enters_func  rfl rfl (fun w => by kernel_rfl)) (ratSame_any ⟨(hS.rd 3 rfl), ha.s3.nil, ha.s3.cap⟩ ⟨(hS.rd 2 rfl), ha.s4.nil, ha.s4.cap⟩ ⟨(hS.rd 1 rfl), (fun h => by cases h), (Nat.le_refl _)⟩ ⟨(hS.rd 0 rfl), (fun h => by cases h), (Nat.le_refl _)⟩ hl.l3 hl.l4 (by decide) (by decide) hb47) ?_)
     rintro _ w52 ⟨rfl, hb51⟩
     replace hS := hS.call hb51
     refine ⟨_, rfl, hS, ?_⟩
     intro a hA
     refine any_tk hA 5 rfl rfl rfl rfl hP hS (fun w1 hS => d_assign rfl) fun a hA => ?_
     refine any_end (by kernel_rfl) ?_
     refine hK44 _ _ ?_
     refine wp_cond_false (hA.ev rfl) ?_
     refine wp_seq_k (fun K53 hK53 => ?_)
     refine wp_region_lit ?_
     refine seq_do (v := .pointer (some ⟨g2, 3, none⟩)) hA rfl rfl rfl (d_field RxI_fld_26_1 rfl rfl) fun a hA => ?_
     refine seq_do (v := .pointer (some ⟨g2, 3, none⟩)) hA rfl rfl rfl (d_field RxI_fld_24_0 rfl rfl) fun a hA => ?_
     refine seq_do hA rfl rfl rfl (d_load1 hS RxI_is1_4 rfl 1 rfl rfl) fun a hA => ?_
     refine seq_do hA rfl rfl rfl (d_assign rfl) fun a hA => ?_
     refine seq_end ?_
     refine hK53 _ _ ?_
     refine wp_cond_split (t := q.b2) (hA.ev rfl) (fun hc54 => ?_) (fun hc54 => ?_)
     ·
      refine wp_region_lit ?_
      refine mv hA rfl rfl rfl fun a hA => ?_
      refine seq_do (v := .pointer (some ⟨g2, 3, none⟩)) hA rfl rfl rfl (d_field RxI_fld_26_1 rfl rfl) fun a hA => ?_
      refine seq_do hA rfl rfl rfl (d_loadS hS RxI_isS_24 rfl 1 rfl (cs := [.bool q.b2, .slice a3 q.t2.length ac3, .slice a4 q.q2.length ac4]) rfl rfl) fun a hA => ?_
      refine mv hA rfl rfl rfl fun a hA => ?_
      refine seq_call hA rfl rfl rfl (enters_func  rfl rfl (fun w => by kernel_rfl)) (ratT_any (b := q.b2) (t := q.t2) (q := q.q2) (r := r) ⟨(hS.rd 3 rfl), ha.s3.nil, ha.s3.cap⟩ ⟨(hS.rd 2 rfl), ha.s4.nil, ha.s4.cap⟩ hr hl.l3 hl.l4) ?_
      rintro _ w56 ⟨rfl, hb55⟩
      replace hS := hS.call hb55
      refine ⟨_, rfl, ?_⟩
      intro a hA
      refine seq_do (v := .string (bsL (realL r q.b1 q.t1 q.q1 ++ (realL r q.b2 q.t2 q.q2)))) hA rfl rfl rfl (d_bin rfl rfl (bin_addT (a := realL r q.b1 q.t1 q.q1) (b := realL r q.b2 q.t2 q.q2) (by first | omega | (simp only [List.length_append, List.length_cons, List.length_nil]; omega)))) fun a hA => ?_
      refine seq_do hA rfl rfl rfl (d_assign rfl) fun a hA => ?_
      refine seq_end ?_
      refine hK36 _ _ ?_
      refine wp_seq_k (fun K57 hK57 => ?_)
      refine wp_region_lit ?_
      refine mv hA rfl rfl rfl fun a hA => ?_
      refine seq_do (v := .string (bsL (realL r q.b1 q.t1 q.q1 ++ (realL r q.b2 q.t2 q.q2) ++ ([105])))) hA rfl rfl rfl (d_bin rfl rfl (bin_addT (a := realL r q.b1 q.t1 q.q1 ++ (realL r q.b2 q.t2 q.q2)) (b := [105]) (by first | omega | (simp only [List.length_append, List.length_cons, List.length_nil]; omega)))) fun a hA => ?_
      refine seq_do hA rfl rfl rfl (d_assign rfl) fun a hA => ?_
      refine seq_do hA rfl rfl rfl (d_assign rfl) fun a hA => ?_
      refine seq_end ?_
      refine hK57 _ _ ?_
      refine wp_ret ?_
      refine hret _ _ ?_
      refine ends (v := .tuple #[.string (bsL (realL r q.b1 q.t1 q.q1 ++ (realL r q.b2 q.t2 q.q2) ++ ([105]))), .int .i64 0]) hA rfl (.cons (res_tmp rfl) (.cons (res_tmp rfl) .nil)) rfl ?_
      exact ⟨by rw [show textL r q = realL r q.b1 q.t1 q.q1 ++ (realL r q.b2 q.t2 q.q2) ++ ([105]) from by unfold textL; rw [if_neg hb14', if_neg (show ¬ q.t1.length = 0 from by omega), im3 hb38 hb47 hc54]; simp only [List.append_assoc, List.nil_append]], hS.bel⟩
     ·
      refine wp_region_lit ?_
      refine mv hA rfl rfl rfl fun a hA => ?_
      refine seq_do (v := .pointer (some ⟨g2, 3, none⟩)) hA rfl rfl rfl (d_field RxI_fld_26_1 rfl rfl) fun a hA => ?_
      refine seq_do hA rfl rfl rfl (d_loadS hS RxI_isS_24 rfl 1 rfl (cs := [.bool q.b2, .slice a3 q.t2.length ac3, .slice a4 q.q2.length ac4]) rfl rfl) fun a hA => ?_
      refine mv hA rfl rfl rfl fun a hA => ?_
      refine seq_call hA rfl rfl rfl (enters_func  rfl rfl (fun w => by kernel_rfl)) (ratT_any (b := q.b2) (t := q.t2) (q := q.q2) (r := r) ⟨(hS.rd 3 rfl), ha.s3.nil, ha.s3.cap⟩ ⟨(hS.rd 2 rfl), ha.s4.nil, ha.s4.cap⟩ hr hl.l3 hl.l4) ?_
      rintro _ w59 ⟨rfl, hb58⟩
      replace hS := hS.call hb58
      refine ⟨_, rfl, ?_⟩
      intro a hA
      refine seq_do (v := .string (bsL ([43] ++ (realL r q.b2 q.t2 q.q2)))) hA rfl rfl rfl (d_bin rfl rfl (bin_addT (a := [43]) (b := realL r q.b2 q.t2 q.q2) (by first | omega | (simp only [List.length_append, List.length_cons, List.length_nil]; omega)))) fun a hA => ?_
      refine seq_do (v := .string (bsL (realL r q.b1 q.t1 q.q1 ++ ([43] ++ (realL r q.b2 q.t2 q.q2))))) hA rfl rfl rfl (d_bin rfl rfl (bin_addT (a := realL r q.b1 q.t1 q.q1) (b := [43] ++ (realL r q.b2 q.t2 q.q2)) (by first | omega | (simp only [List.length_append, List.length_cons, List.length_nil]; omega)))) fun a hA => ?_
      refine seq_do hA rfl rfl rfl (d_assign rfl) fun a hA => ?_
      refine seq_end ?_
      refine hK36 _ _ ?_
      refine wp_seq_k (fun K60 hK60 => ?_)
      refine wp_region_lit ?_
      refine mv hA rfl rfl rfl fun a hA => ?_
      refine seq_do (v := .string (bsL (realL r q.b1 q.t1 q.q1 ++ ([43] ++ (realL r q.b2 q.t2 q.q2)) ++ ([105])))) hA rfl rfl rfl (d_bin rfl rfl (bin_addT (a := realL r q.b1 q.t1 q.q1 ++ ([43] ++ (realL r q.b2 q.t2 q.q2))) (b := [105]) (by first | omega | (simp only [List.length_append, List.length_cons, List.length_nil]; omega)))) fun a hA => ?_
      refine seq_do hA rfl rfl rfl (d_assign rfl) fun a hA => ?_
      refine seq_do hA rfl rfl rfl (d_assign rfl) fun a hA => ?_
      refine seq_end ?_
      refine hK60 _ _ ?_
      refine wp_ret ?_
      refine hret _ _ ?_
      refine ends (v := .tuple #[.string (bsL (realL r q.b1 q.t1 q.q1 ++ ([43] ++ (realL r q.b2 q.t2 q.q2)) ++ ([105]))), .int .i64 0]) hA rfl (.cons (res_tmp rfl) (.cons (res_tmp rfl) .nil)) rfl ?_
      exact ⟨by rw [show textL r q = realL r q.b1 q.t1 q.q1 ++ ([43] ++ (realL r q.b2 q.t2 q.q2)) ++ ([105]) from by unfold textL; rw [if_neg hb14', if_neg (show ¬ q.t1.length = 0 from by omega), im4 hb38 hb47 hc54]; simp only [List.append_assoc, List.nil_append]], hS.bel⟩
  ·
   have hb25' := of_decide_eq_false hb25
   refine seq_do (v := .bool false) hA rfl rfl rfl (d_bin rfl rfl (fun w => (bin_gtr w).trans (by rw [hb25]))) fun a hA => ?_
   refine seq_end ?_
   refine hK24 _ _ ?_
   refine wp_cond_false (hA.ev rfl) ?_
   refine wp_skip ?_
   refine hK23 _ _ ?_
   refine wp_seq_k (fun K61 hK61 => ?_)
   refine wp_region_lit ?_
   refine seq_newU (us := [1]) (t := 40) (m := 1) hA hS rfl rfl rfl (d_buildSlice rfl (by kernel_rfl)) (by simp [Dig]) ?_
   intro g62 w63 hS a hA
   refine seq_newU (us := [1]) (t := 40) (m := 1) hA hS rfl rfl rfl (d_buildSlice rfl (by kernel_rfl)) (by simp [Dig]) ?_
   intro g64 w65 hS a hA
   refine seq_do (v := .agg #[.bool false, .slice (some ⟨g62, 0, none⟩) 1 1, .slice (some ⟨g64, 0, none⟩) 1 1]) hA rfl rfl rfl (d_build rfl (fun w => by kernel_rfl)) fun a hA => ?_
   refine seq_new (vs := [.bool false, .slice none 0 0, .slice none 0 0]) (t := 24) hA hS rfl rfl rfl (fun g => .pointer (some ⟨g, 0, none⟩)) (d_alloc (z := .agg #[.bool false, .slice none 0 0, .slice none 0 0]) (by kernel_rfl) rfl) rfl ?_
   intro g66 w67 hS a hA
   refine seq_store (us := [.bool false, .slice (some ⟨g62, 0, none⟩) 1 1, .slice (some ⟨g64, 0, none⟩) 1 1]) hA hS rfl rfl (sets_store rfl rfl rfl (by kernel_rfl) hS 0 rfl rfl rfl) 0 rfl rfl rfl rfl ?_
   intro w68 hS
   refine seq_end ?_
   refine hK61 _ _ ?_
   refine wp_seq_k (fun K69 hK69 => ?_)
   refine wp_block ?_
   refine wp_seq_k (fun K70 hK70 => ?_)
   refine wp_region_lit ?_
   refine seq_do (v := .pointer (some ⟨g2, 3, none⟩)) hA rfl rfl rfl (d_field RxI_fld_26_1 rfl rfl) fun a hA => ?_
   refine seq_do hA rfl rfl rfl (d_loadS hS RxI_isS_24 rfl 1 rfl (cs := [.bool q.b2, .slice a3 q.t2.length ac3, .slice a4 q.q2.length ac4]) rfl rfl) fun a hA => ?_
   refine seq_do hA rfl rfl rfl (d_loadS hS RxI_isS_24 rfl 0 rfl (cs := [.bool false, .slice (some ⟨g62, 0, none⟩) 1 1, .slice (some ⟨g64, 0, none⟩) 1 1]) rfl rfl) fun a hA => ?_
   rcases Bool.eq_false_or_eq_true (sameF q.b2 q.t2 q.q2 false [1] [1]) with hb71 | hb71
   ·
    refine seq_call hA rfl rfl rfl (enters_func  rfl rfl (fun w => by kernel_rfl)) (ratSame_any ⟨(hS.rd 3 rfl), ha.s3.nil, ha.s3.cap⟩ ⟨(hS.rd 2 rfl), ha.s4.nil, ha.s4.cap⟩ ⟨(hS.rd 1 rfl), (fun h => by cases h), (Nat.le_refl _)⟩ ⟨(hS.rd 0 rfl), (fun h => by cases h), (Nat.le_refl _)⟩ hl.l3 hl.l4 (by decide) (by decide) hb71) ?_
    rintro _ w73 ⟨rfl, hb72⟩
    replace hS := hS.call hb72
    refine ⟨_, rfl, ?_⟩
    intro a hA
    refine seq_do hA rfl rfl rfl (d_assign rfl) fun a hA => ?_
    refine seq_end ?_
    refine hK70 _ _ ?_
    refine wp_cond_true (hA.ev rfl) ?_
    refine wp_region_lit ?_
    refine mv hA rfl rfl rfl fun a hA => ?_
    refine seq_do (v := .string (bsL ([] ++ ([43])))) hA rfl rfl rfl (d_bin rfl rfl (bin_addT (a := []) (b := [43]) (by first | omega | (simp only [List.length_append, List.length_cons, List.length_nil]; omega)))) fun a hA => ?_
    refine seq_do hA rfl rfl rfl (d_assign rfl) fun a hA => ?_
    refine seq_end ?_
    refine hK69 _ _ ?_
    refine wp_seq_k (fun K74 hK74 => ?_)
    refine wp_region_lit ?_
    refine mv hA rfl rfl rfl fun a hA => ?_
    refine seq_do (v := .string (bsL ([] ++ ([43]) ++ ([105])))) hA rfl rfl rfl (d_bin rfl rfl (bin_addT (a := [] ++ ([43])) (b := [105]) (by first | omega | (simp only [List.length_append, List.length_cons, List.length_nil]; omega)))) fun a hA => ?_
    refine seq_do hA rfl rfl rfl (d_assign rfl) fun a hA => ?_
    refine seq_do hA rfl rfl rfl (d_assign rfl) fun a hA => ?_
    refine seq_end ?_
    refine hK74 _ _ ?_
    refine wp_ret ?_
    refine hret _ _ ?_
    refine ends (v := .tuple #[.string (bsL ([] ++ ([43]) ++ ([105]))), .int .i64 0]) hA rfl (.cons (res_tmp rfl) (.cons (res_tmp rfl) .nil)) rfl ?_
    exact ⟨by rw [show textL r q = [] ++ ([43]) ++ ([105]) from by unfold textL; rw [if_neg hb14', if_pos (show q.t1.length = 0 from by omega), im1 hb71]; simp only [List.append_assoc, List.nil_append]], hS.bel⟩
   ·
    refine seq_call hA rfl rfl rfl (enters_func  rfl rfl (fun w => by kernel_rfl)) (ratSame_any ⟨(hS.rd 3 rfl), ha.s3.nil, ha.s3.cap⟩ ⟨(hS.rd 2 rfl), ha.s4.nil, ha.s4.cap⟩ ⟨(hS.rd 1 rfl), (fun h => by cases h), (Nat.le_refl _)⟩ ⟨(hS.rd 0 rfl), (fun h => by cases h), (Nat.le_refl _)⟩ hl.l3 hl.l4 (by decide) (by decide) hb71) ?_
    rintro _ w76 ⟨rfl, hb75⟩
    replace hS := hS.call hb75
    refine ⟨_, rfl, ?_⟩
    intro a hA
    refine seq_do hA rfl rfl rfl (d_assign rfl) fun a hA => ?_
    refine seq_end ?_
    refine hK70 _ _ ?_
    refine wp_cond_false (hA.ev rfl) ?_
    refine wp_seq_k (fun K77 hK77 => ?_)
    refine wp_draw (S := fun w1 => St w w1 [(g66, [.bool false, .slice (some ⟨g62, 0, none⟩) 1 1, .slice (some ⟨g64, 0, none⟩) 1 1]), (g2, [.bool q.b1, .slice a1 q.t1.length ac1, .slice a2 q.q1.length ac2, .bool q.b2, .slice a3 q.t2.length ac3, .slice a4 q.q2.length ac4])] [(some ⟨g64, 0, none⟩, [1]), (some ⟨g62, 0, none⟩, [1]), (a4, q.q2), (a3, q.t2), (a2, q.q1), (a1, q.t1)] []) (by kernel_rfl) ?_
    replace hS := hS.drew
    refine any_tk (v := .pointer (some ⟨g2, 3, none⟩)) hA 0 rfl rfl rfl rfl hP hS (fun w1 hS => d_field RxI_fld_26_1 rfl rfl) fun a hA => ?_
    refine any_tk hA 1 rfl rfl rfl rfl hP hS (fun w1 hS => d_loadS hS RxI_isS_24 rfl 1 rfl (cs := [.bool q.b2, .slice a3 q.t2.length ac3, .slice a4 q.q2.length ac4]) rfl rfl) fun a hA => ?_
    refine any_tk hA 2 rfl rfl rfl rfl hP hS (fun w1 hS => d_loadS hS RxI_isS_24 rfl 0 rfl (cs := [.bool false, .slice (some ⟨g62, 0, none⟩) 1 1, .slice (some ⟨g64, 0, none⟩) 1 1]) rfl rfl) fun a hA => ?_
    refine any_one (by kernel_rfl) (op_call hA 3 rfl rfl rfl rfl (enters_func  rfl rfl (fun w => by kernel_rfl)) (rminus_any (r := true) rfl) ?_)
    rintro _ w79 ⟨rfl, hb78⟩
    replace hS := hS.call hb78
    refine ⟨_, rfl, hS, ?_⟩
    intro a hA
    rcases Bool.eq_false_or_eq_true (sameF q.b2 q.t2 q.q2 true [1] [1]) with hb80 | hb80
    ·
     refine any_one (by kernel_rfl) (op_call hA 4 rfl rfl rfl rfl (enters_func  rfl rfl (fun w => by kernel_rfl)) (ratSame_any ⟨(hS.rd 3 rfl), ha.s3.nil, ha.s3.cap⟩ ⟨(hS.rd 2 rfl), ha.s4.nil, ha.s4.cap⟩ ⟨(hS.rd 1 rfl), (fun h => by cases h), (Nat.le_refl _)⟩ ⟨(hS.rd 0 rfl), (fun h => by cases h), (Nat.le_refl _)⟩ hl.l3 hl.l4 (by decide) (by decide) hb80) ?_)
     rintro _ w82 ⟨rfl, hb81⟩
     replace hS := hS.call hb81
     refine ⟨_, rfl, hS, ?_⟩
     intro a hA
     refine any_tk hA 5 rfl rfl rfl rfl hP hS (fun w1 hS => d_assign rfl) fun a hA => ?_
     refine any_end (by kernel_rfl) ?_
     refine hK77 _ _ ?_
     refine wp_cond_true (hA.ev rfl) ?_
     refine wp_region_lit ?_
     refine mv hA rfl rfl rfl fun a hA => ?_
     refine seq_do (v := .string (bsL ([] ++ ([45])))) hA rfl rfl rfl (d_bin rfl rfl (bin_addT (a := []) (b := [45]) (by first | omega | (simp only [List.length_append, List.length_cons, List.length_nil]; omega)))) fun a hA => ?_
     refine seq_do hA rfl rfl rfl (d_assign rfl) fun a hA => ?_
     refine seq_end ?_
     refine hK69 _ _ ?_
     refine wp_seq_k (fun K83 hK83 => ?_)
     refine wp_region_lit ?_
     refine mv hA rfl rfl rfl fun a hA => ?_
     refine seq_do (v := .string (bsL ([] ++ ([45]) ++ ([105])))) hA rfl rfl rfl (d_bin rfl rfl (bin_addT (a := [] ++ ([45])) (b := [105]) (by first | omega | (simp only [List.length_append, List.length_cons, List.length_nil]; omega)))) fun a hA => ?_
     refine seq_do hA rfl rfl rfl (d_assign rfl) fun a hA => ?_
     refine seq_do hA rfl rfl rfl (d_assign rfl) fun a hA => ?_
     refine seq_end ?_
     refine hK83 _ _ ?_
     refine wp_ret ?_
     refine hret _ _ ?_
     refine ends (v := .tuple #[.string (bsL ([] ++ ([45]) ++ ([105]))), .int .i64 0]) hA rfl (.cons (res_tmp rfl) (.cons (res_tmp rfl) .nil)) rfl ?_
     exact ⟨by rw [show textL r q = [] ++ ([45]) ++ ([105]) from by unfold textL; rw [if_neg hb14', if_pos (show q.t1.length = 0 from by omega), im2 hb80]; simp only [List.append_assoc, List.nil_append]], hS.bel⟩
    ·
     refine any_one (by kernel_rfl) (op_call hA 4 rfl rfl rfl rfl (enters_func  rfl rfl (fun w => by kernel_rfl)) (ratSame_any ⟨(hS.rd 3 rfl), ha.s3.nil, ha.s3.cap⟩ ⟨(hS.rd 2 rfl), ha.s4.nil, ha.s4.cap⟩ ⟨(hS.rd 1 rfl), (fun h => by cases h), (Nat.le_refl _)⟩ ⟨(hS.rd 0 rfl), (fun h => by cases h), (Nat.le_refl _)⟩ hl.l3 hl.l4 (by decide) (by decide) hb80) ?_)
     rintro _ w85 ⟨rfl, hb84⟩
     replace hS := hS.call hb84
     refine ⟨_, rfl, hS, ?_⟩
     intro a hA
     refine any_tk hA 5 rfl rfl rfl rfl hP hS (fun w1 hS => d_assign rfl) fun a hA => ?_
     refine any_end (by kernel_rfl) ?_
     refine hK77 _ _ ?_
     refine wp_cond_false (hA.ev rfl) ?_
     refine wp_seq_k (fun K86 hK86 => ?_)
     refine wp_region_lit ?_
     refine seq_do (v := .pointer (some ⟨g2, 3, none⟩)) hA rfl rfl rfl (d_field RxI_fld_26_1 rfl rfl) fun a hA => ?_
     refine seq_do (v := .pointer (some ⟨g2, 3, none⟩)) hA rfl rfl rfl (d_field RxI_fld_24_0 rfl rfl) fun a hA => ?_
     refine seq_do hA rfl rfl rfl (d_load1 hS RxI_is1_4 rfl 1 rfl rfl) fun a hA => ?_
     refine seq_do hA rfl rfl rfl (d_assign rfl) fun a hA => ?_
     refine seq_end ?_
     refine hK86 _ _ ?_
     refine wp_cond_split (t := q.b2) (hA.ev rfl) (fun hc87 => ?_) (fun hc87 => ?_)
     ·
      refine wp_region_lit ?_
      refine mv hA rfl rfl rfl fun a hA => ?_
      refine seq_do (v := .pointer (some ⟨g2, 3, none⟩)) hA rfl rfl rfl (d_field RxI_fld_26_1 rfl rfl) fun a hA => ?_
      refine seq_do hA rfl rfl rfl (d_loadS hS RxI_isS_24 rfl 1 rfl (cs := [.bool q.b2, .slice a3 q.t2.length ac3, .slice a4 q.q2.length ac4]) rfl rfl) fun a hA => ?_
      refine mv hA rfl rfl rfl fun a hA => ?_
      refine seq_call hA rfl rfl rfl (enters_func  rfl rfl (fun w => by kernel_rfl)) (ratT_any (b := q.b2) (t := q.t2) (q := q.q2) (r := r) ⟨(hS.rd 3 rfl), ha.s3.nil, ha.s3.cap⟩ ⟨(hS.rd 2 rfl), ha.s4.nil, ha.s4.cap⟩ hr hl.l3 hl.l4) ?_
      rintro _ w89 ⟨rfl, hb88⟩
      replace hS := hS.call hb88
      refine ⟨_, rfl, ?_⟩
      intro a hA
      refine seq_do (v := .string (bsL ([] ++ (realL r q.b2 q.t2 q.q2)))) hA rfl rfl rfl (d_bin rfl rfl (bin_addT (a := []) (b := realL r q.b2 q.t2 q.q2) (by first | omega | (simp only [List.length_append, List.length_cons, List.length_nil]; omega)))) fun a hA => ?_
      refine seq_do hA rfl rfl rfl (d_assign rfl) fun a hA => ?_
      refine seq_end ?_
      refine hK69 _ _ ?_
      refine wp_seq_k (fun K90 hK90 => ?_)
      refine wp_region_lit ?_
      refine mv hA rfl rfl rfl fun a hA => ?_
      refine seq_do (v := .string (bsL ([] ++ (realL r q.b2 q.t2 q.q2) ++ ([105])))) hA rfl rfl rfl (d_bin rfl rfl (bin_addT (a := [] ++ (realL r q.b2 q.t2 q.q2)) (b := [105]) (by first | omega | (simp only [List.length_append, List.length_cons, List.length_nil]; omega)))) fun a hA => ?_
      refine seq_do hA rfl rfl rfl (d_assign rfl) fun a hA => ?_
      refine seq_do hA rfl rfl rfl (d_assign rfl) fun a hA => ?_
      refine seq_end ?_
      refine hK90 _ _ ?_
      refine wp_ret ?_
      refine hret _ _ ?_
      refine ends (v := .tuple #[.string (bsL ([] ++ (realL r q.b2 q.t2 q.q2) ++ ([105]))), .int .i64 0]) hA rfl (.cons (res_tmp rfl) (.cons (res_tmp rfl) .nil)) rfl ?_
      exact ⟨by rw [show textL r q = [] ++ (realL r q.b2 q.t2 q.q2) ++ ([105]) from by unfold textL; rw [if_neg hb14', if_pos (show q.t1.length = 0 from by omega), im3 hb71 hb80 hc87]; simp only [List.append_assoc, List.nil_append]], hS.bel⟩
     ·
      refine wp_region_lit ?_
      refine mv hA rfl rfl rfl fun a hA => ?_
      refine seq_do (v := .pointer (some ⟨g2, 3, none⟩)) hA rfl rfl rfl (d_field RxI_fld_26_1 rfl rfl) fun a hA => ?_
      refine seq_do hA rfl rfl rfl (d_loadS hS RxI_isS_24 rfl 1 rfl (cs := [.bool q.b2, .slice a3 q.t2.length ac3, .slice a4 q.q2.length ac4]) rfl rfl) fun a hA => ?_
      refine mv hA rfl rfl rfl fun a hA => ?_
      refine seq_call hA rfl rfl rfl (enters_func  rfl rfl (fun w => by kernel_rfl)) (ratT_any (b := q.b2) (t := q.t2) (q := q.q2) (r := r) ⟨(hS.rd 3 rfl), ha.s3.nil, ha.s3.cap⟩ ⟨(hS.rd 2 rfl), ha.s4.nil, ha.s4.cap⟩ hr hl.l3 hl.l4) ?_
      rintro _ w92 ⟨rfl, hb91⟩
      replace hS := hS.call hb91
      refine ⟨_, rfl, ?_⟩
      intro a hA
      refine seq_do (v := .string (bsL ([43] ++ (realL r q.b2 q.t2 q.q2)))) hA rfl rfl rfl (d_bin rfl rfl (bin_addT (a := [43]) (b := realL r q.b2 q.t2 q.q2) (by first | omega | (simp only [List.length_append, List.length_cons, List.length_nil]; omega)))) fun a hA => ?_
      refine seq_do (v := .string (bsL ([] ++ ([43] ++ (realL r q.b2 q.t2 q.q2))))) hA rfl rfl rfl (d_bin rfl rfl (bin_addT (a := []) (b := [43] ++ (realL r q.b2 q.t2 q.q2)) (by first | omega | (simp only [List.length_append, List.length_cons, List.length_nil]; omega)))) fun a hA => ?_
      refine seq_do hA rfl rfl rfl (d_assign rfl) fun a hA => ?_
      refine seq_end ?_
      refine hK69 _ _ ?_
      refine wp_seq_k (fun K93 hK93 => ?_)
      refine wp_region_lit ?_
      refine mv hA rfl rfl rfl fun a hA => ?_
      refine seq_do (v := .string (bsL ([] ++ ([43] ++ (realL r q.b2 q.t2 q.q2)) ++ ([105])))) hA rfl rfl rfl (d_bin rfl rfl (bin_addT (a := [] ++ ([43] ++ (realL r q.b2 q.t2 q.q2))) (b := [105]) (by first | omega | (simp only [List.length_append, List.length_cons, List.length_nil]; omega)))) fun a hA => ?_
      refine seq_do hA rfl rfl rfl (d_assign rfl) fun a hA => ?_
      refine seq_do hA rfl rfl rfl (d_assign rfl) fun a hA => ?_
      refine seq_end ?_
      refine hK93 _ _ ?_
      refine wp_ret ?_
      refine hret _ _ ?_
      refine ends (v := .tuple #[.string (bsL ([] ++ ([43] ++ (realL r q.b2 q.t2 q.q2)) ++ ([105]))), .int .i64 0]) hA rfl (.cons (res_tmp rfl) (.cons (res_tmp rfl) .nil)) rfl ?_
      exact ⟨by rw [show textL r q = [] ++ ([43] ++ (realL r q.b2 q.t2 q.q2)) ++ ([105]) from by unfold textL; rw [if_neg hb14', if_pos (show q.t1.length = 0 from by omega), im4 hb71 hb80 hc87]; simp only [List.append_assoc, List.nil_append]], hS.bel⟩
end Go.Proofs.YtjmhdebfpnjceaaGreat
namespace Go.Proofs.YtjmhdebfpnjceaaGreat
open Go.RowKit
set_option linter.unusedVariables false
set_option linter.unusedSimpArgs false
set_option maxRecDepth 100000
theorem RxJ_isS_26 : IsS Tryz.prog 26 6 := ⟨⟨_, Tryz.underlying26⟩, by kernel_rfl⟩
theorem texts_form {w : World} {q : Q6} {a1 a2 a3 a4 : Option Addr} {ac1 ac2 ac3 ac4 : Nat} (ha : Nm w q a1 ac1 a2 ac2 a3 ac3 a4 ac4) (hl : LenQ q) {n : Int} (hs : soundQ q = false) : Calls Tryz.prog 3 #[numV q a1 ac1 a2 ac2 a3 ac3 a4 ac4, .int .i64 n] w fun e w' => e = .returned (.bool true) ∧ Below w.heap.size w w' := by
 have hS : St w w [] [(a4, q.q2), (a3, q.t2), (a2, q.q1), (a1, q.t1)] [] := ((((St.start w).addR ha.s1.rd).addR ha.s2.rd).addR ha.s3.rd).addR ha.s4.rd
 refine walk_of (l := [(0, .agg #[.bool q.b1, .slice a1 q.t1.length ac1, .slice a2 q.q1.length ac2, .bool q.b2, .slice a3 q.t2.length ac3, .slice a4 q.q2.length ac4]), (1, .int .i64 n)]) Tryz.func3 rfl Tryz.ntmps3 rfl rfl ?_
 intro Q hret hnorm hP a hA
 refine wp_seq_k (fun K1 hK1 => ?_)
 refine wp_region_lit ?_
 refine seq_new hA hS rfl rfl rfl (fun g => .pointer (some ⟨g, 0, none⟩)) (d_box rfl rfl) rfl ?_
 intro g2 w3 hS a hA
 refine seq_do hA rfl rfl rfl (d_assign rfl) fun a hA => ?_
 refine seq_end ?_
 refine hK1 _ _ ?_
 refine wp_seq_k (fun K4 hK4 => ?_)
 refine wp_region_lit ?_
 refine seq_do hA rfl rfl rfl (d_loadS hS RxJ_isS_26 rfl 0 rfl (cs := [.bool q.b1, .slice a1 q.t1.length ac1, .slice a2 q.q1.length ac2, .bool q.b2, .slice a3 q.t2.length ac3, .slice a4 q.q2.length ac4]) rfl rfl) fun a hA => ?_
 refine mv hA rfl rfl rfl fun a hA => ?_
 refine seq_call hA rfl rfl rfl (enters_func  rfl rfl (fun w => by kernel_rfl)) (textP_form (show Nm _ _ a1 ac1 a2 ac2 a3 ac3 a4 ac4 from ⟨⟨(hS.rd 3 rfl), ha.s1.nil, ha.s1.cap⟩, ⟨(hS.rd 2 rfl), ha.s2.nil, ha.s2.cap⟩, ⟨(hS.rd 1 rfl), ha.s3.nil, ha.s3.cap⟩, ⟨(hS.rd 0 rfl), ha.s4.nil, ha.s4.cap⟩⟩) hl hs) ?_
 rintro _ w6 ⟨rfl, hb5⟩
 replace hS := hS.call hb5
 refine ⟨_, rfl, ?_⟩
 intro a hA
 refine mv hA rfl rfl rfl fun a hA => ?_
 refine seq_do (v := .string (bsL [])) hA rfl rfl rfl (d_extract (vs := [.string (bsL []), .int .i64 2]) rfl rfl) fun a hA => ?_
 refine seq_do (v := .int .i64 2) hA rfl rfl rfl (d_extract (vs := [.string (bsL []), .int .i64 2]) rfl rfl) fun a hA => ?_
 refine seq_do hA rfl rfl rfl (d_assign rfl) fun a hA => ?_
 refine seq_do hA rfl rfl rfl (d_assign rfl) fun a hA => ?_
 refine seq_end ?_
 refine hK4 _ _ ?_
 refine wp_seq_k (fun K7 hK7 => ?_)
 refine wp_region_lit ?_
 refine seq_do hA rfl rfl rfl (d_loadS hS RxJ_isS_26 rfl 0 rfl (cs := [.bool q.b1, .slice a1 q.t1.length ac1, .slice a2 q.q1.length ac2, .bool q.b2, .slice a3 q.t2.length ac3, .slice a4 q.q2.length ac4]) rfl rfl) fun a hA => ?_
 refine mv hA rfl rfl rfl fun a hA => ?_
 refine seq_call hA rfl rfl rfl (enters_func  rfl rfl (fun w => by kernel_rfl)) (textR_form (show Nm _ _ a1 ac1 a2 ac2 a3 ac3 a4 ac4 from ⟨⟨(hS.rd 3 rfl), ha.s1.nil, ha.s1.cap⟩, ⟨(hS.rd 2 rfl), ha.s2.nil, ha.s2.cap⟩, ⟨(hS.rd 1 rfl), ha.s3.nil, ha.s3.cap⟩, ⟨(hS.rd 0 rfl), ha.s4.nil, ha.s4.cap⟩⟩) hl hs) ?_
 rintro _ w9 ⟨rfl, hb8⟩
 replace hS := hS.call hb8
 refine ⟨_, rfl, ?_⟩
 intro a hA
 refine mv hA rfl rfl rfl fun a hA => ?_
 refine seq_do (v := .string (bsL [])) hA rfl rfl rfl (d_extract (vs := [.string (bsL []), .int .i64 2]) rfl rfl) fun a hA => ?_
 refine seq_do (v := .int .i64 2) hA rfl rfl rfl (d_extract (vs := [.string (bsL []), .int .i64 2]) rfl rfl) fun a hA => ?_
 refine seq_do hA rfl rfl rfl (d_assign rfl) fun a hA => ?_
 refine seq_do hA rfl rfl rfl (d_assign rfl) fun a hA => ?_
 refine seq_end ?_
 refine hK7 _ _ ?_
 refine wp_seq_k (fun K10 hK10 => ?_)
 refine wp_seq_k (fun K11 hK11 => ?_)
 refine wp_region_lit ?_
 refine seq_call hA rfl rfl rfl (enters_func  rfl rfl (fun w => by kernel_rfl)) (awake3_any) ?_
 rintro _ w13 ⟨rfl, hb12⟩
 replace hS := hS.call hb12
 refine ⟨_, rfl, ?_⟩
 intro a hA
 refine seq_do (v := .bool false) hA rfl rfl rfl (d_un rfl un_not) fun a hA => ?_
 refine mv hA rfl rfl rfl fun a hA => ?_
 refine mv hA rfl rfl rfl fun a hA => ?_
 refine mv hA rfl rfl rfl fun a hA => ?_
 refine seq_do (v := .bool false) hA rfl rfl rfl (d_bin rfl rfl (fun w => (bin_neqT (a := []) (b := []) Tryz.underlying9 w).trans (by rw [show (decide ([] = ([] : List UInt8))) = true from (decide_eq_true rfl)]; try rfl))) fun a hA => ?_
 refine seq_do (v := .bool false) hA rfl rfl rfl (d_pick rfl rfl rfl rfl) fun a hA => ?_
 refine mv hA rfl rfl rfl fun a hA => ?_
 refine mv hA rfl rfl rfl fun a hA => ?_
 refine mv hA rfl rfl rfl fun a hA => ?_
 refine seq_do (v := .bool false) hA rfl rfl rfl (d_bin rfl rfl (fun w => by kernel_rfl)) fun a hA => ?_
 refine seq_do (v := .bool false) hA rfl rfl rfl (d_pick rfl rfl rfl rfl) fun a hA => ?_
 refine seq_end ?_
 refine hK11 _ _ ?_
 refine wp_cond_false (hA.ev rfl) ?_
 refine wp_skip ?_
 refine hK10 _ _ ?_
 refine wp_seq_k (fun K14 hK14 => ?_)
 refine wp_seq_k (fun K15 hK15 => ?_)
 refine wp_region_lit ?_
 refine mv hA rfl rfl rfl fun a hA => ?_
 refine seq_do (v := .bool true) hA rfl rfl rfl (d_bin rfl rfl (fun w => by kernel_rfl)) fun a hA => ?_
 refine mv hA rfl rfl rfl fun a hA => ?_
 refine seq_skip hA rfl rfl rfl fun a hA => ?_
 refine seq_skip hA rfl rfl rfl fun a hA => ?_
 refine seq_skip hA rfl rfl rfl fun a hA => ?_
 refine seq_do (v := .bool true) hA rfl rfl rfl (d_pick rfl rfl rfl rfl) fun a hA => ?_
 refine seq_end ?_
 refine hK15 _ _ ?_
 refine wp_cond_true (hA.ev rfl) ?_
 refine wp_seq_k (fun K16 hK16 => ?_)
 refine wp_region_lit ?_
 refine seq_do hA rfl rfl rfl (d_assign rfl) fun a hA => ?_
 refine seq_end ?_
 refine hK16 _ _ ?_
 refine wp_ret ?_
 refine hret _ _ ?_
 refine ends (v := .bool true) hA rfl (.cons (res_tmp rfl) .nil) rfl ?_
 exact ⟨rfl, hS.bel⟩
theorem texts_norad {w : World} {q : Q6} {a1 a2 a3 a4 : Option Addr} {ac1 ac2 ac3 ac4 : Nat} (ha : Nm w q a1 ac1 a2 ac2 a3 ac3 a4 ac4) (hl : LenQ q) {n : Int} (hs : soundQ q = true) (hn : radixB n = false) : Calls Tryz.prog 3 #[numV q a1 ac1 a2 ac2 a3 ac3 a4 ac4, .int .i64 n] w fun e w' => e = .returned (.bool true) ∧ Below w.heap.size w w' := by
 have hS : St w w [] [(a4, q.q2), (a3, q.t2), (a2, q.q1), (a1, q.t1)] [] := ((((St.start w).addR ha.s1.rd).addR ha.s2.rd).addR ha.s3.rd).addR ha.s4.rd
 refine walk_of (l := [(0, .agg #[.bool q.b1, .slice a1 q.t1.length ac1, .slice a2 q.q1.length ac2, .bool q.b2, .slice a3 q.t2.length ac3, .slice a4 q.q2.length ac4]), (1, .int .i64 n)]) Tryz.func3 rfl Tryz.ntmps3 rfl rfl ?_
 intro Q hret hnorm hP a hA
 refine wp_seq_k (fun K1 hK1 => ?_)
 refine wp_region_lit ?_
 refine seq_new hA hS rfl rfl rfl (fun g => .pointer (some ⟨g, 0, none⟩)) (d_box rfl rfl) rfl ?_
 intro g2 w3 hS a hA
 refine seq_do hA rfl rfl rfl (d_assign rfl) fun a hA => ?_
 refine seq_end ?_
 refine hK1 _ _ ?_
 refine wp_seq_k (fun K4 hK4 => ?_)
 refine wp_region_lit ?_
 refine seq_do hA rfl rfl rfl (d_loadS hS RxJ_isS_26 rfl 0 rfl (cs := [.bool q.b1, .slice a1 q.t1.length ac1, .slice a2 q.q1.length ac2, .bool q.b2, .slice a3 q.t2.length ac3, .slice a4 q.q2.length ac4]) rfl rfl) fun a hA => ?_
 refine mv hA rfl rfl rfl fun a hA => ?_
 refine seq_call hA rfl rfl rfl (enters_func  rfl rfl (fun w => by kernel_rfl)) (textP_norad (show Nm _ _ a1 ac1 a2 ac2 a3 ac3 a4 ac4 from ⟨⟨(hS.rd 3 rfl), ha.s1.nil, ha.s1.cap⟩, ⟨(hS.rd 2 rfl), ha.s2.nil, ha.s2.cap⟩, ⟨(hS.rd 1 rfl), ha.s3.nil, ha.s3.cap⟩, ⟨(hS.rd 0 rfl), ha.s4.nil, ha.s4.cap⟩⟩) hl hs hn) ?_
 rintro _ w6 ⟨rfl, hb5⟩
 replace hS := hS.call hb5
 refine ⟨_, rfl, ?_⟩
 intro a hA
 refine mv hA rfl rfl rfl fun a hA => ?_
 refine seq_do (v := .string (bsL [])) hA rfl rfl rfl (d_extract (vs := [.string (bsL []), .int .i64 1]) rfl rfl) fun a hA => ?_
 refine seq_do (v := .int .i64 1) hA rfl rfl rfl (d_extract (vs := [.string (bsL []), .int .i64 1]) rfl rfl) fun a hA => ?_
 refine seq_do hA rfl rfl rfl (d_assign rfl) fun a hA => ?_
 refine seq_do hA rfl rfl rfl (d_assign rfl) fun a hA => ?_
 refine seq_end ?_
 refine hK4 _ _ ?_
 refine wp_seq_k (fun K7 hK7 => ?_)
 refine wp_region_lit ?_
 refine seq_do hA rfl rfl rfl (d_loadS hS RxJ_isS_26 rfl 0 rfl (cs := [.bool q.b1, .slice a1 q.t1.length ac1, .slice a2 q.q1.length ac2, .bool q.b2, .slice a3 q.t2.length ac3, .slice a4 q.q2.length ac4]) rfl rfl) fun a hA => ?_
 refine mv hA rfl rfl rfl fun a hA => ?_
 refine seq_call hA rfl rfl rfl (enters_func  rfl rfl (fun w => by kernel_rfl)) (textR_norad (show Nm _ _ a1 ac1 a2 ac2 a3 ac3 a4 ac4 from ⟨⟨(hS.rd 3 rfl), ha.s1.nil, ha.s1.cap⟩, ⟨(hS.rd 2 rfl), ha.s2.nil, ha.s2.cap⟩, ⟨(hS.rd 1 rfl), ha.s3.nil, ha.s3.cap⟩, ⟨(hS.rd 0 rfl), ha.s4.nil, ha.s4.cap⟩⟩) hl hs hn) ?_
 rintro _ w9 ⟨rfl, hb8⟩
 replace hS := hS.call hb8
 refine ⟨_, rfl, ?_⟩
 intro a hA
 refine mv hA rfl rfl rfl fun a hA => ?_
 refine seq_do (v := .string (bsL [])) hA rfl rfl rfl (d_extract (vs := [.string (bsL []), .int .i64 1]) rfl rfl) fun a hA => ?_
 refine seq_do (v := .int .i64 1) hA rfl rfl rfl (d_extract (vs := [.string (bsL []), .int .i64 1]) rfl rfl) fun a hA => ?_
 refine seq_do hA rfl rfl rfl (d_assign rfl) fun a hA => ?_
 refine seq_do hA rfl rfl rfl (d_assign rfl) fun a hA => ?_
 refine seq_end ?_
 refine hK7 _ _ ?_
 refine wp_seq_k (fun K10 hK10 => ?_)
 refine wp_seq_k (fun K11 hK11 => ?_)
 refine wp_region_lit ?_
 refine seq_call hA rfl rfl rfl (enters_func  rfl rfl (fun w => by kernel_rfl)) (awake3_any) ?_
 rintro _ w13 ⟨rfl, hb12⟩
 replace hS := hS.call hb12
 refine ⟨_, rfl, ?_⟩
 intro a hA
 refine seq_do (v := .bool false) hA rfl rfl rfl (d_un rfl un_not) fun a hA => ?_
 refine mv hA rfl rfl rfl fun a hA => ?_
 refine mv hA rfl rfl rfl fun a hA => ?_
 refine mv hA rfl rfl rfl fun a hA => ?_
 refine seq_do (v := .bool false) hA rfl rfl rfl (d_bin rfl rfl (fun w => (bin_neqT (a := []) (b := []) Tryz.underlying9 w).trans (by rw [show (decide ([] = ([] : List UInt8))) = true from (decide_eq_true rfl)]; try rfl))) fun a hA => ?_
 refine seq_do (v := .bool false) hA rfl rfl rfl (d_pick rfl rfl rfl rfl) fun a hA => ?_
 refine mv hA rfl rfl rfl fun a hA => ?_
 refine mv hA rfl rfl rfl fun a hA => ?_
 refine mv hA rfl rfl rfl fun a hA => ?_
 refine seq_do (v := .bool false) hA rfl rfl rfl (d_bin rfl rfl (fun w => by kernel_rfl)) fun a hA => ?_
 refine seq_do (v := .bool false) hA rfl rfl rfl (d_pick rfl rfl rfl rfl) fun a hA => ?_
 refine seq_end ?_
 refine hK11 _ _ ?_
 refine wp_cond_false (hA.ev rfl) ?_
 refine wp_skip ?_
 refine hK10 _ _ ?_
 refine wp_seq_k (fun K14 hK14 => ?_)
 refine wp_seq_k (fun K15 hK15 => ?_)
 refine wp_region_lit ?_
 refine mv hA rfl rfl rfl fun a hA => ?_
 refine seq_do (v := .bool true) hA rfl rfl rfl (d_bin rfl rfl (fun w => by kernel_rfl)) fun a hA => ?_
 refine mv hA rfl rfl rfl fun a hA => ?_
 refine seq_skip hA rfl rfl rfl fun a hA => ?_
 refine seq_skip hA rfl rfl rfl fun a hA => ?_
 refine seq_skip hA rfl rfl rfl fun a hA => ?_
 refine seq_do (v := .bool true) hA rfl rfl rfl (d_pick rfl rfl rfl rfl) fun a hA => ?_
 refine seq_end ?_
 refine hK15 _ _ ?_
 refine wp_cond_true (hA.ev rfl) ?_
 refine wp_seq_k (fun K16 hK16 => ?_)
 refine wp_region_lit ?_
 refine seq_do hA rfl rfl rfl (d_assign rfl) fun a hA => ?_
 refine seq_end ?_
 refine hK16 _ _ ?_
 refine wp_ret ?_
 refine hret _ _ ?_
 refine ends (v := .bool true) hA rfl (.cons (res_tmp rfl) .nil) rfl ?_
 exact ⟨rfl, hS.bel⟩
theorem texts_rad {w : World} {q : Q6} {a1 a2 a3 a4 : Option Addr} {ac1 ac2 ac3 ac4 : Nat} (ha : Nm w q a1 ac1 a2 ac2 a3 ac3 a4 ac4) (hl : LenQ q) {r : Nat} (hr : RadN r) (hs : soundQ q = true) (hrd : (textL r q).length ≤ 16384 → readX (textL r q) ((r : Nat) : Int) = (q, 0)) : Calls Tryz.prog 3 #[numV q a1 ac1 a2 ac2 a3 ac3 a4 ac4, .int .i64 ((r : Nat) : Int)] w fun e w' => e = .returned (.bool true) ∧ Below w.heap.size w w' := by
 have hS : St w w [] [(a4, q.q2), (a3, q.t2), (a2, q.q1), (a1, q.t1)] [] := ((((St.start w).addR ha.s1.rd).addR ha.s2.rd).addR ha.s3.rd).addR ha.s4.rd
 refine walk_of (l := [(0, .agg #[.bool q.b1, .slice a1 q.t1.length ac1, .slice a2 q.q1.length ac2, .bool q.b2, .slice a3 q.t2.length ac3, .slice a4 q.q2.length ac4]), (1, .int .i64 (((r : Nat) : Int)))]) Tryz.func3 rfl Tryz.ntmps3 rfl rfl ?_
 intro Q hret hnorm hP a hA
 refine wp_seq_k (fun K1 hK1 => ?_)
 refine wp_region_lit ?_
 refine seq_new hA hS rfl rfl rfl (fun g => .pointer (some ⟨g, 0, none⟩)) (d_box rfl rfl) rfl ?_
 intro g2 w3 hS a hA
 refine seq_do hA rfl rfl rfl (d_assign rfl) fun a hA => ?_
 refine seq_end ?_
 refine hK1 _ _ ?_
 refine wp_seq_k (fun K4 hK4 => ?_)
 refine wp_region_lit ?_
 refine seq_do hA rfl rfl rfl (d_loadS hS RxJ_isS_26 rfl 0 rfl (cs := [.bool q.b1, .slice a1 q.t1.length ac1, .slice a2 q.q1.length ac2, .bool q.b2, .slice a3 q.t2.length ac3, .slice a4 q.q2.length ac4]) rfl rfl) fun a hA => ?_
 refine mv hA rfl rfl rfl fun a hA => ?_
 refine seq_call hA rfl rfl rfl (enters_func  rfl rfl (fun w => by kernel_rfl)) (textP_rad (show Nm _ _ a1 ac1 a2 ac2 a3 ac3 a4 ac4 from ⟨⟨(hS.rd 3 rfl), ha.s1.nil, ha.s1.cap⟩, ⟨(hS.rd 2 rfl), ha.s2.nil, ha.s2.cap⟩, ⟨(hS.rd 1 rfl), ha.s3.nil, ha.s3.cap⟩, ⟨(hS.rd 0 rfl), ha.s4.nil, ha.s4.cap⟩⟩) hl hr hs) ?_
 rintro _ w6 ⟨rfl, hb5⟩
 replace hS := hS.call hb5
 refine ⟨_, rfl, ?_⟩
 intro a hA
 refine mv hA rfl rfl rfl fun a hA => ?_
 refine seq_do (v := .string (bsL (textL r q))) hA rfl rfl rfl (d_extract (vs := [.string (bsL (textL r q)), .int .i64 0]) rfl rfl) fun a hA => ?_
 refine seq_do (v := .int .i64 0) hA rfl rfl rfl (d_extract (vs := [.string (bsL (textL r q)), .int .i64 0]) rfl rfl) fun a hA => ?_
 refine seq_do hA rfl rfl rfl (d_assign rfl) fun a hA => ?_
 refine seq_do hA rfl rfl rfl (d_assign rfl) fun a hA => ?_
 refine seq_end ?_
 refine hK4 _ _ ?_
 refine wp_seq_k (fun K7 hK7 => ?_)
 refine wp_region_lit ?_
 refine seq_do hA rfl rfl rfl (d_loadS hS RxJ_isS_26 rfl 0 rfl (cs := [.bool q.b1, .slice a1 q.t1.length ac1, .slice a2 q.q1.length ac2, .bool q.b2, .slice a3 q.t2.length ac3, .slice a4 q.q2.length ac4]) rfl rfl) fun a hA => ?_
 refine mv hA rfl rfl rfl fun a hA => ?_
 refine seq_call hA rfl rfl rfl (enters_func  rfl rfl (fun w => by kernel_rfl)) (textR_rad (show Nm _ _ a1 ac1 a2 ac2 a3 ac3 a4 ac4 from ⟨⟨(hS.rd 3 rfl), ha.s1.nil, ha.s1.cap⟩, ⟨(hS.rd 2 rfl), ha.s2.nil, ha.s2.cap⟩, ⟨(hS.rd 1 rfl), ha.s3.nil, ha.s3.cap⟩, ⟨(hS.rd 0 rfl), ha.s4.nil, ha.s4.cap⟩⟩) hl hr hs) ?_
 rintro _ w9 ⟨rfl, hb8⟩
 replace hS := hS.call hb8
 refine ⟨_, rfl, ?_⟩
 intro a hA
 refine mv hA rfl rfl rfl fun a hA => ?_
 refine seq_do (v := .string (bsL (textL r q))) hA rfl rfl rfl (d_extract (vs := [.string (bsL (textL r q)), .int .i64 0]) rfl rfl) fun a hA => ?_
 refine seq_do (v := .int .i64 0) hA rfl rfl rfl (d_extract (vs := [.string (bsL (textL r q)), .int .i64 0]) rfl rfl) fun a hA => ?_
 refine seq_do hA rfl rfl rfl (d_assign rfl) fun a hA => ?_
 refine seq_do hA rfl rfl rfl (d_assign rfl) fun a hA => ?_
 refine seq_end ?_
 refine hK7 _ _ ?_
 refine wp_seq_k (fun K10 hK10 => ?_)
 refine wp_seq_k (fun K11 hK11 => ?_)
 refine wp_region_lit ?_
 refine seq_call hA rfl rfl rfl (enters_func  rfl rfl (fun w => by kernel_rfl)) (awake3_any) ?_
 rintro _ w13 ⟨rfl, hb12⟩
 replace hS := hS.call hb12
 refine ⟨_, rfl, ?_⟩
 intro a hA
 refine seq_do (v := .bool false) hA rfl rfl rfl (d_un rfl un_not) fun a hA => ?_
 refine mv hA rfl rfl rfl fun a hA => ?_
 refine mv hA rfl rfl rfl fun a hA => ?_
 refine mv hA rfl rfl rfl fun a hA => ?_
 refine seq_do (v := .bool false) hA rfl rfl rfl (d_bin rfl rfl (fun w => (bin_neqT (a := textL r q) (b := textL r q) Tryz.underlying9 w).trans (by rw [show (decide (textL r q = (textL r q : List UInt8))) = true from (decide_eq_true rfl)]; try rfl))) fun a hA => ?_
 refine seq_do (v := .bool false) hA rfl rfl rfl (d_pick rfl rfl rfl rfl) fun a hA => ?_
 refine mv hA rfl rfl rfl fun a hA => ?_
 refine mv hA rfl rfl rfl fun a hA => ?_
 refine mv hA rfl rfl rfl fun a hA => ?_
 refine seq_do (v := .bool false) hA rfl rfl rfl (d_bin rfl rfl (fun w => by kernel_rfl)) fun a hA => ?_
 refine seq_do (v := .bool false) hA rfl rfl rfl (d_pick rfl rfl rfl rfl) fun a hA => ?_
 refine seq_end ?_
 refine hK11 _ _ ?_
 refine wp_cond_false (hA.ev rfl) ?_
 refine wp_skip ?_
 refine hK10 _ _ ?_
 refine wp_seq_k (fun K14 hK14 => ?_)
 refine wp_seq_k (fun K15 hK15 => ?_)
 refine wp_region_lit ?_
 refine mv hA rfl rfl rfl fun a hA => ?_
 refine seq_do (v := .bool false) hA rfl rfl rfl (d_bin rfl rfl (fun w => by kernel_rfl)) fun a hA => ?_
 refine mv hA rfl rfl rfl fun a hA => ?_
 refine mv hA rfl rfl rfl fun a hA => ?_
 refine seq_do (v := .int .i64 ((((textL r q).length : Nat) : Int))) hA rfl rfl rfl (d_lenT Tryz.underlying9 rfl) fun a hA => ?_
 rcases Bool.eq_false_or_eq_true (decide (16384 < (((textL r q).length : Nat) : Int))) with hb16 | hb16
 ·
  have hb16' := of_decide_eq_true hb16
  refine seq_do (v := .bool true) hA rfl rfl rfl (d_bin rfl rfl (fun w => (bin_gtr w).trans (by rw [hb16]))) fun a hA => ?_
  refine seq_do (v := .bool true) hA rfl rfl rfl (d_pick rfl rfl rfl rfl) fun a hA => ?_
  refine seq_end ?_
  refine hK15 _ _ ?_
  refine wp_cond_true (hA.ev rfl) ?_
  refine wp_seq_k (fun K17 hK17 => ?_)
  refine wp_region_lit ?_
  refine seq_do hA rfl rfl rfl (d_assign rfl) fun a hA => ?_
  refine seq_end ?_
  refine hK17 _ _ ?_
  refine wp_ret ?_
  refine hret _ _ ?_
  refine ends (v := .bool true) hA rfl (.cons (res_tmp rfl) .nil) rfl ?_
  exact ⟨rfl, hS.bel⟩
 ·
  have hb16' := of_decide_eq_false hb16
  refine seq_do (v := .bool false) hA rfl rfl rfl (d_bin rfl rfl (fun w => (bin_gtr w).trans (by rw [hb16]))) fun a hA => ?_
  refine seq_do (v := .bool false) hA rfl rfl rfl (d_pick rfl rfl rfl rfl) fun a hA => ?_
  refine seq_end ?_
  refine hK15 _ _ ?_
  refine wp_cond_false (hA.ev rfl) ?_
  refine wp_skip ?_
  refine hK14 _ _ ?_
  refine wp_seq_k (fun K18 hK18 => ?_)
  refine wp_region_lit ?_
  refine mv hA rfl rfl rfl fun a hA => ?_
  refine mv hA rfl rfl rfl fun a hA => ?_
  refine seq_call hA rfl rfl rfl (enters_func  rfl rfl (fun w => by kernel_rfl)) ((hrd (by omega) ▸ readP_any (l := textL r q) (n := ((r : Nat) : Int)) (by omega))) ?_
  rintro _ w22 ⟨p19_1, p19_c1, p19_2, p19_c2, p19_3, p19_c3, p19_4, p19_c4, rfl, hn20, hb21⟩
  replace hS := hS.call hb21
  replace hS := hS.addR hn20.s1.rd
  replace hS := hS.addR hn20.s2.rd
  replace hS := hS.addR hn20.s3.rd
  replace hS := hS.addR hn20.s4.rd
  refine ⟨_, rfl, ?_⟩
  intro a hA
  refine mv hA rfl rfl rfl fun a hA => ?_
  refine seq_do (v := .agg #[.bool q.b1, .slice p19_1 q.t1.length p19_c1, .slice p19_2 q.q1.length p19_c2, .bool q.b2, .slice p19_3 q.t2.length p19_c3, .slice p19_4 q.q2.length p19_c4]) hA rfl rfl rfl (d_extract (vs := [.agg #[.bool q.b1, .slice p19_1 q.t1.length p19_c1, .slice p19_2 q.q1.length p19_c2, .bool q.b2, .slice p19_3 q.t2.length p19_c3, .slice p19_4 q.q2.length p19_c4], .int .i64 0]) rfl rfl) fun a hA => ?_
  refine seq_do (v := .int .i64 0) hA rfl rfl rfl (d_extract (vs := [.agg #[.bool q.b1, .slice p19_1 q.t1.length p19_c1, .slice p19_2 q.q1.length p19_c2, .bool q.b2, .slice p19_3 q.t2.length p19_c3, .slice p19_4 q.q2.length p19_c4], .int .i64 0]) rfl rfl) fun a hA => ?_
  refine seq_new (vs := [.bool false, .slice none 0 0, .slice none 0 0, .bool false, .slice none 0 0, .slice none 0 0]) (t := 26) hA hS rfl rfl rfl (fun g => .pointer (some ⟨g, 0, none⟩)) (d_alloc (z := .agg #[.bool false, .slice none 0 0, .slice none 0 0, .bool false, .slice none 0 0, .slice none 0 0]) (by kernel_rfl) rfl) rfl ?_
  intro g23 w24 hS a hA
  refine seq_store (us := [.bool q.b1, .slice p19_1 q.t1.length p19_c1, .slice p19_2 q.q1.length p19_c2, .bool q.b2, .slice p19_3 q.t2.length p19_c3, .slice p19_4 q.q2.length p19_c4]) hA hS rfl rfl (sets_store rfl rfl rfl (by kernel_rfl) hS 0 rfl rfl rfl) 0 rfl rfl rfl rfl ?_
  intro w25 hS
  refine seq_do hA rfl rfl rfl (d_assign rfl) fun a hA => ?_
  refine seq_end ?_
  refine hK18 _ _ ?_
  refine wp_seq_k (fun K26 hK26 => ?_)
  refine wp_region_lit ?_
  refine mv hA rfl rfl rfl fun a hA => ?_
  refine seq_do (v := .bool true) hA rfl rfl rfl (d_bin rfl rfl (fun w => by kernel_rfl)) fun a hA => ?_
  refine mv hA rfl rfl rfl fun a hA => ?_
  refine seq_do hA rfl rfl rfl (d_loadS hS RxJ_isS_26 rfl 1 rfl (cs := [.bool q.b1, .slice a1 q.t1.length ac1, .slice a2 q.q1.length ac2, .bool q.b2, .slice a3 q.t2.length ac3, .slice a4 q.q2.length ac4]) rfl rfl) fun a hA => ?_
  refine seq_do hA rfl rfl rfl (d_loadS hS RxJ_isS_26 rfl 0 rfl (cs := [.bool q.b1, .slice p19_1 q.t1.length p19_c1, .slice p19_2 q.q1.length p19_c2, .bool q.b2, .slice p19_3 q.t2.length p19_c3, .slice p19_4 q.q2.length p19_c4]) rfl rfl) fun a hA => ?_
  refine seq_call hA rfl rfl rfl (enters_func  rfl rfl (fun w => by kernel_rfl)) (sameQ_any (show Nm _ _ a1 ac1 a2 ac2 a3 ac3 a4 ac4 from ⟨⟨(hS.rd 7 rfl), ha.s1.nil, ha.s1.cap⟩, ⟨(hS.rd 6 rfl), ha.s2.nil, ha.s2.cap⟩, ⟨(hS.rd 5 rfl), ha.s3.nil, ha.s3.cap⟩, ⟨(hS.rd 4 rfl), ha.s4.nil, ha.s4.cap⟩⟩) hl (show Nm _ _ p19_1 p19_c1 p19_2 p19_c2 p19_3 p19_c3 p19_4 p19_c4 from ⟨⟨(hS.rd 3 rfl), hn20.s1.nil, hn20.s1.cap⟩, ⟨(hS.rd 2 rfl), hn20.s2.nil, hn20.s2.cap⟩, ⟨(hS.rd 1 rfl), hn20.s3.nil, hn20.s3.cap⟩, ⟨(hS.rd 0 rfl), hn20.s4.nil, hn20.s4.cap⟩⟩) hl (sameQ_self hs)) ?_
  rintro _ w28 ⟨rfl, hb27⟩
  replace hS := hS.call hb27
  refine ⟨_, rfl, ?_⟩
  intro a hA
  refine seq_do (v := .bool true) hA rfl rfl rfl (d_pick rfl rfl rfl rfl) fun a hA => ?_
  refine seq_do hA rfl rfl rfl (d_assign rfl) fun a hA => ?_
  refine seq_end ?_
  refine hK26 _ _ ?_
  refine wp_ret ?_
  refine hret _ _ ?_
  refine ends (v := .bool true) hA rfl (.cons (res_tmp rfl) .nil) rfl ?_
  exact ⟨rfl, hS.bel⟩
theorem exactTexts_any {w : World} {q : Q6} {a1 a2 a3 a4 : Option Addr} {ac1 ac2 ac3 ac4 : Nat} (ha : Nm w q a1 ac1 a2 ac2 a3 ac3 a4 ac4) (hl : LenQ q) {n : Int} (h0 : -9223372036854775808 ≤ n) (h1 : n ≤ 9223372036854775807) : Calls Tryz.prog 3 #[numV q a1 ac1 a2 ac2 a3 ac3 a4 ac4, .int .i64 n] w fun e w' => e = .returned (.bool true) ∧ Below w.heap.size w w' := by
 rcases sound_cases ha with hs | ⟨u, v, e, hu, hv⟩
 ·
  exact texts_form ha hl hs
 ·
  have hs : soundQ q = true := by rw [e]; exact soundQ_rat hu hv
  cases hn : radixB n with
  | false => exact texts_norad ha hl hs hn
  | true =>
   obtain ⟨r, rfl, hr⟩ := radixB_iff hn
   exact texts_rad ha hl hr hs (fun k => by rw [e] at k ⊢; exact read_text hr hu hv k)
end Go.Proofs.YtjmhdebfpnjceaaGreat
namespace Go.Proofs.YtjmhdebfpnjceaaGreat
open Go.ChangeShapes Go.WideShapes Go.ChangeAt Go.RowKit Go.Joins Go.Deep
set_option linter.unusedVariables false
set_option linter.unusedSimpArgs false
set_option maxRecDepth 100000

section
variable {H : Type} {enc : TypeId × Value → H} {W : World}
theorem trod_bool {fuel : Nat} {v : Value} {x : DataW H × List MemPlace} (h : DataW.trod enc Tryz.prog W 0 (fun _ => true) true fuel 4 [v] = some x) : ∃ b, v = .bool b := by
  obtain ⟨b, h, _⟩ := DataW.trod_bool Tryz.underlying4 h
  exact ⟨b, by simpa using h⟩
theorem trod_words {fuel : Nat} {v : Value} {x : DataW H × List MemPlace} (h : DataW.trod enc Tryz.prog W 0 (fun _ => true) true fuel 22 [v] = some x) : ∃ ao c l, v = .slice ao l.length c ∧ Arg W ao c l := by
  rcases open_ints Tryz.underlying22 Tryz.underlying40 (by kernel_rfl) h with ⟨hcs, _⟩ | ⟨x, l, c, zs, hcs, _, hl, hm, hz, hx, hcell, hwz⟩
  · cases hcs
    exact ⟨none, 0, [], rfl, arg_nil W⟩
  · cases hcs
    obtain ⟨us, e, ha⟩ := arg_row hl hm (by simpa using hz) hcell hwz
    subst e
    exact ⟨_, _, us, rfl, ha⟩
theorem trod_rat {fuel : Nat} {v0 v1 v2 : Value} {x : DataW H × List MemPlace} (h : DataW.trod enc Tryz.prog W 0 (fun _ => true) true fuel 24 [v0, v1, v2] = some x) : ∃ b o1 c1 l1 o2 c2 l2, v0 = .bool b ∧ v1 = .slice o1 l1.length c1 ∧ v2 = .slice o2 l2.length c2 ∧ Arg W o1 c1 l1 ∧ Arg W o2 c2 l2 := by
  obtain ⟨y0, y1, y2, n, _, _, h0, h1, h2⟩ := trod_struct3 Tryz.underlying24 h
  have e0 : Tryz.prog.cellsOf 4 = 1 := by kernel_rfl
  have e1 : Tryz.prog.cellsOf 22 = 1 := by kernel_rfl
  simp only [e0, e1, List.drop_zero, List.take_succ_cons, List.take_zero, List.drop_succ_cons] at h0 h1 h2
  obtain ⟨b, rfl⟩ := trod_bool h0
  obtain ⟨o1, c1, l1, rfl, a1⟩ := trod_words h1
  obtain ⟨o2, c2, l2, rfl, a2⟩ := trod_words h2
  exact ⟨b, o1, c1, l1, o2, c2, l2, rfl, rfl, rfl, a1, a2⟩
theorem open_num {base : Nat} {v : Value} {d : DataW H} {p : List MemPlace} (hv : Value.okWide Tryz.prog W .any base 26 v) (h : DataW.Trod enc Tryz.prog W 0 (fun _ => true) true 26 v d p) :
    ∃ q o1 c1 o2 c2 o3 c3 o4 c4, v = numV q o1 c1 o2 c2 o3 c3 o4 c4 ∧ Nm W q o1 c1 o2 c2 o3 c3 o4 c4 ∧ LenQ q := by
  obtain ⟨cs, rfl, hsz⟩ := okWide_struct Tryz.underlying26 hv
  rw [show Tryz.prog.cellsOf 26 = 6 from by kernel_rfl] at hsz
  obtain ⟨cs⟩ := cs
  match cs, hsz with
  | [v0, v1, v2, v3, v4, v5], _ =>
    obtain ⟨fuel, hf⟩ := h
    obtain ⟨y0, y1, n, _, _, h0, h1⟩ := trod_struct2 Tryz.underlying26 hf
    have e : Tryz.prog.cellsOf 24 = 3 := by kernel_rfl
    simp only [Value.cells, e, List.drop_zero, List.take_succ_cons, List.take_zero, List.drop_succ_cons] at h0 h1
    obtain ⟨b1, o1, c1, l1, o2, c2, l2, rfl, rfl, rfl, a1, a2⟩ := trod_rat h0
    obtain ⟨b2, o3, c3, l3, o4, c4, l4, rfl, rfl, rfl, a3, a4⟩ := trod_rat h1
    exact ⟨⟨b1, l1, l2, b2, l3, l4⟩, o1, c1, o2, c2, o3, c3, o4, c4, rfl, ⟨⟨a1.rd, a1.nil, a1.caps⟩, ⟨a2.rd, a2.nil, a2.caps⟩, ⟨a3.rd, a3.nil, a3.caps⟩, ⟨a4.rd, a4.nil, a4.caps⟩⟩, ⟨a1.len, a2.len, a3.len, a4.len⟩⟩
end
end Go.Proofs.YtjmhdebfpnjceaaGreat
