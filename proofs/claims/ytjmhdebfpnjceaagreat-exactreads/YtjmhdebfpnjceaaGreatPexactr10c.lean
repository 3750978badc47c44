/- Walks of the functions that cut prefixes and parts off, and of their values. Walks of the value of two parts, and of Read. Walks of the document's reading of a number. -/
import Derived.Test.YtjmhdebfpnjceaaGreatPexactr10b
import Derived.Test.YtjmhdebfpnjceaaGreatPexactr10a
namespace Go.Proofs.YtjmhdebfpnjceaaGreat
open Go.RowKit
set_option linter.unusedVariables false
set_option linter.unusedSimpArgs false
set_option maxRecDepth 100000
theorem RxD_is1_5 : Is1 Tryz.prog 5 := ⟨⟨_, Tryz.underlying5, rfl⟩, by kernel_rfl⟩
theorem RxD_is1_9 : Is1 Tryz.prog 9 := ⟨⟨_, Tryz.underlying9, rfl⟩, by kernel_rfl⟩
theorem RxD_fld_48_0 : FieldAt Tryz.prog 48 0 0 := ⟨_, _, Tryz.underlying48, rfl, rfl, by kernel_rfl⟩
theorem RxD_fld_48_1 : FieldAt Tryz.prog 48 1 1 := ⟨_, _, Tryz.underlying48, rfl, rfl, by kernel_rfl⟩
theorem RxD_fld_48_2 : FieldAt Tryz.prog 48 2 2 := ⟨_, _, Tryz.underlying48, rfl, rfl, by kernel_rfl⟩
theorem RxD_isS_48 : IsS Tryz.prog 48 3 := ⟨⟨_, Tryz.underlying48⟩, by kernel_rfl⟩
theorem RxD_isS_60 : IsS Tryz.prog 60 2 := ⟨⟨_, Tryz.underlying60⟩, by kernel_rfl⟩
theorem cutPrefixes_any {w : World} {r : Nat} {l : List UInt8} (hl : l.length ≤ 9223372036854775807) : Calls Tryz.prog 26 #[.string (bsL l), .int .i64 ((r : Nat) : Int)] w fun e w' => e = .returned (.tuple #[.string (bsL ((prfx false false r l).1)), .int .i64 (((prfx false false r l).2 : Nat) : Int)]) ∧ Below w.heap.size w w' := by
 have hS : St w w [] [] [] := St.start w
 refine walk_of (l := [(0, .string (bsL l)), (1, .int .i64 (((r : Nat) : Int)))]) Tryz.func26 rfl Tryz.ntmps26 rfl rfl ?_
 intro Q hret hnorm hP a hA
 refine wp_seq_k (fun K1 hK1 => ?_)
 refine wp_region_lit ?_
 refine seq_do hA rfl rfl rfl (d_assign rfl) fun a hA => ?_
 refine seq_do hA rfl rfl rfl (d_assign rfl) fun a hA => ?_
 refine seq_end ?_
 refine hK1 _ _ ?_
 refine wp_seq_k (fun K2 hK2 => ?_)
 refine wp_region_lit ?_
 refine seq_do hA rfl rfl rfl (d_assign rfl) fun a hA => ?_
 refine seq_do hA rfl rfl rfl (d_assign rfl) fun a hA => ?_
 refine seq_end ?_
 refine hK2 _ _ ?_
 refine wp_seq_k (fun K3 hK3 => ?_)
 refine wp_block ?_
 refine wp_loop_n (fun m a w1 => ∃ (q : List UInt8) (k : Nat) (told : Bool) (ex : Bool), m = 1 + q.length ∧ (prfx told ex k q = prfx false false r l ∧ q.length ≤ l.length) ∧ Sl a 47 [(0, .string (bsL q)), (1, .int .i64 (((k : Nat) : Int))), (6, .bool told), (7, .bool ex)] ∧ St w w1 [] [] []) _ ⟨l, r, false, false, rfl, ⟨rfl, Nat.le_refl _⟩, hA.keep _ ⟨rfl, rfl, rfl, rfl, trivial⟩, hS⟩ ?_
 clear hS hA
 rintro m a w4 ⟨q, k, told, ex, rfl, hinv6, hA, hS⟩ K5 hK5
 have hq := hinv6.2
 refine wp_seq_k (fun K7 hK7 => ?_)
 refine wp_seq_k (fun K8 hK8 => ?_)
 refine wp_region_lit ?_
 refine mv hA rfl rfl rfl fun a hA => ?_
 refine seq_do (v := .int .i64 (((q.length : Nat) : Int))) hA rfl rfl rfl (d_lenT Tryz.underlying9 rfl) fun a hA => ?_
 rcases Bool.eq_false_or_eq_true (decide (1 < ((q.length : Nat) : Int))) with hb9 | hb9
 ·
  have hb9' := of_decide_eq_true hb9
  refine seq_do (v := .bool true) hA rfl rfl rfl (d_bin rfl rfl (fun w => (bin_gtr w).trans (by rw [hb9]))) fun a hA => ?_
  refine mv hA rfl rfl rfl fun a hA => ?_
  refine mv hA rfl rfl rfl fun a hA => ?_
  refine seq_do (v := .int .u8 (((btL q 0 : Nat) : Int))) hA rfl rfl rfl (d_ixT (s := q) (i := 0) Tryz.underlying9 rfl rfl (by first | rfl | omega) (by first | omega | (simp only [List.length_drop, List.length_take]; omega))) fun a hA => ?_
  rcases Bool.eq_false_or_eq_true ((((btL q 0 : Nat) : Int) == 35)) with hb10 | hb10
  ·
   have hb10' := eq_of_beq hb10
   refine seq_do (v := .bool true) hA rfl rfl rfl (d_bin rfl rfl (fun w => (bin_eql w).trans (by rw [hb10]))) fun a hA => ?_
   refine seq_do (v := .bool true) hA rfl rfl rfl (d_pick rfl rfl rfl rfl) fun a hA => ?_
   refine seq_end ?_
   refine hK8 _ _ ?_
   refine wp_cond_true (hA.ev rfl) ?_
   refine wp_skip ?_
   refine hK7 _ _ ?_
   refine wp_block ?_
   refine wp_seq_k (fun K11 hK11 => ?_)
   refine wp_region_lit ?_
   refine mv hA rfl rfl rfl fun a hA => ?_
   refine seq_do (v := .int .u8 (((btL q 1 : Nat) : Int))) hA rfl rfl rfl (d_ixT (s := q) (i := 1) Tryz.underlying9 rfl rfl (by first | rfl | omega) (by first | omega | (simp only [List.length_drop, List.length_take]; omega))) fun a hA => ?_
   refine seq_call hA rfl rfl rfl (enters_func  rfl rfl (fun w => by kernel_rfl)) (radixOf_any rfl) ?_
   rintro _ w13 ⟨rfl, hb12⟩
   replace hS := hS.call hb12
   refine ⟨_, rfl, ?_⟩
   intro a hA
   refine seq_do hA rfl rfl rfl (d_assign rfl) fun a hA => ?_
   refine seq_end ?_
   refine hK11 _ _ ?_
   refine wp_seq_k (fun K14 hK14 => ?_)
   refine wp_block ?_
   refine wp_seq_k (fun K15 hK15 => ?_)
   refine wp_region_lit ?_
   refine mv hA rfl rfl rfl fun a hA => ?_
   rcases Bool.eq_false_or_eq_true (decide (0 < ((radOf (btL q 1) : Nat) : Int))) with hb16 | hb16
   ·
    have hb16' := of_decide_eq_true hb16
    refine seq_do (v := .bool true) hA rfl rfl rfl (d_bin rfl rfl (fun w => (bin_gtr w).trans (by rw [hb16]))) fun a hA => ?_
    refine mv hA rfl rfl rfl fun a hA => ?_
    refine mv hA rfl rfl rfl fun a hA => ?_
    refine seq_do (v := .bool (!told)) hA rfl rfl rfl (d_un rfl un_not) fun a hA => ?_
    refine seq_do (v := .bool (!told)) hA rfl rfl rfl (d_pick rfl rfl rfl rfl) fun a hA => ?_
    refine seq_do hA rfl rfl rfl (d_assign rfl) fun a hA => ?_
    refine seq_end ?_
    refine hK15 _ _ ?_
    refine wp_cond_split (t := !told) (hA.ev rfl) (fun hc17 => ?_) (fun hc17 => ?_)
    ·
     refine wp_region_lit ?_
     refine mv hA rfl rfl rfl fun a hA => ?_
     refine seq_do hA rfl rfl rfl (d_assign rfl) fun a hA => ?_
     refine seq_do hA rfl rfl rfl (d_assign rfl) fun a hA => ?_
     refine seq_end ?_
     refine hK14 _ _ ?_
     refine wp_region_lit ?_
     refine mv hA rfl rfl rfl fun a hA => ?_
     refine seq_do (v := .string (bsL (q.drop 2))) hA rfl rfl rfl (d_slFrom (p := 2) (s := q) Tryz.underlying9 rfl rfl (by first | rfl | omega) (by first | omega | (simp only [List.length_drop, List.length_take]; omega))) fun a hA => ?_
     refine seq_do hA rfl rfl rfl (d_assign rfl) fun a hA => ?_
     refine seq_end ?_
     refine hK5 _ _ _ (by simp only [List.length_drop]; omega) ⟨q.drop 2, radOf (btL q 1), true, ex, rfl, ⟨(prfx_radix (by omega) (by omega) (by omega) (by simpa using hc17)).symm.trans hinv6.1, by simp only [List.length_drop]; omega⟩, hA.keep _ ⟨rfl, rfl, rfl, rfl, trivial⟩, hS⟩
    ·
     refine wp_seq_k (fun K18 hK18 => ?_)
     refine wp_region_lit ?_
     refine mv hA rfl rfl rfl fun a hA => ?_
     refine seq_do (v := .int .u8 (((btL q 1 : Nat) : Int))) hA rfl rfl rfl (d_ixT (s := q) (i := 1) Tryz.underlying9 rfl rfl (by first | rfl | omega) (by first | omega | (simp only [List.length_drop, List.length_take]; omega))) fun a hA => ?_
     rcases Bool.eq_false_or_eq_true ((((btL q 1 : Nat) : Int) == 101)) with hb19 | hb19
     ·
      have hb19' := eq_of_beq hb19
      refine seq_do (v := .bool true) hA rfl rfl rfl (d_bin rfl rfl (fun w => (bin_eql w).trans (by rw [hb19]))) fun a hA => ?_
      refine mv hA rfl rfl rfl fun a hA => ?_
      refine seq_skip hA rfl rfl rfl fun a hA => ?_
      refine seq_skip hA rfl rfl rfl fun a hA => ?_
      refine seq_skip hA rfl rfl rfl fun a hA => ?_
      refine seq_do (v := .bool true) hA rfl rfl rfl (d_pick rfl rfl rfl rfl) fun a hA => ?_
      refine mv hA rfl rfl rfl fun a hA => ?_
      refine mv hA rfl rfl rfl fun a hA => ?_
      refine seq_do (v := .bool (!ex)) hA rfl rfl rfl (d_un rfl un_not) fun a hA => ?_
      refine seq_do (v := .bool (!ex)) hA rfl rfl rfl (d_pick rfl rfl rfl rfl) fun a hA => ?_
      refine seq_do hA rfl rfl rfl (d_assign rfl) fun a hA => ?_
      refine seq_end ?_
      refine hK18 _ _ ?_
      refine wp_cond_split (t := !ex) (hA.ev rfl) (fun hc20 => ?_) (fun hc20 => ?_)
      ·
       refine wp_region_lit ?_
       refine seq_do hA rfl rfl rfl (d_assign rfl) fun a hA => ?_
       refine seq_end ?_
       refine hK14 _ _ ?_
       refine wp_region_lit ?_
       refine mv hA rfl rfl rfl fun a hA => ?_
       refine seq_do (v := .string (bsL (q.drop 2))) hA rfl rfl rfl (d_slFrom (p := 2) (s := q) Tryz.underlying9 rfl rfl (by first | rfl | omega) (by first | omega | (simp only [List.length_drop, List.length_take]; omega))) fun a hA => ?_
       refine seq_do hA rfl rfl rfl (d_assign rfl) fun a hA => ?_
       refine seq_end ?_
       refine hK5 _ _ _ (by simp only [List.length_drop]; omega) ⟨q.drop 2, k, told, true, rfl, ⟨(prfx_exact (by omega) (by omega) (Or.inr (by simpa using hc17)) (by omega) (by simpa using hc20)).symm.trans hinv6.1, by simp only [List.length_drop]; omega⟩, hA.keep _ ⟨rfl, rfl, rfl, rfl, trivial⟩, hS⟩
      ·
       refine wp_seq_k (fun K21 hK21 => ?_)
       refine wp_region_lit ?_
       refine mv hA rfl rfl rfl fun a hA => ?_
       refine mv hA rfl rfl rfl fun a hA => ?_
       refine seq_do hA rfl rfl rfl (d_assign rfl) fun a hA => ?_
       refine seq_do hA rfl rfl rfl (d_assign rfl) fun a hA => ?_
       refine seq_end ?_
       refine hK21 _ _ ?_
       refine wp_ret ?_
       refine hret _ _ ?_
       refine ends (v := .tuple #[.string (bsL q), .int .i64 (((k : Nat) : Int))]) hA rfl (.cons (res_tmp rfl) (.cons (res_tmp rfl) .nil)) rfl ?_
       have e9 : prfx false false r l = (q, k) := hinv6.1.symm.trans (prfx_stay (by omega) (by omega) (Or.inr (by simpa using hc17)) (Or.inr (by simpa using hc20)))
       exact ⟨by rw [e9], hS.bel⟩
     ·
      have hb19' := ne_of_beq_false hb19
      refine seq_do (v := .bool false) hA rfl rfl rfl (d_bin rfl rfl (fun w => (bin_eql w).trans (by rw [hb19]))) fun a hA => ?_
      refine mv hA rfl rfl rfl fun a hA => ?_
      refine mv hA rfl rfl rfl fun a hA => ?_
      refine seq_do (v := .int .u8 (((btL q 1 : Nat) : Int))) hA rfl rfl rfl (d_ixT (s := q) (i := 1) Tryz.underlying9 rfl rfl (by first | rfl | omega) (by first | omega | (simp only [List.length_drop, List.length_take]; omega))) fun a hA => ?_
      rcases Bool.eq_false_or_eq_true ((((btL q 1 : Nat) : Int) == 69)) with hb22 | hb22
      ·
       have hb22' := eq_of_beq hb22
       refine seq_do (v := .bool true) hA rfl rfl rfl (d_bin rfl rfl (fun w => (bin_eql w).trans (by rw [hb22]))) fun a hA => ?_
       refine seq_do (v := .bool true) hA rfl rfl rfl (d_pick rfl rfl rfl rfl) fun a hA => ?_
       refine mv hA rfl rfl rfl fun a hA => ?_
       refine mv hA rfl rfl rfl fun a hA => ?_
       refine seq_do (v := .bool (!ex)) hA rfl rfl rfl (d_un rfl un_not) fun a hA => ?_
       refine seq_do (v := .bool (!ex)) hA rfl rfl rfl (d_pick rfl rfl rfl rfl) fun a hA => ?_
       refine seq_do hA rfl rfl rfl (d_assign rfl) fun a hA => ?_
       refine seq_end ?_
       refine hK18 _ _ ?_
       refine wp_cond_split (t := !ex) (hA.ev rfl) (fun hc23 => ?_) (fun hc23 => ?_)
       ·
        refine wp_region_lit ?_
        refine seq_do hA rfl rfl rfl (d_assign rfl) fun a hA => ?_
        refine seq_end ?_
        refine hK14 _ _ ?_
        refine wp_region_lit ?_
        refine mv hA rfl rfl rfl fun a hA => ?_
        refine seq_do (v := .string (bsL (q.drop 2))) hA rfl rfl rfl (d_slFrom (p := 2) (s := q) Tryz.underlying9 rfl rfl (by first | rfl | omega) (by first | omega | (simp only [List.length_drop, List.length_take]; omega))) fun a hA => ?_
        refine seq_do hA rfl rfl rfl (d_assign rfl) fun a hA => ?_
        refine seq_end ?_
        refine hK5 _ _ _ (by simp only [List.length_drop]; omega) ⟨q.drop 2, k, told, true, rfl, ⟨(prfx_exact (by omega) (by omega) (Or.inr (by simpa using hc17)) (by omega) (by simpa using hc23)).symm.trans hinv6.1, by simp only [List.length_drop]; omega⟩, hA.keep _ ⟨rfl, rfl, rfl, rfl, trivial⟩, hS⟩
       ·
        refine wp_seq_k (fun K24 hK24 => ?_)
        refine wp_region_lit ?_
        refine mv hA rfl rfl rfl fun a hA => ?_
        refine mv hA rfl rfl rfl fun a hA => ?_
        refine seq_do hA rfl rfl rfl (d_assign rfl) fun a hA => ?_
        refine seq_do hA rfl rfl rfl (d_assign rfl) fun a hA => ?_
        refine seq_end ?_
        refine hK24 _ _ ?_
        refine wp_ret ?_
        refine hret _ _ ?_
        refine ends (v := .tuple #[.string (bsL q), .int .i64 (((k : Nat) : Int))]) hA rfl (.cons (res_tmp rfl) (.cons (res_tmp rfl) .nil)) rfl ?_
        have e9 : prfx false false r l = (q, k) := hinv6.1.symm.trans (prfx_stay (by omega) (by omega) (Or.inr (by simpa using hc17)) (Or.inr (by simpa using hc23)))
        exact ⟨by rw [e9], hS.bel⟩
      ·
       have hb22' := ne_of_beq_false hb22
       refine seq_do (v := .bool false) hA rfl rfl rfl (d_bin rfl rfl (fun w => (bin_eql w).trans (by rw [hb22]))) fun a hA => ?_
       refine seq_do (v := .bool false) hA rfl rfl rfl (d_pick rfl rfl rfl rfl) fun a hA => ?_
       refine mv hA rfl rfl rfl fun a hA => ?_
       refine seq_skip hA rfl rfl rfl fun a hA => ?_
       refine seq_skip hA rfl rfl rfl fun a hA => ?_
       refine seq_do (v := .bool false) hA rfl rfl rfl (d_pick rfl rfl rfl rfl) fun a hA => ?_
       refine seq_do hA rfl rfl rfl (d_assign rfl) fun a hA => ?_
       refine seq_end ?_
       refine hK18 _ _ ?_
       refine wp_cond_false (hA.ev rfl) ?_
       refine wp_seq_k (fun K25 hK25 => ?_)
       refine wp_region_lit ?_
       refine mv hA rfl rfl rfl fun a hA => ?_
       refine mv hA rfl rfl rfl fun a hA => ?_
       refine seq_do hA rfl rfl rfl (d_assign rfl) fun a hA => ?_
       refine seq_do hA rfl rfl rfl (d_assign rfl) fun a hA => ?_
       refine seq_end ?_
       refine hK25 _ _ ?_
       refine wp_ret ?_
       refine hret _ _ ?_
       refine ends (v := .tuple #[.string (bsL q), .int .i64 (((k : Nat) : Int))]) hA rfl (.cons (res_tmp rfl) (.cons (res_tmp rfl) .nil)) rfl ?_
       have e9 : prfx false false r l = (q, k) := hinv6.1.symm.trans (prfx_stay (by omega) (by omega) (Or.inr (by simpa using hc17)) (Or.inl (by omega)))
       exact ⟨by rw [e9], hS.bel⟩
   ·
    have hb16' := of_decide_eq_false hb16
    refine seq_do (v := .bool false) hA rfl rfl rfl (d_bin rfl rfl (fun w => (bin_gtr w).trans (by rw [hb16]))) fun a hA => ?_
    refine mv hA rfl rfl rfl fun a hA => ?_
    refine seq_skip hA rfl rfl rfl fun a hA => ?_
    refine seq_skip hA rfl rfl rfl fun a hA => ?_
    refine seq_do (v := .bool false) hA rfl rfl rfl (d_pick rfl rfl rfl rfl) fun a hA => ?_
    refine seq_do hA rfl rfl rfl (d_assign rfl) fun a hA => ?_
    refine seq_end ?_
    refine hK15 _ _ ?_
    refine wp_cond_false (hA.ev rfl) ?_
    refine wp_seq_k (fun K26 hK26 => ?_)
    refine wp_region_lit ?_
    refine mv hA rfl rfl rfl fun a hA => ?_
    refine seq_do (v := .int .u8 (((btL q 1 : Nat) : Int))) hA rfl rfl rfl (d_ixT (s := q) (i := 1) Tryz.underlying9 rfl rfl (by first | rfl | omega) (by first | omega | (simp only [List.length_drop, List.length_take]; omega))) fun a hA => ?_
    rcases Bool.eq_false_or_eq_true ((((btL q 1 : Nat) : Int) == 101)) with hb27 | hb27
    ·
     have hb27' := eq_of_beq hb27
     refine seq_do (v := .bool true) hA rfl rfl rfl (d_bin rfl rfl (fun w => (bin_eql w).trans (by rw [hb27]))) fun a hA => ?_
     refine mv hA rfl rfl rfl fun a hA => ?_
     refine seq_skip hA rfl rfl rfl fun a hA => ?_
     refine seq_skip hA rfl rfl rfl fun a hA => ?_
     refine seq_skip hA rfl rfl rfl fun a hA => ?_
     refine seq_do (v := .bool true) hA rfl rfl rfl (d_pick rfl rfl rfl rfl) fun a hA => ?_
     refine mv hA rfl rfl rfl fun a hA => ?_
     refine mv hA rfl rfl rfl fun a hA => ?_
     refine seq_do (v := .bool (!ex)) hA rfl rfl rfl (d_un rfl un_not) fun a hA => ?_
     refine seq_do (v := .bool (!ex)) hA rfl rfl rfl (d_pick rfl rfl rfl rfl) fun a hA => ?_
     refine seq_do hA rfl rfl rfl (d_assign rfl) fun a hA => ?_
     refine seq_end ?_
     refine hK26 _ _ ?_
     refine wp_cond_split (t := !ex) (hA.ev rfl) (fun hc28 => ?_) (fun hc28 => ?_)
     ·
      refine wp_region_lit ?_
      refine seq_do hA rfl rfl rfl (d_assign rfl) fun a hA => ?_
      refine seq_end ?_
      refine hK14 _ _ ?_
      refine wp_region_lit ?_
      refine mv hA rfl rfl rfl fun a hA => ?_
      refine seq_do (v := .string (bsL (q.drop 2))) hA rfl rfl rfl (d_slFrom (p := 2) (s := q) Tryz.underlying9 rfl rfl (by first | rfl | omega) (by first | omega | (simp only [List.length_drop, List.length_take]; omega))) fun a hA => ?_
      refine seq_do hA rfl rfl rfl (d_assign rfl) fun a hA => ?_
      refine seq_end ?_
      refine hK5 _ _ _ (by simp only [List.length_drop]; omega) ⟨q.drop 2, k, told, true, rfl, ⟨(prfx_exact (by omega) (by omega) (Or.inl (by omega)) (by omega) (by simpa using hc28)).symm.trans hinv6.1, by simp only [List.length_drop]; omega⟩, hA.keep _ ⟨rfl, rfl, rfl, rfl, trivial⟩, hS⟩
     ·
      refine wp_seq_k (fun K29 hK29 => ?_)
      refine wp_region_lit ?_
      refine mv hA rfl rfl rfl fun a hA => ?_
      refine mv hA rfl rfl rfl fun a hA => ?_
      refine seq_do hA rfl rfl rfl (d_assign rfl) fun a hA => ?_
      refine seq_do hA rfl rfl rfl (d_assign rfl) fun a hA => ?_
      refine seq_end ?_
      refine hK29 _ _ ?_
      refine wp_ret ?_
      refine hret _ _ ?_
      refine ends (v := .tuple #[.string (bsL q), .int .i64 (((k : Nat) : Int))]) hA rfl (.cons (res_tmp rfl) (.cons (res_tmp rfl) .nil)) rfl ?_
      have e9 : prfx false false r l = (q, k) := hinv6.1.symm.trans (prfx_stay (by omega) (by omega) (Or.inl (by omega)) (Or.inr (by simpa using hc28)))
      exact ⟨by rw [e9], hS.bel⟩
    ·
     have hb27' := ne_of_beq_false hb27
     refine seq_do (v := .bool false) hA rfl rfl rfl (d_bin rfl rfl (fun w => (bin_eql w).trans (by rw [hb27]))) fun a hA => ?_
     refine mv hA rfl rfl rfl fun a hA => ?_
     refine mv hA rfl rfl rfl fun a hA => ?_
     refine seq_do (v := .int .u8 (((btL q 1 : Nat) : Int))) hA rfl rfl rfl (d_ixT (s := q) (i := 1) Tryz.underlying9 rfl rfl (by first | rfl | omega) (by first | omega | (simp only [List.length_drop, List.length_take]; omega))) fun a hA => ?_
     rcases Bool.eq_false_or_eq_true ((((btL q 1 : Nat) : Int) == 69)) with hb30 | hb30
     ·
      have hb30' := eq_of_beq hb30
      refine seq_do (v := .bool true) hA rfl rfl rfl (d_bin rfl rfl (fun w => (bin_eql w).trans (by rw [hb30]))) fun a hA => ?_
      refine seq_do (v := .bool true) hA rfl rfl rfl (d_pick rfl rfl rfl rfl) fun a hA => ?_
      refine mv hA rfl rfl rfl fun a hA => ?_
      refine mv hA rfl rfl rfl fun a hA => ?_
      refine seq_do (v := .bool (!ex)) hA rfl rfl rfl (d_un rfl un_not) fun a hA => ?_
      refine seq_do (v := .bool (!ex)) hA rfl rfl rfl (d_pick rfl rfl rfl rfl) fun a hA => ?_
      refine seq_do hA rfl rfl rfl (d_assign rfl) fun a hA => ?_
      refine seq_end ?_
      refine hK26 _ _ ?_
      refine wp_cond_split (t := !ex) (hA.ev rfl) (fun hc31 => ?_) (fun hc31 => ?_)
      ·
       refine wp_region_lit ?_
       refine seq_do hA rfl rfl rfl (d_assign rfl) fun a hA => ?_
       refine seq_end ?_
       refine hK14 _ _ ?_
       refine wp_region_lit ?_
       refine mv hA rfl rfl rfl fun a hA => ?_
       refine seq_do (v := .string (bsL (q.drop 2))) hA rfl rfl rfl (d_slFrom (p := 2) (s := q) Tryz.underlying9 rfl rfl (by first | rfl | omega) (by first | omega | (simp only [List.length_drop, List.length_take]; omega))) fun a hA => ?_
       refine seq_do hA rfl rfl rfl (d_assign rfl) fun a hA => ?_
       refine seq_end ?_
       refine hK5 _ _ _ (by simp only [List.length_drop]; omega) ⟨q.drop 2, k, told, true, rfl, ⟨(prfx_exact (by omega) (by omega) (Or.inl (by omega)) (by omega) (by simpa using hc31)).symm.trans hinv6.1, by simp only [List.length_drop]; omega⟩, hA.keep _ ⟨rfl, rfl, rfl, rfl, trivial⟩, hS⟩
      ·
       refine wp_seq_k (fun K32 hK32 => ?_)
       refine wp_region_lit ?_
       refine mv hA rfl rfl rfl fun a hA => ?_
       refine mv hA rfl rfl rfl fun a hA => ?_
       refine seq_do hA rfl rfl rfl (d_assign rfl) fun a hA => ?_
       refine seq_do hA rfl rfl rfl (d_assign rfl) fun a hA => ?_
       refine seq_end ?_
       refine hK32 _ _ ?_
       refine wp_ret ?_
       refine hret _ _ ?_
       refine ends (v := .tuple #[.string (bsL q), .int .i64 (((k : Nat) : Int))]) hA rfl (.cons (res_tmp rfl) (.cons (res_tmp rfl) .nil)) rfl ?_
       have e9 : prfx false false r l = (q, k) := hinv6.1.symm.trans (prfx_stay (by omega) (by omega) (Or.inl (by omega)) (Or.inr (by simpa using hc31)))
       exact ⟨by rw [e9], hS.bel⟩
     ·
      have hb30' := ne_of_beq_false hb30
      refine seq_do (v := .bool false) hA rfl rfl rfl (d_bin rfl rfl (fun w => (bin_eql w).trans (by rw [hb30]))) fun a hA => ?_
      refine seq_do (v := .bool false) hA rfl rfl rfl (d_pick rfl rfl rfl rfl) fun a hA => ?_
      refine mv hA rfl rfl rfl fun a hA => ?_
      refine seq_skip hA rfl rfl rfl fun a hA => ?_
      refine seq_skip hA rfl rfl rfl fun a hA => ?_
      refine seq_do (v := .bool false) hA rfl rfl rfl (d_pick rfl rfl rfl rfl) fun a hA => ?_
      refine seq_do hA rfl rfl rfl (d_assign rfl) fun a hA => ?_
      refine seq_end ?_
      refine hK26 _ _ ?_
      refine wp_cond_false (hA.ev rfl) ?_
      refine wp_seq_k (fun K33 hK33 => ?_)
      refine wp_region_lit ?_
      refine mv hA rfl rfl rfl fun a hA => ?_
      refine mv hA rfl rfl rfl fun a hA => ?_
      refine seq_do hA rfl rfl rfl (d_assign rfl) fun a hA => ?_
      refine seq_do hA rfl rfl rfl (d_assign rfl) fun a hA => ?_
      refine seq_end ?_
      refine hK33 _ _ ?_
      refine wp_ret ?_
      refine hret _ _ ?_
      refine ends (v := .tuple #[.string (bsL q), .int .i64 (((k : Nat) : Int))]) hA rfl (.cons (res_tmp rfl) (.cons (res_tmp rfl) .nil)) rfl ?_
      have e9 : prfx false false r l = (q, k) := hinv6.1.symm.trans (prfx_stay (by omega) (by omega) (Or.inl (by omega)) (Or.inl (by omega)))
      exact ⟨by rw [e9], hS.bel⟩
  ·
   have hb10' := ne_of_beq_false hb10
   refine seq_do (v := .bool false) hA rfl rfl rfl (d_bin rfl rfl (fun w => (bin_eql w).trans (by rw [hb10]))) fun a hA => ?_
   refine seq_do (v := .bool false) hA rfl rfl rfl (d_pick rfl rfl rfl rfl) fun a hA => ?_
   refine seq_end ?_
   refine hK8 _ _ ?_
   refine wp_cond_false (hA.ev rfl) ?_
   refine wp_exit ?_
   refine hK3 _ _ ?_
   refine wp_seq_k (fun K34 hK34 => ?_)
   refine wp_region_lit ?_
   refine mv hA rfl rfl rfl fun a hA => ?_
   refine mv hA rfl rfl rfl fun a hA => ?_
   refine seq_do hA rfl rfl rfl (d_assign rfl) fun a hA => ?_
   refine seq_do hA rfl rfl rfl (d_assign rfl) fun a hA => ?_
   refine seq_end ?_
   refine hK34 _ _ ?_
   refine wp_ret ?_
   refine hret _ _ ?_
   refine ends (v := .tuple #[.string (bsL q), .int .i64 (((k : Nat) : Int))]) hA rfl (.cons (res_tmp rfl) (.cons (res_tmp rfl) .nil)) rfl ?_
   have e9 : prfx false false r l = (q, k) := hinv6.1.symm.trans (prfx_other (by omega))
   exact ⟨by rw [e9], hS.bel⟩
 ·
  have hb9' := of_decide_eq_false hb9
  refine seq_do (v := .bool false) hA rfl rfl rfl (d_bin rfl rfl (fun w => (bin_gtr w).trans (by rw [hb9]))) fun a hA => ?_
  refine mv hA rfl rfl rfl fun a hA => ?_
  refine seq_skip hA rfl rfl rfl fun a hA => ?_
  refine seq_skip hA rfl rfl rfl fun a hA => ?_
  refine seq_skip hA rfl rfl rfl fun a hA => ?_
  refine seq_do (v := .bool false) hA rfl rfl rfl (d_pick rfl rfl rfl rfl) fun a hA => ?_
  refine seq_end ?_
  refine hK8 _ _ ?_
  refine wp_cond_false (hA.ev rfl) ?_
  refine wp_exit ?_
  refine hK3 _ _ ?_
  refine wp_seq_k (fun K35 hK35 => ?_)
  refine wp_region_lit ?_
  refine mv hA rfl rfl rfl fun a hA => ?_
  refine mv hA rfl rfl rfl fun a hA => ?_
  refine seq_do hA rfl rfl rfl (d_assign rfl) fun a hA => ?_
  refine seq_do hA rfl rfl rfl (d_assign rfl) fun a hA => ?_
  refine seq_end ?_
  refine hK35 _ _ ?_
  refine wp_ret ?_
  refine hret _ _ ?_
  refine ends (v := .tuple #[.string (bsL q), .int .i64 (((k : Nat) : Int))]) hA rfl (.cons (res_tmp rfl) (.cons (res_tmp rfl) .nil)) rfl ?_
  have e9 : prfx false false r l = (q, k) := hinv6.1.symm.trans (prfx_short (by omega))
  exact ⟨by rw [e9], hS.bel⟩
theorem reD_len (r : Nat) (l : List UInt8) : (reD r l).length ≤ l.length := by
 have e : (unS l).length ≤ l.length := by unfold unS; split; rw [List.length_drop]; omega; exact Nat.le_refl _
 have e1 : (qD r l).length ≤ l.length := by unfold qD; rw [List.length_drop]; omega
 unfold reD
 split
 ·
  rw [List.length_drop, List.length_drop]; omega
 ·
  exact e1
theorem cutParts_any {w : World} {r : Nat} {l : List UInt8} (hr : RadN r) (hl : l.length ≤ 9223372036854775807) : Calls Tryz.prog 27 #[.string (bsL l), .int .i64 ((r : Nat) : Int)] w fun e w' => e = .returned (.tuple #[.agg #[.int .u8 (((reP r l).1 : Nat) : Int), .string (bsL (reP r l).2.1), .string (bsL (reP r l).2.2)], .agg #[.int .u8 (((imP r l).1 : Nat) : Int), .string (bsL (imP r l).2.1), .string (bsL (imP r l).2.2)], .bool (okP r l)]) ∧ Below w.heap.size w w' := by
 have hS : St w w [] [] [] := St.start w
 refine walk_of (l := [(0, .string (bsL l)), (1, .int .i64 (((r : Nat) : Int)))]) Tryz.func27 rfl Tryz.ntmps27 rfl rfl ?_
 intro Q hret hnorm hP a hA
 refine wp_seq_k (fun K1 hK1 => ?_)
 refine wp_region_lit ?_
 refine seq_new (vs := [.int .u8 0, .string (bsL []), .string (bsL [])]) (t := 48) hA hS rfl rfl rfl (fun g => .pointer (some ⟨g, 0, none⟩)) (d_alloc (z := .agg #[.int .u8 0, .string (bsL []), .string (bsL [])]) (by kernel_rfl) rfl) rfl ?_
 intro g2 w3 hS a hA
 refine seq_new (vs := [.int .u8 0, .string (bsL []), .string (bsL [])]) (t := 48) hA hS rfl rfl rfl (fun g => .pointer (some ⟨g, 0, none⟩)) (d_alloc (z := .agg #[.int .u8 0, .string (bsL []), .string (bsL [])]) (by kernel_rfl) rfl) rfl ?_
 intro g4 w5 hS a hA
 refine seq_do hA rfl rfl rfl (d_assign rfl) fun a hA => ?_
 refine seq_end ?_
 refine hK1 _ _ ?_
 refine wp_seq_k (fun K6 hK6 => ?_)
 refine wp_region_lit ?_
 refine seq_do (v := .agg #[.int .u8 0, .string (bsL [48]), .string (bsL [])]) hA rfl rfl rfl (d_build rfl (fun w => by kernel_rfl)) fun a hA => ?_
 refine seq_new (vs := [.int .u8 0, .string (bsL []), .string (bsL [])]) (t := 48) hA hS rfl rfl rfl (fun g => .pointer (some ⟨g, 0, none⟩)) (d_alloc (z := .agg #[.int .u8 0, .string (bsL []), .string (bsL [])]) (by kernel_rfl) rfl) rfl ?_
 intro g7 w8 hS a hA
 refine seq_store (us := [.int .u8 0, .string (bsL [48]), .string (bsL [])]) hA hS rfl rfl (sets_store rfl rfl rfl (by kernel_rfl) hS 0 rfl rfl rfl) 0 rfl rfl rfl rfl ?_
 intro w9 hS
 refine seq_end ?_
 refine hK6 _ _ ?_
 refine wp_seq_k (fun K10 hK10 => ?_)
 refine wp_region_lit ?_
 refine mv hA rfl rfl rfl fun a hA => ?_
 refine mv hA rfl rfl rfl fun a hA => ?_
 refine seq_call hA rfl rfl rfl (enters_func  rfl rfl (fun w => by kernel_rfl)) (cutNumeral_any (l := l) hr (by first | omega | (have h9 := reD_len r l; omega))) ?_
 rintro _ w12 ⟨rfl, hb11⟩
 replace hS := hS.call hb11
 refine ⟨_, rfl, ?_⟩
 intro a hA
 refine mv hA rfl rfl rfl fun a hA => ?_
 refine seq_do (v := .agg #[.int .u8 (((sgB l : Nat) : Int)), .string (bsL (tpD r l)), .string (bsL (boD r l))]) hA rfl rfl rfl (d_extract (vs := [.agg #[.int .u8 (((sgB l : Nat) : Int)), .string (bsL (tpD r l)), .string (bsL (boD r l))], .string (bsL (reD r l))]) rfl rfl) fun a hA => ?_
 refine seq_do (v := .string (bsL (reD r l))) hA rfl rfl rfl (d_extract (vs := [.agg #[.int .u8 (((sgB l : Nat) : Int)), .string (bsL (tpD r l)), .string (bsL (boD r l))], .string (bsL (reD r l))]) rfl rfl) fun a hA => ?_
 refine seq_new (vs := [.int .u8 0, .string (bsL []), .string (bsL [])]) (t := 48) hA hS rfl rfl rfl (fun g => .pointer (some ⟨g, 0, none⟩)) (d_alloc (z := .agg #[.int .u8 0, .string (bsL []), .string (bsL [])]) (by kernel_rfl) rfl) rfl ?_
 intro g13 w14 hS a hA
 refine seq_store (us := [.int .u8 (((sgB l : Nat) : Int)), .string (bsL (tpD r l)), .string (bsL (boD r l))]) hA hS rfl rfl (sets_store rfl rfl rfl (by kernel_rfl) hS 0 rfl rfl rfl) 0 rfl rfl rfl rfl ?_
 intro w15 hS
 refine seq_do hA rfl rfl rfl (d_assign rfl) fun a hA => ?_
 refine seq_end ?_
 refine hK10 _ _ ?_
 refine wp_seq_k (fun K16 hK16 => ?_)
 refine wp_seq_k (fun K17 hK17 => ?_)
 refine wp_region_lit ?_
 refine mv hA rfl rfl rfl fun a hA => ?_
 rcases Bool.eq_false_or_eq_true (decide (reD r l = ([] : List UInt8))) with hb18 | hb18
 ·
  have hb18' := of_decide_eq_true hb18
  have hb18n : (reD r l).length = 0 := by rw [hb18']; rfl
  refine seq_do (v := .bool true) hA rfl rfl rfl (d_bin rfl rfl (fun w => (bin_eqlT (a := reD r l) (b := []) Tryz.underlying9 w).trans (by rw [hb18]; try rfl))) fun a hA => ?_
  refine seq_end ?_
  refine hK17 _ _ ?_
  refine wp_cond_true (hA.ev rfl) ?_
  refine wp_seq_k (fun K19 hK19 => ?_)
  refine wp_draw (S := fun w1 => St w w1 [(g13, [.int .u8 (((sgB l : Nat) : Int)), .string (bsL (tpD r l)), .string (bsL (boD r l))]), (g7, [.int .u8 0, .string (bsL [48]), .string (bsL [])])] [] []) (by kernel_rfl) ?_
  replace hS := hS.drew
  refine any_tk hA 0 rfl rfl rfl rfl hP (hS.partD (.cons_cons _ (.cons_cons _ (.cons _ (.cons _ .slnil)))) 0 rfl (.refl _)) (fun w1 hS => d_loadS hS RxD_isS_48 rfl 0 rfl (cs := [.int .u8 (((sgB l : Nat) : Int)), .string (bsL (tpD r l)), .string (bsL (boD r l))]) rfl rfl) fun a hA => ?_
  refine any_tk hA 1 rfl rfl rfl rfl hP (hS.partD (.cons_cons _ (.cons_cons _ (.cons _ (.cons _ .slnil)))) 0 rfl (.refl _)) (fun w1 hS => d_loadS hS RxD_isS_48 rfl 1 rfl (cs := [.int .u8 0, .string (bsL [48]), .string (bsL [])]) rfl rfl) fun a hA => ?_
  refine any_tk (v := .pointer (some ⟨g13, 1, none⟩)) hA 2 rfl rfl rfl rfl hP (hS.partD (.cons_cons _ (.cons_cons _ (.cons _ (.cons _ .slnil)))) 0 rfl (.refl _)) (fun w1 hS => d_field RxD_fld_48_1 rfl rfl) fun a hA => ?_
  refine any_tk hA 3 rfl rfl rfl rfl hP (hS.partD (.cons_cons _ (.cons_cons _ (.cons _ (.cons _ .slnil)))) 0 rfl (.refl _)) (fun w1 hS => d_load1 hS RxD_is1_9 rfl 0 rfl rfl) fun a hA => ?_
  rcases Bool.eq_false_or_eq_true (decide (tpD r l = ([] : List UInt8))) with hb20 | hb20
  ·
   have hb20' := of_decide_eq_true hb20
   have hb20n : (tpD r l).length = 0 := by rw [hb20']; rfl
   refine any_tk (v := .bool false) hA 4 rfl rfl rfl rfl hP (hS.partD (.cons_cons _ (.cons_cons _ (.cons _ (.cons _ .slnil)))) 0 rfl (.refl _)) (fun w1 hS => d_bin rfl rfl (fun w => (bin_neqT (a := tpD r l) (b := []) Tryz.underlying9 w).trans (by rw [hb20]; try rfl))) fun a hA => ?_
   refine any_one (by kernel_rfl) (op_store (us := [.int .u8 (((sgB l : Nat) : Int)), .string (bsL (tpD r l)), .string (bsL (boD r l))]) hA hS 5 rfl rfl rfl (sets_store rfl rfl rfl (by kernel_rfl) hS 3 rfl rfl rfl) 3 rfl rfl rfl rfl ?_)
   intro w21 hS
   refine ⟨(hS.partD (.cons_cons _ (.cons_cons _ (.cons _ (.cons _ .slnil)))) 0 rfl (.refl _)), ?_⟩
   refine any_one (by kernel_rfl) (op_store (us := [.int .u8 0, .string (bsL [48]), .string (bsL [])]) hA hS 6 rfl rfl rfl (sets_store rfl rfl rfl (by kernel_rfl) hS 2 rfl rfl rfl) 2 rfl rfl rfl rfl ?_)
   intro w22 hS
   refine ⟨(hS.partD (.cons_cons _ (.cons_cons _ (.cons _ (.cons _ .slnil)))) 0 rfl (.refl _)), ?_⟩
   refine any_tk hA 7 rfl rfl rfl rfl hP (hS.partD (.cons_cons _ (.cons_cons _ (.cons _ (.cons _ .slnil)))) 0 rfl (.refl _)) (fun w1 hS => d_assign rfl) fun a hA => ?_
   refine any_end (by kernel_rfl) ?_
   refine hK19 _ _ ?_
   refine wp_ret ?_
   refine hret _ _ ?_
   refine ends (v := .tuple #[.agg #[.int .u8 (((sgB l : Nat) : Int)), .string (bsL (tpD r l)), .string (bsL (boD r l))], .agg #[.int .u8 0, .string (bsL [48]), .string (bsL [])], .bool false]) hA rfl (.cons (res_cell hS RxD_isS_48 rfl 3 rfl (cs := [.int .u8 (((sgB l : Nat) : Int)), .string (bsL (tpD r l)), .string (bsL (boD r l))]) rfl rfl) (.cons (res_cell hS RxD_isS_48 rfl 2 rfl (cs := [.int .u8 0, .string (bsL [48]), .string (bsL [])]) rfl rfl) (.cons (res_tmp rfl) .nil))) rfl ?_
   have e1 : reP r l = nlD r l := by unfold reP; rw [if_pos hb18']
   have e2 : imP r l = nl0 := by unfold imP; rw [if_pos hb18']
   have e3 : okP r l = false := by unfold okP; simp [hb18', hb20']
   rw [e1, e2, e3]
   exact ⟨rfl, hS.bel⟩
  ·
   have hb20' := of_decide_eq_false hb20
   have hb20n : ¬ (tpD r l).length = 0 := fun k => hb20' (List.length_eq_zero_iff.1 k)
   refine any_tk (v := .bool true) hA 4 rfl rfl rfl rfl hP (hS.partD (.cons_cons _ (.cons_cons _ (.cons _ (.cons _ .slnil)))) 0 rfl (.refl _)) (fun w1 hS => d_bin rfl rfl (fun w => (bin_neqT (a := tpD r l) (b := []) Tryz.underlying9 w).trans (by rw [hb20]; try rfl))) fun a hA => ?_
   refine any_one (by kernel_rfl) (op_store (us := [.int .u8 (((sgB l : Nat) : Int)), .string (bsL (tpD r l)), .string (bsL (boD r l))]) hA hS 5 rfl rfl rfl (sets_store rfl rfl rfl (by kernel_rfl) hS 3 rfl rfl rfl) 3 rfl rfl rfl rfl ?_)
   intro w23 hS
   refine ⟨(hS.partD (.cons_cons _ (.cons_cons _ (.cons _ (.cons _ .slnil)))) 0 rfl (.refl _)), ?_⟩
   refine any_one (by kernel_rfl) (op_store (us := [.int .u8 0, .string (bsL [48]), .string (bsL [])]) hA hS 6 rfl rfl rfl (sets_store rfl rfl rfl (by kernel_rfl) hS 2 rfl rfl rfl) 2 rfl rfl rfl rfl ?_)
   intro w24 hS
   refine ⟨(hS.partD (.cons_cons _ (.cons_cons _ (.cons _ (.cons _ .slnil)))) 0 rfl (.refl _)), ?_⟩
   refine any_tk hA 7 rfl rfl rfl rfl hP (hS.partD (.cons_cons _ (.cons_cons _ (.cons _ (.cons _ .slnil)))) 0 rfl (.refl _)) (fun w1 hS => d_assign rfl) fun a hA => ?_
   refine any_end (by kernel_rfl) ?_
   refine hK19 _ _ ?_
   refine wp_ret ?_
   refine hret _ _ ?_
   refine ends (v := .tuple #[.agg #[.int .u8 (((sgB l : Nat) : Int)), .string (bsL (tpD r l)), .string (bsL (boD r l))], .agg #[.int .u8 0, .string (bsL [48]), .string (bsL [])], .bool true]) hA rfl (.cons (res_cell hS RxD_isS_48 rfl 3 rfl (cs := [.int .u8 (((sgB l : Nat) : Int)), .string (bsL (tpD r l)), .string (bsL (boD r l))]) rfl rfl) (.cons (res_cell hS RxD_isS_48 rfl 2 rfl (cs := [.int .u8 0, .string (bsL [48]), .string (bsL [])]) rfl rfl) (.cons (res_tmp rfl) .nil))) rfl ?_
   have e1 : reP r l = nlD r l := by unfold reP; rw [if_pos hb18']
   have e2 : imP r l = nl0 := by unfold imP; rw [if_pos hb18']
   have e3 : okP r l = true := by unfold okP; simp [hb18', hb20']
   rw [e1, e2, e3]
   exact ⟨rfl, hS.bel⟩
 ·
  have hb18' := of_decide_eq_false hb18
  have hb18n : ¬ (reD r l).length = 0 := fun k => hb18' (List.length_eq_zero_iff.1 k)
  refine seq_do (v := .bool false) hA rfl rfl rfl (d_bin rfl rfl (fun w => (bin_eqlT (a := reD r l) (b := []) Tryz.underlying9 w).trans (by rw [hb18]; try rfl))) fun a hA => ?_
  refine seq_end ?_
  refine hK17 _ _ ?_
  refine wp_cond_false (hA.ev rfl) ?_
  refine wp_skip ?_
  refine hK16 _ _ ?_
  refine wp_seq_k (fun K25 hK25 => ?_)
  refine wp_seq_k (fun K26 hK26 => ?_)
  refine wp_region_lit ?_
  refine mv hA rfl rfl rfl fun a hA => ?_
  rcases Bool.eq_false_or_eq_true (unitB (reD r l)) with hb27 | hb27
  ·
   refine seq_call hA rfl rfl rfl (enters_func  rfl rfl (fun w => by kernel_rfl)) (isUnit_any hb27) ?_
   rintro _ w29 ⟨rfl, hb28⟩
   replace hS := hS.call hb28
   refine ⟨_, rfl, ?_⟩
   intro a hA
   refine seq_end ?_
   refine hK26 _ _ ?_
   refine wp_cond_true (hA.ev rfl) ?_
   refine wp_seq_k (fun K30 hK30 => ?_)
   refine wp_draw (S := fun w1 => St w w1 [(g13, [.int .u8 (((sgB l : Nat) : Int)), .string (bsL (tpD r l)), .string (bsL (boD r l))]), (g7, [.int .u8 0, .string (bsL [48]), .string (bsL [])])] [] []) (by kernel_rfl) ?_
   replace hS := hS.drew
   refine any_tk hA 0 rfl rfl rfl rfl hP (hS.partD (.cons_cons _ (.cons_cons _ (.cons _ (.cons _ .slnil)))) 0 rfl (.refl _)) (fun w1 hS => d_loadS hS RxD_isS_48 rfl 1 rfl (cs := [.int .u8 0, .string (bsL [48]), .string (bsL [])]) rfl rfl) fun a hA => ?_
   refine any_tk hA 1 rfl rfl rfl rfl hP (hS.partD (.cons_cons _ (.cons_cons _ (.cons _ (.cons _ .slnil)))) 0 rfl (.refl _)) (fun w1 hS => d_loadS hS RxD_isS_48 rfl 0 rfl (cs := [.int .u8 (((sgB l : Nat) : Int)), .string (bsL (tpD r l)), .string (bsL (boD r l))]) rfl rfl) fun a hA => ?_
   refine any_tk (v := .pointer (some ⟨g13, 0, none⟩)) hA 2 rfl rfl rfl rfl hP (hS.partD (.cons_cons _ (.cons_cons _ (.cons _ (.cons _ .slnil)))) 0 rfl (.refl _)) (fun w1 hS => d_field RxD_fld_48_0 rfl rfl) fun a hA => ?_
   refine any_tk hA 3 rfl rfl rfl rfl hP (hS.partD (.cons_cons _ (.cons_cons _ (.cons _ (.cons _ .slnil)))) 0 rfl (.refl _)) (fun w1 hS => d_load1 hS RxD_is1_5 rfl 0 rfl rfl) fun a hA => ?_
   rcases Bool.eq_false_or_eq_true ((((sgB l : Nat) : Int) != 0)) with hb31 | hb31
   ·
    have hb31' := bne_iff_ne.1 hb31
    refine any_tk (v := .bool true) hA 4 rfl rfl rfl rfl hP (hS.partD (.cons_cons _ (.cons_cons _ (.cons _ (.cons _ .slnil)))) 0 rfl (.refl _)) (fun w1 hS => d_bin rfl rfl (fun w => (bin_neq w).trans (by rw [hb31]))) fun a hA => ?_
    refine any_one (by kernel_rfl) (op_store (us := [.int .u8 0, .string (bsL [48]), .string (bsL [])]) hA hS 5 rfl rfl rfl (sets_store rfl rfl rfl (by kernel_rfl) hS 3 rfl rfl rfl) 3 rfl rfl rfl rfl ?_)
    intro w32 hS
    refine ⟨(hS.partD (.cons_cons _ (.cons_cons _ (.cons _ (.cons _ .slnil)))) 0 rfl (.refl _)), ?_⟩
    refine any_one (by kernel_rfl) (op_store (us := [.int .u8 (((sgB l : Nat) : Int)), .string (bsL (tpD r l)), .string (bsL (boD r l))]) hA hS 6 rfl rfl rfl (sets_store rfl rfl rfl (by kernel_rfl) hS 2 rfl rfl rfl) 2 rfl rfl rfl rfl ?_)
    intro w33 hS
    refine ⟨(hS.partD (.cons_cons _ (.cons_cons _ (.cons _ (.cons _ .slnil)))) 0 rfl (.refl _)), ?_⟩
    refine any_tk hA 7 rfl rfl rfl rfl hP (hS.partD (.cons_cons _ (.cons_cons _ (.cons _ (.cons _ .slnil)))) 0 rfl (.refl _)) (fun w1 hS => d_assign rfl) fun a hA => ?_
    refine any_end (by kernel_rfl) ?_
    refine hK30 _ _ ?_
    refine wp_ret ?_
    refine hret _ _ ?_
    refine ends (v := .tuple #[.agg #[.int .u8 0, .string (bsL [48]), .string (bsL [])], .agg #[.int .u8 (((sgB l : Nat) : Int)), .string (bsL (tpD r l)), .string (bsL (boD r l))], .bool true]) hA rfl (.cons (res_cell hS RxD_isS_48 rfl 3 rfl (cs := [.int .u8 0, .string (bsL [48]), .string (bsL [])]) rfl rfl) (.cons (res_cell hS RxD_isS_48 rfl 2 rfl (cs := [.int .u8 (((sgB l : Nat) : Int)), .string (bsL (tpD r l)), .string (bsL (boD r l))]) rfl rfl) (.cons (res_tmp rfl) .nil))) rfl ?_
    rw [sg_bne] at hb31
    have e1 : reP r l = nl0 := by unfold reP; rw [if_neg hb18', hb27]; rfl
    have e2 : imP r l = nlD r l := by unfold imP; rw [if_neg hb18', hb27]; rfl
    have e3 : okP r l = true := by unfold okP; simp [hb18', hb27, hb31]
    rw [e1, e2, e3]
    exact ⟨rfl, hS.bel⟩
   ·
    have hb31' := bne_eq_false_iff_eq.1 hb31
    refine any_tk (v := .bool false) hA 4 rfl rfl rfl rfl hP (hS.partD (.cons_cons _ (.cons_cons _ (.cons _ (.cons _ .slnil)))) 0 rfl (.refl _)) (fun w1 hS => d_bin rfl rfl (fun w => (bin_neq w).trans (by rw [hb31]))) fun a hA => ?_
    refine any_one (by kernel_rfl) (op_store (us := [.int .u8 0, .string (bsL [48]), .string (bsL [])]) hA hS 5 rfl rfl rfl (sets_store rfl rfl rfl (by kernel_rfl) hS 3 rfl rfl rfl) 3 rfl rfl rfl rfl ?_)
    intro w34 hS
    refine ⟨(hS.partD (.cons_cons _ (.cons_cons _ (.cons _ (.cons _ .slnil)))) 0 rfl (.refl _)), ?_⟩
    refine any_one (by kernel_rfl) (op_store (us := [.int .u8 (((sgB l : Nat) : Int)), .string (bsL (tpD r l)), .string (bsL (boD r l))]) hA hS 6 rfl rfl rfl (sets_store rfl rfl rfl (by kernel_rfl) hS 2 rfl rfl rfl) 2 rfl rfl rfl rfl ?_)
    intro w35 hS
    refine ⟨(hS.partD (.cons_cons _ (.cons_cons _ (.cons _ (.cons _ .slnil)))) 0 rfl (.refl _)), ?_⟩
    refine any_tk hA 7 rfl rfl rfl rfl hP (hS.partD (.cons_cons _ (.cons_cons _ (.cons _ (.cons _ .slnil)))) 0 rfl (.refl _)) (fun w1 hS => d_assign rfl) fun a hA => ?_
    refine any_end (by kernel_rfl) ?_
    refine hK30 _ _ ?_
    refine wp_ret ?_
    refine hret _ _ ?_
    refine ends (v := .tuple #[.agg #[.int .u8 0, .string (bsL [48]), .string (bsL [])], .agg #[.int .u8 (((sgB l : Nat) : Int)), .string (bsL (tpD r l)), .string (bsL (boD r l))], .bool false]) hA rfl (.cons (res_cell hS RxD_isS_48 rfl 3 rfl (cs := [.int .u8 0, .string (bsL [48]), .string (bsL [])]) rfl rfl) (.cons (res_cell hS RxD_isS_48 rfl 2 rfl (cs := [.int .u8 (((sgB l : Nat) : Int)), .string (bsL (tpD r l)), .string (bsL (boD r l))]) rfl rfl) (.cons (res_tmp rfl) .nil))) rfl ?_
    rw [sg_bne] at hb31
    have e1 : reP r l = nl0 := by unfold reP; rw [if_neg hb18', hb27]; rfl
    have e2 : imP r l = nlD r l := by unfold imP; rw [if_neg hb18', hb27]; rfl
    have e3 : okP r l = false := by unfold okP; simp [hb18', hb27, hb31]
    rw [e1, e2, e3]
    exact ⟨rfl, hS.bel⟩
  ·
   refine seq_call hA rfl rfl rfl (enters_func  rfl rfl (fun w => by kernel_rfl)) (isUnit_any hb27) ?_
   rintro _ w37 ⟨rfl, hb36⟩
   replace hS := hS.call hb36
   refine ⟨_, rfl, ?_⟩
   intro a hA
   refine seq_end ?_
   refine hK26 _ _ ?_
   refine wp_cond_false (hA.ev rfl) ?_
   refine wp_skip ?_
   refine hK25 _ _ ?_
   refine wp_seq_k (fun K38 hK38 => ?_)
   refine wp_region_lit ?_
   refine mv hA rfl rfl rfl fun a hA => ?_
   refine mv hA rfl rfl rfl fun a hA => ?_
   refine seq_call hA rfl rfl rfl (enters_func  rfl rfl (fun w => by kernel_rfl)) (cutNumeral_any (l := reD r l) hr (by first | omega | (have h9 := reD_len r l; omega))) ?_
   rintro _ w40 ⟨rfl, hb39⟩
   replace hS := hS.call hb39
   refine ⟨_, rfl, ?_⟩
   intro a hA
   refine mv hA rfl rfl rfl fun a hA => ?_
   refine seq_do (v := .agg #[.int .u8 (((sgB (reD r l) : Nat) : Int)), .string (bsL (tpD r (reD r l))), .string (bsL (boD r (reD r l)))]) hA rfl rfl rfl (d_extract (vs := [.agg #[.int .u8 (((sgB (reD r l) : Nat) : Int)), .string (bsL (tpD r (reD r l))), .string (bsL (boD r (reD r l)))], .string (bsL (reD r (reD r l)))]) rfl rfl) fun a hA => ?_
   refine seq_do (v := .string (bsL (reD r (reD r l)))) hA rfl rfl rfl (d_extract (vs := [.agg #[.int .u8 (((sgB (reD r l) : Nat) : Int)), .string (bsL (tpD r (reD r l))), .string (bsL (boD r (reD r l)))], .string (bsL (reD r (reD r l)))]) rfl rfl) fun a hA => ?_
   refine seq_new (vs := [.int .u8 0, .string (bsL []), .string (bsL [])]) (t := 48) hA hS rfl rfl rfl (fun g => .pointer (some ⟨g, 0, none⟩)) (d_alloc (z := .agg #[.int .u8 0, .string (bsL []), .string (bsL [])]) (by kernel_rfl) rfl) rfl ?_
   intro g41 w42 hS a hA
   refine seq_store (us := [.int .u8 (((sgB (reD r l) : Nat) : Int)), .string (bsL (tpD r (reD r l))), .string (bsL (boD r (reD r l)))]) hA hS rfl rfl (sets_store rfl rfl rfl (by kernel_rfl) hS 0 rfl rfl rfl) 0 rfl rfl rfl rfl ?_
   intro w43 hS
   refine seq_do hA rfl rfl rfl (d_assign rfl) fun a hA => ?_
   refine seq_end ?_
   refine hK38 _ _ ?_
   refine wp_seq_k (fun K44 hK44 => ?_)
   refine wp_draw (S := fun w1 => St w w1 [(g41, [.int .u8 (((sgB (reD r l) : Nat) : Int)), .string (bsL (tpD r (reD r l))), .string (bsL (boD r (reD r l)))]), (g13, [.int .u8 (((sgB l : Nat) : Int)), .string (bsL (tpD r l)), .string (bsL (boD r l))]), (g7, [.int .u8 0, .string (bsL [48]), .string (bsL [])])] [] []) (by kernel_rfl) ?_
   replace hS := hS.drew
   refine any_tk hA 0 rfl rfl rfl rfl hP (hS.partD (.cons_cons _ (.cons_cons _ (.cons_cons _ (.cons _ (.cons _ .slnil))))) 0 rfl (.refl _)) (fun w1 hS => d_loadS hS RxD_isS_48 rfl 1 rfl (cs := [.int .u8 (((sgB l : Nat) : Int)), .string (bsL (tpD r l)), .string (bsL (boD r l))]) rfl rfl) fun a hA => ?_
   refine any_tk hA 1 rfl rfl rfl rfl hP (hS.partD (.cons_cons _ (.cons_cons _ (.cons_cons _ (.cons _ (.cons _ .slnil))))) 0 rfl (.refl _)) (fun w1 hS => d_loadS hS RxD_isS_48 rfl 0 rfl (cs := [.int .u8 (((sgB (reD r l) : Nat) : Int)), .string (bsL (tpD r (reD r l))), .string (bsL (boD r (reD r l)))]) rfl rfl) fun a hA => ?_
   refine any_tk (v := .pointer (some ⟨g13, 1, none⟩)) hA 2 rfl rfl rfl rfl hP (hS.partD (.cons_cons _ (.cons_cons _ (.cons_cons _ (.cons _ (.cons _ .slnil))))) 0 rfl (.refl _)) (fun w1 hS => d_field RxD_fld_48_1 rfl rfl) fun a hA => ?_
   refine any_tk hA 3 rfl rfl rfl rfl hP (hS.partD (.cons_cons _ (.cons_cons _ (.cons_cons _ (.cons _ (.cons _ .slnil))))) 0 rfl (.refl _)) (fun w1 hS => d_load1 hS RxD_is1_9 rfl 1 rfl rfl) fun a hA => ?_
   rcases Bool.eq_false_or_eq_true (decide (tpD r l = ([] : List UInt8))) with hb45 | hb45
   ·
    have hb45' := of_decide_eq_true hb45
    have hb45n : (tpD r l).length = 0 := by rw [hb45']; rfl
    refine any_tk (v := .bool false) hA 4 rfl rfl rfl rfl hP (hS.partD (.cons_cons _ (.cons_cons _ (.cons_cons _ (.cons _ (.cons _ .slnil))))) 0 rfl (.refl _)) (fun w1 hS => d_bin rfl rfl (fun w => (bin_neqT (a := tpD r l) (b := []) Tryz.underlying9 w).trans (by rw [hb45]; try rfl))) fun a hA => ?_
    refine any_tk hA 5 rfl rfl rfl rfl hP (hS.partD (.cons_cons _ (.cons_cons _ (.cons_cons _ (.cons _ (.cons _ .slnil))))) 0 rfl (.refl _)) (fun w1 hS => d_move rfl) fun a hA => ?_
    refine any_sk hA 6 rfl rfl rfl rfl hP (hS.partD (.cons_cons _ (.cons_cons _ (.cons_cons _ (.cons _ (.cons _ .slnil))))) 0 rfl (.refl _)) fun a hA => ?_
    refine any_sk hA 7 rfl rfl rfl rfl hP (hS.partD (.cons_cons _ (.cons_cons _ (.cons_cons _ (.cons _ (.cons _ .slnil))))) 0 rfl (.refl _)) fun a hA => ?_
    refine any_sk hA 8 rfl rfl rfl rfl hP (hS.partD (.cons_cons _ (.cons_cons _ (.cons_cons _ (.cons _ (.cons _ .slnil))))) 0 rfl (.refl _)) fun a hA => ?_
    refine any_tk (v := .bool false) hA 9 rfl rfl rfl rfl hP (hS.partD (.cons_cons _ (.cons_cons _ (.cons_cons _ (.cons _ (.cons _ .slnil))))) 0 rfl (.refl _)) (fun w1 hS => d_pick rfl rfl rfl rfl) fun a hA => ?_
    refine any_tk hA 10 rfl rfl rfl rfl hP (hS.partD (.cons_cons _ (.cons_cons _ (.cons_cons _ (.cons _ (.cons _ .slnil))))) 0 rfl (.refl _)) (fun w1 hS => d_move rfl) fun a hA => ?_
    refine any_sk hA 11 rfl rfl rfl rfl hP (hS.partD (.cons_cons _ (.cons_cons _ (.cons_cons _ (.cons _ (.cons _ .slnil))))) 0 rfl (.refl _)) fun a hA => ?_
    refine any_sk hA 12 rfl rfl rfl rfl hP (hS.partD (.cons_cons _ (.cons_cons _ (.cons_cons _ (.cons _ (.cons _ .slnil))))) 0 rfl (.refl _)) fun a hA => ?_
    refine any_tk (v := .bool false) hA 13 rfl rfl rfl rfl hP (hS.partD (.cons_cons _ (.cons_cons _ (.cons_cons _ (.cons _ (.cons _ .slnil))))) 0 rfl (.refl _)) (fun w1 hS => d_pick rfl rfl rfl rfl) fun a hA => ?_
    refine any_one (by kernel_rfl) (op_store (us := [.int .u8 (((sgB l : Nat) : Int)), .string (bsL (tpD r l)), .string (bsL (boD r l))]) hA hS 14 rfl rfl rfl (sets_store rfl rfl rfl (by kernel_rfl) hS 4 rfl rfl rfl) 4 rfl rfl rfl rfl ?_)
    intro w46 hS
    refine ⟨(hS.partD (.cons_cons _ (.cons_cons _ (.cons_cons _ (.cons _ (.cons _ .slnil))))) 0 rfl (.refl _)), ?_⟩
    refine any_one (by kernel_rfl) (op_store (us := [.int .u8 (((sgB (reD r l) : Nat) : Int)), .string (bsL (tpD r (reD r l))), .string (bsL (boD r (reD r l)))]) hA hS 15 rfl rfl rfl (sets_store rfl rfl rfl (by kernel_rfl) hS 3 rfl rfl rfl) 3 rfl rfl rfl rfl ?_)
    intro w47 hS
    refine ⟨(hS.partD (.cons_cons _ (.cons_cons _ (.cons_cons _ (.cons _ (.cons _ .slnil))))) 0 rfl (.refl _)), ?_⟩
    refine any_tk hA 16 rfl rfl rfl rfl hP (hS.partD (.cons_cons _ (.cons_cons _ (.cons_cons _ (.cons _ (.cons _ .slnil))))) 0 rfl (.refl _)) (fun w1 hS => d_assign rfl) fun a hA => ?_
    refine any_end (by kernel_rfl) ?_
    refine hK44 _ _ ?_
    refine wp_ret ?_
    refine hret _ _ ?_
    refine ends (v := .tuple #[.agg #[.int .u8 (((sgB l : Nat) : Int)), .string (bsL (tpD r l)), .string (bsL (boD r l))], .agg #[.int .u8 (((sgB (reD r l) : Nat) : Int)), .string (bsL (tpD r (reD r l))), .string (bsL (boD r (reD r l)))], .bool false]) hA rfl (.cons (res_cell hS RxD_isS_48 rfl 4 rfl (cs := [.int .u8 (((sgB l : Nat) : Int)), .string (bsL (tpD r l)), .string (bsL (boD r l))]) rfl rfl) (.cons (res_cell hS RxD_isS_48 rfl 3 rfl (cs := [.int .u8 (((sgB (reD r l) : Nat) : Int)), .string (bsL (tpD r (reD r l))), .string (bsL (boD r (reD r l)))]) rfl rfl) (.cons (res_tmp rfl) .nil))) rfl ?_
    have e1 : reP r l = nlD r l := by unfold reP; rw [if_neg hb18', hb27]; rfl
    have e2 : imP r l = nlD r (reD r l) := by unfold imP; rw [if_neg hb18', hb27]; rfl
    have e3 : okP r l = false := by unfold okP; simp [hb18', hb27, hb45']
    rw [e1, e2, e3]
    exact ⟨rfl, hS.bel⟩
   ·
    have hb45' := of_decide_eq_false hb45
    have hb45n : ¬ (tpD r l).length = 0 := fun k => hb45' (List.length_eq_zero_iff.1 k)
    refine any_tk (v := .bool true) hA 4 rfl rfl rfl rfl hP (hS.partD (.cons_cons _ (.cons_cons _ (.cons_cons _ (.cons _ (.cons _ .slnil))))) 0 rfl (.refl _)) (fun w1 hS => d_bin rfl rfl (fun w => (bin_neqT (a := tpD r l) (b := []) Tryz.underlying9 w).trans (by rw [hb45]; try rfl))) fun a hA => ?_
    refine any_tk hA 5 rfl rfl rfl rfl hP (hS.partD (.cons_cons _ (.cons_cons _ (.cons_cons _ (.cons _ (.cons _ .slnil))))) 0 rfl (.refl _)) (fun w1 hS => d_move rfl) fun a hA => ?_
    refine any_tk (v := .pointer (some ⟨g41, 0, none⟩)) hA 6 rfl rfl rfl rfl hP (hS.partD (.cons_cons _ (.cons_cons _ (.cons_cons _ (.cons _ (.cons _ .slnil))))) 0 rfl (.refl _)) (fun w1 hS => d_field RxD_fld_48_0 rfl rfl) fun a hA => ?_
    refine any_tk hA 7 rfl rfl rfl rfl hP (hS.partD (.cons_cons _ (.cons_cons _ (.cons_cons _ (.cons _ (.cons _ .slnil))))) 0 rfl (.refl _)) (fun w1 hS => d_load1 hS RxD_is1_5 rfl 0 rfl rfl) fun a hA => ?_
    rcases Bool.eq_false_or_eq_true ((((sgB (reD r l) : Nat) : Int) != 0)) with hb48 | hb48
    ·
     have hb48' := bne_iff_ne.1 hb48
     refine any_tk (v := .bool true) hA 8 rfl rfl rfl rfl hP (hS.partD (.cons_cons _ (.cons_cons _ (.cons_cons _ (.cons _ (.cons _ .slnil))))) 0 rfl (.refl _)) (fun w1 hS => d_bin rfl rfl (fun w => (bin_neq w).trans (by rw [hb48]))) fun a hA => ?_
     refine any_tk (v := .bool true) hA 9 rfl rfl rfl rfl hP (hS.partD (.cons_cons _ (.cons_cons _ (.cons_cons _ (.cons _ (.cons _ .slnil))))) 0 rfl (.refl _)) (fun w1 hS => d_pick rfl rfl rfl rfl) fun a hA => ?_
     refine any_tk hA 10 rfl rfl rfl rfl hP (hS.partD (.cons_cons _ (.cons_cons _ (.cons_cons _ (.cons _ (.cons _ .slnil))))) 0 rfl (.refl _)) (fun w1 hS => d_move rfl) fun a hA => ?_
     refine any_tk hA 11 rfl rfl rfl rfl hP (hS.partD (.cons_cons _ (.cons_cons _ (.cons_cons _ (.cons _ (.cons _ .slnil))))) 0 rfl (.refl _)) (fun w1 hS => d_move rfl) fun a hA => ?_
     rcases Bool.eq_false_or_eq_true (unitB (reD r (reD r l))) with hb49 | hb49
     ·
      refine any_one (by kernel_rfl) (op_call hA 12 rfl rfl rfl rfl (enters_func  rfl rfl (fun w => by kernel_rfl)) (isUnit_any hb49) ?_)
      rintro _ w51 ⟨rfl, hb50⟩
      replace hS := hS.call hb50
      refine ⟨_, rfl, (hS.partD (.cons_cons _ (.cons_cons _ (.cons_cons _ (.cons _ (.cons _ .slnil))))) 0 rfl (.refl _)), ?_⟩
      intro a hA
      refine any_tk (v := .bool true) hA 13 rfl rfl rfl rfl hP (hS.partD (.cons_cons _ (.cons_cons _ (.cons_cons _ (.cons _ (.cons _ .slnil))))) 0 rfl (.refl _)) (fun w1 hS => d_pick rfl rfl rfl rfl) fun a hA => ?_
      refine any_one (by kernel_rfl) (op_store (us := [.int .u8 (((sgB l : Nat) : Int)), .string (bsL (tpD r l)), .string (bsL (boD r l))]) hA hS 14 rfl rfl rfl (sets_store rfl rfl rfl (by kernel_rfl) hS 4 rfl rfl rfl) 4 rfl rfl rfl rfl ?_)
      intro w52 hS
      refine ⟨(hS.partD (.cons_cons _ (.cons_cons _ (.cons_cons _ (.cons _ (.cons _ .slnil))))) 0 rfl (.refl _)), ?_⟩
      refine any_one (by kernel_rfl) (op_store (us := [.int .u8 (((sgB (reD r l) : Nat) : Int)), .string (bsL (tpD r (reD r l))), .string (bsL (boD r (reD r l)))]) hA hS 15 rfl rfl rfl (sets_store rfl rfl rfl (by kernel_rfl) hS 3 rfl rfl rfl) 3 rfl rfl rfl rfl ?_)
      intro w53 hS
      refine ⟨(hS.partD (.cons_cons _ (.cons_cons _ (.cons_cons _ (.cons _ (.cons _ .slnil))))) 0 rfl (.refl _)), ?_⟩
      refine any_tk hA 16 rfl rfl rfl rfl hP (hS.partD (.cons_cons _ (.cons_cons _ (.cons_cons _ (.cons _ (.cons _ .slnil))))) 0 rfl (.refl _)) (fun w1 hS => d_assign rfl) fun a hA => ?_
      refine any_end (by kernel_rfl) ?_
      refine hK44 _ _ ?_
      refine wp_ret ?_
      refine hret _ _ ?_
      refine ends (v := .tuple #[.agg #[.int .u8 (((sgB l : Nat) : Int)), .string (bsL (tpD r l)), .string (bsL (boD r l))], .agg #[.int .u8 (((sgB (reD r l) : Nat) : Int)), .string (bsL (tpD r (reD r l))), .string (bsL (boD r (reD r l)))], .bool true]) hA rfl (.cons (res_cell hS RxD_isS_48 rfl 4 rfl (cs := [.int .u8 (((sgB l : Nat) : Int)), .string (bsL (tpD r l)), .string (bsL (boD r l))]) rfl rfl) (.cons (res_cell hS RxD_isS_48 rfl 3 rfl (cs := [.int .u8 (((sgB (reD r l) : Nat) : Int)), .string (bsL (tpD r (reD r l))), .string (bsL (boD r (reD r l)))]) rfl rfl) (.cons (res_tmp rfl) .nil))) rfl ?_
      rw [sg_bne] at hb48
      have e1 : reP r l = nlD r l := by unfold reP; rw [if_neg hb18', hb27]; rfl
      have e2 : imP r l = nlD r (reD r l) := by unfold imP; rw [if_neg hb18', hb27]; rfl
      have e3 : okP r l = true := by unfold okP; simp [hb18', hb27, hb45', hb48, hb49]
      rw [e1, e2, e3]
      exact ⟨rfl, hS.bel⟩
     ·
      refine any_one (by kernel_rfl) (op_call hA 12 rfl rfl rfl rfl (enters_func  rfl rfl (fun w => by kernel_rfl)) (isUnit_any hb49) ?_)
      rintro _ w55 ⟨rfl, hb54⟩
      replace hS := hS.call hb54
      refine ⟨_, rfl, (hS.partD (.cons_cons _ (.cons_cons _ (.cons_cons _ (.cons _ (.cons _ .slnil))))) 0 rfl (.refl _)), ?_⟩
      intro a hA
      refine any_tk (v := .bool false) hA 13 rfl rfl rfl rfl hP (hS.partD (.cons_cons _ (.cons_cons _ (.cons_cons _ (.cons _ (.cons _ .slnil))))) 0 rfl (.refl _)) (fun w1 hS => d_pick rfl rfl rfl rfl) fun a hA => ?_
      refine any_one (by kernel_rfl) (op_store (us := [.int .u8 (((sgB l : Nat) : Int)), .string (bsL (tpD r l)), .string (bsL (boD r l))]) hA hS 14 rfl rfl rfl (sets_store rfl rfl rfl (by kernel_rfl) hS 4 rfl rfl rfl) 4 rfl rfl rfl rfl ?_)
      intro w56 hS
      refine ⟨(hS.partD (.cons_cons _ (.cons_cons _ (.cons_cons _ (.cons _ (.cons _ .slnil))))) 0 rfl (.refl _)), ?_⟩
      refine any_one (by kernel_rfl) (op_store (us := [.int .u8 (((sgB (reD r l) : Nat) : Int)), .string (bsL (tpD r (reD r l))), .string (bsL (boD r (reD r l)))]) hA hS 15 rfl rfl rfl (sets_store rfl rfl rfl (by kernel_rfl) hS 3 rfl rfl rfl) 3 rfl rfl rfl rfl ?_)
      intro w57 hS
      refine ⟨(hS.partD (.cons_cons _ (.cons_cons _ (.cons_cons _ (.cons _ (.cons _ .slnil))))) 0 rfl (.refl _)), ?_⟩
      refine any_tk hA 16 rfl rfl rfl rfl hP (hS.partD (.cons_cons _ (.cons_cons _ (.cons_cons _ (.cons _ (.cons _ .slnil))))) 0 rfl (.refl _)) (fun w1 hS => d_assign rfl) fun a hA => ?_
      refine any_end (by kernel_rfl) ?_
      refine hK44 _ _ ?_
      refine wp_ret ?_
      refine hret _ _ ?_
      refine ends (v := .tuple #[.agg #[.int .u8 (((sgB l : Nat) : Int)), .string (bsL (tpD r l)), .string (bsL (boD r l))], .agg #[.int .u8 (((sgB (reD r l) : Nat) : Int)), .string (bsL (tpD r (reD r l))), .string (bsL (boD r (reD r l)))], .bool false]) hA rfl (.cons (res_cell hS RxD_isS_48 rfl 4 rfl (cs := [.int .u8 (((sgB l : Nat) : Int)), .string (bsL (tpD r l)), .string (bsL (boD r l))]) rfl rfl) (.cons (res_cell hS RxD_isS_48 rfl 3 rfl (cs := [.int .u8 (((sgB (reD r l) : Nat) : Int)), .string (bsL (tpD r (reD r l))), .string (bsL (boD r (reD r l)))]) rfl rfl) (.cons (res_tmp rfl) .nil))) rfl ?_
      rw [sg_bne] at hb48
      have e1 : reP r l = nlD r l := by unfold reP; rw [if_neg hb18', hb27]; rfl
      have e2 : imP r l = nlD r (reD r l) := by unfold imP; rw [if_neg hb18', hb27]; rfl
      have e3 : okP r l = false := by unfold okP; simp [hb18', hb27, hb45', hb48, hb49]
      rw [e1, e2, e3]
      exact ⟨rfl, hS.bel⟩
    ·
     have hb48' := bne_eq_false_iff_eq.1 hb48
     refine any_tk (v := .bool false) hA 8 rfl rfl rfl rfl hP (hS.partD (.cons_cons _ (.cons_cons _ (.cons_cons _ (.cons _ (.cons _ .slnil))))) 0 rfl (.refl _)) (fun w1 hS => d_bin rfl rfl (fun w => (bin_neq w).trans (by rw [hb48]))) fun a hA => ?_
     refine any_tk (v := .bool false) hA 9 rfl rfl rfl rfl hP (hS.partD (.cons_cons _ (.cons_cons _ (.cons_cons _ (.cons _ (.cons _ .slnil))))) 0 rfl (.refl _)) (fun w1 hS => d_pick rfl rfl rfl rfl) fun a hA => ?_
     refine any_tk hA 10 rfl rfl rfl rfl hP (hS.partD (.cons_cons _ (.cons_cons _ (.cons_cons _ (.cons _ (.cons _ .slnil))))) 0 rfl (.refl _)) (fun w1 hS => d_move rfl) fun a hA => ?_
     refine any_sk hA 11 rfl rfl rfl rfl hP (hS.partD (.cons_cons _ (.cons_cons _ (.cons_cons _ (.cons _ (.cons _ .slnil))))) 0 rfl (.refl _)) fun a hA => ?_
     refine any_sk hA 12 rfl rfl rfl rfl hP (hS.partD (.cons_cons _ (.cons_cons _ (.cons_cons _ (.cons _ (.cons _ .slnil))))) 0 rfl (.refl _)) fun a hA => ?_
     refine any_tk (v := .bool false) hA 13 rfl rfl rfl rfl hP (hS.partD (.cons_cons _ (.cons_cons _ (.cons_cons _ (.cons _ (.cons _ .slnil))))) 0 rfl (.refl _)) (fun w1 hS => d_pick rfl rfl rfl rfl) fun a hA => ?_
     refine any_one (by kernel_rfl) (op_store (us := [.int .u8 (((sgB l : Nat) : Int)), .string (bsL (tpD r l)), .string (bsL (boD r l))]) hA hS 14 rfl rfl rfl (sets_store rfl rfl rfl (by kernel_rfl) hS 4 rfl rfl rfl) 4 rfl rfl rfl rfl ?_)
     intro w58 hS
     refine ⟨(hS.partD (.cons_cons _ (.cons_cons _ (.cons_cons _ (.cons _ (.cons _ .slnil))))) 0 rfl (.refl _)), ?_⟩
     refine any_one (by kernel_rfl) (op_store (us := [.int .u8 (((sgB (reD r l) : Nat) : Int)), .string (bsL (tpD r (reD r l))), .string (bsL (boD r (reD r l)))]) hA hS 15 rfl rfl rfl (sets_store rfl rfl rfl (by kernel_rfl) hS 3 rfl rfl rfl) 3 rfl rfl rfl rfl ?_)
     intro w59 hS
     refine ⟨(hS.partD (.cons_cons _ (.cons_cons _ (.cons_cons _ (.cons _ (.cons _ .slnil))))) 0 rfl (.refl _)), ?_⟩
     refine any_tk hA 16 rfl rfl rfl rfl hP (hS.partD (.cons_cons _ (.cons_cons _ (.cons_cons _ (.cons _ (.cons _ .slnil))))) 0 rfl (.refl _)) (fun w1 hS => d_assign rfl) fun a hA => ?_
     refine any_end (by kernel_rfl) ?_
     refine hK44 _ _ ?_
     refine wp_ret ?_
     refine hret _ _ ?_
     refine ends (v := .tuple #[.agg #[.int .u8 (((sgB l : Nat) : Int)), .string (bsL (tpD r l)), .string (bsL (boD r l))], .agg #[.int .u8 (((sgB (reD r l) : Nat) : Int)), .string (bsL (tpD r (reD r l))), .string (bsL (boD r (reD r l)))], .bool false]) hA rfl (.cons (res_cell hS RxD_isS_48 rfl 4 rfl (cs := [.int .u8 (((sgB l : Nat) : Int)), .string (bsL (tpD r l)), .string (bsL (boD r l))]) rfl rfl) (.cons (res_cell hS RxD_isS_48 rfl 3 rfl (cs := [.int .u8 (((sgB (reD r l) : Nat) : Int)), .string (bsL (tpD r (reD r l))), .string (bsL (boD r (reD r l)))]) rfl rfl) (.cons (res_tmp rfl) .nil))) rfl ?_
     rw [sg_bne] at hb48
     have e1 : reP r l = nlD r l := by unfold reP; rw [if_neg hb18', hb27]; rfl
     have e2 : imP r l = nlD r (reD r l) := by unfold imP; rw [if_neg hb18', hb27]; rfl
     have e3 : okP r l = false := by unfold okP; simp [hb18', hb27, hb45', hb48]
     rw [e1, e2, e3]
     exact ⟨rfl, hS.bel⟩
theorem valueOrOne_any {w : World} {r : Nat} {l : List UInt8} (hr : RadN r) (hl : l.length ≤ 9223372036854775807) : Calls Tryz.prog 71 #[.string (bsL l), .int .i64 ((r : Nat) : Int)] w (Ans w (rdN r l)) := by
 have hS : St w w [] [] [] := St.start w
 refine walk_of (l := [(0, .string (bsL l)), (1, .int .i64 (((r : Nat) : Int)))]) Tryz.func71 rfl Tryz.ntmps71 rfl rfl ?_
 intro Q hret hnorm hP a hA
 refine wp_seq_k (fun K1 hK1 => ?_)
 refine wp_region_lit ?_
 refine seq_do hA rfl rfl rfl (d_assign rfl) fun a hA => ?_
 refine seq_do hA rfl rfl rfl (d_assign rfl) fun a hA => ?_
 refine seq_end ?_
 refine hK1 _ _ ?_
 refine wp_seq_k (fun K2 hK2 => ?_)
 refine wp_seq_k (fun K3 hK3 => ?_)
 refine wp_region_lit ?_
 refine mv hA rfl rfl rfl fun a hA => ?_
 rcases Bool.eq_false_or_eq_true (decide (l = ([] : List UInt8))) with hb4 | hb4
 ·
  have hb4' := of_decide_eq_true hb4
  have hb4n : (l).length = 0 := by rw [hb4']; rfl
  refine seq_do (v := .bool true) hA rfl rfl rfl (d_bin rfl rfl (fun w => (bin_eqlT (a := l) (b := []) Tryz.underlying9 w).trans (by rw [hb4]; try rfl))) fun a hA => ?_
  refine seq_end ?_
  refine hK3 _ _ ?_
  refine wp_cond_true (hA.ev rfl) ?_
  refine wp_seq_k (fun K5 hK5 => ?_)
  refine wp_region_lit ?_
  refine seq_call hA rfl rfl rfl (enters_func  rfl rfl (fun w => by kernel_rfl)) (of_one _) ?_
  rintro _ w10 ⟨ro6, rc7, rfl, ho8, hb9⟩
  replace hS := hS.call hb9
  replace hS := hS.addR ho8.rd
  refine ⟨_, rfl, ?_⟩
  intro a hA
  refine seq_do hA rfl rfl rfl (d_assign rfl) fun a hA => ?_
  refine seq_do hA rfl rfl rfl (d_assign rfl) fun a hA => ?_
  refine seq_end ?_
  refine hK5 _ _ ?_
  refine wp_ret ?_
  refine hret _ _ ?_
  refine ends (v := .tuple #[.slice ro6 1 rc7, .int .i64 0]) hA rfl (.cons (res_tmp rfl) (.cons (res_tmp rfl) .nil)) rfl ?_
  rw [show rdN r l = ([1], 0) from by unfold rdN; rw [if_pos hb4']]
  exact ⟨_, _, rfl, ho8, hS.bel⟩
 ·
  have hb4' := of_decide_eq_false hb4
  have hb4n : ¬ (l).length = 0 := fun k => hb4' (List.length_eq_zero_iff.1 k)
  refine seq_do (v := .bool false) hA rfl rfl rfl (d_bin rfl rfl (fun w => (bin_eqlT (a := l) (b := []) Tryz.underlying9 w).trans (by rw [hb4]; try rfl))) fun a hA => ?_
  refine seq_end ?_
  refine hK3 _ _ ?_
  refine wp_cond_false (hA.ev rfl) ?_
  refine wp_skip ?_
  refine hK2 _ _ ?_
  refine wp_seq_k (fun K11 hK11 => ?_)
  refine wp_region_lit ?_
  refine mv hA rfl rfl rfl fun a hA => ?_
  refine mv hA rfl rfl rfl fun a hA => ?_
  refine seq_call hA rfl rfl rfl (enters_func  rfl rfl (fun w => by kernel_rfl)) (read_any (bsL l) ((r : Nat) : Int) _ (by rw [bsL_size]; exact hl) (by omega) (by rcases hr with h | h | h | h <;> subst h <;> decide)) ?_
  rintro _ w16 ⟨ro12, rc13, rfl, ho14, hb15⟩
  replace hS := hS.call hb15
  replace hS := hS.addR ho14.rd
  refine ⟨_, rfl, ?_⟩
  intro a hA
  refine seq_do (v := .slice ro12 (((readS (bsL l) (r : Int)).1).length) rc13) hA rfl rfl rfl (d_extract (vs := [.slice ro12 (((readS (bsL l) (r : Int)).1).length) rc13, .int .i64 ((readS (bsL l) (r : Int)).2)]) rfl rfl) fun a hA => ?_
  refine seq_do (v := .int .i64 ((readS (bsL l) (r : Int)).2)) hA rfl rfl rfl (d_extract (vs := [.slice ro12 (((readS (bsL l) (r : Int)).1).length) rc13, .int .i64 ((readS (bsL l) (r : Int)).2)]) rfl rfl) fun a hA => ?_
  refine seq_do hA rfl rfl rfl (d_assign rfl) fun a hA => ?_
  refine seq_do hA rfl rfl rfl (d_assign rfl) fun a hA => ?_
  refine seq_end ?_
  refine hK11 _ _ ?_
  refine wp_ret ?_
  refine hret _ _ ?_
  refine ends (v := .tuple #[.slice ro12 (((readS (bsL l) (r : Int)).1).length) rc13, .int .i64 ((readS (bsL l) (r : Int)).2)]) hA rfl (.cons (res_tmp rfl) (.cons (res_tmp rfl) .nil)) rfl ?_
  rw [show rdN r l = readS (bsL l) (r : Int) from by unfold rdN; rw [if_neg hb4']]
  exact ⟨_, _, rfl, ho14, hS.bel⟩
theorem value_ok {w : World} {r : Nat} {n : Nl} (hr : RadN r) (hl1 : n.2.1.length ≤ 9223372036854775807) (hl2 : n.2.2.length ≤ 9223372036854775807) (h1 : rdE r n.2.1 = 0) (h2 : rdE r n.2.2 = 0) : Calls Tryz.prog 46 #[.agg #[.int .u8 (((n.1 : Nat) : Int)), .string (bsL n.2.1), .string (bsL n.2.2)], .int .i64 ((r : Nat) : Int)] w fun e w' => ∃ o c o' c', e = .returned (.tuple #[.agg #[.bool (rb (sgn (decide (n.1 = 45)) (natN r n.2.1))), .slice o (words (sgn (decide (n.1 = 45)) (natN r n.2.1)).natAbs).length c], .slice o' (words (natN r n.2.2)).length c', .int .i64 0]) ∧ Sc w' o c (words (sgn (decide (n.1 = 45)) (natN r n.2.1)).natAbs) ∧ Sc w' o' c' (words (natN r n.2.2)) ∧ Below w.heap.size w w' := by
 have hS : St w w [] [] [] := St.start w
 refine walk_of (l := [(0, .agg #[.int .u8 (((n.1 : Nat) : Int)), .string (bsL n.2.1), .string (bsL n.2.2)]), (1, .int .i64 (((r : Nat) : Int)))]) Tryz.func46 rfl Tryz.ntmps46 rfl rfl ?_
 intro Q hret hnorm hP a hA
 refine wp_seq_k (fun K1 hK1 => ?_)
 refine wp_region_lit ?_
 refine seq_new hA hS rfl rfl rfl (fun g => .pointer (some ⟨g, 0, none⟩)) (d_box rfl rfl) rfl ?_
 intro g2 w3 hS a hA
 refine seq_new (vs := [.bool false, .slice none 0 0]) (t := 60) hA hS rfl rfl rfl (fun g => .pointer (some ⟨g, 0, none⟩)) (d_alloc (z := .agg #[.bool false, .slice none 0 0]) (by kernel_rfl) rfl) rfl ?_
 intro g4 w5 hS a hA
 refine seq_do hA rfl rfl rfl (d_assign rfl) fun a hA => ?_
 refine seq_do hA rfl rfl rfl (d_assign rfl) fun a hA => ?_
 refine seq_end ?_
 refine hK1 _ _ ?_
 refine wp_seq_k (fun K6 hK6 => ?_)
 refine wp_region_lit ?_
 refine seq_do (v := .pointer (some ⟨g2, 1, none⟩)) hA rfl rfl rfl (d_field RxD_fld_48_1 rfl rfl) fun a hA => ?_
 refine seq_do hA rfl rfl rfl (d_load1 hS RxD_is1_9 rfl 1 rfl rfl) fun a hA => ?_
 refine mv hA rfl rfl rfl fun a hA => ?_
 refine seq_call hA rfl rfl rfl (enters_func  rfl rfl (fun w => by kernel_rfl)) ((by have h := valueOrOne_any (w := w5) (r := r) (l := n.2.1) hr hl1; rw [(rdN_ok h1).1] at h; exact h)) ?_
 rintro _ w11 ⟨ro7, rc8, rfl, ho9, hb10⟩
 replace hS := hS.call hb10
 replace hS := hS.addR ho9.rd
 refine ⟨_, rfl, ?_⟩
 intro a hA
 refine mv hA rfl rfl rfl fun a hA => ?_
 refine seq_do (v := .slice ro7 ((words (natN r n.2.1)).length) rc8) hA rfl rfl rfl (d_extract (vs := [.slice ro7 ((words (natN r n.2.1)).length) rc8, .int .i64 0]) rfl rfl) fun a hA => ?_
 refine seq_do (v := .int .i64 0) hA rfl rfl rfl (d_extract (vs := [.slice ro7 ((words (natN r n.2.1)).length) rc8, .int .i64 0]) rfl rfl) fun a hA => ?_
 refine seq_do hA rfl rfl rfl (d_assign rfl) fun a hA => ?_
 refine seq_do hA rfl rfl rfl (d_assign rfl) fun a hA => ?_
 refine seq_end ?_
 refine hK6 _ _ ?_
 refine wp_seq_k (fun K12 hK12 => ?_)
 refine wp_seq_k (fun K13 hK13 => ?_)
 refine wp_region_lit ?_
 refine mv hA rfl rfl rfl fun a hA => ?_
 refine seq_do (v := .bool false) hA rfl rfl rfl (d_bin rfl rfl (fun w => by kernel_rfl)) fun a hA => ?_
 refine seq_end ?_
 refine hK13 _ _ ?_
 refine wp_cond_false (hA.ev rfl) ?_
 refine wp_skip ?_
 refine hK12 _ _ ?_
 refine wp_seq_k (fun K14 hK14 => ?_)
 refine wp_region_lit ?_
 refine seq_do (v := .pointer (some ⟨g2, 2, none⟩)) hA rfl rfl rfl (d_field RxD_fld_48_2 rfl rfl) fun a hA => ?_
 refine seq_do hA rfl rfl rfl (d_load1 hS RxD_is1_9 rfl 1 rfl rfl) fun a hA => ?_
 refine mv hA rfl rfl rfl fun a hA => ?_
 refine seq_call hA rfl rfl rfl (enters_func  rfl rfl (fun w => by kernel_rfl)) ((by have h := valueOrOne_any (w := w11) (r := r) (l := n.2.2) hr hl2; rw [(rdN_ok h2).1] at h; exact h)) ?_
 rintro _ w19 ⟨ro15, rc16, rfl, ho17, hb18⟩
 replace hS := hS.call hb18
 replace hS := hS.addR ho17.rd
 refine ⟨_, rfl, ?_⟩
 intro a hA
 refine mv hA rfl rfl rfl fun a hA => ?_
 refine seq_do (v := .slice ro15 ((words (natN r n.2.2)).length) rc16) hA rfl rfl rfl (d_extract (vs := [.slice ro15 ((words (natN r n.2.2)).length) rc16, .int .i64 0]) rfl rfl) fun a hA => ?_
 refine seq_do (v := .int .i64 0) hA rfl rfl rfl (d_extract (vs := [.slice ro15 ((words (natN r n.2.2)).length) rc16, .int .i64 0]) rfl rfl) fun a hA => ?_
 refine seq_do hA rfl rfl rfl (d_assign rfl) fun a hA => ?_
 refine seq_do hA rfl rfl rfl (d_assign rfl) fun a hA => ?_
 refine seq_end ?_
 refine hK14 _ _ ?_
 refine wp_seq_k (fun K20 hK20 => ?_)
 refine wp_seq_k (fun K21 hK21 => ?_)
 refine wp_region_lit ?_
 refine mv hA rfl rfl rfl fun a hA => ?_
 refine seq_do (v := .bool false) hA rfl rfl rfl (d_bin rfl rfl (fun w => by kernel_rfl)) fun a hA => ?_
 refine seq_end ?_
 refine hK21 _ _ ?_
 refine wp_cond_false (hA.ev rfl) ?_
 refine wp_skip ?_
 refine hK20 _ _ ?_
 refine wp_seq_k (fun K22 hK22 => ?_)
 refine wp_region_lit ?_
 refine seq_do (v := .pointer (some ⟨g2, 0, none⟩)) hA rfl rfl rfl (d_field RxD_fld_48_0 rfl rfl) fun a hA => ?_
 refine seq_do hA rfl rfl rfl (d_load1 hS RxD_is1_5 rfl 1 rfl rfl) fun a hA => ?_
 refine seq_do (v := .bool ((((n.1 : Nat) : Int) == 45))) hA rfl rfl rfl (d_bin rfl rfl bin_eql) fun a hA => ?_
 refine mv hA rfl rfl rfl fun a hA => ?_
 refine seq_call hA rfl rfl rfl (enters_func  rfl rfl (fun w => by kernel_rfl)) (zsigned_any (b := (((n.1 : Nat) : Int) == 45)) (n := natN r n.2.1) (z := sgn (decide (n.1 = 45)) (natN r n.2.1)) ⟨(hS.rd 1 rfl), ho9.nocap, ho9.caps⟩ (by rw [beq45])) ?_
 rintro _ w27 ⟨zo23, zc24, rfl, hs25, hb26⟩
 replace hS := hS.call hb26
 replace hS := hS.addR hs25.rd
 refine ⟨_, rfl, ?_⟩
 intro a hA
 refine mv hA rfl rfl rfl fun a hA => ?_
 refine seq_store (us := [.bool ((rb (sgn (decide (n.1 = 45)) (natN r n.2.1)))), .slice zo23 ((words (sgn (decide (n.1 = 45)) (natN r n.2.1)).natAbs).length) zc24]) hA hS rfl rfl (sets_store rfl rfl rfl (by kernel_rfl) hS 0 rfl rfl rfl) 0 rfl rfl rfl rfl ?_
 intro w28 hS
 refine seq_do hA rfl rfl rfl (d_assign rfl) fun a hA => ?_
 refine seq_do hA rfl rfl rfl (d_assign rfl) fun a hA => ?_
 refine seq_end ?_
 refine hK22 _ _ ?_
 refine wp_ret ?_
 refine hret _ _ ?_
 refine ends (v := .tuple #[.agg #[.bool ((rb (sgn (decide (n.1 = 45)) (natN r n.2.1)))), .slice zo23 ((words (sgn (decide (n.1 = 45)) (natN r n.2.1)).natAbs).length) zc24], .slice ro15 ((words (natN r n.2.2)).length) rc16, .int .i64 0]) hA rfl (.cons (res_cell hS RxD_isS_60 rfl 0 rfl (cs := [.bool ((rb (sgn (decide (n.1 = 45)) (natN r n.2.1)))), .slice zo23 ((words (sgn (decide (n.1 = 45)) (natN r n.2.1)).natAbs).length) zc24]) rfl rfl) (.cons (res_tmp rfl) (.cons (res_tmp rfl) .nil))) rfl ?_
 exact ⟨_, _, _, _, rfl, ⟨(hS.rd 0 rfl), hs25.nil, hs25.cap⟩, ⟨(hS.rd 1 rfl), ho17.nocap, ho17.caps⟩, hS.bel⟩
theorem value_bad1 {w : World} {r : Nat} {n : Nl} (hr : RadN r) (hl1 : n.2.1.length ≤ 9223372036854775807) (hl2 : n.2.2.length ≤ 9223372036854775807) (h1 : rdE r n.2.1 ≠ 0) : Calls Tryz.prog 46 #[.agg #[.int .u8 (((n.1 : Nat) : Int)), .string (bsL n.2.1), .string (bsL n.2.2)], .int .i64 ((r : Nat) : Int)] w fun e w' => e = .returned (.tuple #[.agg #[.bool false, .slice none 0 0], .slice none 0 0, .int .i64 (rdE r n.2.1)]) ∧ Below w.heap.size w w' := by
 have hS : St w w [] [] [] := St.start w
 refine walk_of (l := [(0, .agg #[.int .u8 (((n.1 : Nat) : Int)), .string (bsL n.2.1), .string (bsL n.2.2)]), (1, .int .i64 (((r : Nat) : Int)))]) Tryz.func46 rfl Tryz.ntmps46 rfl rfl ?_
 intro Q hret hnorm hP a hA
 refine wp_seq_k (fun K1 hK1 => ?_)
 refine wp_region_lit ?_
 refine seq_new hA hS rfl rfl rfl (fun g => .pointer (some ⟨g, 0, none⟩)) (d_box rfl rfl) rfl ?_
 intro g2 w3 hS a hA
 refine seq_new (vs := [.bool false, .slice none 0 0]) (t := 60) hA hS rfl rfl rfl (fun g => .pointer (some ⟨g, 0, none⟩)) (d_alloc (z := .agg #[.bool false, .slice none 0 0]) (by kernel_rfl) rfl) rfl ?_
 intro g4 w5 hS a hA
 refine seq_do hA rfl rfl rfl (d_assign rfl) fun a hA => ?_
 refine seq_do hA rfl rfl rfl (d_assign rfl) fun a hA => ?_
 refine seq_end ?_
 refine hK1 _ _ ?_
 refine wp_seq_k (fun K6 hK6 => ?_)
 refine wp_region_lit ?_
 refine seq_do (v := .pointer (some ⟨g2, 1, none⟩)) hA rfl rfl rfl (d_field RxD_fld_48_1 rfl rfl) fun a hA => ?_
 refine seq_do hA rfl rfl rfl (d_load1 hS RxD_is1_9 rfl 1 rfl rfl) fun a hA => ?_
 refine mv hA rfl rfl rfl fun a hA => ?_
 refine seq_call hA rfl rfl rfl (enters_func  rfl rfl (fun w => by kernel_rfl)) ((by have h := valueOrOne_any (w := w5) (r := r) (l := n.2.1) hr hl1; rw [rdN_bad h1] at h; exact h)) ?_
 rintro _ w11 ⟨ro7, rc8, rfl, ho9, hb10⟩
 replace hS := hS.call hb10
 replace hS := hS.addR ho9.rd
 refine ⟨_, rfl, ?_⟩
 intro a hA
 refine mv hA rfl rfl rfl fun a hA => ?_
 refine seq_do (v := .slice ro7 0 rc8) hA rfl rfl rfl (d_extract (vs := [.slice ro7 0 rc8, .int .i64 ((rdE r n.2.1))]) rfl rfl) fun a hA => ?_
 refine seq_do (v := .int .i64 ((rdE r n.2.1))) hA rfl rfl rfl (d_extract (vs := [.slice ro7 0 rc8, .int .i64 ((rdE r n.2.1))]) rfl rfl) fun a hA => ?_
 refine seq_do hA rfl rfl rfl (d_assign rfl) fun a hA => ?_
 refine seq_do hA rfl rfl rfl (d_assign rfl) fun a hA => ?_
 refine seq_end ?_
 refine hK6 _ _ ?_
 refine wp_seq_k (fun K12 hK12 => ?_)
 refine wp_seq_k (fun K13 hK13 => ?_)
 refine wp_region_lit ?_
 refine mv hA rfl rfl rfl fun a hA => ?_
 refine seq_do (v := .bool true) hA rfl rfl rfl (d_bin rfl rfl (fun w => (bin_neq w).trans (by rw [show (((rdE r n.2.1) != 0)) = true from (bne_iff_ne.2 h1)]))) fun a hA => ?_
 refine seq_end ?_
 refine hK13 _ _ ?_
 refine wp_cond_true (hA.ev rfl) ?_
 refine wp_seq_k (fun K14 hK14 => ?_)
 refine wp_region_lit ?_
 refine seq_do (v := .agg #[.bool false, .slice none 0 0]) hA rfl rfl rfl (d_build rfl (fun w => by kernel_rfl)) fun a hA => ?_
 refine mv hA rfl rfl rfl fun a hA => ?_
 refine seq_store (us := [.bool false, .slice none 0 0]) hA hS rfl rfl (sets_store rfl rfl rfl (by kernel_rfl) hS 0 rfl rfl rfl) 0 rfl rfl rfl rfl ?_
 intro w15 hS
 refine seq_do hA rfl rfl rfl (d_assign rfl) fun a hA => ?_
 refine seq_do hA rfl rfl rfl (d_assign rfl) fun a hA => ?_
 refine seq_end ?_
 refine hK14 _ _ ?_
 refine wp_ret ?_
 refine hret _ _ ?_
 refine ends (v := .tuple #[.agg #[.bool false, .slice none 0 0], .slice none 0 0, .int .i64 ((rdE r n.2.1))]) hA rfl (.cons (res_cell hS RxD_isS_60 rfl 0 rfl (cs := [.bool false, .slice none 0 0]) rfl rfl) (.cons (res_tmp rfl) (.cons (res_tmp rfl) .nil))) rfl ?_
 exact ⟨rfl, hS.bel⟩
theorem value_bad2 {w : World} {r : Nat} {n : Nl} (hr : RadN r) (hl1 : n.2.1.length ≤ 9223372036854775807) (hl2 : n.2.2.length ≤ 9223372036854775807) (h1 : rdE r n.2.1 = 0) (h2 : rdE r n.2.2 ≠ 0) : Calls Tryz.prog 46 #[.agg #[.int .u8 (((n.1 : Nat) : Int)), .string (bsL n.2.1), .string (bsL n.2.2)], .int .i64 ((r : Nat) : Int)] w fun e w' => e = .returned (.tuple #[.agg #[.bool false, .slice none 0 0], .slice none 0 0, .int .i64 (rdE r n.2.2)]) ∧ Below w.heap.size w w' := by
 have hS : St w w [] [] [] := St.start w
 refine walk_of (l := [(0, .agg #[.int .u8 (((n.1 : Nat) : Int)), .string (bsL n.2.1), .string (bsL n.2.2)]), (1, .int .i64 (((r : Nat) : Int)))]) Tryz.func46 rfl Tryz.ntmps46 rfl rfl ?_
 intro Q hret hnorm hP a hA
 refine wp_seq_k (fun K1 hK1 => ?_)
 refine wp_region_lit ?_
 refine seq_new hA hS rfl rfl rfl (fun g => .pointer (some ⟨g, 0, none⟩)) (d_box rfl rfl) rfl ?_
 intro g2 w3 hS a hA
 refine seq_new (vs := [.bool false, .slice none 0 0]) (t := 60) hA hS rfl rfl rfl (fun g => .pointer (some ⟨g, 0, none⟩)) (d_alloc (z := .agg #[.bool false, .slice none 0 0]) (by kernel_rfl) rfl) rfl ?_
 intro g4 w5 hS a hA
 refine seq_do hA rfl rfl rfl (d_assign rfl) fun a hA => ?_
 refine seq_do hA rfl rfl rfl (d_assign rfl) fun a hA => ?_
 refine seq_end ?_
 refine hK1 _ _ ?_
 refine wp_seq_k (fun K6 hK6 => ?_)
 refine wp_region_lit ?_
 refine seq_do (v := .pointer (some ⟨g2, 1, none⟩)) hA rfl rfl rfl (d_field RxD_fld_48_1 rfl rfl) fun a hA => ?_
 refine seq_do hA rfl rfl rfl (d_load1 hS RxD_is1_9 rfl 1 rfl rfl) fun a hA => ?_
 refine mv hA rfl rfl rfl fun a hA => ?_
 refine seq_call hA rfl rfl rfl (enters_func  rfl rfl (fun w => by kernel_rfl)) ((by have h := valueOrOne_any (w := w5) (r := r) (l := n.2.1) hr hl1; rw [(rdN_ok h1).1] at h; exact h)) ?_
 rintro _ w11 ⟨ro7, rc8, rfl, ho9, hb10⟩
 replace hS := hS.call hb10
 replace hS := hS.addR ho9.rd
 refine ⟨_, rfl, ?_⟩
 intro a hA
 refine mv hA rfl rfl rfl fun a hA => ?_
 refine seq_do (v := .slice ro7 ((words (natN r n.2.1)).length) rc8) hA rfl rfl rfl (d_extract (vs := [.slice ro7 ((words (natN r n.2.1)).length) rc8, .int .i64 0]) rfl rfl) fun a hA => ?_
 refine seq_do (v := .int .i64 0) hA rfl rfl rfl (d_extract (vs := [.slice ro7 ((words (natN r n.2.1)).length) rc8, .int .i64 0]) rfl rfl) fun a hA => ?_
 refine seq_do hA rfl rfl rfl (d_assign rfl) fun a hA => ?_
 refine seq_do hA rfl rfl rfl (d_assign rfl) fun a hA => ?_
 refine seq_end ?_
 refine hK6 _ _ ?_
 refine wp_seq_k (fun K12 hK12 => ?_)
 refine wp_seq_k (fun K13 hK13 => ?_)
 refine wp_region_lit ?_
 refine mv hA rfl rfl rfl fun a hA => ?_
 refine seq_do (v := .bool false) hA rfl rfl rfl (d_bin rfl rfl (fun w => by kernel_rfl)) fun a hA => ?_
 refine seq_end ?_
 refine hK13 _ _ ?_
 refine wp_cond_false (hA.ev rfl) ?_
 refine wp_skip ?_
 refine hK12 _ _ ?_
 refine wp_seq_k (fun K14 hK14 => ?_)
 refine wp_region_lit ?_
 refine seq_do (v := .pointer (some ⟨g2, 2, none⟩)) hA rfl rfl rfl (d_field RxD_fld_48_2 rfl rfl) fun a hA => ?_
 refine seq_do hA rfl rfl rfl (d_load1 hS RxD_is1_9 rfl 1 rfl rfl) fun a hA => ?_
 refine mv hA rfl rfl rfl fun a hA => ?_
 refine seq_call hA rfl rfl rfl (enters_func  rfl rfl (fun w => by kernel_rfl)) ((by have h := valueOrOne_any (w := w11) (r := r) (l := n.2.2) hr hl2; rw [rdN_bad h2] at h; exact h)) ?_
 rintro _ w19 ⟨ro15, rc16, rfl, ho17, hb18⟩
 replace hS := hS.call hb18
 replace hS := hS.addR ho17.rd
 refine ⟨_, rfl, ?_⟩
 intro a hA
 refine mv hA rfl rfl rfl fun a hA => ?_
 refine seq_do (v := .slice ro15 0 rc16) hA rfl rfl rfl (d_extract (vs := [.slice ro15 0 rc16, .int .i64 ((rdE r n.2.2))]) rfl rfl) fun a hA => ?_
 refine seq_do (v := .int .i64 ((rdE r n.2.2))) hA rfl rfl rfl (d_extract (vs := [.slice ro15 0 rc16, .int .i64 ((rdE r n.2.2))]) rfl rfl) fun a hA => ?_
 refine seq_do hA rfl rfl rfl (d_assign rfl) fun a hA => ?_
 refine seq_do hA rfl rfl rfl (d_assign rfl) fun a hA => ?_
 refine seq_end ?_
 refine hK14 _ _ ?_
 refine wp_seq_k (fun K20 hK20 => ?_)
 refine wp_seq_k (fun K21 hK21 => ?_)
 refine wp_region_lit ?_
 refine mv hA rfl rfl rfl fun a hA => ?_
 refine seq_do (v := .bool true) hA rfl rfl rfl (d_bin rfl rfl (fun w => (bin_neq w).trans (by rw [show (((rdE r n.2.2) != 0)) = true from (bne_iff_ne.2 h2)]))) fun a hA => ?_
 refine seq_end ?_
 refine hK21 _ _ ?_
 refine wp_cond_true (hA.ev rfl) ?_
 refine wp_seq_k (fun K22 hK22 => ?_)
 refine wp_region_lit ?_
 refine seq_do (v := .agg #[.bool false, .slice none 0 0]) hA rfl rfl rfl (d_build rfl (fun w => by kernel_rfl)) fun a hA => ?_
 refine mv hA rfl rfl rfl fun a hA => ?_
 refine seq_store (us := [.bool false, .slice none 0 0]) hA hS rfl rfl (sets_store rfl rfl rfl (by kernel_rfl) hS 0 rfl rfl rfl) 0 rfl rfl rfl rfl ?_
 intro w23 hS
 refine seq_do hA rfl rfl rfl (d_assign rfl) fun a hA => ?_
 refine seq_do hA rfl rfl rfl (d_assign rfl) fun a hA => ?_
 refine seq_end ?_
 refine hK22 _ _ ?_
 refine wp_ret ?_
 refine hret _ _ ?_
 refine ends (v := .tuple #[.agg #[.bool false, .slice none 0 0], .slice none 0 0, .int .i64 ((rdE r n.2.2))]) hA rfl (.cons (res_cell hS RxD_isS_60 rfl 0 rfl (cs := [.bool false, .slice none 0 0]) rfl rfl) (.cons (res_tmp rfl) (.cons (res_tmp rfl) .nil))) rfl ?_
 exact ⟨rfl, hS.bel⟩
theorem value_bad {w : World} {r : Nat} {n : Nl} (hr : RadN r) (hl1 : n.2.1.length ≤ 9223372036854775807) (hl2 : n.2.2.length ≤ 9223372036854775807) (h : errN r n ≠ 0) : Calls Tryz.prog 46 #[.agg #[.int .u8 (((n.1 : Nat) : Int)), .string (bsL n.2.1), .string (bsL n.2.2)], .int .i64 ((r : Nat) : Int)] w fun e w' => e = .returned (.tuple #[.agg #[.bool false, .slice none 0 0], .slice none 0 0, .int .i64 (errN r n)]) ∧ Below w.heap.size w w' := by
 unfold errN at h ⊢
 by_cases h1 : rdE r n.2.1 = 0
 ·
  rw [if_neg (by simpa using h1)] at h ⊢
  exact value_bad2 hr hl1 hl2 h1 h
 ·
  rw [if_pos h1]
  exact value_bad1 hr hl1 hl2 h1
end Go.Proofs.YtjmhdebfpnjceaaGreat
namespace Go.Proofs.YtjmhdebfpnjceaaGreat
open Go.RowKit
set_option linter.unusedVariables false
set_option linter.unusedSimpArgs false
set_option maxRecDepth 100000
theorem RxE_isS_26 : IsS Tryz.prog 26 6 := ⟨⟨_, Tryz.underlying26⟩, by kernel_rfl⟩
theorem RxE_isS_48 : IsS Tryz.prog 48 3 := ⟨⟨_, Tryz.underlying48⟩, by kernel_rfl⟩
theorem RxE_isS_60 : IsS Tryz.prog 60 2 := ⟨⟨_, Tryz.underlying60⟩, by kernel_rfl⟩
theorem valueOf_b0 {w : World} {r : Nat} {n m : Nl} (hr : RadN r) (hl1 : n.2.1.length ≤ 9223372036854775807) (hl2 : n.2.2.length ≤ 9223372036854775807) (hk1 : m.2.1.length ≤ 9223372036854775807) (hk2 : m.2.2.length ≤ 9223372036854775807) (h1 : errN r n ≠ 0) (h2 : errN r m ≠ 0) : Calls Tryz.prog 28 #[.agg #[.int .u8 (((n.1 : Nat) : Int)), .string (bsL n.2.1), .string (bsL n.2.2)], .agg #[.int .u8 (((m.1 : Nat) : Int)), .string (bsL m.2.1), .string (bsL m.2.2)], .int .i64 ((r : Nat) : Int)] w (AnsN w (valX r n m)) := by
 have hS : St w w [] [] [] := St.start w
 refine walk_of (l := [(0, .agg #[.int .u8 (((n.1 : Nat) : Int)), .string (bsL n.2.1), .string (bsL n.2.2)]), (1, .agg #[.int .u8 (((m.1 : Nat) : Int)), .string (bsL m.2.1), .string (bsL m.2.2)]), (2, .int .i64 (((r : Nat) : Int)))]) Tryz.func28 rfl Tryz.ntmps28 rfl rfl ?_
 intro Q hret hnorm hP a hA
 refine wp_seq_k (fun K1 hK1 => ?_)
 refine wp_region_lit ?_
 refine seq_new hA hS rfl rfl rfl (fun g => .pointer (some ⟨g, 0, none⟩)) (d_box rfl rfl) rfl ?_
 intro g2 w3 hS a hA
 refine seq_new hA hS rfl rfl rfl (fun g => .pointer (some ⟨g, 0, none⟩)) (d_box rfl rfl) rfl ?_
 intro g4 w5 hS a hA
 refine seq_new (vs := [.bool false, .slice none 0 0, .slice none 0 0, .bool false, .slice none 0 0, .slice none 0 0]) (t := 26) hA hS rfl rfl rfl (fun g => .pointer (some ⟨g, 0, none⟩)) (d_alloc (z := .agg #[.bool false, .slice none 0 0, .slice none 0 0, .bool false, .slice none 0 0, .slice none 0 0]) (by kernel_rfl) rfl) rfl ?_
 intro g6 w7 hS a hA
 refine seq_do hA rfl rfl rfl (d_assign rfl) fun a hA => ?_
 refine seq_end ?_
 refine hK1 _ _ ?_
 refine wp_seq_k (fun K8 hK8 => ?_)
 refine wp_region_lit ?_
 refine seq_do hA rfl rfl rfl (d_loadS hS RxE_isS_48 rfl 2 rfl (cs := [.int .u8 (((n.1 : Nat) : Int)), .string (bsL n.2.1), .string (bsL n.2.2)]) rfl rfl) fun a hA => ?_
 refine mv hA rfl rfl rfl fun a hA => ?_
 refine seq_call hA rfl rfl rfl (enters_func  rfl rfl (fun w => by kernel_rfl)) (value_bad hr hl1 hl2 h1) ?_
 rintro _ w10 ⟨rfl, hb9⟩
 replace hS := hS.call hb9
 refine ⟨_, rfl, ?_⟩
 intro a hA
 refine mv hA rfl rfl rfl fun a hA => ?_
 refine seq_do (v := .agg #[.bool false, .slice none 0 0]) hA rfl rfl rfl (d_extract (vs := [.agg #[.bool false, .slice none 0 0], .slice none 0 0, .int .i64 ((errN r n))]) rfl rfl) fun a hA => ?_
 refine seq_do (v := .slice none 0 0) hA rfl rfl rfl (d_extract (vs := [.agg #[.bool false, .slice none 0 0], .slice none 0 0, .int .i64 ((errN r n))]) rfl rfl) fun a hA => ?_
 refine seq_do (v := .int .i64 ((errN r n))) hA rfl rfl rfl (d_extract (vs := [.agg #[.bool false, .slice none 0 0], .slice none 0 0, .int .i64 ((errN r n))]) rfl rfl) fun a hA => ?_
 refine seq_new (vs := [.bool false, .slice none 0 0]) (t := 60) hA hS rfl rfl rfl (fun g => .pointer (some ⟨g, 0, none⟩)) (d_alloc (z := .agg #[.bool false, .slice none 0 0]) (by kernel_rfl) rfl) rfl ?_
 intro g11 w12 hS a hA
 refine seq_store (us := [.bool false, .slice none 0 0]) hA hS rfl rfl (sets_store rfl rfl rfl (by kernel_rfl) hS 0 rfl rfl rfl) 0 rfl rfl rfl rfl ?_
 intro w13 hS
 refine seq_do hA rfl rfl rfl (d_assign rfl) fun a hA => ?_
 refine seq_do hA rfl rfl rfl (d_assign rfl) fun a hA => ?_
 refine seq_end ?_
 refine hK8 _ _ ?_
 refine wp_seq_k (fun K14 hK14 => ?_)
 refine wp_region_lit ?_
 refine seq_do hA rfl rfl rfl (d_loadS hS RxE_isS_48 rfl 2 rfl (cs := [.int .u8 (((m.1 : Nat) : Int)), .string (bsL m.2.1), .string (bsL m.2.2)]) rfl rfl) fun a hA => ?_
 refine mv hA rfl rfl rfl fun a hA => ?_
 refine seq_call hA rfl rfl rfl (enters_func  rfl rfl (fun w => by kernel_rfl)) (value_bad hr hk1 hk2 h2) ?_
 rintro _ w16 ⟨rfl, hb15⟩
 replace hS := hS.call hb15
 refine ⟨_, rfl, ?_⟩
 intro a hA
 refine mv hA rfl rfl rfl fun a hA => ?_
 refine seq_do (v := .agg #[.bool false, .slice none 0 0]) hA rfl rfl rfl (d_extract (vs := [.agg #[.bool false, .slice none 0 0], .slice none 0 0, .int .i64 ((errN r m))]) rfl rfl) fun a hA => ?_
 refine seq_do (v := .slice none 0 0) hA rfl rfl rfl (d_extract (vs := [.agg #[.bool false, .slice none 0 0], .slice none 0 0, .int .i64 ((errN r m))]) rfl rfl) fun a hA => ?_
 refine seq_do (v := .int .i64 ((errN r m))) hA rfl rfl rfl (d_extract (vs := [.agg #[.bool false, .slice none 0 0], .slice none 0 0, .int .i64 ((errN r m))]) rfl rfl) fun a hA => ?_
 refine seq_new (vs := [.bool false, .slice none 0 0]) (t := 60) hA hS rfl rfl rfl (fun g => .pointer (some ⟨g, 0, none⟩)) (d_alloc (z := .agg #[.bool false, .slice none 0 0]) (by kernel_rfl) rfl) rfl ?_
 intro g17 w18 hS a hA
 refine seq_store (us := [.bool false, .slice none 0 0]) hA hS rfl rfl (sets_store rfl rfl rfl (by kernel_rfl) hS 0 rfl rfl rfl) 0 rfl rfl rfl rfl ?_
 intro w19 hS
 refine seq_do hA rfl rfl rfl (d_assign rfl) fun a hA => ?_
 refine seq_do hA rfl rfl rfl (d_assign rfl) fun a hA => ?_
 refine seq_end ?_
 refine hK14 _ _ ?_
 refine wp_seq_k (fun K20 hK20 => ?_)
 refine wp_seq_k (fun K21 hK21 => ?_)
 refine wp_region_lit ?_
 refine mv hA rfl rfl rfl fun a hA => ?_
 refine seq_do (v := .bool true) hA rfl rfl rfl (d_bin rfl rfl (fun w => (bin_neq w).trans (by rw [show (((errN r n) != 0)) = true from (bne_iff_ne.2 h1)]))) fun a hA => ?_
 refine mv hA rfl rfl rfl fun a hA => ?_
 refine seq_skip hA rfl rfl rfl fun a hA => ?_
 refine seq_skip hA rfl rfl rfl fun a hA => ?_
 refine seq_do (v := .bool true) hA rfl rfl rfl (d_pick rfl rfl rfl rfl) fun a hA => ?_
 refine seq_end ?_
 refine hK21 _ _ ?_
 refine wp_cond_true (hA.ev rfl) ?_
 refine wp_seq_k (fun K22 hK22 => ?_)
 refine wp_region_lit ?_
 refine seq_do (v := .agg #[.bool false, .slice none 0 0, .slice none 0 0, .bool false, .slice none 0 0, .slice none 0 0]) hA rfl rfl rfl (d_build rfl (fun w => by kernel_rfl)) fun a hA => ?_
 refine seq_store (us := [.bool false, .slice none 0 0, .slice none 0 0, .bool false, .slice none 0 0, .slice none 0 0]) hA hS rfl rfl (sets_store rfl rfl rfl (by kernel_rfl) hS 2 rfl rfl rfl) 2 rfl rfl rfl rfl ?_
 intro w23 hS
 refine seq_do hA rfl rfl rfl (d_assign rfl) fun a hA => ?_
 refine seq_end ?_
 refine hK22 _ _ ?_
 refine wp_ret ?_
 refine hret _ _ ?_
 refine ends (v := .tuple #[.agg #[.bool false, .slice none 0 0, .slice none 0 0, .bool false, .slice none 0 0, .slice none 0 0], .int .i64 4]) hA rfl (.cons (res_cell hS RxE_isS_26 rfl 2 rfl (cs := [.bool false, .slice none 0 0, .slice none 0 0, .bool false, .slice none 0 0, .slice none 0 0]) rfl rfl) (.cons (res_tmp rfl) .nil)) rfl ?_
 rw [valX_bad (by first | exact Or.inl h1 | exact Or.inr h2)]
 exact ⟨none, 0, none, 0, none, 0, none, 0, rfl, ⟨Sc.none _, Sc.none _, Sc.none _, Sc.none _⟩, hS.bel⟩
theorem valueOf_b1 {w : World} {r : Nat} {n m : Nl} (hr : RadN r) (hl1 : n.2.1.length ≤ 9223372036854775807) (hl2 : n.2.2.length ≤ 9223372036854775807) (hk1 : m.2.1.length ≤ 9223372036854775807) (hk2 : m.2.2.length ≤ 9223372036854775807) (h1 : errN r n ≠ 0) (h2 : errN r m = 0) : Calls Tryz.prog 28 #[.agg #[.int .u8 (((n.1 : Nat) : Int)), .string (bsL n.2.1), .string (bsL n.2.2)], .agg #[.int .u8 (((m.1 : Nat) : Int)), .string (bsL m.2.1), .string (bsL m.2.2)], .int .i64 ((r : Nat) : Int)] w (AnsN w (valX r n m)) := by
 have hS : St w w [] [] [] := St.start w
 refine walk_of (l := [(0, .agg #[.int .u8 (((n.1 : Nat) : Int)), .string (bsL n.2.1), .string (bsL n.2.2)]), (1, .agg #[.int .u8 (((m.1 : Nat) : Int)), .string (bsL m.2.1), .string (bsL m.2.2)]), (2, .int .i64 (((r : Nat) : Int)))]) Tryz.func28 rfl Tryz.ntmps28 rfl rfl ?_
 intro Q hret hnorm hP a hA
 refine wp_seq_k (fun K1 hK1 => ?_)
 refine wp_region_lit ?_
 refine seq_new hA hS rfl rfl rfl (fun g => .pointer (some ⟨g, 0, none⟩)) (d_box rfl rfl) rfl ?_
 intro g2 w3 hS a hA
 refine seq_new hA hS rfl rfl rfl (fun g => .pointer (some ⟨g, 0, none⟩)) (d_box rfl rfl) rfl ?_
 intro g4 w5 hS a hA
 refine seq_new (vs := [.bool false, .slice none 0 0, .slice none 0 0, .bool false, .slice none 0 0, .slice none 0 0]) (t := 26) hA hS rfl rfl rfl (fun g => .pointer (some ⟨g, 0, none⟩)) (d_alloc (z := .agg #[.bool false, .slice none 0 0, .slice none 0 0, .bool false, .slice none 0 0, .slice none 0 0]) (by kernel_rfl) rfl) rfl ?_
 intro g6 w7 hS a hA
 refine seq_do hA rfl rfl rfl (d_assign rfl) fun a hA => ?_
 refine seq_end ?_
 refine hK1 _ _ ?_
 refine wp_seq_k (fun K8 hK8 => ?_)
 refine wp_region_lit ?_
 refine seq_do hA rfl rfl rfl (d_loadS hS RxE_isS_48 rfl 2 rfl (cs := [.int .u8 (((n.1 : Nat) : Int)), .string (bsL n.2.1), .string (bsL n.2.2)]) rfl rfl) fun a hA => ?_
 refine mv hA rfl rfl rfl fun a hA => ?_
 refine seq_call hA rfl rfl rfl (enters_func  rfl rfl (fun w => by kernel_rfl)) (value_bad hr hl1 hl2 h1) ?_
 rintro _ w10 ⟨rfl, hb9⟩
 replace hS := hS.call hb9
 refine ⟨_, rfl, ?_⟩
 intro a hA
 refine mv hA rfl rfl rfl fun a hA => ?_
 refine seq_do (v := .agg #[.bool false, .slice none 0 0]) hA rfl rfl rfl (d_extract (vs := [.agg #[.bool false, .slice none 0 0], .slice none 0 0, .int .i64 ((errN r n))]) rfl rfl) fun a hA => ?_
 refine seq_do (v := .slice none 0 0) hA rfl rfl rfl (d_extract (vs := [.agg #[.bool false, .slice none 0 0], .slice none 0 0, .int .i64 ((errN r n))]) rfl rfl) fun a hA => ?_
 refine seq_do (v := .int .i64 ((errN r n))) hA rfl rfl rfl (d_extract (vs := [.agg #[.bool false, .slice none 0 0], .slice none 0 0, .int .i64 ((errN r n))]) rfl rfl) fun a hA => ?_
 refine seq_new (vs := [.bool false, .slice none 0 0]) (t := 60) hA hS rfl rfl rfl (fun g => .pointer (some ⟨g, 0, none⟩)) (d_alloc (z := .agg #[.bool false, .slice none 0 0]) (by kernel_rfl) rfl) rfl ?_
 intro g11 w12 hS a hA
 refine seq_store (us := [.bool false, .slice none 0 0]) hA hS rfl rfl (sets_store rfl rfl rfl (by kernel_rfl) hS 0 rfl rfl rfl) 0 rfl rfl rfl rfl ?_
 intro w13 hS
 refine seq_do hA rfl rfl rfl (d_assign rfl) fun a hA => ?_
 refine seq_do hA rfl rfl rfl (d_assign rfl) fun a hA => ?_
 refine seq_end ?_
 refine hK8 _ _ ?_
 refine wp_seq_k (fun K14 hK14 => ?_)
 refine wp_region_lit ?_
 refine seq_do hA rfl rfl rfl (d_loadS hS RxE_isS_48 rfl 2 rfl (cs := [.int .u8 (((m.1 : Nat) : Int)), .string (bsL m.2.1), .string (bsL m.2.2)]) rfl rfl) fun a hA => ?_
 refine mv hA rfl rfl rfl fun a hA => ?_
 refine seq_call hA rfl rfl rfl (enters_func  rfl rfl (fun w => by kernel_rfl)) (value_ok (n := m) hr hk1 hk2 (errN_zero h2).1 (errN_zero h2).2) ?_
 rintro _ w22 ⟨zo15, zc16, zo17, zc18, rfl, hs19, hs20, hb21⟩
 replace hS := hS.call hb21
 replace hS := hS.addR hs19.rd
 replace hS := hS.addR hs20.rd
 refine ⟨_, rfl, ?_⟩
 intro a hA
 refine mv hA rfl rfl rfl fun a hA => ?_
 refine seq_do (v := .agg #[.bool ((rb (sgn (decide (m.1 = 45)) (natN r m.2.1)))), .slice zo15 ((words (sgn (decide (m.1 = 45)) (natN r m.2.1)).natAbs).length) zc16]) hA rfl rfl rfl (d_extract (vs := [.agg #[.bool ((rb (sgn (decide (m.1 = 45)) (natN r m.2.1)))), .slice zo15 ((words (sgn (decide (m.1 = 45)) (natN r m.2.1)).natAbs).length) zc16], .slice zo17 ((words (natN r m.2.2)).length) zc18, .int .i64 0]) rfl rfl) fun a hA => ?_
 refine seq_do (v := .slice zo17 ((words (natN r m.2.2)).length) zc18) hA rfl rfl rfl (d_extract (vs := [.agg #[.bool ((rb (sgn (decide (m.1 = 45)) (natN r m.2.1)))), .slice zo15 ((words (sgn (decide (m.1 = 45)) (natN r m.2.1)).natAbs).length) zc16], .slice zo17 ((words (natN r m.2.2)).length) zc18, .int .i64 0]) rfl rfl) fun a hA => ?_
 refine seq_do (v := .int .i64 0) hA rfl rfl rfl (d_extract (vs := [.agg #[.bool ((rb (sgn (decide (m.1 = 45)) (natN r m.2.1)))), .slice zo15 ((words (sgn (decide (m.1 = 45)) (natN r m.2.1)).natAbs).length) zc16], .slice zo17 ((words (natN r m.2.2)).length) zc18, .int .i64 0]) rfl rfl) fun a hA => ?_
 refine seq_new (vs := [.bool false, .slice none 0 0]) (t := 60) hA hS rfl rfl rfl (fun g => .pointer (some ⟨g, 0, none⟩)) (d_alloc (z := .agg #[.bool false, .slice none 0 0]) (by kernel_rfl) rfl) rfl ?_
 intro g23 w24 hS a hA
 refine seq_store (us := [.bool ((rb (sgn (decide (m.1 = 45)) (natN r m.2.1)))), .slice zo15 ((words (sgn (decide (m.1 = 45)) (natN r m.2.1)).natAbs).length) zc16]) hA hS rfl rfl (sets_store rfl rfl rfl (by kernel_rfl) hS 0 rfl rfl rfl) 0 rfl rfl rfl rfl ?_
 intro w25 hS
 refine seq_do hA rfl rfl rfl (d_assign rfl) fun a hA => ?_
 refine seq_do hA rfl rfl rfl (d_assign rfl) fun a hA => ?_
 refine seq_end ?_
 refine hK14 _ _ ?_
 refine wp_seq_k (fun K26 hK26 => ?_)
 refine wp_seq_k (fun K27 hK27 => ?_)
 refine wp_region_lit ?_
 refine mv hA rfl rfl rfl fun a hA => ?_
 refine seq_do (v := .bool true) hA rfl rfl rfl (d_bin rfl rfl (fun w => (bin_neq w).trans (by rw [show (((errN r n) != 0)) = true from (bne_iff_ne.2 h1)]))) fun a hA => ?_
 refine mv hA rfl rfl rfl fun a hA => ?_
 refine seq_skip hA rfl rfl rfl fun a hA => ?_
 refine seq_skip hA rfl rfl rfl fun a hA => ?_
 refine seq_do (v := .bool true) hA rfl rfl rfl (d_pick rfl rfl rfl rfl) fun a hA => ?_
 refine seq_end ?_
 refine hK27 _ _ ?_
 refine wp_cond_true (hA.ev rfl) ?_
 refine wp_seq_k (fun K28 hK28 => ?_)
 refine wp_region_lit ?_
 refine seq_do (v := .agg #[.bool false, .slice none 0 0, .slice none 0 0, .bool false, .slice none 0 0, .slice none 0 0]) hA rfl rfl rfl (d_build rfl (fun w => by kernel_rfl)) fun a hA => ?_
 refine seq_store (us := [.bool false, .slice none 0 0, .slice none 0 0, .bool false, .slice none 0 0, .slice none 0 0]) hA hS rfl rfl (sets_store rfl rfl rfl (by kernel_rfl) hS 2 rfl rfl rfl) 2 rfl rfl rfl rfl ?_
 intro w29 hS
 refine seq_do hA rfl rfl rfl (d_assign rfl) fun a hA => ?_
 refine seq_end ?_
 refine hK28 _ _ ?_
 refine wp_ret ?_
 refine hret _ _ ?_
 refine ends (v := .tuple #[.agg #[.bool false, .slice none 0 0, .slice none 0 0, .bool false, .slice none 0 0, .slice none 0 0], .int .i64 4]) hA rfl (.cons (res_cell hS RxE_isS_26 rfl 2 rfl (cs := [.bool false, .slice none 0 0, .slice none 0 0, .bool false, .slice none 0 0, .slice none 0 0]) rfl rfl) (.cons (res_tmp rfl) .nil)) rfl ?_
 rw [valX_bad (by first | exact Or.inl h1 | exact Or.inr h2)]
 exact ⟨none, 0, none, 0, none, 0, none, 0, rfl, ⟨Sc.none _, Sc.none _, Sc.none _, Sc.none _⟩, hS.bel⟩
theorem valueOf_b2 {w : World} {r : Nat} {n m : Nl} (hr : RadN r) (hl1 : n.2.1.length ≤ 9223372036854775807) (hl2 : n.2.2.length ≤ 9223372036854775807) (hk1 : m.2.1.length ≤ 9223372036854775807) (hk2 : m.2.2.length ≤ 9223372036854775807) (h1 : errN r n = 0) (h2 : errN r m ≠ 0) : Calls Tryz.prog 28 #[.agg #[.int .u8 (((n.1 : Nat) : Int)), .string (bsL n.2.1), .string (bsL n.2.2)], .agg #[.int .u8 (((m.1 : Nat) : Int)), .string (bsL m.2.1), .string (bsL m.2.2)], .int .i64 ((r : Nat) : Int)] w (AnsN w (valX r n m)) := by
 have hS : St w w [] [] [] := St.start w
 refine walk_of (l := [(0, .agg #[.int .u8 (((n.1 : Nat) : Int)), .string (bsL n.2.1), .string (bsL n.2.2)]), (1, .agg #[.int .u8 (((m.1 : Nat) : Int)), .string (bsL m.2.1), .string (bsL m.2.2)]), (2, .int .i64 (((r : Nat) : Int)))]) Tryz.func28 rfl Tryz.ntmps28 rfl rfl ?_
 intro Q hret hnorm hP a hA
 refine wp_seq_k (fun K1 hK1 => ?_)
 refine wp_region_lit ?_
 refine seq_new hA hS rfl rfl rfl (fun g => .pointer (some ⟨g, 0, none⟩)) (d_box rfl rfl) rfl ?_
 intro g2 w3 hS a hA
 refine seq_new hA hS rfl rfl rfl (fun g => .pointer (some ⟨g, 0, none⟩)) (d_box rfl rfl) rfl ?_
 intro g4 w5 hS a hA
 refine seq_new (vs := [.bool false, .slice none 0 0, .slice none 0 0, .bool false, .slice none 0 0, .slice none 0 0]) (t := 26) hA hS rfl rfl rfl (fun g => .pointer (some ⟨g, 0, none⟩)) (d_alloc (z := .agg #[.bool false, .slice none 0 0, .slice none 0 0, .bool false, .slice none 0 0, .slice none 0 0]) (by kernel_rfl) rfl) rfl ?_
 intro g6 w7 hS a hA
 refine seq_do hA rfl rfl rfl (d_assign rfl) fun a hA => ?_
 refine seq_end ?_
 refine hK1 _ _ ?_
 refine wp_seq_k (fun K8 hK8 => ?_)
 refine wp_region_lit ?_
 refine seq_do hA rfl rfl rfl (d_loadS hS RxE_isS_48 rfl 2 rfl (cs := [.int .u8 (((n.1 : Nat) : Int)), .string (bsL n.2.1), .string (bsL n.2.2)]) rfl rfl) fun a hA => ?_
 refine mv hA rfl rfl rfl fun a hA => ?_
 refine seq_call hA rfl rfl rfl (enters_func  rfl rfl (fun w => by kernel_rfl)) (value_ok (n := n) hr hl1 hl2 (errN_zero h1).1 (errN_zero h1).2) ?_
 rintro _ w16 ⟨zo9, zc10, zo11, zc12, rfl, hs13, hs14, hb15⟩
 replace hS := hS.call hb15
 replace hS := hS.addR hs13.rd
 replace hS := hS.addR hs14.rd
 refine ⟨_, rfl, ?_⟩
 intro a hA
 refine mv hA rfl rfl rfl fun a hA => ?_
 refine seq_do (v := .agg #[.bool ((rb (sgn (decide (n.1 = 45)) (natN r n.2.1)))), .slice zo9 ((words (sgn (decide (n.1 = 45)) (natN r n.2.1)).natAbs).length) zc10]) hA rfl rfl rfl (d_extract (vs := [.agg #[.bool ((rb (sgn (decide (n.1 = 45)) (natN r n.2.1)))), .slice zo9 ((words (sgn (decide (n.1 = 45)) (natN r n.2.1)).natAbs).length) zc10], .slice zo11 ((words (natN r n.2.2)).length) zc12, .int .i64 0]) rfl rfl) fun a hA => ?_
 refine seq_do (v := .slice zo11 ((words (natN r n.2.2)).length) zc12) hA rfl rfl rfl (d_extract (vs := [.agg #[.bool ((rb (sgn (decide (n.1 = 45)) (natN r n.2.1)))), .slice zo9 ((words (sgn (decide (n.1 = 45)) (natN r n.2.1)).natAbs).length) zc10], .slice zo11 ((words (natN r n.2.2)).length) zc12, .int .i64 0]) rfl rfl) fun a hA => ?_
 refine seq_do (v := .int .i64 0) hA rfl rfl rfl (d_extract (vs := [.agg #[.bool ((rb (sgn (decide (n.1 = 45)) (natN r n.2.1)))), .slice zo9 ((words (sgn (decide (n.1 = 45)) (natN r n.2.1)).natAbs).length) zc10], .slice zo11 ((words (natN r n.2.2)).length) zc12, .int .i64 0]) rfl rfl) fun a hA => ?_
 refine seq_new (vs := [.bool false, .slice none 0 0]) (t := 60) hA hS rfl rfl rfl (fun g => .pointer (some ⟨g, 0, none⟩)) (d_alloc (z := .agg #[.bool false, .slice none 0 0]) (by kernel_rfl) rfl) rfl ?_
 intro g17 w18 hS a hA
 refine seq_store (us := [.bool ((rb (sgn (decide (n.1 = 45)) (natN r n.2.1)))), .slice zo9 ((words (sgn (decide (n.1 = 45)) (natN r n.2.1)).natAbs).length) zc10]) hA hS rfl rfl (sets_store rfl rfl rfl (by kernel_rfl) hS 0 rfl rfl rfl) 0 rfl rfl rfl rfl ?_
 intro w19 hS
 refine seq_do hA rfl rfl rfl (d_assign rfl) fun a hA => ?_
 refine seq_do hA rfl rfl rfl (d_assign rfl) fun a hA => ?_
 refine seq_end ?_
 refine hK8 _ _ ?_
 refine wp_seq_k (fun K20 hK20 => ?_)
 refine wp_region_lit ?_
 refine seq_do hA rfl rfl rfl (d_loadS hS RxE_isS_48 rfl 2 rfl (cs := [.int .u8 (((m.1 : Nat) : Int)), .string (bsL m.2.1), .string (bsL m.2.2)]) rfl rfl) fun a hA => ?_
 refine mv hA rfl rfl rfl fun a hA => ?_
 refine seq_call hA rfl rfl rfl (enters_func  rfl rfl (fun w => by kernel_rfl)) (value_bad hr hk1 hk2 h2) ?_
 rintro _ w22 ⟨rfl, hb21⟩
 replace hS := hS.call hb21
 refine ⟨_, rfl, ?_⟩
 intro a hA
 refine mv hA rfl rfl rfl fun a hA => ?_
 refine seq_do (v := .agg #[.bool false, .slice none 0 0]) hA rfl rfl rfl (d_extract (vs := [.agg #[.bool false, .slice none 0 0], .slice none 0 0, .int .i64 ((errN r m))]) rfl rfl) fun a hA => ?_
 refine seq_do (v := .slice none 0 0) hA rfl rfl rfl (d_extract (vs := [.agg #[.bool false, .slice none 0 0], .slice none 0 0, .int .i64 ((errN r m))]) rfl rfl) fun a hA => ?_
 refine seq_do (v := .int .i64 ((errN r m))) hA rfl rfl rfl (d_extract (vs := [.agg #[.bool false, .slice none 0 0], .slice none 0 0, .int .i64 ((errN r m))]) rfl rfl) fun a hA => ?_
 refine seq_new (vs := [.bool false, .slice none 0 0]) (t := 60) hA hS rfl rfl rfl (fun g => .pointer (some ⟨g, 0, none⟩)) (d_alloc (z := .agg #[.bool false, .slice none 0 0]) (by kernel_rfl) rfl) rfl ?_
 intro g23 w24 hS a hA
 refine seq_store (us := [.bool false, .slice none 0 0]) hA hS rfl rfl (sets_store rfl rfl rfl (by kernel_rfl) hS 0 rfl rfl rfl) 0 rfl rfl rfl rfl ?_
 intro w25 hS
 refine seq_do hA rfl rfl rfl (d_assign rfl) fun a hA => ?_
 refine seq_do hA rfl rfl rfl (d_assign rfl) fun a hA => ?_
 refine seq_end ?_
 refine hK20 _ _ ?_
 refine wp_seq_k (fun K26 hK26 => ?_)
 refine wp_seq_k (fun K27 hK27 => ?_)
 refine wp_region_lit ?_
 refine mv hA rfl rfl rfl fun a hA => ?_
 refine seq_do (v := .bool false) hA rfl rfl rfl (d_bin rfl rfl (fun w => by kernel_rfl)) fun a hA => ?_
 refine mv hA rfl rfl rfl fun a hA => ?_
 refine mv hA rfl rfl rfl fun a hA => ?_
 refine seq_do (v := .bool true) hA rfl rfl rfl (d_bin rfl rfl (fun w => (bin_neq w).trans (by rw [show (((errN r m) != 0)) = true from (bne_iff_ne.2 h2)]))) fun a hA => ?_
 refine seq_do (v := .bool true) hA rfl rfl rfl (d_pick rfl rfl rfl rfl) fun a hA => ?_
 refine seq_end ?_
 refine hK27 _ _ ?_
 refine wp_cond_true (hA.ev rfl) ?_
 refine wp_seq_k (fun K28 hK28 => ?_)
 refine wp_region_lit ?_
 refine seq_do (v := .agg #[.bool false, .slice none 0 0, .slice none 0 0, .bool false, .slice none 0 0, .slice none 0 0]) hA rfl rfl rfl (d_build rfl (fun w => by kernel_rfl)) fun a hA => ?_
 refine seq_store (us := [.bool false, .slice none 0 0, .slice none 0 0, .bool false, .slice none 0 0, .slice none 0 0]) hA hS rfl rfl (sets_store rfl rfl rfl (by kernel_rfl) hS 2 rfl rfl rfl) 2 rfl rfl rfl rfl ?_
 intro w29 hS
 refine seq_do hA rfl rfl rfl (d_assign rfl) fun a hA => ?_
 refine seq_end ?_
 refine hK28 _ _ ?_
 refine wp_ret ?_
 refine hret _ _ ?_
 refine ends (v := .tuple #[.agg #[.bool false, .slice none 0 0, .slice none 0 0, .bool false, .slice none 0 0, .slice none 0 0], .int .i64 4]) hA rfl (.cons (res_cell hS RxE_isS_26 rfl 2 rfl (cs := [.bool false, .slice none 0 0, .slice none 0 0, .bool false, .slice none 0 0, .slice none 0 0]) rfl rfl) (.cons (res_tmp rfl) .nil)) rfl ?_
 rw [valX_bad (by first | exact Or.inl h1 | exact Or.inr h2)]
 exact ⟨none, 0, none, 0, none, 0, none, 0, rfl, ⟨Sc.none _, Sc.none _, Sc.none _, Sc.none _⟩, hS.bel⟩
theorem valueOf_ok {w : World} {r : Nat} {n m : Nl} (hr : RadN r) (hl1 : n.2.1.length ≤ 9223372036854775807) (hl2 : n.2.2.length ≤ 9223372036854775807) (hk1 : m.2.1.length ≤ 9223372036854775807) (hk2 : m.2.2.length ≤ 9223372036854775807) (h1 : errN r n = 0) (h2 : errN r m = 0) (kn : natN r n.2.2 ≠ 0) (km : natN r m.2.2 ≠ 0) : Calls Tryz.prog 28 #[.agg #[.int .u8 (((n.1 : Nat) : Int)), .string (bsL n.2.1), .string (bsL n.2.2)], .agg #[.int .u8 (((m.1 : Nat) : Int)), .string (bsL m.2.1), .string (bsL m.2.2)], .int .i64 ((r : Nat) : Int)] w (AnsN w (valX r n m)) := by
 have jn := words_len_pos.2 kn
 have jm := words_len_pos.2 km
 have hS : St w w [] [] [] := St.start w
 refine walk_of (l := [(0, .agg #[.int .u8 (((n.1 : Nat) : Int)), .string (bsL n.2.1), .string (bsL n.2.2)]), (1, .agg #[.int .u8 (((m.1 : Nat) : Int)), .string (bsL m.2.1), .string (bsL m.2.2)]), (2, .int .i64 (((r : Nat) : Int)))]) Tryz.func28 rfl Tryz.ntmps28 rfl rfl ?_
 intro Q hret hnorm hP a hA
 refine wp_seq_k (fun K1 hK1 => ?_)
 refine wp_region_lit ?_
 refine seq_new hA hS rfl rfl rfl (fun g => .pointer (some ⟨g, 0, none⟩)) (d_box rfl rfl) rfl ?_
 intro g2 w3 hS a hA
 refine seq_new hA hS rfl rfl rfl (fun g => .pointer (some ⟨g, 0, none⟩)) (d_box rfl rfl) rfl ?_
 intro g4 w5 hS a hA
 refine seq_new (vs := [.bool false, .slice none 0 0, .slice none 0 0, .bool false, .slice none 0 0, .slice none 0 0]) (t := 26) hA hS rfl rfl rfl (fun g => .pointer (some ⟨g, 0, none⟩)) (d_alloc (z := .agg #[.bool false, .slice none 0 0, .slice none 0 0, .bool false, .slice none 0 0, .slice none 0 0]) (by kernel_rfl) rfl) rfl ?_
 intro g6 w7 hS a hA
 refine seq_do hA rfl rfl rfl (d_assign rfl) fun a hA => ?_
 refine seq_end ?_
 refine hK1 _ _ ?_
 refine wp_seq_k (fun K8 hK8 => ?_)
 refine wp_region_lit ?_
 refine seq_do hA rfl rfl rfl (d_loadS hS RxE_isS_48 rfl 2 rfl (cs := [.int .u8 (((n.1 : Nat) : Int)), .string (bsL n.2.1), .string (bsL n.2.2)]) rfl rfl) fun a hA => ?_
 refine mv hA rfl rfl rfl fun a hA => ?_
 refine seq_call hA rfl rfl rfl (enters_func  rfl rfl (fun w => by kernel_rfl)) (value_ok (n := n) hr hl1 hl2 (errN_zero h1).1 (errN_zero h1).2) ?_
 rintro _ w16 ⟨zo9, zc10, zo11, zc12, rfl, hs13, hs14, hb15⟩
 replace hS := hS.call hb15
 replace hS := hS.addR hs13.rd
 replace hS := hS.addR hs14.rd
 refine ⟨_, rfl, ?_⟩
 intro a hA
 refine mv hA rfl rfl rfl fun a hA => ?_
 refine seq_do (v := .agg #[.bool ((rb (sgn (decide (n.1 = 45)) (natN r n.2.1)))), .slice zo9 ((words (sgn (decide (n.1 = 45)) (natN r n.2.1)).natAbs).length) zc10]) hA rfl rfl rfl (d_extract (vs := [.agg #[.bool ((rb (sgn (decide (n.1 = 45)) (natN r n.2.1)))), .slice zo9 ((words (sgn (decide (n.1 = 45)) (natN r n.2.1)).natAbs).length) zc10], .slice zo11 ((words (natN r n.2.2)).length) zc12, .int .i64 0]) rfl rfl) fun a hA => ?_
 refine seq_do (v := .slice zo11 ((words (natN r n.2.2)).length) zc12) hA rfl rfl rfl (d_extract (vs := [.agg #[.bool ((rb (sgn (decide (n.1 = 45)) (natN r n.2.1)))), .slice zo9 ((words (sgn (decide (n.1 = 45)) (natN r n.2.1)).natAbs).length) zc10], .slice zo11 ((words (natN r n.2.2)).length) zc12, .int .i64 0]) rfl rfl) fun a hA => ?_
 refine seq_do (v := .int .i64 0) hA rfl rfl rfl (d_extract (vs := [.agg #[.bool ((rb (sgn (decide (n.1 = 45)) (natN r n.2.1)))), .slice zo9 ((words (sgn (decide (n.1 = 45)) (natN r n.2.1)).natAbs).length) zc10], .slice zo11 ((words (natN r n.2.2)).length) zc12, .int .i64 0]) rfl rfl) fun a hA => ?_
 refine seq_new (vs := [.bool false, .slice none 0 0]) (t := 60) hA hS rfl rfl rfl (fun g => .pointer (some ⟨g, 0, none⟩)) (d_alloc (z := .agg #[.bool false, .slice none 0 0]) (by kernel_rfl) rfl) rfl ?_
 intro g17 w18 hS a hA
 refine seq_store (us := [.bool ((rb (sgn (decide (n.1 = 45)) (natN r n.2.1)))), .slice zo9 ((words (sgn (decide (n.1 = 45)) (natN r n.2.1)).natAbs).length) zc10]) hA hS rfl rfl (sets_store rfl rfl rfl (by kernel_rfl) hS 0 rfl rfl rfl) 0 rfl rfl rfl rfl ?_
 intro w19 hS
 refine seq_do hA rfl rfl rfl (d_assign rfl) fun a hA => ?_
 refine seq_do hA rfl rfl rfl (d_assign rfl) fun a hA => ?_
 refine seq_end ?_
 refine hK8 _ _ ?_
 refine wp_seq_k (fun K20 hK20 => ?_)
 refine wp_region_lit ?_
 refine seq_do hA rfl rfl rfl (d_loadS hS RxE_isS_48 rfl 2 rfl (cs := [.int .u8 (((m.1 : Nat) : Int)), .string (bsL m.2.1), .string (bsL m.2.2)]) rfl rfl) fun a hA => ?_
 refine mv hA rfl rfl rfl fun a hA => ?_
 refine seq_call hA rfl rfl rfl (enters_func  rfl rfl (fun w => by kernel_rfl)) (value_ok (n := m) hr hk1 hk2 (errN_zero h2).1 (errN_zero h2).2) ?_
 rintro _ w28 ⟨zo21, zc22, zo23, zc24, rfl, hs25, hs26, hb27⟩
 replace hS := hS.call hb27
 replace hS := hS.addR hs25.rd
 replace hS := hS.addR hs26.rd
 refine ⟨_, rfl, ?_⟩
 intro a hA
 refine mv hA rfl rfl rfl fun a hA => ?_
 refine seq_do (v := .agg #[.bool ((rb (sgn (decide (m.1 = 45)) (natN r m.2.1)))), .slice zo21 ((words (sgn (decide (m.1 = 45)) (natN r m.2.1)).natAbs).length) zc22]) hA rfl rfl rfl (d_extract (vs := [.agg #[.bool ((rb (sgn (decide (m.1 = 45)) (natN r m.2.1)))), .slice zo21 ((words (sgn (decide (m.1 = 45)) (natN r m.2.1)).natAbs).length) zc22], .slice zo23 ((words (natN r m.2.2)).length) zc24, .int .i64 0]) rfl rfl) fun a hA => ?_
 refine seq_do (v := .slice zo23 ((words (natN r m.2.2)).length) zc24) hA rfl rfl rfl (d_extract (vs := [.agg #[.bool ((rb (sgn (decide (m.1 = 45)) (natN r m.2.1)))), .slice zo21 ((words (sgn (decide (m.1 = 45)) (natN r m.2.1)).natAbs).length) zc22], .slice zo23 ((words (natN r m.2.2)).length) zc24, .int .i64 0]) rfl rfl) fun a hA => ?_
 refine seq_do (v := .int .i64 0) hA rfl rfl rfl (d_extract (vs := [.agg #[.bool ((rb (sgn (decide (m.1 = 45)) (natN r m.2.1)))), .slice zo21 ((words (sgn (decide (m.1 = 45)) (natN r m.2.1)).natAbs).length) zc22], .slice zo23 ((words (natN r m.2.2)).length) zc24, .int .i64 0]) rfl rfl) fun a hA => ?_
 refine seq_new (vs := [.bool false, .slice none 0 0]) (t := 60) hA hS rfl rfl rfl (fun g => .pointer (some ⟨g, 0, none⟩)) (d_alloc (z := .agg #[.bool false, .slice none 0 0]) (by kernel_rfl) rfl) rfl ?_
 intro g29 w30 hS a hA
 refine seq_store (us := [.bool ((rb (sgn (decide (m.1 = 45)) (natN r m.2.1)))), .slice zo21 ((words (sgn (decide (m.1 = 45)) (natN r m.2.1)).natAbs).length) zc22]) hA hS rfl rfl (sets_store rfl rfl rfl (by kernel_rfl) hS 0 rfl rfl rfl) 0 rfl rfl rfl rfl ?_
 intro w31 hS
 refine seq_do hA rfl rfl rfl (d_assign rfl) fun a hA => ?_
 refine seq_do hA rfl rfl rfl (d_assign rfl) fun a hA => ?_
 refine seq_end ?_
 refine hK20 _ _ ?_
 refine wp_seq_k (fun K32 hK32 => ?_)
 refine wp_seq_k (fun K33 hK33 => ?_)
 refine wp_region_lit ?_
 refine mv hA rfl rfl rfl fun a hA => ?_
 refine seq_do (v := .bool false) hA rfl rfl rfl (d_bin rfl rfl (fun w => by kernel_rfl)) fun a hA => ?_
 refine mv hA rfl rfl rfl fun a hA => ?_
 refine mv hA rfl rfl rfl fun a hA => ?_
 refine seq_do (v := .bool false) hA rfl rfl rfl (d_bin rfl rfl (fun w => by kernel_rfl)) fun a hA => ?_
 refine seq_do (v := .bool false) hA rfl rfl rfl (d_pick rfl rfl rfl rfl) fun a hA => ?_
 refine seq_end ?_
 refine hK33 _ _ ?_
 refine wp_cond_false (hA.ev rfl) ?_
 refine wp_skip ?_
 refine hK32 _ _ ?_
 refine wp_seq_k (fun K34 hK34 => ?_)
 refine wp_seq_k (fun K35 hK35 => ?_)
 refine wp_region_lit ?_
 refine mv hA rfl rfl rfl fun a hA => ?_
 refine seq_do (v := .int .i64 ((((words (natN r n.2.2)).length : Nat) : Int))) hA rfl rfl rfl (d_len Tryz.underlying22 rfl) fun a hA => ?_
 refine seq_do (v := .bool false) hA rfl rfl rfl (d_bin rfl rfl (fun w => (bin_eql w).trans (by rw [show (((((words (natN r n.2.2)).length : Nat) : Int) == 0)) = false from (beq_eq_false_iff_ne.2 (by omega))]))) fun a hA => ?_
 refine mv hA rfl rfl rfl fun a hA => ?_
 refine mv hA rfl rfl rfl fun a hA => ?_
 refine seq_do (v := .int .i64 ((((words (natN r m.2.2)).length : Nat) : Int))) hA rfl rfl rfl (d_len Tryz.underlying22 rfl) fun a hA => ?_
 refine seq_do (v := .bool false) hA rfl rfl rfl (d_bin rfl rfl (fun w => (bin_eql w).trans (by rw [show (((((words (natN r m.2.2)).length : Nat) : Int) == 0)) = false from (beq_eq_false_iff_ne.2 (by omega))]))) fun a hA => ?_
 refine seq_do (v := .bool false) hA rfl rfl rfl (d_pick rfl rfl rfl rfl) fun a hA => ?_
 refine seq_end ?_
 refine hK35 _ _ ?_
 refine wp_cond_false (hA.ev rfl) ?_
 refine wp_skip ?_
 refine hK34 _ _ ?_
 refine wp_seq_k (fun K36 hK36 => ?_)
 refine wp_draw (S := fun w1 => St w w1 [(g29, [.bool ((rb (sgn (decide (m.1 = 45)) (natN r m.2.1)))), .slice zo21 ((words (sgn (decide (m.1 = 45)) (natN r m.2.1)).natAbs).length) zc22]), (g17, [.bool ((rb (sgn (decide (n.1 = 45)) (natN r n.2.1)))), .slice zo9 ((words (sgn (decide (n.1 = 45)) (natN r n.2.1)).natAbs).length) zc10]), (g4, [.int .u8 (((m.1 : Nat) : Int)), .string (bsL m.2.1), .string (bsL m.2.2)]), (g2, [.int .u8 (((n.1 : Nat) : Int)), .string (bsL n.2.1), .string (bsL n.2.2)])] [(zo23, words (natN r m.2.2)), (zo21, words (sgn (decide (m.1 = 45)) (natN r m.2.1)).natAbs), (zo11, words (natN r n.2.2)), (zo9, words (sgn (decide (n.1 = 45)) (natN r n.2.1)).natAbs)] []) (by kernel_rfl) ?_
 replace hS := hS.drew
 refine any_tk hA 0 rfl rfl rfl rfl hP (hS.partD (.cons_cons _ (.cons_cons _ (.cons _ (.cons_cons _ (.cons_cons _ .slnil))))) 0 rfl (.refl _)) (fun w1 hS => d_loadS hS RxE_isS_60 rfl 1 rfl (cs := [.bool ((rb (sgn (decide (n.1 = 45)) (natN r n.2.1)))), .slice zo9 ((words (sgn (decide (n.1 = 45)) (natN r n.2.1)).natAbs).length) zc10]) rfl rfl) fun a hA => ?_
 refine any_tk hA 1 rfl rfl rfl rfl hP (hS.partD (.cons_cons _ (.cons_cons _ (.cons _ (.cons_cons _ (.cons_cons _ .slnil))))) 0 rfl (.refl _)) (fun w1 hS => d_move rfl) fun a hA => ?_
 refine any_tk hA 3 rfl rfl rfl rfl hP (hS.partD (.cons_cons _ (.cons_cons _ (.cons _ (.cons_cons _ (.cons_cons _ .slnil))))) 0 rfl (.refl _)) (fun w1 hS => d_loadS hS RxE_isS_60 rfl 0 rfl (cs := [.bool ((rb (sgn (decide (m.1 = 45)) (natN r m.2.1)))), .slice zo21 ((words (sgn (decide (m.1 = 45)) (natN r m.2.1)).natAbs).length) zc22]) rfl rfl) fun a hA => ?_
 refine any_tk hA 4 rfl rfl rfl rfl hP (hS.partD (.cons_cons _ (.cons_cons _ (.cons _ (.cons_cons _ (.cons_cons _ .slnil))))) 0 rfl (.refl _)) (fun w1 hS => d_move rfl) fun a hA => ?_
 refine any_one (by kernel_rfl) (op_call hA 2 rfl rfl rfl rfl (enters_func  rfl rfl (fun w => by kernel_rfl)) (zlowest_any (x := (sgn (decide (n.1 = 45)) (natN r n.2.1))) (d := (natN r n.2.2)) ⟨(hS.rd 3 rfl), hs13.nil, hs13.cap⟩ ⟨(hS.rd 2 rfl), hs14.nil, hs14.cap⟩ (sgn_abs_len (Nat.le_trans (rdN_ok (errN_zero h1).1).2 (by decide))) (Nat.le_trans (rdN_ok (errN_zero h1).2).2 (by decide)) kn) ?_)
 rintro _ w41 ⟨f37_1, f37_c1, f37_2, f37_c2, rfl, hs38, hs39, hb40⟩
 replace hS := hS.call hb40
 replace hS := hS.addR hs38.rd
 replace hS := hS.addR hs39.rd
 refine ⟨_, rfl, (hS.partD (.cons_cons _ (.cons_cons _ (.cons _ (.cons_cons _ (.cons_cons _ .slnil))))) 2 rfl (.refl _)), ?_⟩
 intro a hA
 refine any_one (by kernel_rfl) (op_call hA 5 rfl rfl rfl rfl (enters_func  rfl rfl (fun w => by kernel_rfl)) (zlowest_any (x := (sgn (decide (m.1 = 45)) (natN r m.2.1))) (d := (natN r m.2.2)) ⟨(hS.rd 3 rfl), hs25.nil, hs25.cap⟩ ⟨(hS.rd 2 rfl), hs26.nil, hs26.cap⟩ (sgn_abs_len (Nat.le_trans (rdN_ok (errN_zero h2).1).2 (by decide))) (Nat.le_trans (rdN_ok (errN_zero h2).2).2 (by decide)) km) ?_)
 rintro _ w46 ⟨f42_1, f42_c1, f42_2, f42_c2, rfl, hs43, hs44, hb45⟩
 replace hS := hS.call hb45
 replace hS := hS.addR hs43.rd
 replace hS := hS.addR hs44.rd
 refine ⟨_, rfl, (hS.partD (.cons_cons _ (.cons_cons _ (.cons _ (.cons_cons _ (.cons_cons _ .slnil))))) 4 rfl (.refl _)), ?_⟩
 intro a hA
 refine any_tk (v := .agg #[.bool ((rb (sgn (decide (n.1 = 45)) (natN r n.2.1)))), .slice f37_1 ((words (rt (sgn (decide (n.1 = 45)) (natN r n.2.1)) (natN r n.2.2))).length) f37_c1, .slice f37_2 ((words (rq (sgn (decide (n.1 = 45)) (natN r n.2.1)) (natN r n.2.2))).length) f37_c2, .bool ((rb (sgn (decide (m.1 = 45)) (natN r m.2.1)))), .slice f42_1 ((words (rt (sgn (decide (m.1 = 45)) (natN r m.2.1)) (natN r m.2.2))).length) f42_c1, .slice f42_2 ((words (rq (sgn (decide (m.1 = 45)) (natN r m.2.1)) (natN r m.2.2))).length) f42_c2]) hA 6 rfl rfl rfl rfl hP (hS.partD (.cons_cons _ (.cons_cons _ (.cons _ (.cons_cons _ (.cons_cons _ .slnil))))) 4 rfl (.refl _)) (fun w1 hS => d_build rfl (fun w => by kernel_rfl)) fun a hA => ?_
 refine any_one (by kernel_rfl) (op_store (us := [.bool ((rb (sgn (decide (n.1 = 45)) (natN r n.2.1)))), .slice f37_1 ((words (rt (sgn (decide (n.1 = 45)) (natN r n.2.1)) (natN r n.2.2))).length) f37_c1, .slice f37_2 ((words (rq (sgn (decide (n.1 = 45)) (natN r n.2.1)) (natN r n.2.2))).length) f37_c2, .bool ((rb (sgn (decide (m.1 = 45)) (natN r m.2.1)))), .slice f42_1 ((words (rt (sgn (decide (m.1 = 45)) (natN r m.2.1)) (natN r m.2.2))).length) f42_c1, .slice f42_2 ((words (rq (sgn (decide (m.1 = 45)) (natN r m.2.1)) (natN r m.2.2))).length) f42_c2]) hA hS 7 rfl rfl rfl (sets_store rfl rfl rfl (by kernel_rfl) hS 2 rfl rfl rfl) 2 rfl rfl rfl rfl ?_)
 intro w47 hS
 refine ⟨(hS.partD (.cons_cons _ (.cons_cons _ (.cons _ (.cons_cons _ (.cons_cons _ .slnil))))) 4 rfl (.refl _)), ?_⟩
 refine any_tk hA 8 rfl rfl rfl rfl hP (hS.partD (.cons_cons _ (.cons_cons _ (.cons _ (.cons_cons _ (.cons_cons _ .slnil))))) 4 rfl (.refl _)) (fun w1 hS => d_assign rfl) fun a hA => ?_
 refine any_end (by kernel_rfl) ?_
 refine hK36 _ _ ?_
 refine wp_ret ?_
 refine hret _ _ ?_
 refine ends (v := .tuple #[.agg #[.bool ((rb (sgn (decide (n.1 = 45)) (natN r n.2.1)))), .slice f37_1 ((words (rt (sgn (decide (n.1 = 45)) (natN r n.2.1)) (natN r n.2.2))).length) f37_c1, .slice f37_2 ((words (rq (sgn (decide (n.1 = 45)) (natN r n.2.1)) (natN r n.2.2))).length) f37_c2, .bool ((rb (sgn (decide (m.1 = 45)) (natN r m.2.1)))), .slice f42_1 ((words (rt (sgn (decide (m.1 = 45)) (natN r m.2.1)) (natN r m.2.2))).length) f42_c1, .slice f42_2 ((words (rq (sgn (decide (m.1 = 45)) (natN r m.2.1)) (natN r m.2.2))).length) f42_c2], .int .i64 0]) hA rfl (.cons (res_cell hS RxE_isS_26 rfl 2 rfl (cs := [.bool ((rb (sgn (decide (n.1 = 45)) (natN r n.2.1)))), .slice f37_1 ((words (rt (sgn (decide (n.1 = 45)) (natN r n.2.1)) (natN r n.2.2))).length) f37_c1, .slice f37_2 ((words (rq (sgn (decide (n.1 = 45)) (natN r n.2.1)) (natN r n.2.2))).length) f37_c2, .bool ((rb (sgn (decide (m.1 = 45)) (natN r m.2.1)))), .slice f42_1 ((words (rt (sgn (decide (m.1 = 45)) (natN r m.2.1)) (natN r m.2.2))).length) f42_c1, .slice f42_2 ((words (rq (sgn (decide (m.1 = 45)) (natN r m.2.1)) (natN r m.2.2))).length) f42_c2]) rfl rfl) (.cons (res_tmp rfl) .nil)) rfl ?_
 rw [valX_ok h1 h2 kn km]
 exact ⟨f37_1, f37_c1, f37_2, f37_c2, f42_1, f42_c1, f42_2, f42_c2, rfl, ⟨⟨(hS.rd 3 rfl), hs38.nil, hs38.cap⟩, ⟨(hS.rd 2 rfl), hs39.nil, hs39.cap⟩, ⟨(hS.rd 1 rfl), hs43.nil, hs43.cap⟩, ⟨(hS.rd 0 rfl), hs44.nil, hs44.cap⟩⟩, hS.bel⟩
theorem valueOf_z {w : World} {r : Nat} {n m : Nl} (hr : RadN r) (hl1 : n.2.1.length ≤ 9223372036854775807) (hl2 : n.2.2.length ≤ 9223372036854775807) (hk1 : m.2.1.length ≤ 9223372036854775807) (hk2 : m.2.2.length ≤ 9223372036854775807) (h1 : errN r n = 0) (h2 : errN r m = 0) (kz : natN r n.2.2 = 0 ∨ natN r m.2.2 = 0) : Calls Tryz.prog 28 #[.agg #[.int .u8 (((n.1 : Nat) : Int)), .string (bsL n.2.1), .string (bsL n.2.2)], .agg #[.int .u8 (((m.1 : Nat) : Int)), .string (bsL m.2.1), .string (bsL m.2.2)], .int .i64 ((r : Nat) : Int)] w (AnsN w (valX r n m)) := by
 have jz : (words (natN r n.2.2)).length = 0 ∨ (words (natN r m.2.2)).length = 0 := by
  rcases kz with h | h
  ·
   left; rw [h, words_zero]; rfl
  ·
   right; rw [h, words_zero]; rfl
 have hS : St w w [] [] [] := St.start w
 refine walk_of (l := [(0, .agg #[.int .u8 (((n.1 : Nat) : Int)), .string (bsL n.2.1), .string (bsL n.2.2)]), (1, .agg #[.int .u8 (((m.1 : Nat) : Int)), .string (bsL m.2.1), .string (bsL m.2.2)]), (2, .int .i64 (((r : Nat) : Int)))]) Tryz.func28 rfl Tryz.ntmps28 rfl rfl ?_
 intro Q hret hnorm hP a hA
 refine wp_seq_k (fun K1 hK1 => ?_)
 refine wp_region_lit ?_
 refine seq_new hA hS rfl rfl rfl (fun g => .pointer (some ⟨g, 0, none⟩)) (d_box rfl rfl) rfl ?_
 intro g2 w3 hS a hA
 refine seq_new hA hS rfl rfl rfl (fun g => .pointer (some ⟨g, 0, none⟩)) (d_box rfl rfl) rfl ?_
 intro g4 w5 hS a hA
 refine seq_new (vs := [.bool false, .slice none 0 0, .slice none 0 0, .bool false, .slice none 0 0, .slice none 0 0]) (t := 26) hA hS rfl rfl rfl (fun g => .pointer (some ⟨g, 0, none⟩)) (d_alloc (z := .agg #[.bool false, .slice none 0 0, .slice none 0 0, .bool false, .slice none 0 0, .slice none 0 0]) (by kernel_rfl) rfl) rfl ?_
 intro g6 w7 hS a hA
 refine seq_do hA rfl rfl rfl (d_assign rfl) fun a hA => ?_
 refine seq_end ?_
 refine hK1 _ _ ?_
 refine wp_seq_k (fun K8 hK8 => ?_)
 refine wp_region_lit ?_
 refine seq_do hA rfl rfl rfl (d_loadS hS RxE_isS_48 rfl 2 rfl (cs := [.int .u8 (((n.1 : Nat) : Int)), .string (bsL n.2.1), .string (bsL n.2.2)]) rfl rfl) fun a hA => ?_
 refine mv hA rfl rfl rfl fun a hA => ?_
 refine seq_call hA rfl rfl rfl (enters_func  rfl rfl (fun w => by kernel_rfl)) (value_ok (n := n) hr hl1 hl2 (errN_zero h1).1 (errN_zero h1).2) ?_
 rintro _ w16 ⟨zo9, zc10, zo11, zc12, rfl, hs13, hs14, hb15⟩
 replace hS := hS.call hb15
 replace hS := hS.addR hs13.rd
 replace hS := hS.addR hs14.rd
 refine ⟨_, rfl, ?_⟩
 intro a hA
 refine mv hA rfl rfl rfl fun a hA => ?_
 refine seq_do (v := .agg #[.bool ((rb (sgn (decide (n.1 = 45)) (natN r n.2.1)))), .slice zo9 ((words (sgn (decide (n.1 = 45)) (natN r n.2.1)).natAbs).length) zc10]) hA rfl rfl rfl (d_extract (vs := [.agg #[.bool ((rb (sgn (decide (n.1 = 45)) (natN r n.2.1)))), .slice zo9 ((words (sgn (decide (n.1 = 45)) (natN r n.2.1)).natAbs).length) zc10], .slice zo11 ((words (natN r n.2.2)).length) zc12, .int .i64 0]) rfl rfl) fun a hA => ?_
 refine seq_do (v := .slice zo11 ((words (natN r n.2.2)).length) zc12) hA rfl rfl rfl (d_extract (vs := [.agg #[.bool ((rb (sgn (decide (n.1 = 45)) (natN r n.2.1)))), .slice zo9 ((words (sgn (decide (n.1 = 45)) (natN r n.2.1)).natAbs).length) zc10], .slice zo11 ((words (natN r n.2.2)).length) zc12, .int .i64 0]) rfl rfl) fun a hA => ?_
 refine seq_do (v := .int .i64 0) hA rfl rfl rfl (d_extract (vs := [.agg #[.bool ((rb (sgn (decide (n.1 = 45)) (natN r n.2.1)))), .slice zo9 ((words (sgn (decide (n.1 = 45)) (natN r n.2.1)).natAbs).length) zc10], .slice zo11 ((words (natN r n.2.2)).length) zc12, .int .i64 0]) rfl rfl) fun a hA => ?_
 refine seq_new (vs := [.bool false, .slice none 0 0]) (t := 60) hA hS rfl rfl rfl (fun g => .pointer (some ⟨g, 0, none⟩)) (d_alloc (z := .agg #[.bool false, .slice none 0 0]) (by kernel_rfl) rfl) rfl ?_
 intro g17 w18 hS a hA
 refine seq_store (us := [.bool ((rb (sgn (decide (n.1 = 45)) (natN r n.2.1)))), .slice zo9 ((words (sgn (decide (n.1 = 45)) (natN r n.2.1)).natAbs).length) zc10]) hA hS rfl rfl (sets_store rfl rfl rfl (by kernel_rfl) hS 0 rfl rfl rfl) 0 rfl rfl rfl rfl ?_
 intro w19 hS
 refine seq_do hA rfl rfl rfl (d_assign rfl) fun a hA => ?_
 refine seq_do hA rfl rfl rfl (d_assign rfl) fun a hA => ?_
 refine seq_end ?_
 refine hK8 _ _ ?_
 refine wp_seq_k (fun K20 hK20 => ?_)
 refine wp_region_lit ?_
 refine seq_do hA rfl rfl rfl (d_loadS hS RxE_isS_48 rfl 2 rfl (cs := [.int .u8 (((m.1 : Nat) : Int)), .string (bsL m.2.1), .string (bsL m.2.2)]) rfl rfl) fun a hA => ?_
 refine mv hA rfl rfl rfl fun a hA => ?_
 refine seq_call hA rfl rfl rfl (enters_func  rfl rfl (fun w => by kernel_rfl)) (value_ok (n := m) hr hk1 hk2 (errN_zero h2).1 (errN_zero h2).2) ?_
 rintro _ w28 ⟨zo21, zc22, zo23, zc24, rfl, hs25, hs26, hb27⟩
 replace hS := hS.call hb27
 replace hS := hS.addR hs25.rd
 replace hS := hS.addR hs26.rd
 refine ⟨_, rfl, ?_⟩
 intro a hA
 refine mv hA rfl rfl rfl fun a hA => ?_
 refine seq_do (v := .agg #[.bool ((rb (sgn (decide (m.1 = 45)) (natN r m.2.1)))), .slice zo21 ((words (sgn (decide (m.1 = 45)) (natN r m.2.1)).natAbs).length) zc22]) hA rfl rfl rfl (d_extract (vs := [.agg #[.bool ((rb (sgn (decide (m.1 = 45)) (natN r m.2.1)))), .slice zo21 ((words (sgn (decide (m.1 = 45)) (natN r m.2.1)).natAbs).length) zc22], .slice zo23 ((words (natN r m.2.2)).length) zc24, .int .i64 0]) rfl rfl) fun a hA => ?_
 refine seq_do (v := .slice zo23 ((words (natN r m.2.2)).length) zc24) hA rfl rfl rfl (d_extract (vs := [.agg #[.bool ((rb (sgn (decide (m.1 = 45)) (natN r m.2.1)))), .slice zo21 ((words (sgn (decide (m.1 = 45)) (natN r m.2.1)).natAbs).length) zc22], .slice zo23 ((words (natN r m.2.2)).length) zc24, .int .i64 0]) rfl rfl) fun a hA => ?_
 refine seq_do (v := .int .i64 0) hA rfl rfl rfl (d_extract (vs := [.agg #[.bool ((rb (sgn (decide (m.1 = 45)) (natN r m.2.1)))), .slice zo21 ((words (sgn (decide (m.1 = 45)) (natN r m.2.1)).natAbs).length) zc22], .slice zo23 ((words (natN r m.2.2)).length) zc24, .int .i64 0]) rfl rfl) fun a hA => ?_
 refine seq_new (vs := [.bool false, .slice none 0 0]) (t := 60) hA hS rfl rfl rfl (fun g => .pointer (some ⟨g, 0, none⟩)) (d_alloc (z := .agg #[.bool false, .slice none 0 0]) (by kernel_rfl) rfl) rfl ?_
 intro g29 w30 hS a hA
 refine seq_store (us := [.bool ((rb (sgn (decide (m.1 = 45)) (natN r m.2.1)))), .slice zo21 ((words (sgn (decide (m.1 = 45)) (natN r m.2.1)).natAbs).length) zc22]) hA hS rfl rfl (sets_store rfl rfl rfl (by kernel_rfl) hS 0 rfl rfl rfl) 0 rfl rfl rfl rfl ?_
 intro w31 hS
 refine seq_do hA rfl rfl rfl (d_assign rfl) fun a hA => ?_
 refine seq_do hA rfl rfl rfl (d_assign rfl) fun a hA => ?_
 refine seq_end ?_
 refine hK20 _ _ ?_
 refine wp_seq_k (fun K32 hK32 => ?_)
 refine wp_seq_k (fun K33 hK33 => ?_)
 refine wp_region_lit ?_
 refine mv hA rfl rfl rfl fun a hA => ?_
 refine seq_do (v := .bool false) hA rfl rfl rfl (d_bin rfl rfl (fun w => by kernel_rfl)) fun a hA => ?_
 refine mv hA rfl rfl rfl fun a hA => ?_
 refine mv hA rfl rfl rfl fun a hA => ?_
 refine seq_do (v := .bool false) hA rfl rfl rfl (d_bin rfl rfl (fun w => by kernel_rfl)) fun a hA => ?_
 refine seq_do (v := .bool false) hA rfl rfl rfl (d_pick rfl rfl rfl rfl) fun a hA => ?_
 refine seq_end ?_
 refine hK33 _ _ ?_
 refine wp_cond_false (hA.ev rfl) ?_
 refine wp_skip ?_
 refine hK32 _ _ ?_
 refine wp_seq_k (fun K34 hK34 => ?_)
 refine wp_seq_k (fun K35 hK35 => ?_)
 refine wp_region_lit ?_
 refine mv hA rfl rfl rfl fun a hA => ?_
 refine seq_do (v := .int .i64 ((((words (natN r n.2.2)).length : Nat) : Int))) hA rfl rfl rfl (d_len Tryz.underlying22 rfl) fun a hA => ?_
 rcases Bool.eq_false_or_eq_true (((((words (natN r n.2.2)).length : Nat) : Int) == 0)) with hb36 | hb36
 ·
  have hb36' := eq_of_beq hb36
  refine seq_do (v := .bool true) hA rfl rfl rfl (d_bin rfl rfl (fun w => (bin_eql w).trans (by rw [hb36]))) fun a hA => ?_
  refine mv hA rfl rfl rfl fun a hA => ?_
  refine seq_skip hA rfl rfl rfl fun a hA => ?_
  refine seq_skip hA rfl rfl rfl fun a hA => ?_
  refine seq_skip hA rfl rfl rfl fun a hA => ?_
  refine seq_do (v := .bool true) hA rfl rfl rfl (d_pick rfl rfl rfl rfl) fun a hA => ?_
  refine seq_end ?_
  refine hK35 _ _ ?_
  refine wp_cond_true (hA.ev rfl) ?_
  refine wp_seq_k (fun K37 hK37 => ?_)
  refine wp_region_lit ?_
  refine seq_do (v := .agg #[.bool false, .slice none 0 0, .slice none 0 0, .bool false, .slice none 0 0, .slice none 0 0]) hA rfl rfl rfl (d_build rfl (fun w => by kernel_rfl)) fun a hA => ?_
  refine seq_store (us := [.bool false, .slice none 0 0, .slice none 0 0, .bool false, .slice none 0 0, .slice none 0 0]) hA hS rfl rfl (sets_store rfl rfl rfl (by kernel_rfl) hS 2 rfl rfl rfl) 2 rfl rfl rfl rfl ?_
  intro w38 hS
  refine seq_do hA rfl rfl rfl (d_assign rfl) fun a hA => ?_
  refine seq_end ?_
  refine hK37 _ _ ?_
  refine wp_ret ?_
  refine hret _ _ ?_
  refine ends (v := .tuple #[.agg #[.bool false, .slice none 0 0, .slice none 0 0, .bool false, .slice none 0 0, .slice none 0 0], .int .i64 3]) hA rfl (.cons (res_cell hS RxE_isS_26 rfl 2 rfl (cs := [.bool false, .slice none 0 0, .slice none 0 0, .bool false, .slice none 0 0, .slice none 0 0]) rfl rfl) (.cons (res_tmp rfl) .nil)) rfl ?_
  rw [valX_zero h1 h2 kz]
  exact ⟨none, 0, none, 0, none, 0, none, 0, rfl, ⟨Sc.none _, Sc.none _, Sc.none _, Sc.none _⟩, hS.bel⟩
 ·
  have hb36' := ne_of_beq_false hb36
  refine seq_do (v := .bool false) hA rfl rfl rfl (d_bin rfl rfl (fun w => (bin_eql w).trans (by rw [hb36]))) fun a hA => ?_
  refine mv hA rfl rfl rfl fun a hA => ?_
  refine mv hA rfl rfl rfl fun a hA => ?_
  refine seq_do (v := .int .i64 ((((words (natN r m.2.2)).length : Nat) : Int))) hA rfl rfl rfl (d_len Tryz.underlying22 rfl) fun a hA => ?_
  refine seq_do (v := .bool true) hA rfl rfl rfl (d_bin rfl rfl (fun w => (bin_eql w).trans (by rw [show (((((words (natN r m.2.2)).length : Nat) : Int) == 0)) = true from (beq_iff_eq.2 (by omega))]))) fun a hA => ?_
  refine seq_do (v := .bool true) hA rfl rfl rfl (d_pick rfl rfl rfl rfl) fun a hA => ?_
  refine seq_end ?_
  refine hK35 _ _ ?_
  refine wp_cond_true (hA.ev rfl) ?_
  refine wp_seq_k (fun K39 hK39 => ?_)
  refine wp_region_lit ?_
  refine seq_do (v := .agg #[.bool false, .slice none 0 0, .slice none 0 0, .bool false, .slice none 0 0, .slice none 0 0]) hA rfl rfl rfl (d_build rfl (fun w => by kernel_rfl)) fun a hA => ?_
  refine seq_store (us := [.bool false, .slice none 0 0, .slice none 0 0, .bool false, .slice none 0 0, .slice none 0 0]) hA hS rfl rfl (sets_store rfl rfl rfl (by kernel_rfl) hS 2 rfl rfl rfl) 2 rfl rfl rfl rfl ?_
  intro w40 hS
  refine seq_do hA rfl rfl rfl (d_assign rfl) fun a hA => ?_
  refine seq_end ?_
  refine hK39 _ _ ?_
  refine wp_ret ?_
  refine hret _ _ ?_
  refine ends (v := .tuple #[.agg #[.bool false, .slice none 0 0, .slice none 0 0, .bool false, .slice none 0 0, .slice none 0 0], .int .i64 3]) hA rfl (.cons (res_cell hS RxE_isS_26 rfl 2 rfl (cs := [.bool false, .slice none 0 0, .slice none 0 0, .bool false, .slice none 0 0, .slice none 0 0]) rfl rfl) (.cons (res_tmp rfl) .nil)) rfl ?_
  rw [valX_zero h1 h2 kz]
  exact ⟨none, 0, none, 0, none, 0, none, 0, rfl, ⟨Sc.none _, Sc.none _, Sc.none _, Sc.none _⟩, hS.bel⟩
theorem valueX_any {w : World} {r : Nat} {n m : Nl} (hr : RadN r) (hl1 : n.2.1.length ≤ 9223372036854775807) (hl2 : n.2.2.length ≤ 9223372036854775807) (hk1 : m.2.1.length ≤ 9223372036854775807) (hk2 : m.2.2.length ≤ 9223372036854775807) : Calls Tryz.prog 28 #[.agg #[.int .u8 (((n.1 : Nat) : Int)), .string (bsL n.2.1), .string (bsL n.2.2)], .agg #[.int .u8 (((m.1 : Nat) : Int)), .string (bsL m.2.1), .string (bsL m.2.2)], .int .i64 ((r : Nat) : Int)] w (AnsN w (valX r n m)) := by
 by_cases h1 : errN r n = 0
 ·
  by_cases h2 : errN r m = 0
  ·
   by_cases kn : natN r n.2.2 = 0
   ·
    exact valueOf_z hr hl1 hl2 hk1 hk2 h1 h2 (.inl kn)
   ·
    by_cases km : natN r m.2.2 = 0
    ·
     exact valueOf_z hr hl1 hl2 hk1 hk2 h1 h2 (.inr km)
    ·
     exact valueOf_ok hr hl1 hl2 hk1 hk2 h1 h2 kn km
  ·
   exact valueOf_b2 hr hl1 hl2 hk1 hk2 h1 h2
 ·
  by_cases h2 : errN r m = 0
  ·
   exact valueOf_b1 hr hl1 hl2 hk1 hk2 h1 h2
  ·
   exact valueOf_b0 hr hl1 hl2 hk1 hk2 h1 h2
theorem nlD_len (r : Nat) (l : List UInt8) : (nlD r l).2.1.length ≤ l.length ∧ (nlD r l).2.2.length ≤ l.length := by
 have e : (unS l).length ≤ l.length := by unfold unS; split; rw [List.length_drop]; omega; exact Nat.le_refl _
 have e1 : (qD r l).length ≤ l.length := by unfold qD; rw [List.length_drop]; omega
 unfold nlD
 refine ⟨?_, ?_⟩
 ·
  show (tpD r l).length ≤ _
  unfold tpD
  rw [List.length_take]; omega
 ·
  show (boD r l).length ≤ _
  unfold boD
  split
  ·
   rw [List.length_take, List.length_drop]; omega
  ·
   simp
theorem reP_len (r : Nat) (l : List UInt8) : (reP r l).2.1.length ≤ l.length + 1 ∧ (reP r l).2.2.length ≤ l.length + 1 := by
 have h := nlD_len r l
 unfold reP
 split
 ·
  omega
 ·
  split
  ·
   exact ⟨by simp [nl0], by simp [nl0]⟩
  ·
   omega
theorem imP_len (r : Nat) (l : List UInt8) : (imP r l).2.1.length ≤ l.length + 1 ∧ (imP r l).2.2.length ≤ l.length + 1 := by
 have h := nlD_len r l
 have h1 := nlD_len r (reD r l)
 have h2 := reD_len r l
 unfold imP
 split
 ·
  exact ⟨by simp [nl0], by simp [nl0]⟩
 ·
  split
  ·
   omega
  ·
   omega
theorem readX_def {r k : Nat} {l b : List UInt8} (hr : RadN r) (hPx : prfx false false r l = (b, k)) : readX l ((r : Nat) : Int) = if okP k b = true then (if l.length ≤ 16384 then valX k (reP k b) (imP k b) else (Q6.zero, 4)) else (Q6.zero, 5) := by
 have h : radixB ((r : Nat) : Int) = true := by rcases hr with h | h | h | h <;> subst h <;> decide
 unfold readX
 rw [h, if_pos rfl, Int.toNat_natCast, hPx]
theorem radixB_rad {r : Nat} (hr : RadN r) : radixB ((r : Nat) : Int) = true := by rcases hr with h | h | h | h <;> subst h <;> decide
theorem read_rad {w : World} {r k : Nat} {l b : List UInt8} (hr : RadN r) (hl : l.length ≤ 9223372036854775807) (hPx : prfx false false r l = (b, k)) : Calls Tryz.prog 8 #[.string (bsL l), .int .i64 ((r : Nat) : Int)] w (AnsN w (readX l ((r : Nat) : Int))) := by
 have hk : RadN k := by have h := prfx_rad hr false false l; rw [hPx] at h; exact h
 have hb : b.length ≤ l.length := by have h := prfx_len false false r l; rw [hPx] at h; exact h
 have q1 := reP_len k b
 have q2 := imP_len k b
 have hS : St w w [] [] [] := St.start w
 refine walk_of (l := [(0, .string (bsL l)), (1, .int .i64 (((r : Nat) : Int)))]) Tryz.func8 rfl Tryz.ntmps8 rfl rfl ?_
 intro Q hret hnorm hP a hA
 refine wp_seq_k (fun K1 hK1 => ?_)
 refine wp_region_lit ?_
 refine seq_new (vs := [.bool false, .slice none 0 0, .slice none 0 0, .bool false, .slice none 0 0, .slice none 0 0]) (t := 26) hA hS rfl rfl rfl (fun g => .pointer (some ⟨g, 0, none⟩)) (d_alloc (z := .agg #[.bool false, .slice none 0 0, .slice none 0 0, .bool false, .slice none 0 0, .slice none 0 0]) (by kernel_rfl) rfl) rfl ?_
 intro g2 w3 hS a hA
 refine seq_do hA rfl rfl rfl (d_assign rfl) fun a hA => ?_
 refine seq_end ?_
 refine hK1 _ _ ?_
 refine wp_seq_k (fun K4 hK4 => ?_)
 refine wp_seq_k (fun K5 hK5 => ?_)
 refine wp_region_lit ?_
 refine mv hA rfl rfl rfl fun a hA => ?_
 refine seq_call hA rfl rfl rfl (enters_func  rfl rfl (fun w => by kernel_rfl)) (isRadixX_any (radixB_rad hr)) ?_
 rintro _ w7 ⟨rfl, hb6⟩
 replace hS := hS.call hb6
 refine ⟨_, rfl, ?_⟩
 intro a hA
 refine seq_do (v := .bool false) hA rfl rfl rfl (d_un rfl un_not) fun a hA => ?_
 refine seq_end ?_
 refine hK5 _ _ ?_
 refine wp_cond_false (hA.ev rfl) ?_
 refine wp_skip ?_
 refine hK4 _ _ ?_
 refine wp_seq_k (fun K8 hK8 => ?_)
 refine wp_region_lit ?_
 refine mv hA rfl rfl rfl fun a hA => ?_
 refine mv hA rfl rfl rfl fun a hA => ?_
 refine seq_call hA rfl rfl rfl (enters_func  rfl rfl (fun w => by kernel_rfl)) ((by have h := cutPrefixes_any (w := w7) (r := r) (l := l) hl; rw [hPx] at h; exact h)) ?_
 rintro _ w10 ⟨rfl, hb9⟩
 replace hS := hS.call hb9
 refine ⟨_, rfl, ?_⟩
 intro a hA
 refine mv hA rfl rfl rfl fun a hA => ?_
 refine seq_do (v := .string (bsL b)) hA rfl rfl rfl (d_extract (vs := [.string (bsL b), .int .i64 (((k : Nat) : Int))]) rfl rfl) fun a hA => ?_
 refine seq_do (v := .int .i64 (((k : Nat) : Int))) hA rfl rfl rfl (d_extract (vs := [.string (bsL b), .int .i64 (((k : Nat) : Int))]) rfl rfl) fun a hA => ?_
 refine seq_do hA rfl rfl rfl (d_assign rfl) fun a hA => ?_
 refine seq_do hA rfl rfl rfl (d_assign rfl) fun a hA => ?_
 refine seq_end ?_
 refine hK8 _ _ ?_
 refine wp_seq_k (fun K11 hK11 => ?_)
 refine wp_region_lit ?_
 refine mv hA rfl rfl rfl fun a hA => ?_
 refine mv hA rfl rfl rfl fun a hA => ?_
 refine seq_call hA rfl rfl rfl (enters_func  rfl rfl (fun w => by kernel_rfl)) (cutParts_any (l := b) hk (by omega)) ?_
 rintro _ w13 ⟨rfl, hb12⟩
 replace hS := hS.call hb12
 refine ⟨_, rfl, ?_⟩
 intro a hA
 refine mv hA rfl rfl rfl fun a hA => ?_
 refine seq_do (v := .agg #[.int .u8 ((((reP k b).1 : Nat) : Int)), .string (bsL ((reP k b).2.1)), .string (bsL ((reP k b).2.2))]) hA rfl rfl rfl (d_extract (vs := [.agg #[.int .u8 ((((reP k b).1 : Nat) : Int)), .string (bsL ((reP k b).2.1)), .string (bsL ((reP k b).2.2))], .agg #[.int .u8 ((((imP k b).1 : Nat) : Int)), .string (bsL ((imP k b).2.1)), .string (bsL ((imP k b).2.2))], .bool (okP k b)]) rfl rfl) fun a hA => ?_
 refine seq_do (v := .agg #[.int .u8 ((((imP k b).1 : Nat) : Int)), .string (bsL ((imP k b).2.1)), .string (bsL ((imP k b).2.2))]) hA rfl rfl rfl (d_extract (vs := [.agg #[.int .u8 ((((reP k b).1 : Nat) : Int)), .string (bsL ((reP k b).2.1)), .string (bsL ((reP k b).2.2))], .agg #[.int .u8 ((((imP k b).1 : Nat) : Int)), .string (bsL ((imP k b).2.1)), .string (bsL ((imP k b).2.2))], .bool (okP k b)]) rfl rfl) fun a hA => ?_
 refine seq_do (v := .bool (okP k b)) hA rfl rfl rfl (d_extract (vs := [.agg #[.int .u8 ((((reP k b).1 : Nat) : Int)), .string (bsL ((reP k b).2.1)), .string (bsL ((reP k b).2.2))], .agg #[.int .u8 ((((imP k b).1 : Nat) : Int)), .string (bsL ((imP k b).2.1)), .string (bsL ((imP k b).2.2))], .bool (okP k b)]) rfl rfl) fun a hA => ?_
 refine seq_new (vs := [.int .u8 0, .string (bsL []), .string (bsL [])]) (t := 48) hA hS rfl rfl rfl (fun g => .pointer (some ⟨g, 0, none⟩)) (d_alloc (z := .agg #[.int .u8 0, .string (bsL []), .string (bsL [])]) (by kernel_rfl) rfl) rfl ?_
 intro g14 w15 hS a hA
 refine seq_new (vs := [.int .u8 0, .string (bsL []), .string (bsL [])]) (t := 48) hA hS rfl rfl rfl (fun g => .pointer (some ⟨g, 0, none⟩)) (d_alloc (z := .agg #[.int .u8 0, .string (bsL []), .string (bsL [])]) (by kernel_rfl) rfl) rfl ?_
 intro g16 w17 hS a hA
 refine seq_store (us := [.int .u8 ((((reP k b).1 : Nat) : Int)), .string (bsL ((reP k b).2.1)), .string (bsL ((reP k b).2.2))]) hA hS rfl rfl (sets_store rfl rfl rfl (by kernel_rfl) hS 1 rfl rfl rfl) 1 rfl rfl rfl rfl ?_
 intro w18 hS
 refine seq_store (us := [.int .u8 ((((imP k b).1 : Nat) : Int)), .string (bsL ((imP k b).2.1)), .string (bsL ((imP k b).2.2))]) hA hS rfl rfl (sets_store rfl rfl rfl (by kernel_rfl) hS 0 rfl rfl rfl) 0 rfl rfl rfl rfl ?_
 intro w19 hS
 refine seq_do hA rfl rfl rfl (d_assign rfl) fun a hA => ?_
 refine seq_end ?_
 refine hK11 _ _ ?_
 refine wp_seq_k (fun K20 hK20 => ?_)
 refine wp_seq_k (fun K21 hK21 => ?_)
 refine wp_region_lit ?_
 refine mv hA rfl rfl rfl fun a hA => ?_
 refine seq_do (v := .bool (!(okP k b))) hA rfl rfl rfl (d_un rfl un_not) fun a hA => ?_
 refine seq_end ?_
 refine hK21 _ _ ?_
 refine wp_cond_split (t := !(okP k b)) (hA.ev rfl) (fun hc22 => ?_) (fun hc22 => ?_)
 ·
  refine wp_seq_k (fun K23 hK23 => ?_)
  refine wp_region_lit ?_
  refine seq_do (v := .agg #[.bool false, .slice none 0 0, .slice none 0 0, .bool false, .slice none 0 0, .slice none 0 0]) hA rfl rfl rfl (d_build rfl (fun w => by kernel_rfl)) fun a hA => ?_
  refine seq_store (us := [.bool false, .slice none 0 0, .slice none 0 0, .bool false, .slice none 0 0, .slice none 0 0]) hA hS rfl rfl (sets_store rfl rfl rfl (by kernel_rfl) hS 2 rfl rfl rfl) 2 rfl rfl rfl rfl ?_
  intro w24 hS
  refine seq_do hA rfl rfl rfl (d_assign rfl) fun a hA => ?_
  refine seq_end ?_
  refine hK23 _ _ ?_
  refine wp_ret ?_
  refine hret _ _ ?_
  refine ends (v := .tuple #[.agg #[.bool false, .slice none 0 0, .slice none 0 0, .bool false, .slice none 0 0, .slice none 0 0], .int .i64 5]) hA rfl (.cons (res_cell hS RxE_isS_26 rfl 2 rfl (cs := [.bool false, .slice none 0 0, .slice none 0 0, .bool false, .slice none 0 0, .slice none 0 0]) rfl rfl) (.cons (res_tmp rfl) .nil)) rfl ?_
  rw [readX_def hr hPx, if_neg (by simpa using hc22)]
  exact ⟨none, 0, none, 0, none, 0, none, 0, rfl, ⟨Sc.none _, Sc.none _, Sc.none _, Sc.none _⟩, hS.bel⟩
 ·
  refine wp_skip ?_
  refine hK20 _ _ ?_
  refine wp_seq_k (fun K25 hK25 => ?_)
  refine wp_seq_k (fun K26 hK26 => ?_)
  refine wp_region_lit ?_
  refine mv hA rfl rfl rfl fun a hA => ?_
  refine seq_do (v := .int .i64 (((l.length : Nat) : Int))) hA rfl rfl rfl (d_lenT Tryz.underlying9 rfl) fun a hA => ?_
  rcases Bool.eq_false_or_eq_true (decide (16384 < ((l.length : Nat) : Int))) with hb27 | hb27
  ·
   have hb27' := of_decide_eq_true hb27
   refine seq_do (v := .bool true) hA rfl rfl rfl (d_bin rfl rfl (fun w => (bin_gtr w).trans (by rw [hb27]))) fun a hA => ?_
   refine seq_end ?_
   refine hK26 _ _ ?_
   refine wp_cond_true (hA.ev rfl) ?_
   refine wp_seq_k (fun K28 hK28 => ?_)
   refine wp_region_lit ?_
   refine seq_do (v := .agg #[.bool false, .slice none 0 0, .slice none 0 0, .bool false, .slice none 0 0, .slice none 0 0]) hA rfl rfl rfl (d_build rfl (fun w => by kernel_rfl)) fun a hA => ?_
   refine seq_store (us := [.bool false, .slice none 0 0, .slice none 0 0, .bool false, .slice none 0 0, .slice none 0 0]) hA hS rfl rfl (sets_store rfl rfl rfl (by kernel_rfl) hS 2 rfl rfl rfl) 2 rfl rfl rfl rfl ?_
   intro w29 hS
   refine seq_do hA rfl rfl rfl (d_assign rfl) fun a hA => ?_
   refine seq_end ?_
   refine hK28 _ _ ?_
   refine wp_ret ?_
   refine hret _ _ ?_
   refine ends (v := .tuple #[.agg #[.bool false, .slice none 0 0, .slice none 0 0, .bool false, .slice none 0 0, .slice none 0 0], .int .i64 4]) hA rfl (.cons (res_cell hS RxE_isS_26 rfl 2 rfl (cs := [.bool false, .slice none 0 0, .slice none 0 0, .bool false, .slice none 0 0, .slice none 0 0]) rfl rfl) (.cons (res_tmp rfl) .nil)) rfl ?_
   rw [readX_def hr hPx, if_pos (by simpa using hc22), if_neg (by omega)]
   exact ⟨none, 0, none, 0, none, 0, none, 0, rfl, ⟨Sc.none _, Sc.none _, Sc.none _, Sc.none _⟩, hS.bel⟩
  ·
   have hb27' := of_decide_eq_false hb27
   refine seq_do (v := .bool false) hA rfl rfl rfl (d_bin rfl rfl (fun w => (bin_gtr w).trans (by rw [hb27]))) fun a hA => ?_
   refine seq_end ?_
   refine hK26 _ _ ?_
   refine wp_cond_false (hA.ev rfl) ?_
   refine wp_skip ?_
   refine hK25 _ _ ?_
   refine wp_seq_k (fun K30 hK30 => ?_)
   refine wp_region_lit ?_
   refine seq_do hA rfl rfl rfl (d_loadS hS RxE_isS_48 rfl 1 rfl (cs := [.int .u8 ((((reP k b).1 : Nat) : Int)), .string (bsL ((reP k b).2.1)), .string (bsL ((reP k b).2.2))]) rfl rfl) fun a hA => ?_
   refine seq_do hA rfl rfl rfl (d_loadS hS RxE_isS_48 rfl 0 rfl (cs := [.int .u8 ((((imP k b).1 : Nat) : Int)), .string (bsL ((imP k b).2.1)), .string (bsL ((imP k b).2.2))]) rfl rfl) fun a hA => ?_
   refine mv hA rfl rfl rfl fun a hA => ?_
   refine seq_call hA rfl rfl rfl (enters_func  rfl rfl (fun w => by kernel_rfl)) (valueX_any hk (by omega) (by omega) (by omega) (by omega)) ?_
   rintro _ w34 ⟨p31_1, p31_c1, p31_2, p31_c2, p31_3, p31_c3, p31_4, p31_c4, rfl, hn32, hb33⟩
   replace hS := hS.call hb33
   replace hS := hS.addR hn32.s1.rd
   replace hS := hS.addR hn32.s2.rd
   replace hS := hS.addR hn32.s3.rd
   replace hS := hS.addR hn32.s4.rd
   refine ⟨_, rfl, ?_⟩
   intro a hA
   refine seq_do (v := .agg #[.bool ((valX k (reP k b) (imP k b)).1.b1), .slice p31_1 (((valX k (reP k b) (imP k b)).1.t1).length) p31_c1, .slice p31_2 (((valX k (reP k b) (imP k b)).1.q1).length) p31_c2, .bool ((valX k (reP k b) (imP k b)).1.b2), .slice p31_3 (((valX k (reP k b) (imP k b)).1.t2).length) p31_c3, .slice p31_4 (((valX k (reP k b) (imP k b)).1.q2).length) p31_c4]) hA rfl rfl rfl (d_extract (vs := [.agg #[.bool ((valX k (reP k b) (imP k b)).1.b1), .slice p31_1 (((valX k (reP k b) (imP k b)).1.t1).length) p31_c1, .slice p31_2 (((valX k (reP k b) (imP k b)).1.q1).length) p31_c2, .bool ((valX k (reP k b) (imP k b)).1.b2), .slice p31_3 (((valX k (reP k b) (imP k b)).1.t2).length) p31_c3, .slice p31_4 (((valX k (reP k b) (imP k b)).1.q2).length) p31_c4], .int .i64 ((valX k (reP k b) (imP k b)).2)]) rfl rfl) fun a hA => ?_
   refine seq_do (v := .int .i64 ((valX k (reP k b) (imP k b)).2)) hA rfl rfl rfl (d_extract (vs := [.agg #[.bool ((valX k (reP k b) (imP k b)).1.b1), .slice p31_1 (((valX k (reP k b) (imP k b)).1.t1).length) p31_c1, .slice p31_2 (((valX k (reP k b) (imP k b)).1.q1).length) p31_c2, .bool ((valX k (reP k b) (imP k b)).1.b2), .slice p31_3 (((valX k (reP k b) (imP k b)).1.t2).length) p31_c3, .slice p31_4 (((valX k (reP k b) (imP k b)).1.q2).length) p31_c4], .int .i64 ((valX k (reP k b) (imP k b)).2)]) rfl rfl) fun a hA => ?_
   refine seq_store (us := [.bool ((valX k (reP k b) (imP k b)).1.b1), .slice p31_1 (((valX k (reP k b) (imP k b)).1.t1).length) p31_c1, .slice p31_2 (((valX k (reP k b) (imP k b)).1.q1).length) p31_c2, .bool ((valX k (reP k b) (imP k b)).1.b2), .slice p31_3 (((valX k (reP k b) (imP k b)).1.t2).length) p31_c3, .slice p31_4 (((valX k (reP k b) (imP k b)).1.q2).length) p31_c4]) hA hS rfl rfl (sets_store rfl rfl rfl (by kernel_rfl) hS 2 rfl rfl rfl) 2 rfl rfl rfl rfl ?_
   intro w35 hS
   refine seq_do hA rfl rfl rfl (d_assign rfl) fun a hA => ?_
   refine seq_end ?_
   refine hK30 _ _ ?_
   refine wp_ret ?_
   refine hret _ _ ?_
   refine ends (v := .tuple #[.agg #[.bool ((valX k (reP k b) (imP k b)).1.b1), .slice p31_1 (((valX k (reP k b) (imP k b)).1.t1).length) p31_c1, .slice p31_2 (((valX k (reP k b) (imP k b)).1.q1).length) p31_c2, .bool ((valX k (reP k b) (imP k b)).1.b2), .slice p31_3 (((valX k (reP k b) (imP k b)).1.t2).length) p31_c3, .slice p31_4 (((valX k (reP k b) (imP k b)).1.q2).length) p31_c4], .int .i64 ((valX k (reP k b) (imP k b)).2)]) hA rfl (.cons (res_cell hS RxE_isS_26 rfl 2 rfl (cs := [.bool ((valX k (reP k b) (imP k b)).1.b1), .slice p31_1 (((valX k (reP k b) (imP k b)).1.t1).length) p31_c1, .slice p31_2 (((valX k (reP k b) (imP k b)).1.q1).length) p31_c2, .bool ((valX k (reP k b) (imP k b)).1.b2), .slice p31_3 (((valX k (reP k b) (imP k b)).1.t2).length) p31_c3, .slice p31_4 (((valX k (reP k b) (imP k b)).1.q2).length) p31_c4]) rfl rfl) (.cons (res_tmp rfl) .nil)) rfl ?_
   rw [readX_def hr hPx, if_pos (by simpa using hc22), if_pos (by omega)]
   exact ⟨p31_1, p31_c1, p31_2, p31_c2, p31_3, p31_c3, p31_4, p31_c4, rfl, ⟨⟨(hS.rd 3 rfl), hn32.s1.nil, hn32.s1.cap⟩, ⟨(hS.rd 2 rfl), hn32.s2.nil, hn32.s2.cap⟩, ⟨(hS.rd 1 rfl), hn32.s3.nil, hn32.s3.cap⟩, ⟨(hS.rd 0 rfl), hn32.s4.nil, hn32.s4.cap⟩⟩, hS.bel⟩
theorem read_norad {w : World} {n : Int} {l : List UInt8} (hn : radixB n = false) : Calls Tryz.prog 8 #[.string (bsL l), .int .i64 n] w (AnsN w (readX l n)) := by
 have hS : St w w [] [] [] := St.start w
 refine walk_of (l := [(0, .string (bsL l)), (1, .int .i64 n)]) Tryz.func8 rfl Tryz.ntmps8 rfl rfl ?_
 intro Q hret hnorm hP a hA
 refine wp_seq_k (fun K1 hK1 => ?_)
 refine wp_region_lit ?_
 refine seq_new (vs := [.bool false, .slice none 0 0, .slice none 0 0, .bool false, .slice none 0 0, .slice none 0 0]) (t := 26) hA hS rfl rfl rfl (fun g => .pointer (some ⟨g, 0, none⟩)) (d_alloc (z := .agg #[.bool false, .slice none 0 0, .slice none 0 0, .bool false, .slice none 0 0, .slice none 0 0]) (by kernel_rfl) rfl) rfl ?_
 intro g2 w3 hS a hA
 refine seq_do hA rfl rfl rfl (d_assign rfl) fun a hA => ?_
 refine seq_end ?_
 refine hK1 _ _ ?_
 refine wp_seq_k (fun K4 hK4 => ?_)
 refine wp_seq_k (fun K5 hK5 => ?_)
 refine wp_region_lit ?_
 refine mv hA rfl rfl rfl fun a hA => ?_
 refine seq_call hA rfl rfl rfl (enters_func  rfl rfl (fun w => by kernel_rfl)) (isRadixX_any hn) ?_
 rintro _ w7 ⟨rfl, hb6⟩
 replace hS := hS.call hb6
 refine ⟨_, rfl, ?_⟩
 intro a hA
 refine seq_do (v := .bool true) hA rfl rfl rfl (d_un rfl un_not) fun a hA => ?_
 refine seq_end ?_
 refine hK5 _ _ ?_
 refine wp_cond_true (hA.ev rfl) ?_
 refine wp_seq_k (fun K8 hK8 => ?_)
 refine wp_region_lit ?_
 refine seq_do (v := .agg #[.bool false, .slice none 0 0, .slice none 0 0, .bool false, .slice none 0 0, .slice none 0 0]) hA rfl rfl rfl (d_build rfl (fun w => by kernel_rfl)) fun a hA => ?_
 refine seq_store (us := [.bool false, .slice none 0 0, .slice none 0 0, .bool false, .slice none 0 0, .slice none 0 0]) hA hS rfl rfl (sets_store rfl rfl rfl (by kernel_rfl) hS 0 rfl rfl rfl) 0 rfl rfl rfl rfl ?_
 intro w9 hS
 refine seq_do hA rfl rfl rfl (d_assign rfl) fun a hA => ?_
 refine seq_end ?_
 refine hK8 _ _ ?_
 refine wp_ret ?_
 refine hret _ _ ?_
 refine ends (v := .tuple #[.agg #[.bool false, .slice none 0 0, .slice none 0 0, .bool false, .slice none 0 0, .slice none 0 0], .int .i64 1]) hA rfl (.cons (res_cell hS RxE_isS_26 rfl 0 rfl (cs := [.bool false, .slice none 0 0, .slice none 0 0, .bool false, .slice none 0 0, .slice none 0 0]) rfl rfl) (.cons (res_tmp rfl) .nil)) rfl ?_
 rw [show readX l n = (Q6.zero, 1) from by unfold readX; rw [hn]; rfl]
 exact ⟨none, 0, none, 0, none, 0, none, 0, rfl, ⟨Sc.none _, Sc.none _, Sc.none _, Sc.none _⟩, hS.bel⟩
theorem readP_any {w : World} {n : Int} {l : List UInt8} (hl : l.length ≤ 9223372036854775807) : Calls Tryz.prog 8 #[.string (bsL l), .int .i64 n] w (AnsN w (readX l n)) := by
 cases h : radixB n with
 | false => exact read_norad h
 | true =>
  obtain ⟨r, rfl, hr⟩ := radixB_iff h
  exact read_rad (b := (prfx false false r l).1) (k := (prfx false false r l).2) hr hl rfl
end Go.Proofs.YtjmhdebfpnjceaaGreat
namespace Go.Proofs.YtjmhdebfpnjceaaGreat
open Go.RowKit
set_option linter.unusedVariables false
set_option linter.unusedSimpArgs false
set_option maxRecDepth 100000
theorem RxF_isS_24 : IsS Tryz.prog 24 3 := ⟨⟨_, Tryz.underlying24⟩, by kernel_rfl⟩
theorem unit_at (l : List UInt8) (p : Nat) : unitB (l.drop p) = (decide (p + 1 = l.length) && (decide (btL l p = 105) || decide (btL l p = 73))) := by
 have e : btL l p = btL (l.drop p) 0 := by rw [btL_drop]; rfl
 rw [e]
 by_cases h : p + 1 = l.length
 ·
  have h1 : (l.drop p).length = 1 := by rw [List.length_drop]; omega
  rw [decide_eq_true h, Bool.true_and]
  obtain ⟨b, hb⟩ := List.length_eq_one_iff.1 h1
  rw [hb]
  unfold unitB
  congr 1
  ·
   apply decide_eq_decide.2
   constructor
   ·
    intro k; rw [k]; rfl
   ·
    intro k; rw [show b = 105 from UInt8.toNat_inj.1 k]
  ·
   apply decide_eq_decide.2
   constructor
   ·
    intro k; rw [k]; rfl
   ·
    intro k; rw [show b = 73 from UInt8.toNat_inj.1 k]
 ·
  rw [decide_eq_false h, Bool.false_and]
  cases hu : unitB (l.drop p) with
  | false => rfl
  | true =>
   exfalso
   have : (l.drop p).length = 1 := by rcases unit_form hu with k | k <;> rw [k] <;> rfl
   rw [List.length_drop] at this
   omega
theorem stop_at {r p n : Nat} {l : List UInt8} (hr : r ≤ 36) (hi : n ≤ nDg r (l.drop p)) (h : ¬ p + n < l.length ∨ ¬ dvn 99 (btL l (p + n)) < r) : n = nDg r (l.drop p) := by
 refine nDg_stop hi ?_
 rcases h with h | h
 ·
  left; rw [List.length_drop]; omega
 ·
  right; rw [btL_drop, (dvn_lt hr).1]; exact h
theorem more_at {r p n : Nat} {l : List UInt8} (hr : r ≤ 36) (hi : n ≤ nDg r (l.drop p)) (h1 : p + n < l.length) (h2 : dvn 99 (btL l (p + n)) < r) : n + 1 ≤ nDg r (l.drop p) := nDg_more hi (by rw [List.length_drop]; omega) (by rw [btL_drop, (dvn_lt hr).1]; exact h2)
theorem rread_ok {w : World} {r : Nat} {t : List UInt8} (hr : RadN r) (ht : t.length ≠ 0) (hl : t.length ≤ 9223372036854775807) (h : rdE r t = 0) : Calls Tryz.prog 73 #[.string (bsL t), .int .i64 ((r : Nat) : Int)] w (Ans w (words (natN r t), 0)) := by
 have c := rread_any (bsL t) ((r : Nat) : Int) w (by rw [bsL_size]; exact hl) (by omega) (by rcases hr with h | h | h | h <;> subst h <;> decide)
 have e := rdN_ok h
 have ht' : ¬ t = [] := fun k => ht (by rw [k]; rfl)
 unfold rdN at e
 rw [if_neg ht'] at e
 rw [e.1] at c
 exact c
theorem rread_bad {w : World} {r : Nat} {t : List UInt8} (hr : RadN r) (ht : t.length ≠ 0) (hl : t.length ≤ 9223372036854775807) (h : rdE r t ≠ 0) : Calls Tryz.prog 73 #[.string (bsL t), .int .i64 ((r : Nat) : Int)] w (Ans w ([], rdE r t)) := by
 have c := rread_any (bsL t) ((r : Nat) : Int) w (by rw [bsL_size]; exact hl) (by omega) (by rcases hr with h | h | h | h <;> subst h <;> decide)
 have e := rdN_bad h
 have ht' : ¬ t = [] := fun k => ht (by rw [k]; rfl)
 unfold rdN at e
 rw [if_neg ht'] at e
 rw [e] at c
 exact c
section
variable {P : Program} {l : List (Nat × Value)} {dst : Option Tmp} {ty t : TypeId} {pos : String} {after : Array Edge} {guard : Option (Nat × Bool)} {w : World} {x y z : Operand} {s : List UInt8}
theorem d_slN {p n : Nat} {k m : Int} (ht : P.underlying t = some .string) (hx : ev l x = some (.string (bsL s))) (hy : ev l y = some (.int .i64 k)) (hz : ev l z = some (.int .i64 m)) (hk : k = ((p : Nat) : Int)) (hm : m = ((p + n : Nat) : Int)) (hq : p + n ≤ s.length) : Does P l ⟨dst, .slice t x (some y) (some z) none, ty, pos, after, guard⟩ w (.string (bsL ((s.drop p).take n))) w := by
 have e : (s.drop p).take n = (s.take (p + n)).drop p := by rw [List.drop_take]; congr 1; omega
 rw [e]
 exact d_slAt ht hx hy hz hk hm (by omega) hq
end
theorem rsignedX_any {w : World} {l : List UInt8} {p : Nat} (hl : l.length ≤ 9223372036854775807) {c : Bool} (hc : signB (l.drop p) = c) : Calls Tryz.prog 49 #[.string (bsL l), .int .i64 ((p : Nat) : Int)] w fun e w' => e = .returned (.bool c) ∧ Below w.heap.size w w' := by
 have hS : St w w [] [] [] := St.start w
 refine walk_of (l := [(0, .string (bsL l)), (1, .int .i64 (((p : Nat) : Int)))]) Tryz.func49 rfl Tryz.ntmps49 rfl rfl ?_
 intro Q hret hnorm hP a hA
 refine wp_seq_k (fun K1 hK1 => ?_)
 refine wp_region_lit ?_
 refine seq_do hA rfl rfl rfl (d_assign rfl) fun a hA => ?_
 refine seq_end ?_
 refine hK1 _ _ ?_
 refine wp_seq_k (fun K2 hK2 => ?_)
 refine wp_region_lit ?_
 refine mv hA rfl rfl rfl fun a hA => ?_
 refine mv hA rfl rfl rfl fun a hA => ?_
 refine seq_do (v := .int .i64 (((l.length : Nat) : Int))) hA rfl rfl rfl (d_lenT Tryz.underlying9 rfl) fun a hA => ?_
 rcases Bool.eq_false_or_eq_true (decide (((p : Nat) : Int) < ((l.length : Nat) : Int))) with hb3 | hb3
 ·
  have hb3' := of_decide_eq_true hb3
  refine seq_do (v := .bool true) hA rfl rfl rfl (d_bin rfl rfl (fun w => (bin_lss w).trans (by rw [hb3]))) fun a hA => ?_
  refine mv hA rfl rfl rfl fun a hA => ?_
  refine mv hA rfl rfl rfl fun a hA => ?_
  refine mv hA rfl rfl rfl fun a hA => ?_
  refine seq_do (v := .int .u8 (((btL l p : Nat) : Int))) hA rfl rfl rfl (d_ixT (s := l) (i := p) Tryz.underlying9 rfl rfl (by first | rfl | omega) (by first | omega | (simp only [List.length_drop, List.length_take]; omega))) fun a hA => ?_
  rcases Bool.eq_false_or_eq_true ((((btL l p : Nat) : Int) == 43)) with hb4 | hb4
  ·
   have hb4' := eq_of_beq hb4
   refine seq_do (v := .bool true) hA rfl rfl rfl (d_bin rfl rfl (fun w => (bin_eql w).trans (by rw [hb4]))) fun a hA => ?_
   refine mv hA rfl rfl rfl fun a hA => ?_
   refine seq_skip hA rfl rfl rfl fun a hA => ?_
   refine seq_skip hA rfl rfl rfl fun a hA => ?_
   refine seq_skip hA rfl rfl rfl fun a hA => ?_
   refine seq_skip hA rfl rfl rfl fun a hA => ?_
   refine seq_do (v := .bool true) hA rfl rfl rfl (d_pick rfl rfl rfl rfl) fun a hA => ?_
   refine seq_do (v := .bool true) hA rfl rfl rfl (d_pick rfl rfl rfl rfl) fun a hA => ?_
   refine seq_do hA rfl rfl rfl (d_assign rfl) fun a hA => ?_
   refine seq_end ?_
   refine hK2 _ _ ?_
   refine wp_ret ?_
   refine hret _ _ ?_
   refine ends (v := .bool true) hA rfl (.cons (res_tmp rfl) .nil) rfl ?_
   subst hc
   exact ⟨by rw [show signB (l.drop p) = true from by unfold signB; rw [btL_drop, Nat.add_zero]; first | (rw [btL_out (by omega)]; rfl) | (simp; omega)], hS.bel⟩
  ·
   have hb4' := ne_of_beq_false hb4
   refine seq_do (v := .bool false) hA rfl rfl rfl (d_bin rfl rfl (fun w => (bin_eql w).trans (by rw [hb4]))) fun a hA => ?_
   refine mv hA rfl rfl rfl fun a hA => ?_
   refine mv hA rfl rfl rfl fun a hA => ?_
   refine mv hA rfl rfl rfl fun a hA => ?_
   refine seq_do (v := .int .u8 (((btL l p : Nat) : Int))) hA rfl rfl rfl (d_ixT (s := l) (i := p) Tryz.underlying9 rfl rfl (by first | rfl | omega) (by first | omega | (simp only [List.length_drop, List.length_take]; omega))) fun a hA => ?_
   rcases Bool.eq_false_or_eq_true ((((btL l p : Nat) : Int) == 45)) with hb5 | hb5
   ·
    have hb5' := eq_of_beq hb5
    refine seq_do (v := .bool true) hA rfl rfl rfl (d_bin rfl rfl (fun w => (bin_eql w).trans (by rw [hb5]))) fun a hA => ?_
    refine seq_do (v := .bool true) hA rfl rfl rfl (d_pick rfl rfl rfl rfl) fun a hA => ?_
    refine seq_do (v := .bool true) hA rfl rfl rfl (d_pick rfl rfl rfl rfl) fun a hA => ?_
    refine seq_do hA rfl rfl rfl (d_assign rfl) fun a hA => ?_
    refine seq_end ?_
    refine hK2 _ _ ?_
    refine wp_ret ?_
    refine hret _ _ ?_
    refine ends (v := .bool true) hA rfl (.cons (res_tmp rfl) .nil) rfl ?_
    subst hc
    exact ⟨by rw [show signB (l.drop p) = true from by unfold signB; rw [btL_drop, Nat.add_zero]; first | (rw [btL_out (by omega)]; rfl) | (simp; omega)], hS.bel⟩
   ·
    have hb5' := ne_of_beq_false hb5
    refine seq_do (v := .bool false) hA rfl rfl rfl (d_bin rfl rfl (fun w => (bin_eql w).trans (by rw [hb5]))) fun a hA => ?_
    refine seq_do (v := .bool false) hA rfl rfl rfl (d_pick rfl rfl rfl rfl) fun a hA => ?_
    refine seq_do (v := .bool false) hA rfl rfl rfl (d_pick rfl rfl rfl rfl) fun a hA => ?_
    refine seq_do hA rfl rfl rfl (d_assign rfl) fun a hA => ?_
    refine seq_end ?_
    refine hK2 _ _ ?_
    refine wp_ret ?_
    refine hret _ _ ?_
    refine ends (v := .bool false) hA rfl (.cons (res_tmp rfl) .nil) rfl ?_
    subst hc
    exact ⟨by rw [show signB (l.drop p) = false from by unfold signB; rw [btL_drop, Nat.add_zero]; first | (rw [btL_out (by omega)]; rfl) | (simp; omega)], hS.bel⟩
 ·
  have hb3' := of_decide_eq_false hb3
  refine seq_do (v := .bool false) hA rfl rfl rfl (d_bin rfl rfl (fun w => (bin_lss w).trans (by rw [hb3]))) fun a hA => ?_
  refine mv hA rfl rfl rfl fun a hA => ?_
  refine seq_skip hA rfl rfl rfl fun a hA => ?_
  refine seq_skip hA rfl rfl rfl fun a hA => ?_
  refine seq_skip hA rfl rfl rfl fun a hA => ?_
  refine seq_skip hA rfl rfl rfl fun a hA => ?_
  refine seq_skip hA rfl rfl rfl fun a hA => ?_
  refine seq_skipU hA rfl rfl rfl fun a hA => ?_
  refine seq_skipU hA rfl rfl rfl fun a hA => ?_
  refine seq_skipU hA rfl rfl rfl fun a hA => ?_
  refine seq_skipU hA rfl rfl rfl fun a hA => ?_
  refine seq_skip hA rfl rfl rfl fun a hA => ?_
  refine seq_do (v := .bool false) hA rfl rfl rfl (d_pick rfl rfl rfl rfl) fun a hA => ?_
  refine seq_do hA rfl rfl rfl (d_assign rfl) fun a hA => ?_
  refine seq_end ?_
  refine hK2 _ _ ?_
  refine wp_ret ?_
  refine hret _ _ ?_
  refine ends (v := .bool false) hA rfl (.cons (res_tmp rfl) .nil) rfl ?_
  subst hc
  exact ⟨by rw [show signB (l.drop p) = false from by unfold signB; rw [btL_drop, Nat.add_zero]; first | (rw [btL_out (by omega)]; rfl) | (simp; omega)], hS.bel⟩
theorem rendsX_any {w : World} {l : List UInt8} {p : Nat} (hl : l.length ≤ 9223372036854775807) {c : Bool} (hc : unitB (l.drop p) = c) : Calls Tryz.prog 50 #[.string (bsL l), .int .i64 ((p : Nat) : Int)] w fun e w' => e = .returned (.bool c) ∧ Below w.heap.size w w' := by
 have hS : St w w [] [] [] := St.start w
 refine walk_of (l := [(0, .string (bsL l)), (1, .int .i64 (((p : Nat) : Int)))]) Tryz.func50 rfl Tryz.ntmps50 rfl rfl ?_
 intro Q hret hnorm hP a hA
 refine wp_seq_k (fun K1 hK1 => ?_)
 refine wp_region_lit ?_
 refine seq_do hA rfl rfl rfl (d_assign rfl) fun a hA => ?_
 refine seq_end ?_
 refine hK1 _ _ ?_
 refine wp_seq_k (fun K2 hK2 => ?_)
 refine wp_region_lit ?_
 refine mv hA rfl rfl rfl fun a hA => ?_
 refine mv hA rfl rfl rfl fun a hA => ?_
 refine seq_do (v := .int .i64 (((l.length : Nat) : Int))) hA rfl rfl rfl (d_lenT Tryz.underlying9 rfl) fun a hA => ?_
 refine seq_do (v := .int .i64 ((((l.length : Nat) : Int) - 1))) hA rfl rfl rfl (d_bin rfl rfl (bin_sub (i64In (by omega) (by omega)))) fun a hA => ?_
 rcases Bool.eq_false_or_eq_true ((((p : Nat) : Int) == (((l.length : Nat) : Int) - 1))) with hb3 | hb3
 ·
  have hb3' := eq_of_beq hb3
  refine seq_do (v := .bool true) hA rfl rfl rfl (d_bin rfl rfl (fun w => (bin_eql w).trans (by rw [hb3]))) fun a hA => ?_
  refine mv hA rfl rfl rfl fun a hA => ?_
  refine mv hA rfl rfl rfl fun a hA => ?_
  refine mv hA rfl rfl rfl fun a hA => ?_
  refine seq_do (v := .int .u8 (((btL l p : Nat) : Int))) hA rfl rfl rfl (d_ixT (s := l) (i := p) Tryz.underlying9 rfl rfl (by first | rfl | omega) (by first | omega | (simp only [List.length_drop, List.length_take]; omega))) fun a hA => ?_
  rcases Bool.eq_false_or_eq_true ((((btL l p : Nat) : Int) == 105)) with hb4 | hb4
  ·
   have hb4' := eq_of_beq hb4
   refine seq_do (v := .bool true) hA rfl rfl rfl (d_bin rfl rfl (fun w => (bin_eql w).trans (by rw [hb4]))) fun a hA => ?_
   refine mv hA rfl rfl rfl fun a hA => ?_
   refine seq_skip hA rfl rfl rfl fun a hA => ?_
   refine seq_skip hA rfl rfl rfl fun a hA => ?_
   refine seq_skip hA rfl rfl rfl fun a hA => ?_
   refine seq_skip hA rfl rfl rfl fun a hA => ?_
   refine seq_do (v := .bool true) hA rfl rfl rfl (d_pick rfl rfl rfl rfl) fun a hA => ?_
   refine seq_do (v := .bool true) hA rfl rfl rfl (d_pick rfl rfl rfl rfl) fun a hA => ?_
   refine seq_do hA rfl rfl rfl (d_assign rfl) fun a hA => ?_
   refine seq_end ?_
   refine hK2 _ _ ?_
   refine wp_ret ?_
   refine hret _ _ ?_
   refine ends (v := .bool true) hA rfl (.cons (res_tmp rfl) .nil) rfl ?_
   subst hc
   exact ⟨by rw [show unitB (l.drop p) = true from by rw [unit_at]; simp; omega], hS.bel⟩
  ·
   have hb4' := ne_of_beq_false hb4
   refine seq_do (v := .bool false) hA rfl rfl rfl (d_bin rfl rfl (fun w => (bin_eql w).trans (by rw [hb4]))) fun a hA => ?_
   refine mv hA rfl rfl rfl fun a hA => ?_
   refine mv hA rfl rfl rfl fun a hA => ?_
   refine mv hA rfl rfl rfl fun a hA => ?_
   refine seq_do (v := .int .u8 (((btL l p : Nat) : Int))) hA rfl rfl rfl (d_ixT (s := l) (i := p) Tryz.underlying9 rfl rfl (by first | rfl | omega) (by first | omega | (simp only [List.length_drop, List.length_take]; omega))) fun a hA => ?_
   rcases Bool.eq_false_or_eq_true ((((btL l p : Nat) : Int) == 73)) with hb5 | hb5
   ·
    have hb5' := eq_of_beq hb5
    refine seq_do (v := .bool true) hA rfl rfl rfl (d_bin rfl rfl (fun w => (bin_eql w).trans (by rw [hb5]))) fun a hA => ?_
    refine seq_do (v := .bool true) hA rfl rfl rfl (d_pick rfl rfl rfl rfl) fun a hA => ?_
    refine seq_do (v := .bool true) hA rfl rfl rfl (d_pick rfl rfl rfl rfl) fun a hA => ?_
    refine seq_do hA rfl rfl rfl (d_assign rfl) fun a hA => ?_
    refine seq_end ?_
    refine hK2 _ _ ?_
    refine wp_ret ?_
    refine hret _ _ ?_
    refine ends (v := .bool true) hA rfl (.cons (res_tmp rfl) .nil) rfl ?_
    subst hc
    exact ⟨by rw [show unitB (l.drop p) = true from by rw [unit_at]; simp; omega], hS.bel⟩
   ·
    have hb5' := ne_of_beq_false hb5
    refine seq_do (v := .bool false) hA rfl rfl rfl (d_bin rfl rfl (fun w => (bin_eql w).trans (by rw [hb5]))) fun a hA => ?_
    refine seq_do (v := .bool false) hA rfl rfl rfl (d_pick rfl rfl rfl rfl) fun a hA => ?_
    refine seq_do (v := .bool false) hA rfl rfl rfl (d_pick rfl rfl rfl rfl) fun a hA => ?_
    refine seq_do hA rfl rfl rfl (d_assign rfl) fun a hA => ?_
    refine seq_end ?_
    refine hK2 _ _ ?_
    refine wp_ret ?_
    refine hret _ _ ?_
    refine ends (v := .bool false) hA rfl (.cons (res_tmp rfl) .nil) rfl ?_
    subst hc
    exact ⟨by rw [show unitB (l.drop p) = false from by rw [unit_at]; simp; omega], hS.bel⟩
 ·
  have hb3' := ne_of_beq_false hb3
  refine seq_do (v := .bool false) hA rfl rfl rfl (d_bin rfl rfl (fun w => (bin_eql w).trans (by rw [hb3]))) fun a hA => ?_
  refine mv hA rfl rfl rfl fun a hA => ?_
  refine seq_skip hA rfl rfl rfl fun a hA => ?_
  refine seq_skip hA rfl rfl rfl fun a hA => ?_
  refine seq_skip hA rfl rfl rfl fun a hA => ?_
  refine seq_skip hA rfl rfl rfl fun a hA => ?_
  refine seq_skip hA rfl rfl rfl fun a hA => ?_
  refine seq_skipU hA rfl rfl rfl fun a hA => ?_
  refine seq_skipU hA rfl rfl rfl fun a hA => ?_
  refine seq_skipU hA rfl rfl rfl fun a hA => ?_
  refine seq_skipU hA rfl rfl rfl fun a hA => ?_
  refine seq_skip hA rfl rfl rfl fun a hA => ?_
  refine seq_do (v := .bool false) hA rfl rfl rfl (d_pick rfl rfl rfl rfl) fun a hA => ?_
  refine seq_do hA rfl rfl rfl (d_assign rfl) fun a hA => ?_
  refine seq_end ?_
  refine hK2 _ _ ?_
  refine wp_ret ?_
  refine hret _ _ ?_
  refine ends (v := .bool false) hA rfl (.cons (res_tmp rfl) .nil) rfl ?_
  subst hc
  exact ⟨by rw [show unitB (l.drop p) = false from by rw [unit_at]; simp; omega], hS.bel⟩
theorem rworse_any {w : World} {x f : Int} : Calls Tryz.prog 53 #[.int .i64 x, .int .i64 f] w fun e w' => e = .returned (.int .i64 (worseE x f)) ∧ Below w.heap.size w w' := by
 have hS : St w w [] [] [] := St.start w
 refine walk_of (l := [(0, .int .i64 x), (1, .int .i64 f)]) Tryz.func53 rfl Tryz.ntmps53 rfl rfl ?_
 intro Q hret hnorm hP a hA
 refine wp_seq_k (fun K1 hK1 => ?_)
 refine wp_region_lit ?_
 refine seq_do hA rfl rfl rfl (d_assign rfl) fun a hA => ?_
 refine seq_end ?_
 refine hK1 _ _ ?_
 refine wp_seq_k (fun K2 hK2 => ?_)
 refine wp_seq_k (fun K3 hK3 => ?_)
 refine wp_region_lit ?_
 refine mv hA rfl rfl rfl fun a hA => ?_
 rcases Bool.eq_false_or_eq_true ((x == 4)) with hb4 | hb4
 ·
  have hb4' := eq_of_beq hb4
  refine seq_do (v := .bool true) hA rfl rfl rfl (d_bin rfl rfl (fun w => (bin_eql w).trans (by rw [hb4]))) fun a hA => ?_
  refine mv hA rfl rfl rfl fun a hA => ?_
  refine seq_skip hA rfl rfl rfl fun a hA => ?_
  refine seq_skip hA rfl rfl rfl fun a hA => ?_
  refine seq_do (v := .bool true) hA rfl rfl rfl (d_pick rfl rfl rfl rfl) fun a hA => ?_
  refine seq_end ?_
  refine hK3 _ _ ?_
  refine wp_cond_true (hA.ev rfl) ?_
  refine wp_seq_k (fun K5 hK5 => ?_)
  refine wp_region_lit ?_
  refine seq_do hA rfl rfl rfl (d_assign rfl) fun a hA => ?_
  refine seq_end ?_
  refine hK5 _ _ ?_
  refine wp_ret ?_
  refine hret _ _ ?_
  refine ends (v := .int .i64 4) hA rfl (.cons (res_tmp rfl) .nil) rfl ?_
  exact ⟨by unfold worseE; repeat (first | rfl | rw [if_pos (by omega)] | rw [if_neg (by omega)]), hS.bel⟩
 ·
  have hb4' := ne_of_beq_false hb4
  refine seq_do (v := .bool false) hA rfl rfl rfl (d_bin rfl rfl (fun w => (bin_eql w).trans (by rw [hb4]))) fun a hA => ?_
  refine mv hA rfl rfl rfl fun a hA => ?_
  refine mv hA rfl rfl rfl fun a hA => ?_
  rcases Bool.eq_false_or_eq_true ((f == 4)) with hb6 | hb6
  ·
   have hb6' := eq_of_beq hb6
   refine seq_do (v := .bool true) hA rfl rfl rfl (d_bin rfl rfl (fun w => (bin_eql w).trans (by rw [hb6]))) fun a hA => ?_
   refine seq_do (v := .bool true) hA rfl rfl rfl (d_pick rfl rfl rfl rfl) fun a hA => ?_
   refine seq_end ?_
   refine hK3 _ _ ?_
   refine wp_cond_true (hA.ev rfl) ?_
   refine wp_seq_k (fun K7 hK7 => ?_)
   refine wp_region_lit ?_
   refine seq_do hA rfl rfl rfl (d_assign rfl) fun a hA => ?_
   refine seq_end ?_
   refine hK7 _ _ ?_
   refine wp_ret ?_
   refine hret _ _ ?_
   refine ends (v := .int .i64 4) hA rfl (.cons (res_tmp rfl) .nil) rfl ?_
   exact ⟨by unfold worseE; repeat (first | rfl | rw [if_pos (by omega)] | rw [if_neg (by omega)]), hS.bel⟩
  ·
   have hb6' := ne_of_beq_false hb6
   refine seq_do (v := .bool false) hA rfl rfl rfl (d_bin rfl rfl (fun w => (bin_eql w).trans (by rw [hb6]))) fun a hA => ?_
   refine seq_do (v := .bool false) hA rfl rfl rfl (d_pick rfl rfl rfl rfl) fun a hA => ?_
   refine seq_end ?_
   refine hK3 _ _ ?_
   refine wp_cond_false (hA.ev rfl) ?_
   refine wp_skip ?_
   refine hK2 _ _ ?_
   refine wp_seq_k (fun K8 hK8 => ?_)
   refine wp_seq_k (fun K9 hK9 => ?_)
   refine wp_region_lit ?_
   refine mv hA rfl rfl rfl fun a hA => ?_
   rcases Bool.eq_false_or_eq_true ((x != 0)) with hb10 | hb10
   ·
    have hb10' := bne_iff_ne.1 hb10
    refine seq_do (v := .bool true) hA rfl rfl rfl (d_bin rfl rfl (fun w => (bin_neq w).trans (by rw [hb10]))) fun a hA => ?_
    refine seq_end ?_
    refine hK9 _ _ ?_
    refine wp_cond_true (hA.ev rfl) ?_
    refine wp_seq_k (fun K11 hK11 => ?_)
    refine wp_region_lit ?_
    refine mv hA rfl rfl rfl fun a hA => ?_
    refine seq_do hA rfl rfl rfl (d_assign rfl) fun a hA => ?_
    refine seq_end ?_
    refine hK11 _ _ ?_
    refine wp_ret ?_
    refine hret _ _ ?_
    refine ends (v := .int .i64 x) hA rfl (.cons (res_tmp rfl) .nil) rfl ?_
    exact ⟨by unfold worseE; repeat (first | rfl | rw [if_pos (by omega)] | rw [if_neg (by omega)]), hS.bel⟩
   ·
    have hb10' := bne_eq_false_iff_eq.1 hb10
    refine seq_do (v := .bool false) hA rfl rfl rfl (d_bin rfl rfl (fun w => (bin_neq w).trans (by rw [hb10]))) fun a hA => ?_
    refine seq_end ?_
    refine hK9 _ _ ?_
    refine wp_cond_false (hA.ev rfl) ?_
    refine wp_skip ?_
    refine hK8 _ _ ?_
    refine wp_seq_k (fun K12 hK12 => ?_)
    refine wp_region_lit ?_
    refine mv hA rfl rfl rfl fun a hA => ?_
    refine seq_do hA rfl rfl rfl (d_assign rfl) fun a hA => ?_
    refine seq_end ?_
    refine hK12 _ _ ?_
    refine wp_ret ?_
    refine hret _ _ ?_
    refine ends (v := .int .i64 f) hA rfl (.cons (res_tmp rfl) .nil) rfl ?_
    exact ⟨by unfold worseE; repeat (first | rfl | rw [if_pos (by omega)] | rw [if_neg (by omega)]), hS.bel⟩
theorem zero_b : rb (0 : Rat).num = false := rfl
theorem zero_t : words (0 : Rat).num.natAbs = [] := words_zero
theorem zero_q : words (0 : Rat).den = [1] := words_one
theorem one_b : rb (1 : Rat).num = false := rfl
theorem one_t : words (1 : Rat).num.natAbs = [1] := words_one
theorem one_q : words (1 : Rat).den = [1] := words_one
theorem neg_b : rb (-1 : Rat).num = true := rfl
theorem neg_t : words (-1 : Rat).num.natAbs = [1] := words_one
theorem neg_q : words (-1 : Rat).den = [1] := words_one
theorem rzeroFR_any (w : World) : Calls Tryz.prog 51 #[] w (AnsFR w 0) := by
 unfold AnsFR
 rw [zero_b, zero_t, zero_q]
 exact rzero_any w
theorem rrat_wd {w : World} (b : Bool) {x d : Nat} {a1 a2 : Option Addr} {ac1 ac2 : Nat} (ha1 : Sc w a1 ac1 (words x)) (ha2 : Sc w a2 ac2 (words d)) (hx : (words x).length ≤ 512) (hd : (words d).length ≤ 512) (hd0 : (words d).length ≠ 0) : Calls Tryz.prog 74 #[.bool b, .slice a1 (words x).length ac1, .slice a2 (words d).length ac2] w (AnsFR w (mkRat (sgn b x) d)) :=
 rratR_any b ha1 ha2 (by omega) (by omega) (fun k => hd0 (by rw [k, words_zero]; rfl)) rfl
theorem rrat_w1 {w : World} (b : Bool) {x : Nat} {a1 a2 : Option Addr} {ac1 ac2 : Nat} (ha1 : Sc w a1 ac1 (words x)) (ha2 : Sc w a2 ac2 [1]) (hx : (words x).length ≤ 512) : Calls Tryz.prog 74 #[.bool b, .slice a1 (words x).length ac1, .slice a2 1 ac2] w (AnsFR w (mkRat (sgn b x) 1)) := by
 have h := rrat_wd b (d := 1) ha1 (a2 := a2) (ac2 := ac2) (words_one.symm ▸ ha2) hx (by rw [words_one]; decide) (by rw [words_one]; decide)
 have e : (words 1).length = 1 := by rw [words_one]; rfl
 rw [e] at h
 exact h
theorem rrat_01 {w : World} (b : Bool) {a1 a2 : Option Addr} {ac1 ac2 : Nat} (ha1 : Sc w a1 ac1 []) (ha2 : Sc w a2 ac2 [1]) : Calls Tryz.prog 74 #[.bool b, .slice a1 0 ac1, .slice a2 1 ac2] w (AnsFR w 0) := by
 have h := rrat_w1 b (x := 0) (a1 := a1) (ac1 := ac1) (words_zero.symm ▸ ha1) ha2 (by rw [words_zero]; decide)
 have e : (words 0).length = 0 := by rw [words_zero]; rfl
 rw [e, show mkRat (sgn b 0) 1 = 0 from by cases b <;> rfl] at h
 exact h
def pcE (r p : Nat) (m : List UInt8) : Int := if pieceOk r m = true then ((p + pieceLen r m : Nat) : Int) else -1
def pcV (r : Nat) (neg : Bool) (m : List UInt8) : Rat := if pieceOk r m = true then pieceVal r neg m else 0
def pcX (r : Nat) (m : List UInt8) : Int := if pieceOk r m = true then pieceErr r m else 0
set_option maxHeartbeats 2000000 in
theorem rpiece_any {w : World} {r p : Nat} {l : List UInt8} (hr : RadN r) (neg : Bool) (hl : l.length ≤ 9223372036854775807) (hp : p ≤ l.length) : Calls Tryz.prog 52 #[.string (bsL l), .int .i64 ((p : Nat) : Int), .int .i64 ((r : Nat) : Int), .bool neg] w fun e w' => ∃ o1 c1 o2 c2, e = .returned (.tuple #[.int .i64 (pcE r p (l.drop p)), .agg #[.bool (rb (pcV r neg (l.drop p)).num), .slice o1 (words (pcV r neg (l.drop p)).num.natAbs).length c1, .slice o2 (words (pcV r neg (l.drop p)).den).length c2], .int .i64 (pcX r (l.drop p))]) ∧ Sc w' o1 c1 (words (pcV r neg (l.drop p)).num.natAbs) ∧ Sc w' o2 c2 (words (pcV r neg (l.drop p)).den) ∧ Below w.heap.size w w' := by
 have hr36 : r ≤ 36 := by rcases hr with h | h | h | h <;> omega
 have hS : St w w [] [] [] := St.start w
 refine walk_of (l := [(0, .string (bsL l)), (1, .int .i64 (((p : Nat) : Int))), (2, .int .i64 (((r : Nat) : Int))), (3, .bool neg)]) Tryz.func52 rfl Tryz.ntmps52 rfl rfl ?_
 intro Q hret hnorm hP a hA
 refine wp_seq_k (fun K1 hK1 => ?_)
 refine wp_region_lit ?_
 refine seq_do hA rfl rfl rfl (d_assign rfl) fun a hA => ?_
 refine seq_new (vs := [.bool false, .slice none 0 0, .slice none 0 0]) (t := 24) hA hS rfl rfl rfl (fun g => .pointer (some ⟨g, 0, none⟩)) (d_alloc (z := .agg #[.bool false, .slice none 0 0, .slice none 0 0]) (by kernel_rfl) rfl) rfl ?_
 intro g2 w3 hS a hA
 refine seq_do hA rfl rfl rfl (d_assign rfl) fun a hA => ?_
 refine seq_end ?_
 refine hK1 _ _ ?_
 refine wp_seq_k (fun K4 hK4 => ?_)
 refine wp_region_lit ?_
 refine mv hA rfl rfl rfl fun a hA => ?_
 refine seq_do hA rfl rfl rfl (d_assign rfl) fun a hA => ?_
 refine seq_end ?_
 refine hK4 _ _ ?_
 refine wp_seq_k (fun K5 hK5 => ?_)
 refine wp_block ?_
 refine wp_loop_n (fun m a w1 => ∃ (n : Nat), m = l.length - n ∧ (n ≤ nDg r (l.drop p)) ∧ Sl a 111 [(0, .string (bsL l)), (1, .int .i64 (((p : Nat) : Int))), (2, .int .i64 (((r : Nat) : Int))), (3, .bool neg), (8, .int .i64 0), (9, .pointer (some ⟨g2, 0, none⟩)), (10, .int .i64 0), (11, .int .i64 (((p + n : Nat) : Int))), (17, .int .i64 (((p : Nat) : Int)))] ∧ St w w1 [(g2, [.bool false, .slice none 0 0, .slice none 0 0])] [] []) _ ⟨0, rfl, Nat.zero_le _, hA.keep _ ⟨rfl, rfl, rfl, rfl, rfl, rfl, rfl, rfl, rfl, trivial⟩, hS⟩ ?_
 clear hS hA
 rintro m a w6 ⟨n, rfl, hinv8, hA, hS⟩ K7 hK7
 have hq := nDg_le r (l.drop p)
 rw [List.length_drop] at hq
 refine wp_seq_k (fun K9 hK9 => ?_)
 refine wp_seq_k (fun K10 hK10 => ?_)
 refine wp_region_lit ?_
 refine mv hA rfl rfl rfl fun a hA => ?_
 refine mv hA rfl rfl rfl fun a hA => ?_
 refine seq_do (v := .int .i64 (((l.length : Nat) : Int))) hA rfl rfl rfl (d_lenT Tryz.underlying9 rfl) fun a hA => ?_
 rcases Bool.eq_false_or_eq_true (decide (((p + n : Nat) : Int) < ((l.length : Nat) : Int))) with hb11 | hb11
 ·
  have hb11' := of_decide_eq_true hb11
  refine seq_do (v := .bool true) hA rfl rfl rfl (d_bin rfl rfl (fun w => (bin_lss w).trans (by rw [hb11]))) fun a hA => ?_
  refine mv hA rfl rfl rfl fun a hA => ?_
  refine mv hA rfl rfl rfl fun a hA => ?_
  refine mv hA rfl rfl rfl fun a hA => ?_
  refine seq_do (v := .int .u8 (((btL l (p + n) : Nat) : Int))) hA rfl rfl rfl (d_ixT (s := l) (i := p + n) Tryz.underlying9 rfl rfl (by first | rfl | omega) (by first | omega | (simp only [List.length_drop, List.length_take]; omega))) fun a hA => ?_
  refine seq_call hA rfl rfl rfl (enters_func  rfl rfl (fun w => by kernel_rfl)) (value_any _ _ (btL_lt _ _)) ?_
  rintro _ w13 ⟨rfl, hb12⟩
  replace hb12 := below_eq hb12
  replace hS := hS.call hb12
  refine ⟨_, rfl, ?_⟩
  intro a hA
  refine mv hA rfl rfl rfl fun a hA => ?_
  refine seq_do (v := .int .u32 (((r : Nat) : Int))) hA rfl rfl rfl (d_convert rfl (ar_conv Tryz.underlying3 Tryz.underlying40 (in_u32 (by omega) (by omega)))) fun a hA => ?_
  rcases Bool.eq_false_or_eq_true (decide (((dvn 99 (btL l (p + n)) : Nat) : Int) < ((r : Nat) : Int))) with hb14 | hb14
  ·
   have hb14' := of_decide_eq_true hb14
   refine seq_do (v := .bool true) hA rfl rfl rfl (d_bin rfl rfl (fun w => (bin_lss w).trans (by rw [hb14]))) fun a hA => ?_
   refine seq_do (v := .bool true) hA rfl rfl rfl (d_pick rfl rfl rfl rfl) fun a hA => ?_
   refine seq_end ?_
   refine hK10 _ _ ?_
   refine wp_cond_true (hA.ev rfl) ?_
   refine wp_skip ?_
   refine hK9 _ _ ?_
   refine wp_block ?_
   refine wp_region_lit ?_
   refine mv hA rfl rfl rfl fun a hA => ?_
   refine seq_do (v := .int .i64 (((p + n + 1 : Nat) : Int))) hA rfl rfl rfl (d_bin rfl rfl (fun w => (bin_add (i64In (by omega) (by omega)) w).trans (by rw [show (((p + n : Nat) : Int) + 1 : Int) = ((p + n + 1 : Nat) : Int) from by omega]))) fun a hA => ?_
   refine seq_do hA rfl rfl rfl (d_assign rfl) fun a hA => ?_
   refine seq_end ?_
   refine hK7 _ _ _ (by omega) ⟨n + 1, rfl, more_at hr36 hinv8 (by omega) (by omega), hA.keep _ ⟨rfl, rfl, rfl, rfl, rfl, rfl, rfl, rfl, rfl, trivial⟩, hS⟩
  ·
   have hb14' := of_decide_eq_false hb14
   refine seq_do (v := .bool false) hA rfl rfl rfl (d_bin rfl rfl (fun w => (bin_lss w).trans (by rw [hb14]))) fun a hA => ?_
   refine seq_do (v := .bool false) hA rfl rfl rfl (d_pick rfl rfl rfl rfl) fun a hA => ?_
   refine seq_end ?_
   refine hK10 _ _ ?_
   refine wp_cond_false (hA.ev rfl) ?_
   refine wp_exit ?_
   refine hK5 _ _ ?_
   refine wp_seq_k (fun K15 hK15 => ?_)
   refine wp_seq_k (fun K16 hK16 => ?_)
   refine wp_region_lit ?_
   refine mv hA rfl rfl rfl fun a hA => ?_
   refine mv hA rfl rfl rfl fun a hA => ?_
   rcases Bool.eq_false_or_eq_true ((((p + n : Nat) : Int) == ((p : Nat) : Int))) with hb17 | hb17
   ·
    have hb17' := eq_of_beq hb17
    refine seq_do (v := .bool true) hA rfl rfl rfl (d_bin rfl rfl (fun w => (bin_eql w).trans (by rw [hb17]))) fun a hA => ?_
    refine seq_end ?_
    refine hK16 _ _ ?_
    refine wp_cond_true (hA.ev rfl) ?_
    refine wp_seq_k (fun K18 hK18 => ?_)
    refine wp_region_lit ?_
    refine seq_call hA rfl rfl rfl (enters_func  rfl rfl (fun w => by kernel_rfl)) (rzeroFR_any _) ?_
    rintro _ w23 ⟨f19_1, f19_c1, f19_2, f19_c2, rfl, hs20, hs21, hb22⟩
    replace hS := hS.call hb22
    replace hS := hS.addR hs20.rd
    replace hS := hS.addR hs21.rd
    refine ⟨_, rfl, ?_⟩
    intro a hA
    refine seq_do hA rfl rfl rfl (d_assign rfl) fun a hA => ?_
    refine seq_store (us := [.bool ((rb (0 : Rat).num)), .slice f19_1 ((words (0 : Rat).num.natAbs).length) f19_c1, .slice f19_2 ((words (0 : Rat).den).length) f19_c2]) hA hS rfl rfl (sets_store rfl rfl rfl (by kernel_rfl) hS 0 rfl rfl rfl) 0 rfl rfl rfl rfl ?_
    intro w24 hS
    refine seq_do hA rfl rfl rfl (d_assign rfl) fun a hA => ?_
    refine seq_end ?_
    refine hK18 _ _ ?_
    refine wp_ret ?_
    refine hret _ _ ?_
    refine ends (v := .tuple #[.int .i64 (-1), .agg #[.bool ((rb (0 : Rat).num)), .slice f19_1 ((words (0 : Rat).num.natAbs).length) f19_c1, .slice f19_2 ((words (0 : Rat).den).length) f19_c2], .int .i64 0]) hA rfl (.cons (res_tmp rfl) (.cons (res_cell hS RxF_isS_24 rfl 0 rfl (cs := [.bool ((rb (0 : Rat).num)), .slice f19_1 ((words (0 : Rat).num.natAbs).length) f19_c1, .slice f19_2 ((words (0 : Rat).den).length) f19_c2]) rfl rfl) (.cons (res_tmp rfl) .nil))) rfl ?_
    have e9 : n = nDg r (l.drop p) := stop_at hr36 hinv8 (by omega)
    have eQ : pQ r (l.drop p) = l.drop (p + n) := by unfold pQ; rw [← e9, List.drop_drop]
    have eT : pT r (l.drop p) = (l.drop p).take n := by unfold pT; rw [← e9]
    have eS0 : btL (pQ r (l.drop p)) 0 = btL l (p + n) := by rw [eQ, btL_drop]; rfl
    have eK : pieceOk r (l.drop p) = false := by unfold pieceOk; rw [← e9, show n = 0 from by omega]; rfl
    unfold pcE pcV pcX
    rw [eK]
    exact ⟨_, _, _, _, rfl, ⟨(hS.rd 1 rfl), hs20.nil, hs20.cap⟩, ⟨(hS.rd 0 rfl), hs21.nil, hs21.cap⟩, hS.bel⟩
   ·
    have hb17' := ne_of_beq_false hb17
    refine seq_do (v := .bool false) hA rfl rfl rfl (d_bin rfl rfl (fun w => (bin_eql w).trans (by rw [hb17]))) fun a hA => ?_
    refine seq_end ?_
    refine hK16 _ _ ?_
    refine wp_cond_false (hA.ev rfl) ?_
    refine wp_skip ?_
    refine hK15 _ _ ?_
    refine wp_seq_k (fun K25 hK25 => ?_)
    refine wp_region_lit ?_
    refine mv hA rfl rfl rfl fun a hA => ?_
    refine mv hA rfl rfl rfl fun a hA => ?_
    refine mv hA rfl rfl rfl fun a hA => ?_
    refine seq_do (v := .string (bsL ((l.drop p).take n))) hA rfl rfl rfl (d_slN (p := p) (n := n) (s := l) Tryz.underlying9 rfl rfl rfl (by first | rfl | omega) (by first | rfl | omega) (by first | omega | (simp only [List.length_drop, List.length_take]; omega))) fun a hA => ?_
    refine mv hA rfl rfl rfl fun a hA => ?_
    rcases Bool.eq_false_or_eq_true (decide (rdE r ((l.drop p).take n) = 0)) with hb26 | hb26
    ·
     have hb26' := of_decide_eq_true hb26
     refine seq_call hA rfl rfl rfl (enters_func  rfl rfl (fun w => by kernel_rfl)) (rread_ok (t := (l.drop p).take n) hr (by rw [List.length_take, List.length_drop]; omega) (by rw [List.length_take, List.length_drop]; omega) (of_decide_eq_true hb26)) ?_
     rintro _ w31 ⟨ro27, rc28, rfl, ho29, hb30⟩
     replace hS := hS.call hb30
     replace hS := hS.addR ho29.rd
     refine ⟨_, rfl, ?_⟩
     intro a hA
     refine mv hA rfl rfl rfl fun a hA => ?_
     refine seq_do (v := .slice ro27 ((words (natN r ((l.drop p).take n))).length) rc28) hA rfl rfl rfl (d_extract (vs := [.slice ro27 ((words (natN r ((l.drop p).take n))).length) rc28, .int .i64 0]) rfl rfl) fun a hA => ?_
     refine seq_do (v := .int .i64 0) hA rfl rfl rfl (d_extract (vs := [.slice ro27 ((words (natN r ((l.drop p).take n))).length) rc28, .int .i64 0]) rfl rfl) fun a hA => ?_
     refine seq_do hA rfl rfl rfl (d_assign rfl) fun a hA => ?_
     refine seq_do hA rfl rfl rfl (d_assign rfl) fun a hA => ?_
     refine seq_end ?_
     refine hK25 _ _ ?_
     refine wp_seq_k (fun K32 hK32 => ?_)
     refine wp_seq_k (fun K33 hK33 => ?_)
     refine wp_region_lit ?_
     refine mv hA rfl rfl rfl fun a hA => ?_
     refine mv hA rfl rfl rfl fun a hA => ?_
     refine seq_do (v := .int .i64 (((l.length : Nat) : Int))) hA rfl rfl rfl (d_lenT Tryz.underlying9 rfl) fun a hA => ?_
     refine seq_do (v := .bool false) hA rfl rfl rfl (d_bin rfl rfl (fun w => (bin_eql w).trans (by rw [show ((((p + n : Nat) : Int) == ((l.length : Nat) : Int))) = false from (beq_eq_false_iff_ne.2 (by omega))]))) fun a hA => ?_
     refine mv hA rfl rfl rfl fun a hA => ?_
     refine mv hA rfl rfl rfl fun a hA => ?_
     refine mv hA rfl rfl rfl fun a hA => ?_
     refine seq_do (v := .int .u8 (((btL l (p + n) : Nat) : Int))) hA rfl rfl rfl (d_ixT (s := l) (i := p + n) Tryz.underlying9 rfl rfl (by first | rfl | omega) (by first | omega | (simp only [List.length_drop, List.length_take]; omega))) fun a hA => ?_
     rcases Bool.eq_false_or_eq_true ((((btL l (p + n) : Nat) : Int) != 47)) with hb34 | hb34
     ·
      have hb34' := bne_iff_ne.1 hb34
      refine seq_do (v := .bool true) hA rfl rfl rfl (d_bin rfl rfl (fun w => (bin_neq w).trans (by rw [hb34]))) fun a hA => ?_
      refine seq_do (v := .bool true) hA rfl rfl rfl (d_pick rfl rfl rfl rfl) fun a hA => ?_
      refine seq_end ?_
      refine hK33 _ _ ?_
      refine wp_cond_true (hA.ev rfl) ?_
      refine wp_seq_k (fun K35 hK35 => ?_)
      refine wp_region_lit ?_
      refine mv hA rfl rfl rfl fun a hA => ?_
      refine mv hA rfl rfl rfl fun a hA => ?_
      refine mv hA rfl rfl rfl fun a hA => ?_
      refine seq_newU (us := [1]) (t := 40) (m := 1) hA hS rfl rfl rfl (d_buildSlice rfl (by kernel_rfl)) (by simp [Dig]) ?_
      intro g36 w37 hS a hA
      refine seq_call hA rfl rfl rfl (enters_func  rfl rfl (fun w => by kernel_rfl)) (rrat_w1 neg ⟨(hS.rd 1 rfl), ho29.nocap, ho29.caps⟩ ⟨(hS.rd 0 rfl), (fun h => by cases h), (Nat.le_refl _)⟩ (rdN_ok (of_decide_eq_true hb26)).2) ?_
      rintro _ w42 ⟨f38_1, f38_c1, f38_2, f38_c2, rfl, hs39, hs40, hb41⟩
      replace hS := hS.call hb41
      replace hS := hS.addR hs39.rd
      replace hS := hS.addR hs40.rd
      refine ⟨_, rfl, ?_⟩
      intro a hA
      refine mv hA rfl rfl rfl fun a hA => ?_
      refine seq_do hA rfl rfl rfl (d_assign rfl) fun a hA => ?_
      refine seq_store (us := [.bool ((rb (mkRat (sgn neg (natN r ((l.drop p).take n))) 1).num)), .slice f38_1 ((words (mkRat (sgn neg (natN r ((l.drop p).take n))) 1).num.natAbs).length) f38_c1, .slice f38_2 ((words (mkRat (sgn neg (natN r ((l.drop p).take n))) 1).den).length) f38_c2]) hA hS rfl rfl (sets_store rfl rfl rfl (by kernel_rfl) hS 0 rfl rfl rfl) 0 rfl rfl rfl rfl ?_
      intro w43 hS
      refine seq_do hA rfl rfl rfl (d_assign rfl) fun a hA => ?_
      refine seq_end ?_
      refine hK35 _ _ ?_
      refine wp_ret ?_
      refine hret _ _ ?_
      refine ends (v := .tuple #[.int .i64 (((p + n : Nat) : Int)), .agg #[.bool ((rb (mkRat (sgn neg (natN r ((l.drop p).take n))) 1).num)), .slice f38_1 ((words (mkRat (sgn neg (natN r ((l.drop p).take n))) 1).num.natAbs).length) f38_c1, .slice f38_2 ((words (mkRat (sgn neg (natN r ((l.drop p).take n))) 1).den).length) f38_c2], .int .i64 0]) hA rfl (.cons (res_tmp rfl) (.cons (res_cell hS RxF_isS_24 rfl 0 rfl (cs := [.bool ((rb (mkRat (sgn neg (natN r ((l.drop p).take n))) 1).num)), .slice f38_1 ((words (mkRat (sgn neg (natN r ((l.drop p).take n))) 1).num.natAbs).length) f38_c1, .slice f38_2 ((words (mkRat (sgn neg (natN r ((l.drop p).take n))) 1).den).length) f38_c2]) rfl rfl) (.cons (res_tmp rfl) .nil))) rfl ?_
      have e9 : n = nDg r (l.drop p) := stop_at hr36 hinv8 (by omega)
      have eQ : pQ r (l.drop p) = l.drop (p + n) := by unfold pQ; rw [← e9, List.drop_drop]
      have eT : pT r (l.drop p) = (l.drop p).take n := by unfold pT; rw [← e9]
      have eS0 : btL (pQ r (l.drop p)) 0 = btL l (p + n) := by rw [eQ, btL_drop]; rfl
      have eS : pS r (l.drop p) = false := by unfold pS; rw [eS0]; apply decide_eq_false; first | omega | (rw [btL_out (by omega)]; decide)
      have eK : pieceOk r (l.drop p) = true := by unfold pieceOk; rw [eS, ← e9, decide_eq_true (show n ≠ 0 from by omega)]; rfl
      have eL : p + pieceLen r (l.drop p) = p + n := by unfold pieceLen; rw [eS, ← e9]; rfl
      have eX : pieceErr r (l.drop p) = 0 := by unfold pieceErr; rw [eS, eT]; first | rfl | exact hb26'
      have eV : pieceVal r neg (l.drop p) = (mkRat (sgn neg (natN r ((l.drop p).take n))) 1) := by unfold pieceVal; rw [eX, if_pos rfl, eS, eT]; rfl
      unfold pcE pcV pcX
      rw [if_pos eK, if_pos eK, if_pos eK, eL, eV, eX]
      exact ⟨_, _, _, _, rfl, ⟨(hS.rd 1 rfl), hs39.nil, hs39.cap⟩, ⟨(hS.rd 0 rfl), hs40.nil, hs40.cap⟩, hS.bel⟩
     ·
      have hb34' := bne_eq_false_iff_eq.1 hb34
      refine seq_do (v := .bool false) hA rfl rfl rfl (d_bin rfl rfl (fun w => (bin_neq w).trans (by rw [hb34]))) fun a hA => ?_
      refine seq_do (v := .bool false) hA rfl rfl rfl (d_pick rfl rfl rfl rfl) fun a hA => ?_
      refine seq_end ?_
      refine hK33 _ _ ?_
      refine wp_cond_false (hA.ev rfl) ?_
      refine wp_skip ?_
      refine hK32 _ _ ?_
      refine wp_seq_k (fun K44 hK44 => ?_)
      refine wp_region_lit ?_
      refine mv hA rfl rfl rfl fun a hA => ?_
      refine seq_do (v := .int .i64 (((p + n + 1 : Nat) : Int))) hA rfl rfl rfl (d_bin rfl rfl (fun w => (bin_add (i64In (by omega) (by omega)) w).trans (by rw [show (((p + n : Nat) : Int) + 1 : Int) = ((p + n + 1 : Nat) : Int) from by omega]))) fun a hA => ?_
      refine seq_do hA rfl rfl rfl (d_assign rfl) fun a hA => ?_
      refine seq_end ?_
      refine hK44 _ _ ?_
      refine wp_seq_k (fun K45 hK45 => ?_)
      refine wp_region_lit ?_
      refine mv hA rfl rfl rfl fun a hA => ?_
      refine seq_do hA rfl rfl rfl (d_assign rfl) fun a hA => ?_
      refine seq_end ?_
      refine hK45 _ _ ?_
      refine wp_seq_k (fun K46 hK46 => ?_)
      refine wp_block ?_
      refine wp_loop_n (fun m a w1 => ∃ (kk : Nat), m = l.length - kk ∧ (kk ≤ nDg r (l.drop (p + n + 1))) ∧ Sl a 111 [(0, .string (bsL l)), (1, .int .i64 (((p : Nat) : Int))), (2, .int .i64 (((r : Nat) : Int))), (3, .bool neg), (8, .int .i64 0), (9, .pointer (some ⟨g2, 0, none⟩)), (10, .int .i64 0), (11, .int .i64 (((p + n + 1 + kk : Nat) : Int))), (12, .slice ro27 ((words (natN r ((l.drop p).take n))).length) rc28), (13, .int .i64 0), (14, .int .i64 (((p + n + 1 : Nat) : Int))), (17, .int .i64 (((p : Nat) : Int))), (18, .int .i64 (((p + n : Nat) : Int))), (19, .string (bsL l)), (20, .int .i64 (((l.length : Nat) : Int))), (21, .bool true), (22, .bool true), (23, .string (bsL l)), (24, .int .i64 (((p + n : Nat) : Int))), (25, .int .u8 (((btL l (p + n) : Nat) : Int))), (26, .int .u32 (((dvn 99 (btL l (p + n)) : Nat) : Int))), (27, .int .i64 (((r : Nat) : Int))), (28, .int .u32 (((r : Nat) : Int))), (29, .bool false), (30, .bool false), (33, .int .i64 (((p + n : Nat) : Int))), (34, .int .i64 (((p : Nat) : Int))), (35, .bool false), (37, .tuple #[.slice ro27 ((words (natN r ((l.drop p).take n))).length) rc28, .int .i64 0]), (38, .string (bsL l)), (39, .int .i64 (((p : Nat) : Int))), (40, .int .i64 (((p + n : Nat) : Int))), (41, .string (bsL ((l.drop p).take n))), (42, .int .i64 (((r : Nat) : Int))), (43, .tuple #[.slice ro27 ((words (natN r ((l.drop p).take n))).length) rc28, .int .i64 0]), (44, .slice ro27 ((words (natN r ((l.drop p).take n))).length) rc28), (45, .int .i64 0), (46, .int .i64 (((p + n : Nat) : Int))), (47, .string (bsL l)), (48, .int .i64 (((l.length : Nat) : Int))), (49, .bool false), (50, .bool false), (51, .string (bsL l)), (52, .int .i64 (((p + n : Nat) : Int))), (53, .int .u8 (((btL l (p + n) : Nat) : Int))), (54, .bool false), (55, .bool false), (62, .int .i64 (((p + n : Nat) : Int))), (63, .int .i64 (((p + n + 1 : Nat) : Int))), (64, .int .i64 (((p + n + 1 : Nat) : Int)))] ∧ St w w1 [(g2, [.bool false, .slice none 0 0, .slice none 0 0])] [(ro27, words (natN r ((l.drop p).take n)))] []) _ ⟨0, rfl, Nat.zero_le _, hA.keep _ ⟨rfl, rfl, rfl, rfl, rfl, rfl, rfl, rfl, rfl, rfl, rfl, rfl, rfl, rfl, rfl, rfl, rfl, rfl, rfl, rfl, rfl, rfl, rfl, rfl, rfl, rfl, rfl, rfl, rfl, rfl, rfl, rfl, rfl, rfl, rfl, rfl, rfl, rfl, rfl, rfl, rfl, rfl, rfl, rfl, rfl, rfl, rfl, rfl, rfl, rfl, trivial⟩, hS⟩ ?_
      clear hS hA
      rintro m a w47 ⟨kk, rfl, hinv49, hA, hS⟩ K48 hK48
      have hq2 := nDg_le r (l.drop (p + n + 1))
      rw [List.length_drop] at hq2
      refine wp_seq_k (fun K50 hK50 => ?_)
      refine wp_seq_k (fun K51 hK51 => ?_)
      refine wp_region_lit ?_
      refine mv hA rfl rfl rfl fun a hA => ?_
      refine mv hA rfl rfl rfl fun a hA => ?_
      refine seq_do (v := .int .i64 (((l.length : Nat) : Int))) hA rfl rfl rfl (d_lenT Tryz.underlying9 rfl) fun a hA => ?_
      rcases Bool.eq_false_or_eq_true (decide (((p + n + 1 + kk : Nat) : Int) < ((l.length : Nat) : Int))) with hb52 | hb52
      ·
       have hb52' := of_decide_eq_true hb52
       refine seq_do (v := .bool true) hA rfl rfl rfl (d_bin rfl rfl (fun w => (bin_lss w).trans (by rw [hb52]))) fun a hA => ?_
       refine mv hA rfl rfl rfl fun a hA => ?_
       refine mv hA rfl rfl rfl fun a hA => ?_
       refine mv hA rfl rfl rfl fun a hA => ?_
       refine seq_do (v := .int .u8 (((btL l (p + n + 1 + kk) : Nat) : Int))) hA rfl rfl rfl (d_ixT (s := l) (i := p + n + 1 + kk) Tryz.underlying9 rfl rfl (by first | rfl | omega) (by first | omega | (simp only [List.length_drop, List.length_take]; omega))) fun a hA => ?_
       refine seq_call hA rfl rfl rfl (enters_func  rfl rfl (fun w => by kernel_rfl)) (value_any _ _ (btL_lt _ _)) ?_
       rintro _ w54 ⟨rfl, hb53⟩
       replace hb53 := below_eq hb53
       replace hS := hS.call hb53
       refine ⟨_, rfl, ?_⟩
       intro a hA
       refine mv hA rfl rfl rfl fun a hA => ?_
       refine seq_do (v := .int .u32 (((r : Nat) : Int))) hA rfl rfl rfl (d_convert rfl (ar_conv Tryz.underlying3 Tryz.underlying40 (in_u32 (by omega) (by omega)))) fun a hA => ?_
       rcases Bool.eq_false_or_eq_true (decide (((dvn 99 (btL l (p + n + 1 + kk)) : Nat) : Int) < ((r : Nat) : Int))) with hb55 | hb55
       ·
        have hb55' := of_decide_eq_true hb55
        refine seq_do (v := .bool true) hA rfl rfl rfl (d_bin rfl rfl (fun w => (bin_lss w).trans (by rw [hb55]))) fun a hA => ?_
        refine seq_do (v := .bool true) hA rfl rfl rfl (d_pick rfl rfl rfl rfl) fun a hA => ?_
        refine seq_end ?_
        refine hK51 _ _ ?_
        refine wp_cond_true (hA.ev rfl) ?_
        refine wp_skip ?_
        refine hK50 _ _ ?_
        refine wp_block ?_
        refine wp_region_lit ?_
        refine mv hA rfl rfl rfl fun a hA => ?_
        refine seq_do (v := .int .i64 (((p + n + 1 + kk + 1 : Nat) : Int))) hA rfl rfl rfl (d_bin rfl rfl (fun w => (bin_add (i64In (by omega) (by omega)) w).trans (by rw [show (((p + n + 1 + kk : Nat) : Int) + 1 : Int) = ((p + n + 1 + kk + 1 : Nat) : Int) from by omega]))) fun a hA => ?_
        refine seq_do hA rfl rfl rfl (d_assign rfl) fun a hA => ?_
        refine seq_end ?_
        refine hK48 _ _ _ (by omega) ⟨kk + 1, rfl, more_at hr36 hinv49 (by omega) (by omega), hA.keep _ ⟨rfl, rfl, rfl, rfl, rfl, rfl, rfl, rfl, rfl, rfl, rfl, rfl, rfl, rfl, rfl, rfl, rfl, rfl, rfl, rfl, rfl, rfl, rfl, rfl, rfl, rfl, rfl, rfl, rfl, rfl, rfl, rfl, rfl, rfl, rfl, rfl, rfl, rfl, rfl, rfl, rfl, rfl, rfl, rfl, rfl, rfl, rfl, rfl, rfl, rfl, trivial⟩, hS⟩
       ·
        have hb55' := of_decide_eq_false hb55
        refine seq_do (v := .bool false) hA rfl rfl rfl (d_bin rfl rfl (fun w => (bin_lss w).trans (by rw [hb55]))) fun a hA => ?_
        refine seq_do (v := .bool false) hA rfl rfl rfl (d_pick rfl rfl rfl rfl) fun a hA => ?_
        refine seq_end ?_
        refine hK51 _ _ ?_
        refine wp_cond_false (hA.ev rfl) ?_
        refine wp_exit ?_
        refine hK46 _ _ ?_
        refine wp_seq_k (fun K56 hK56 => ?_)
        refine wp_seq_k (fun K57 hK57 => ?_)
        refine wp_region_lit ?_
        refine mv hA rfl rfl rfl fun a hA => ?_
        refine mv hA rfl rfl rfl fun a hA => ?_
        rcases Bool.eq_false_or_eq_true ((((p + n + 1 + kk : Nat) : Int) == ((p + n + 1 : Nat) : Int))) with hb58 | hb58
        ·
         have hb58' := eq_of_beq hb58
         refine seq_do (v := .bool true) hA rfl rfl rfl (d_bin rfl rfl (fun w => (bin_eql w).trans (by rw [hb58]))) fun a hA => ?_
         refine seq_end ?_
         refine hK57 _ _ ?_
         refine wp_cond_true (hA.ev rfl) ?_
         refine wp_seq_k (fun K59 hK59 => ?_)
         refine wp_region_lit ?_
         refine seq_call hA rfl rfl rfl (enters_func  rfl rfl (fun w => by kernel_rfl)) (rzeroFR_any _) ?_
         rintro _ w64 ⟨f60_1, f60_c1, f60_2, f60_c2, rfl, hs61, hs62, hb63⟩
         replace hS := hS.call hb63
         replace hS := hS.addR hs61.rd
         replace hS := hS.addR hs62.rd
         refine ⟨_, rfl, ?_⟩
         intro a hA
         refine seq_do hA rfl rfl rfl (d_assign rfl) fun a hA => ?_
         refine seq_store (us := [.bool ((rb (0 : Rat).num)), .slice f60_1 ((words (0 : Rat).num.natAbs).length) f60_c1, .slice f60_2 ((words (0 : Rat).den).length) f60_c2]) hA hS rfl rfl (sets_store rfl rfl rfl (by kernel_rfl) hS 0 rfl rfl rfl) 0 rfl rfl rfl rfl ?_
         intro w65 hS
         refine seq_do hA rfl rfl rfl (d_assign rfl) fun a hA => ?_
         refine seq_end ?_
         refine hK59 _ _ ?_
         refine wp_ret ?_
         refine hret _ _ ?_
         refine ends (v := .tuple #[.int .i64 (-1), .agg #[.bool ((rb (0 : Rat).num)), .slice f60_1 ((words (0 : Rat).num.natAbs).length) f60_c1, .slice f60_2 ((words (0 : Rat).den).length) f60_c2], .int .i64 0]) hA rfl (.cons (res_tmp rfl) (.cons (res_cell hS RxF_isS_24 rfl 0 rfl (cs := [.bool ((rb (0 : Rat).num)), .slice f60_1 ((words (0 : Rat).num.natAbs).length) f60_c1, .slice f60_2 ((words (0 : Rat).den).length) f60_c2]) rfl rfl) (.cons (res_tmp rfl) .nil))) rfl ?_
         have e9 : n = nDg r (l.drop p) := stop_at hr36 hinv8 (by omega)
         have eQ : pQ r (l.drop p) = l.drop (p + n) := by unfold pQ; rw [← e9, List.drop_drop]
         have eT : pT r (l.drop p) = (l.drop p).take n := by unfold pT; rw [← e9]
         have eS0 : btL (pQ r (l.drop p)) 0 = btL l (p + n) := by rw [eQ, btL_drop]; rfl
         have e10 : kk = nDg r (l.drop (p + n + 1)) := stop_at hr36 hinv49 (by omega)
         have eB : pB r (l.drop p) = l.drop (p + n + 1) := by unfold pB; rw [eQ, List.drop_drop]
         have eU : pU r (l.drop p) = (l.drop (p + n + 1)).take kk := by unfold pU; rw [eB, ← e10]
         have eS : pS r (l.drop p) = true := by unfold pS; rw [eS0]; exact decide_eq_true (by omega)
         have eK : pieceOk r (l.drop p) = false := by unfold pieceOk; rw [eS, eB, ← e10, show kk = 0 from by omega]; simp
         unfold pcE pcV pcX
         rw [eK]
         exact ⟨_, _, _, _, rfl, ⟨(hS.rd 1 rfl), hs61.nil, hs61.cap⟩, ⟨(hS.rd 0 rfl), hs62.nil, hs62.cap⟩, hS.bel⟩
        ·
         have hb58' := ne_of_beq_false hb58
         refine seq_do (v := .bool false) hA rfl rfl rfl (d_bin rfl rfl (fun w => (bin_eql w).trans (by rw [hb58]))) fun a hA => ?_
         refine seq_end ?_
         refine hK57 _ _ ?_
         refine wp_cond_false (hA.ev rfl) ?_
         refine wp_skip ?_
         refine hK56 _ _ ?_
         refine wp_seq_k (fun K66 hK66 => ?_)
         refine wp_region_lit ?_
         refine mv hA rfl rfl rfl fun a hA => ?_
         refine mv hA rfl rfl rfl fun a hA => ?_
         refine mv hA rfl rfl rfl fun a hA => ?_
         refine seq_do (v := .string (bsL ((l.drop (p + n + 1)).take kk))) hA rfl rfl rfl (d_slN (p := p + n + 1) (n := kk) (s := l) Tryz.underlying9 rfl rfl rfl (by first | rfl | omega) (by first | rfl | omega) (by first | omega | (simp only [List.length_drop, List.length_take]; omega))) fun a hA => ?_
         refine mv hA rfl rfl rfl fun a hA => ?_
         rcases Bool.eq_false_or_eq_true (decide (rdE r ((l.drop (p + n + 1)).take kk) = 0)) with hb67 | hb67
         ·
          have hb67' := of_decide_eq_true hb67
          refine seq_call hA rfl rfl rfl (enters_func  rfl rfl (fun w => by kernel_rfl)) (rread_ok (t := (l.drop (p + n + 1)).take kk) hr (by rw [List.length_take, List.length_drop]; omega) (by rw [List.length_take, List.length_drop]; omega) (of_decide_eq_true hb67)) ?_
          rintro _ w72 ⟨ro68, rc69, rfl, ho70, hb71⟩
          replace hS := hS.call hb71
          replace hS := hS.addR ho70.rd
          refine ⟨_, rfl, ?_⟩
          intro a hA
          refine mv hA rfl rfl rfl fun a hA => ?_
          refine seq_do (v := .slice ro68 ((words (natN r ((l.drop (p + n + 1)).take kk))).length) rc69) hA rfl rfl rfl (d_extract (vs := [.slice ro68 ((words (natN r ((l.drop (p + n + 1)).take kk))).length) rc69, .int .i64 0]) rfl rfl) fun a hA => ?_
          refine seq_do (v := .int .i64 0) hA rfl rfl rfl (d_extract (vs := [.slice ro68 ((words (natN r ((l.drop (p + n + 1)).take kk))).length) rc69, .int .i64 0]) rfl rfl) fun a hA => ?_
          refine seq_do hA rfl rfl rfl (d_assign rfl) fun a hA => ?_
          refine seq_do hA rfl rfl rfl (d_assign rfl) fun a hA => ?_
          refine seq_end ?_
          refine hK66 _ _ ?_
          refine wp_seq_k (fun K73 hK73 => ?_)
          refine wp_seq_k (fun K74 hK74 => ?_)
          refine wp_region_lit ?_
          refine mv hA rfl rfl rfl fun a hA => ?_
          refine seq_do (v := .bool false) hA rfl rfl rfl (d_bin rfl rfl (fun w => by kernel_rfl)) fun a hA => ?_
          refine mv hA rfl rfl rfl fun a hA => ?_
          refine mv hA rfl rfl rfl fun a hA => ?_
          refine seq_do (v := .bool false) hA rfl rfl rfl (d_bin rfl rfl (fun w => by kernel_rfl)) fun a hA => ?_
          refine seq_do (v := .bool false) hA rfl rfl rfl (d_pick rfl rfl rfl rfl) fun a hA => ?_
          refine seq_end ?_
          refine hK74 _ _ ?_
          refine wp_cond_false (hA.ev rfl) ?_
          refine wp_skip ?_
          refine hK73 _ _ ?_
          refine wp_seq_k (fun K75 hK75 => ?_)
          refine wp_seq_k (fun K76 hK76 => ?_)
          refine wp_region_lit ?_
          refine mv hA rfl rfl rfl fun a hA => ?_
          refine seq_do (v := .int .i64 ((((words (natN r ((l.drop (p + n + 1)).take kk))).length : Nat) : Int))) hA rfl rfl rfl (d_len Tryz.underlying22 rfl) fun a hA => ?_
          rcases Bool.eq_false_or_eq_true (((((words (natN r ((l.drop (p + n + 1)).take kk))).length : Nat) : Int) == 0)) with hb77 | hb77
          ·
           have hb77' := eq_of_beq hb77
           refine seq_do (v := .bool true) hA rfl rfl rfl (d_bin rfl rfl (fun w => (bin_eql w).trans (by rw [hb77]))) fun a hA => ?_
           refine seq_end ?_
           refine hK76 _ _ ?_
           refine wp_cond_true (hA.ev rfl) ?_
           refine wp_seq_k (fun K78 hK78 => ?_)
           refine wp_region_lit ?_
           refine mv hA rfl rfl rfl fun a hA => ?_
           refine seq_call hA rfl rfl rfl (enters_func  rfl rfl (fun w => by kernel_rfl)) (rzeroFR_any _) ?_
           rintro _ w83 ⟨f79_1, f79_c1, f79_2, f79_c2, rfl, hs80, hs81, hb82⟩
           replace hS := hS.call hb82
           replace hS := hS.addR hs80.rd
           replace hS := hS.addR hs81.rd
           refine ⟨_, rfl, ?_⟩
           intro a hA
           refine seq_do hA rfl rfl rfl (d_assign rfl) fun a hA => ?_
           refine seq_store (us := [.bool ((rb (0 : Rat).num)), .slice f79_1 ((words (0 : Rat).num.natAbs).length) f79_c1, .slice f79_2 ((words (0 : Rat).den).length) f79_c2]) hA hS rfl rfl (sets_store rfl rfl rfl (by kernel_rfl) hS 0 rfl rfl rfl) 0 rfl rfl rfl rfl ?_
           intro w84 hS
           refine seq_do hA rfl rfl rfl (d_assign rfl) fun a hA => ?_
           refine seq_end ?_
           refine hK78 _ _ ?_
           refine wp_ret ?_
           refine hret _ _ ?_
           refine ends (v := .tuple #[.int .i64 (((p + n + 1 + kk : Nat) : Int)), .agg #[.bool ((rb (0 : Rat).num)), .slice f79_1 ((words (0 : Rat).num.natAbs).length) f79_c1, .slice f79_2 ((words (0 : Rat).den).length) f79_c2], .int .i64 3]) hA rfl (.cons (res_tmp rfl) (.cons (res_cell hS RxF_isS_24 rfl 0 rfl (cs := [.bool ((rb (0 : Rat).num)), .slice f79_1 ((words (0 : Rat).num.natAbs).length) f79_c1, .slice f79_2 ((words (0 : Rat).den).length) f79_c2]) rfl rfl) (.cons (res_tmp rfl) .nil))) rfl ?_
           have e9 : n = nDg r (l.drop p) := stop_at hr36 hinv8 (by omega)
           have eQ : pQ r (l.drop p) = l.drop (p + n) := by unfold pQ; rw [← e9, List.drop_drop]
           have eT : pT r (l.drop p) = (l.drop p).take n := by unfold pT; rw [← e9]
           have eS0 : btL (pQ r (l.drop p)) 0 = btL l (p + n) := by rw [eQ, btL_drop]; rfl
           have e10 : kk = nDg r (l.drop (p + n + 1)) := stop_at hr36 hinv49 (by omega)
           have eB : pB r (l.drop p) = l.drop (p + n + 1) := by unfold pB; rw [eQ, List.drop_drop]
           have eU : pU r (l.drop p) = (l.drop (p + n + 1)).take kk := by unfold pU; rw [eB, ← e10]
           have eS : pS r (l.drop p) = true := by unfold pS; rw [eS0]; exact decide_eq_true (by omega)
           have eK : pieceOk r (l.drop p) = true := by unfold pieceOk; rw [eS, eB, ← e10, ← e9, decide_eq_true (show n ≠ 0 from by omega), decide_eq_true (show kk ≠ 0 from by omega)]; rfl
           have eL : p + pieceLen r (l.drop p) = p + n + 1 + kk := by unfold pieceLen; rw [eS, ← e9, eB, ← e10]; simp only [if_true]; omega
           have eZ : natN r ((l.drop (p + n + 1)).take kk) = 0 := by
            by_cases h9 : natN r ((l.drop (p + n + 1)).take kk) = 0
            ·
             exact h9
            ·
             have := words_len_pos.2 h9; omega
           have eX : pieceErr r (l.drop p) = 3 := by unfold pieceErr; rw [eS, eT, eU, if_pos rfl, if_neg (by rintro (k | k); exact k hb26'; exact k hb67'), if_pos eZ]
           have eV : pieceVal r neg (l.drop p) = (0 : Rat) := by unfold pieceVal; rw [eX, if_neg (by first | decide | assumption)]
           unfold pcE pcV pcX
           rw [if_pos eK, if_pos eK, if_pos eK, eL, eV, eX]
           exact ⟨_, _, _, _, rfl, ⟨(hS.rd 1 rfl), hs80.nil, hs80.cap⟩, ⟨(hS.rd 0 rfl), hs81.nil, hs81.cap⟩, hS.bel⟩
          ·
           have hb77' := ne_of_beq_false hb77
           refine seq_do (v := .bool false) hA rfl rfl rfl (d_bin rfl rfl (fun w => (bin_eql w).trans (by rw [hb77]))) fun a hA => ?_
           refine seq_end ?_
           refine hK76 _ _ ?_
           refine wp_cond_false (hA.ev rfl) ?_
           refine wp_skip ?_
           refine hK75 _ _ ?_
           refine wp_seq_k (fun K85 hK85 => ?_)
           refine wp_region_lit ?_
           refine mv hA rfl rfl rfl fun a hA => ?_
           refine mv hA rfl rfl rfl fun a hA => ?_
           refine mv hA rfl rfl rfl fun a hA => ?_
           refine mv hA rfl rfl rfl fun a hA => ?_
           refine seq_call hA rfl rfl rfl (enters_func  rfl rfl (fun w => by kernel_rfl)) (rrat_wd neg ⟨(hS.rd 1 rfl), ho29.nocap, ho29.caps⟩ ⟨(hS.rd 0 rfl), ho70.nocap, ho70.caps⟩ (rdN_ok (of_decide_eq_true hb26)).2 (rdN_ok (of_decide_eq_true hb67)).2 (by omega)) ?_
           rintro _ w90 ⟨f86_1, f86_c1, f86_2, f86_c2, rfl, hs87, hs88, hb89⟩
           replace hS := hS.call hb89
           replace hS := hS.addR hs87.rd
           replace hS := hS.addR hs88.rd
           refine ⟨_, rfl, ?_⟩
           intro a hA
           refine seq_do hA rfl rfl rfl (d_assign rfl) fun a hA => ?_
           refine seq_store (us := [.bool ((rb (mkRat (sgn neg (natN r ((l.drop p).take n))) (natN r ((l.drop (p + n + 1)).take kk))).num)), .slice f86_1 ((words (mkRat (sgn neg (natN r ((l.drop p).take n))) (natN r ((l.drop (p + n + 1)).take kk))).num.natAbs).length) f86_c1, .slice f86_2 ((words (mkRat (sgn neg (natN r ((l.drop p).take n))) (natN r ((l.drop (p + n + 1)).take kk))).den).length) f86_c2]) hA hS rfl rfl (sets_store rfl rfl rfl (by kernel_rfl) hS 0 rfl rfl rfl) 0 rfl rfl rfl rfl ?_
           intro w91 hS
           refine seq_do hA rfl rfl rfl (d_assign rfl) fun a hA => ?_
           refine seq_end ?_
           refine hK85 _ _ ?_
           refine wp_ret ?_
           refine hret _ _ ?_
           refine ends (v := .tuple #[.int .i64 (((p + n + 1 + kk : Nat) : Int)), .agg #[.bool ((rb (mkRat (sgn neg (natN r ((l.drop p).take n))) (natN r ((l.drop (p + n + 1)).take kk))).num)), .slice f86_1 ((words (mkRat (sgn neg (natN r ((l.drop p).take n))) (natN r ((l.drop (p + n + 1)).take kk))).num.natAbs).length) f86_c1, .slice f86_2 ((words (mkRat (sgn neg (natN r ((l.drop p).take n))) (natN r ((l.drop (p + n + 1)).take kk))).den).length) f86_c2], .int .i64 0]) hA rfl (.cons (res_tmp rfl) (.cons (res_cell hS RxF_isS_24 rfl 0 rfl (cs := [.bool ((rb (mkRat (sgn neg (natN r ((l.drop p).take n))) (natN r ((l.drop (p + n + 1)).take kk))).num)), .slice f86_1 ((words (mkRat (sgn neg (natN r ((l.drop p).take n))) (natN r ((l.drop (p + n + 1)).take kk))).num.natAbs).length) f86_c1, .slice f86_2 ((words (mkRat (sgn neg (natN r ((l.drop p).take n))) (natN r ((l.drop (p + n + 1)).take kk))).den).length) f86_c2]) rfl rfl) (.cons (res_tmp rfl) .nil))) rfl ?_
           have e9 : n = nDg r (l.drop p) := stop_at hr36 hinv8 (by omega)
           have eQ : pQ r (l.drop p) = l.drop (p + n) := by unfold pQ; rw [← e9, List.drop_drop]
           have eT : pT r (l.drop p) = (l.drop p).take n := by unfold pT; rw [← e9]
           have eS0 : btL (pQ r (l.drop p)) 0 = btL l (p + n) := by rw [eQ, btL_drop]; rfl
           have e10 : kk = nDg r (l.drop (p + n + 1)) := stop_at hr36 hinv49 (by omega)
           have eB : pB r (l.drop p) = l.drop (p + n + 1) := by unfold pB; rw [eQ, List.drop_drop]
           have eU : pU r (l.drop p) = (l.drop (p + n + 1)).take kk := by unfold pU; rw [eB, ← e10]
           have eS : pS r (l.drop p) = true := by unfold pS; rw [eS0]; exact decide_eq_true (by omega)
           have eK : pieceOk r (l.drop p) = true := by unfold pieceOk; rw [eS, eB, ← e10, ← e9, decide_eq_true (show n ≠ 0 from by omega), decide_eq_true (show kk ≠ 0 from by omega)]; rfl
           have eL : p + pieceLen r (l.drop p) = p + n + 1 + kk := by unfold pieceLen; rw [eS, ← e9, eB, ← e10]; simp only [if_true]; omega
           have eZ : natN r ((l.drop (p + n + 1)).take kk) ≠ 0 := fun h9 => by
            have h8 : (words (natN r ((l.drop (p + n + 1)).take kk))).length = 0 := by rw [h9, words_zero]; rfl
            omega
           have eX : pieceErr r (l.drop p) = 0 := by unfold pieceErr; rw [eS, eT, eU, if_pos rfl, if_neg (by rintro (k | k); exact k hb26'; exact k hb67'), if_neg eZ]
           have eV : pieceVal r neg (l.drop p) = (mkRat (sgn neg (natN r ((l.drop p).take n))) (natN r ((l.drop (p + n + 1)).take kk))) := by unfold pieceVal; rw [eX, if_pos rfl, eS, eT, eU]; rfl
           unfold pcE pcV pcX
           rw [if_pos eK, if_pos eK, if_pos eK, eL, eV, eX]
           exact ⟨_, _, _, _, rfl, ⟨(hS.rd 1 rfl), hs87.nil, hs87.cap⟩, ⟨(hS.rd 0 rfl), hs88.nil, hs88.cap⟩, hS.bel⟩
         ·
          have hb67' := of_decide_eq_false hb67
          refine seq_call hA rfl rfl rfl (enters_func  rfl rfl (fun w => by kernel_rfl)) (rread_bad (t := (l.drop (p + n + 1)).take kk) hr (by rw [List.length_take, List.length_drop]; omega) (by rw [List.length_take, List.length_drop]; omega) (of_decide_eq_false hb67)) ?_
          rintro _ w96 ⟨ro92, rc93, rfl, ho94, hb95⟩
          replace hS := hS.call hb95
          replace hS := hS.addR ho94.rd
          refine ⟨_, rfl, ?_⟩
          intro a hA
          refine mv hA rfl rfl rfl fun a hA => ?_
          refine seq_do (v := .slice ro92 0 rc93) hA rfl rfl rfl (d_extract (vs := [.slice ro92 0 rc93, .int .i64 ((rdE r ((l.drop (p + n + 1)).take kk)))]) rfl rfl) fun a hA => ?_
          refine seq_do (v := .int .i64 ((rdE r ((l.drop (p + n + 1)).take kk)))) hA rfl rfl rfl (d_extract (vs := [.slice ro92 0 rc93, .int .i64 ((rdE r ((l.drop (p + n + 1)).take kk)))]) rfl rfl) fun a hA => ?_
          refine seq_do hA rfl rfl rfl (d_assign rfl) fun a hA => ?_
          refine seq_do hA rfl rfl rfl (d_assign rfl) fun a hA => ?_
          refine seq_end ?_
          refine hK66 _ _ ?_
          refine wp_seq_k (fun K97 hK97 => ?_)
          refine wp_seq_k (fun K98 hK98 => ?_)
          refine wp_region_lit ?_
          refine mv hA rfl rfl rfl fun a hA => ?_
          refine seq_do (v := .bool false) hA rfl rfl rfl (d_bin rfl rfl (fun w => by kernel_rfl)) fun a hA => ?_
          refine mv hA rfl rfl rfl fun a hA => ?_
          refine mv hA rfl rfl rfl fun a hA => ?_
          refine seq_do (v := .bool true) hA rfl rfl rfl (d_bin rfl rfl (fun w => (bin_neq w).trans (by rw [show (((rdE r ((l.drop (p + n + 1)).take kk)) != 0)) = true from (bne_iff_ne.2 hb67')]))) fun a hA => ?_
          refine seq_do (v := .bool true) hA rfl rfl rfl (d_pick rfl rfl rfl rfl) fun a hA => ?_
          refine seq_end ?_
          refine hK98 _ _ ?_
          refine wp_cond_true (hA.ev rfl) ?_
          refine wp_seq_k (fun K99 hK99 => ?_)
          refine wp_region_lit ?_
          refine mv hA rfl rfl rfl fun a hA => ?_
          refine seq_call hA rfl rfl rfl (enters_func  rfl rfl (fun w => by kernel_rfl)) (rzeroFR_any _) ?_
          rintro _ w104 ⟨f100_1, f100_c1, f100_2, f100_c2, rfl, hs101, hs102, hb103⟩
          replace hS := hS.call hb103
          replace hS := hS.addR hs101.rd
          replace hS := hS.addR hs102.rd
          refine ⟨_, rfl, ?_⟩
          intro a hA
          refine seq_do hA rfl rfl rfl (d_assign rfl) fun a hA => ?_
          refine seq_store (us := [.bool ((rb (0 : Rat).num)), .slice f100_1 ((words (0 : Rat).num.natAbs).length) f100_c1, .slice f100_2 ((words (0 : Rat).den).length) f100_c2]) hA hS rfl rfl (sets_store rfl rfl rfl (by kernel_rfl) hS 0 rfl rfl rfl) 0 rfl rfl rfl rfl ?_
          intro w105 hS
          refine seq_do hA rfl rfl rfl (d_assign rfl) fun a hA => ?_
          refine seq_end ?_
          refine hK99 _ _ ?_
          refine wp_ret ?_
          refine hret _ _ ?_
          refine ends (v := .tuple #[.int .i64 (((p + n + 1 + kk : Nat) : Int)), .agg #[.bool ((rb (0 : Rat).num)), .slice f100_1 ((words (0 : Rat).num.natAbs).length) f100_c1, .slice f100_2 ((words (0 : Rat).den).length) f100_c2], .int .i64 4]) hA rfl (.cons (res_tmp rfl) (.cons (res_cell hS RxF_isS_24 rfl 0 rfl (cs := [.bool ((rb (0 : Rat).num)), .slice f100_1 ((words (0 : Rat).num.natAbs).length) f100_c1, .slice f100_2 ((words (0 : Rat).den).length) f100_c2]) rfl rfl) (.cons (res_tmp rfl) .nil))) rfl ?_
          have e9 : n = nDg r (l.drop p) := stop_at hr36 hinv8 (by omega)
          have eQ : pQ r (l.drop p) = l.drop (p + n) := by unfold pQ; rw [← e9, List.drop_drop]
          have eT : pT r (l.drop p) = (l.drop p).take n := by unfold pT; rw [← e9]
          have eS0 : btL (pQ r (l.drop p)) 0 = btL l (p + n) := by rw [eQ, btL_drop]; rfl
          have e10 : kk = nDg r (l.drop (p + n + 1)) := stop_at hr36 hinv49 (by omega)
          have eB : pB r (l.drop p) = l.drop (p + n + 1) := by unfold pB; rw [eQ, List.drop_drop]
          have eU : pU r (l.drop p) = (l.drop (p + n + 1)).take kk := by unfold pU; rw [eB, ← e10]
          have eS : pS r (l.drop p) = true := by unfold pS; rw [eS0]; exact decide_eq_true (by omega)
          have eK : pieceOk r (l.drop p) = true := by unfold pieceOk; rw [eS, eB, ← e10, ← e9, decide_eq_true (show n ≠ 0 from by omega), decide_eq_true (show kk ≠ 0 from by omega)]; rfl
          have eL : p + pieceLen r (l.drop p) = p + n + 1 + kk := by unfold pieceLen; rw [eS, ← e9, eB, ← e10]; simp only [if_true]; omega
          have eX : pieceErr r (l.drop p) = 4 := by unfold pieceErr; rw [eS, eT, eU, if_pos rfl, if_pos (by first | exact Or.inl hb26' | exact Or.inr hb67')]
          have eV : pieceVal r neg (l.drop p) = (0 : Rat) := by unfold pieceVal; rw [eX, if_neg (by first | decide | assumption)]
          unfold pcE pcV pcX
          rw [if_pos eK, if_pos eK, if_pos eK, eL, eV, eX]
          exact ⟨_, _, _, _, rfl, ⟨(hS.rd 1 rfl), hs101.nil, hs101.cap⟩, ⟨(hS.rd 0 rfl), hs102.nil, hs102.cap⟩, hS.bel⟩
      ·
       have hb52' := of_decide_eq_false hb52
       refine seq_do (v := .bool false) hA rfl rfl rfl (d_bin rfl rfl (fun w => (bin_lss w).trans (by rw [hb52]))) fun a hA => ?_
       refine mv hA rfl rfl rfl fun a hA => ?_
       refine seq_skip hA rfl rfl rfl fun a hA => ?_
       refine seq_skip hA rfl rfl rfl fun a hA => ?_
       refine seq_skip hA rfl rfl rfl fun a hA => ?_
       refine seq_skip hA rfl rfl rfl fun a hA => ?_
       refine seq_skip hA rfl rfl rfl fun a hA => ?_
       refine seq_skip hA rfl rfl rfl fun a hA => ?_
       refine seq_skip hA rfl rfl rfl fun a hA => ?_
       refine seq_do (v := .bool false) hA rfl rfl rfl (d_pick rfl rfl rfl rfl) fun a hA => ?_
       refine seq_end ?_
       refine hK51 _ _ ?_
       refine wp_cond_false (hA.ev rfl) ?_
       refine wp_exit ?_
       refine hK46 _ _ ?_
       refine wp_seq_k (fun K106 hK106 => ?_)
       refine wp_seq_k (fun K107 hK107 => ?_)
       refine wp_region_lit ?_
       refine mv hA rfl rfl rfl fun a hA => ?_
       refine mv hA rfl rfl rfl fun a hA => ?_
       rcases Bool.eq_false_or_eq_true ((((p + n + 1 + kk : Nat) : Int) == ((p + n + 1 : Nat) : Int))) with hb108 | hb108
       ·
        have hb108' := eq_of_beq hb108
        refine seq_do (v := .bool true) hA rfl rfl rfl (d_bin rfl rfl (fun w => (bin_eql w).trans (by rw [hb108]))) fun a hA => ?_
        refine seq_end ?_
        refine hK107 _ _ ?_
        refine wp_cond_true (hA.ev rfl) ?_
        refine wp_seq_k (fun K109 hK109 => ?_)
        refine wp_region_lit ?_
        refine seq_call hA rfl rfl rfl (enters_func  rfl rfl (fun w => by kernel_rfl)) (rzeroFR_any _) ?_
        rintro _ w114 ⟨f110_1, f110_c1, f110_2, f110_c2, rfl, hs111, hs112, hb113⟩
        replace hS := hS.call hb113
        replace hS := hS.addR hs111.rd
        replace hS := hS.addR hs112.rd
        refine ⟨_, rfl, ?_⟩
        intro a hA
        refine seq_do hA rfl rfl rfl (d_assign rfl) fun a hA => ?_
        refine seq_store (us := [.bool ((rb (0 : Rat).num)), .slice f110_1 ((words (0 : Rat).num.natAbs).length) f110_c1, .slice f110_2 ((words (0 : Rat).den).length) f110_c2]) hA hS rfl rfl (sets_store rfl rfl rfl (by kernel_rfl) hS 0 rfl rfl rfl) 0 rfl rfl rfl rfl ?_
        intro w115 hS
        refine seq_do hA rfl rfl rfl (d_assign rfl) fun a hA => ?_
        refine seq_end ?_
        refine hK109 _ _ ?_
        refine wp_ret ?_
        refine hret _ _ ?_
        refine ends (v := .tuple #[.int .i64 (-1), .agg #[.bool ((rb (0 : Rat).num)), .slice f110_1 ((words (0 : Rat).num.natAbs).length) f110_c1, .slice f110_2 ((words (0 : Rat).den).length) f110_c2], .int .i64 0]) hA rfl (.cons (res_tmp rfl) (.cons (res_cell hS RxF_isS_24 rfl 0 rfl (cs := [.bool ((rb (0 : Rat).num)), .slice f110_1 ((words (0 : Rat).num.natAbs).length) f110_c1, .slice f110_2 ((words (0 : Rat).den).length) f110_c2]) rfl rfl) (.cons (res_tmp rfl) .nil))) rfl ?_
        have e9 : n = nDg r (l.drop p) := stop_at hr36 hinv8 (by omega)
        have eQ : pQ r (l.drop p) = l.drop (p + n) := by unfold pQ; rw [← e9, List.drop_drop]
        have eT : pT r (l.drop p) = (l.drop p).take n := by unfold pT; rw [← e9]
        have eS0 : btL (pQ r (l.drop p)) 0 = btL l (p + n) := by rw [eQ, btL_drop]; rfl
        have e10 : kk = nDg r (l.drop (p + n + 1)) := stop_at hr36 hinv49 (by omega)
        have eB : pB r (l.drop p) = l.drop (p + n + 1) := by unfold pB; rw [eQ, List.drop_drop]
        have eU : pU r (l.drop p) = (l.drop (p + n + 1)).take kk := by unfold pU; rw [eB, ← e10]
        have eS : pS r (l.drop p) = true := by unfold pS; rw [eS0]; exact decide_eq_true (by omega)
        have eK : pieceOk r (l.drop p) = false := by unfold pieceOk; rw [eS, eB, ← e10, show kk = 0 from by omega]; simp
        unfold pcE pcV pcX
        rw [eK]
        exact ⟨_, _, _, _, rfl, ⟨(hS.rd 1 rfl), hs111.nil, hs111.cap⟩, ⟨(hS.rd 0 rfl), hs112.nil, hs112.cap⟩, hS.bel⟩
       ·
        have hb108' := ne_of_beq_false hb108
        refine seq_do (v := .bool false) hA rfl rfl rfl (d_bin rfl rfl (fun w => (bin_eql w).trans (by rw [hb108]))) fun a hA => ?_
        refine seq_end ?_
        refine hK107 _ _ ?_
        refine wp_cond_false (hA.ev rfl) ?_
        refine wp_skip ?_
        refine hK106 _ _ ?_
        refine wp_seq_k (fun K116 hK116 => ?_)
        refine wp_region_lit ?_
        refine mv hA rfl rfl rfl fun a hA => ?_
        refine mv hA rfl rfl rfl fun a hA => ?_
        refine mv hA rfl rfl rfl fun a hA => ?_
        refine seq_do (v := .string (bsL ((l.drop (p + n + 1)).take kk))) hA rfl rfl rfl (d_slN (p := p + n + 1) (n := kk) (s := l) Tryz.underlying9 rfl rfl rfl (by first | rfl | omega) (by first | rfl | omega) (by first | omega | (simp only [List.length_drop, List.length_take]; omega))) fun a hA => ?_
        refine mv hA rfl rfl rfl fun a hA => ?_
        rcases Bool.eq_false_or_eq_true (decide (rdE r ((l.drop (p + n + 1)).take kk) = 0)) with hb117 | hb117
        ·
         have hb117' := of_decide_eq_true hb117
         refine seq_call hA rfl rfl rfl (enters_func  rfl rfl (fun w => by kernel_rfl)) (rread_ok (t := (l.drop (p + n + 1)).take kk) hr (by rw [List.length_take, List.length_drop]; omega) (by rw [List.length_take, List.length_drop]; omega) (of_decide_eq_true hb117)) ?_
         rintro _ w122 ⟨ro118, rc119, rfl, ho120, hb121⟩
         replace hS := hS.call hb121
         replace hS := hS.addR ho120.rd
         refine ⟨_, rfl, ?_⟩
         intro a hA
         refine mv hA rfl rfl rfl fun a hA => ?_
         refine seq_do (v := .slice ro118 ((words (natN r ((l.drop (p + n + 1)).take kk))).length) rc119) hA rfl rfl rfl (d_extract (vs := [.slice ro118 ((words (natN r ((l.drop (p + n + 1)).take kk))).length) rc119, .int .i64 0]) rfl rfl) fun a hA => ?_
         refine seq_do (v := .int .i64 0) hA rfl rfl rfl (d_extract (vs := [.slice ro118 ((words (natN r ((l.drop (p + n + 1)).take kk))).length) rc119, .int .i64 0]) rfl rfl) fun a hA => ?_
         refine seq_do hA rfl rfl rfl (d_assign rfl) fun a hA => ?_
         refine seq_do hA rfl rfl rfl (d_assign rfl) fun a hA => ?_
         refine seq_end ?_
         refine hK116 _ _ ?_
         refine wp_seq_k (fun K123 hK123 => ?_)
         refine wp_seq_k (fun K124 hK124 => ?_)
         refine wp_region_lit ?_
         refine mv hA rfl rfl rfl fun a hA => ?_
         refine seq_do (v := .bool false) hA rfl rfl rfl (d_bin rfl rfl (fun w => by kernel_rfl)) fun a hA => ?_
         refine mv hA rfl rfl rfl fun a hA => ?_
         refine mv hA rfl rfl rfl fun a hA => ?_
         refine seq_do (v := .bool false) hA rfl rfl rfl (d_bin rfl rfl (fun w => by kernel_rfl)) fun a hA => ?_
         refine seq_do (v := .bool false) hA rfl rfl rfl (d_pick rfl rfl rfl rfl) fun a hA => ?_
         refine seq_end ?_
         refine hK124 _ _ ?_
         refine wp_cond_false (hA.ev rfl) ?_
         refine wp_skip ?_
         refine hK123 _ _ ?_
         refine wp_seq_k (fun K125 hK125 => ?_)
         refine wp_seq_k (fun K126 hK126 => ?_)
         refine wp_region_lit ?_
         refine mv hA rfl rfl rfl fun a hA => ?_
         refine seq_do (v := .int .i64 ((((words (natN r ((l.drop (p + n + 1)).take kk))).length : Nat) : Int))) hA rfl rfl rfl (d_len Tryz.underlying22 rfl) fun a hA => ?_
         rcases Bool.eq_false_or_eq_true (((((words (natN r ((l.drop (p + n + 1)).take kk))).length : Nat) : Int) == 0)) with hb127 | hb127
         ·
          have hb127' := eq_of_beq hb127
          refine seq_do (v := .bool true) hA rfl rfl rfl (d_bin rfl rfl (fun w => (bin_eql w).trans (by rw [hb127]))) fun a hA => ?_
          refine seq_end ?_
          refine hK126 _ _ ?_
          refine wp_cond_true (hA.ev rfl) ?_
          refine wp_seq_k (fun K128 hK128 => ?_)
          refine wp_region_lit ?_
          refine mv hA rfl rfl rfl fun a hA => ?_
          refine seq_call hA rfl rfl rfl (enters_func  rfl rfl (fun w => by kernel_rfl)) (rzeroFR_any _) ?_
          rintro _ w133 ⟨f129_1, f129_c1, f129_2, f129_c2, rfl, hs130, hs131, hb132⟩
          replace hS := hS.call hb132
          replace hS := hS.addR hs130.rd
          replace hS := hS.addR hs131.rd
          refine ⟨_, rfl, ?_⟩
          intro a hA
          refine seq_do hA rfl rfl rfl (d_assign rfl) fun a hA => ?_
          refine seq_store (us := [.bool ((rb (0 : Rat).num)), .slice f129_1 ((words (0 : Rat).num.natAbs).length) f129_c1, .slice f129_2 ((words (0 : Rat).den).length) f129_c2]) hA hS rfl rfl (sets_store rfl rfl rfl (by kernel_rfl) hS 0 rfl rfl rfl) 0 rfl rfl rfl rfl ?_
          intro w134 hS
          refine seq_do hA rfl rfl rfl (d_assign rfl) fun a hA => ?_
          refine seq_end ?_
          refine hK128 _ _ ?_
          refine wp_ret ?_
          refine hret _ _ ?_
          refine ends (v := .tuple #[.int .i64 (((p + n + 1 + kk : Nat) : Int)), .agg #[.bool ((rb (0 : Rat).num)), .slice f129_1 ((words (0 : Rat).num.natAbs).length) f129_c1, .slice f129_2 ((words (0 : Rat).den).length) f129_c2], .int .i64 3]) hA rfl (.cons (res_tmp rfl) (.cons (res_cell hS RxF_isS_24 rfl 0 rfl (cs := [.bool ((rb (0 : Rat).num)), .slice f129_1 ((words (0 : Rat).num.natAbs).length) f129_c1, .slice f129_2 ((words (0 : Rat).den).length) f129_c2]) rfl rfl) (.cons (res_tmp rfl) .nil))) rfl ?_
          have e9 : n = nDg r (l.drop p) := stop_at hr36 hinv8 (by omega)
          have eQ : pQ r (l.drop p) = l.drop (p + n) := by unfold pQ; rw [← e9, List.drop_drop]
          have eT : pT r (l.drop p) = (l.drop p).take n := by unfold pT; rw [← e9]
          have eS0 : btL (pQ r (l.drop p)) 0 = btL l (p + n) := by rw [eQ, btL_drop]; rfl
          have e10 : kk = nDg r (l.drop (p + n + 1)) := stop_at hr36 hinv49 (by omega)
          have eB : pB r (l.drop p) = l.drop (p + n + 1) := by unfold pB; rw [eQ, List.drop_drop]
          have eU : pU r (l.drop p) = (l.drop (p + n + 1)).take kk := by unfold pU; rw [eB, ← e10]
          have eS : pS r (l.drop p) = true := by unfold pS; rw [eS0]; exact decide_eq_true (by omega)
          have eK : pieceOk r (l.drop p) = true := by unfold pieceOk; rw [eS, eB, ← e10, ← e9, decide_eq_true (show n ≠ 0 from by omega), decide_eq_true (show kk ≠ 0 from by omega)]; rfl
          have eL : p + pieceLen r (l.drop p) = p + n + 1 + kk := by unfold pieceLen; rw [eS, ← e9, eB, ← e10]; simp only [if_true]; omega
          have eZ : natN r ((l.drop (p + n + 1)).take kk) = 0 := by
           by_cases h9 : natN r ((l.drop (p + n + 1)).take kk) = 0
           ·
            exact h9
           ·
            have := words_len_pos.2 h9; omega
          have eX : pieceErr r (l.drop p) = 3 := by unfold pieceErr; rw [eS, eT, eU, if_pos rfl, if_neg (by rintro (k | k); exact k hb26'; exact k hb117'), if_pos eZ]
          have eV : pieceVal r neg (l.drop p) = (0 : Rat) := by unfold pieceVal; rw [eX, if_neg (by first | decide | assumption)]
          unfold pcE pcV pcX
          rw [if_pos eK, if_pos eK, if_pos eK, eL, eV, eX]
          exact ⟨_, _, _, _, rfl, ⟨(hS.rd 1 rfl), hs130.nil, hs130.cap⟩, ⟨(hS.rd 0 rfl), hs131.nil, hs131.cap⟩, hS.bel⟩
         ·
          have hb127' := ne_of_beq_false hb127
          refine seq_do (v := .bool false) hA rfl rfl rfl (d_bin rfl rfl (fun w => (bin_eql w).trans (by rw [hb127]))) fun a hA => ?_
          refine seq_end ?_
          refine hK126 _ _ ?_
          refine wp_cond_false (hA.ev rfl) ?_
          refine wp_skip ?_
          refine hK125 _ _ ?_
          refine wp_seq_k (fun K135 hK135 => ?_)
          refine wp_region_lit ?_
          refine mv hA rfl rfl rfl fun a hA => ?_
          refine mv hA rfl rfl rfl fun a hA => ?_
          refine mv hA rfl rfl rfl fun a hA => ?_
          refine mv hA rfl rfl rfl fun a hA => ?_
          refine seq_call hA rfl rfl rfl (enters_func  rfl rfl (fun w => by kernel_rfl)) (rrat_wd neg ⟨(hS.rd 1 rfl), ho29.nocap, ho29.caps⟩ ⟨(hS.rd 0 rfl), ho120.nocap, ho120.caps⟩ (rdN_ok (of_decide_eq_true hb26)).2 (rdN_ok (of_decide_eq_true hb117)).2 (by omega)) ?_
          rintro _ w140 ⟨f136_1, f136_c1, f136_2, f136_c2, rfl, hs137, hs138, hb139⟩
          replace hS := hS.call hb139
          replace hS := hS.addR hs137.rd
          replace hS := hS.addR hs138.rd
          refine ⟨_, rfl, ?_⟩
          intro a hA
          refine seq_do hA rfl rfl rfl (d_assign rfl) fun a hA => ?_
          refine seq_store (us := [.bool ((rb (mkRat (sgn neg (natN r ((l.drop p).take n))) (natN r ((l.drop (p + n + 1)).take kk))).num)), .slice f136_1 ((words (mkRat (sgn neg (natN r ((l.drop p).take n))) (natN r ((l.drop (p + n + 1)).take kk))).num.natAbs).length) f136_c1, .slice f136_2 ((words (mkRat (sgn neg (natN r ((l.drop p).take n))) (natN r ((l.drop (p + n + 1)).take kk))).den).length) f136_c2]) hA hS rfl rfl (sets_store rfl rfl rfl (by kernel_rfl) hS 0 rfl rfl rfl) 0 rfl rfl rfl rfl ?_
          intro w141 hS
          refine seq_do hA rfl rfl rfl (d_assign rfl) fun a hA => ?_
          refine seq_end ?_
          refine hK135 _ _ ?_
          refine wp_ret ?_
          refine hret _ _ ?_
          refine ends (v := .tuple #[.int .i64 (((p + n + 1 + kk : Nat) : Int)), .agg #[.bool ((rb (mkRat (sgn neg (natN r ((l.drop p).take n))) (natN r ((l.drop (p + n + 1)).take kk))).num)), .slice f136_1 ((words (mkRat (sgn neg (natN r ((l.drop p).take n))) (natN r ((l.drop (p + n + 1)).take kk))).num.natAbs).length) f136_c1, .slice f136_2 ((words (mkRat (sgn neg (natN r ((l.drop p).take n))) (natN r ((l.drop (p + n + 1)).take kk))).den).length) f136_c2], .int .i64 0]) hA rfl (.cons (res_tmp rfl) (.cons (res_cell hS RxF_isS_24 rfl 0 rfl (cs := [.bool ((rb (mkRat (sgn neg (natN r ((l.drop p).take n))) (natN r ((l.drop (p + n + 1)).take kk))).num)), .slice f136_1 ((words (mkRat (sgn neg (natN r ((l.drop p).take n))) (natN r ((l.drop (p + n + 1)).take kk))).num.natAbs).length) f136_c1, .slice f136_2 ((words (mkRat (sgn neg (natN r ((l.drop p).take n))) (natN r ((l.drop (p + n + 1)).take kk))).den).length) f136_c2]) rfl rfl) (.cons (res_tmp rfl) .nil))) rfl ?_
          have e9 : n = nDg r (l.drop p) := stop_at hr36 hinv8 (by omega)
          have eQ : pQ r (l.drop p) = l.drop (p + n) := by unfold pQ; rw [← e9, List.drop_drop]
          have eT : pT r (l.drop p) = (l.drop p).take n := by unfold pT; rw [← e9]
          have eS0 : btL (pQ r (l.drop p)) 0 = btL l (p + n) := by rw [eQ, btL_drop]; rfl
          have e10 : kk = nDg r (l.drop (p + n + 1)) := stop_at hr36 hinv49 (by omega)
          have eB : pB r (l.drop p) = l.drop (p + n + 1) := by unfold pB; rw [eQ, List.drop_drop]
          have eU : pU r (l.drop p) = (l.drop (p + n + 1)).take kk := by unfold pU; rw [eB, ← e10]
          have eS : pS r (l.drop p) = true := by unfold pS; rw [eS0]; exact decide_eq_true (by omega)
          have eK : pieceOk r (l.drop p) = true := by unfold pieceOk; rw [eS, eB, ← e10, ← e9, decide_eq_true (show n ≠ 0 from by omega), decide_eq_true (show kk ≠ 0 from by omega)]; rfl
          have eL : p + pieceLen r (l.drop p) = p + n + 1 + kk := by unfold pieceLen; rw [eS, ← e9, eB, ← e10]; simp only [if_true]; omega
          have eZ : natN r ((l.drop (p + n + 1)).take kk) ≠ 0 := fun h9 => by
           have h8 : (words (natN r ((l.drop (p + n + 1)).take kk))).length = 0 := by rw [h9, words_zero]; rfl
           omega
          have eX : pieceErr r (l.drop p) = 0 := by unfold pieceErr; rw [eS, eT, eU, if_pos rfl, if_neg (by rintro (k | k); exact k hb26'; exact k hb117'), if_neg eZ]
          have eV : pieceVal r neg (l.drop p) = (mkRat (sgn neg (natN r ((l.drop p).take n))) (natN r ((l.drop (p + n + 1)).take kk))) := by unfold pieceVal; rw [eX, if_pos rfl, eS, eT, eU]; rfl
          unfold pcE pcV pcX
          rw [if_pos eK, if_pos eK, if_pos eK, eL, eV, eX]
          exact ⟨_, _, _, _, rfl, ⟨(hS.rd 1 rfl), hs137.nil, hs137.cap⟩, ⟨(hS.rd 0 rfl), hs138.nil, hs138.cap⟩, hS.bel⟩
        ·
         have hb117' := of_decide_eq_false hb117
         refine seq_call hA rfl rfl rfl (enters_func  rfl rfl (fun w => by kernel_rfl)) (rread_bad (t := (l.drop (p + n + 1)).take kk) hr (by rw [List.length_take, List.length_drop]; omega) (by rw [List.length_take, List.length_drop]; omega) (of_decide_eq_false hb117)) ?_
         rintro _ w146 ⟨ro142, rc143, rfl, ho144, hb145⟩
         replace hS := hS.call hb145
         replace hS := hS.addR ho144.rd
         refine ⟨_, rfl, ?_⟩
         intro a hA
         refine mv hA rfl rfl rfl fun a hA => ?_
         refine seq_do (v := .slice ro142 0 rc143) hA rfl rfl rfl (d_extract (vs := [.slice ro142 0 rc143, .int .i64 ((rdE r ((l.drop (p + n + 1)).take kk)))]) rfl rfl) fun a hA => ?_
         refine seq_do (v := .int .i64 ((rdE r ((l.drop (p + n + 1)).take kk)))) hA rfl rfl rfl (d_extract (vs := [.slice ro142 0 rc143, .int .i64 ((rdE r ((l.drop (p + n + 1)).take kk)))]) rfl rfl) fun a hA => ?_
         refine seq_do hA rfl rfl rfl (d_assign rfl) fun a hA => ?_
         refine seq_do hA rfl rfl rfl (d_assign rfl) fun a hA => ?_
         refine seq_end ?_
         refine hK116 _ _ ?_
         refine wp_seq_k (fun K147 hK147 => ?_)
         refine wp_seq_k (fun K148 hK148 => ?_)
         refine wp_region_lit ?_
         refine mv hA rfl rfl rfl fun a hA => ?_
         refine seq_do (v := .bool false) hA rfl rfl rfl (d_bin rfl rfl (fun w => by kernel_rfl)) fun a hA => ?_
         refine mv hA rfl rfl rfl fun a hA => ?_
         refine mv hA rfl rfl rfl fun a hA => ?_
         refine seq_do (v := .bool true) hA rfl rfl rfl (d_bin rfl rfl (fun w => (bin_neq w).trans (by rw [show (((rdE r ((l.drop (p + n + 1)).take kk)) != 0)) = true from (bne_iff_ne.2 hb117')]))) fun a hA => ?_
         refine seq_do (v := .bool true) hA rfl rfl rfl (d_pick rfl rfl rfl rfl) fun a hA => ?_
         refine seq_end ?_
         refine hK148 _ _ ?_
         refine wp_cond_true (hA.ev rfl) ?_
         refine wp_seq_k (fun K149 hK149 => ?_)
         refine wp_region_lit ?_
         refine mv hA rfl rfl rfl fun a hA => ?_
         refine seq_call hA rfl rfl rfl (enters_func  rfl rfl (fun w => by kernel_rfl)) (rzeroFR_any _) ?_
         rintro _ w154 ⟨f150_1, f150_c1, f150_2, f150_c2, rfl, hs151, hs152, hb153⟩
         replace hS := hS.call hb153
         replace hS := hS.addR hs151.rd
         replace hS := hS.addR hs152.rd
         refine ⟨_, rfl, ?_⟩
         intro a hA
         refine seq_do hA rfl rfl rfl (d_assign rfl) fun a hA => ?_
         refine seq_store (us := [.bool ((rb (0 : Rat).num)), .slice f150_1 ((words (0 : Rat).num.natAbs).length) f150_c1, .slice f150_2 ((words (0 : Rat).den).length) f150_c2]) hA hS rfl rfl (sets_store rfl rfl rfl (by kernel_rfl) hS 0 rfl rfl rfl) 0 rfl rfl rfl rfl ?_
         intro w155 hS
         refine seq_do hA rfl rfl rfl (d_assign rfl) fun a hA => ?_
         refine seq_end ?_
         refine hK149 _ _ ?_
         refine wp_ret ?_
         refine hret _ _ ?_
         refine ends (v := .tuple #[.int .i64 (((p + n + 1 + kk : Nat) : Int)), .agg #[.bool ((rb (0 : Rat).num)), .slice f150_1 ((words (0 : Rat).num.natAbs).length) f150_c1, .slice f150_2 ((words (0 : Rat).den).length) f150_c2], .int .i64 4]) hA rfl (.cons (res_tmp rfl) (.cons (res_cell hS RxF_isS_24 rfl 0 rfl (cs := [.bool ((rb (0 : Rat).num)), .slice f150_1 ((words (0 : Rat).num.natAbs).length) f150_c1, .slice f150_2 ((words (0 : Rat).den).length) f150_c2]) rfl rfl) (.cons (res_tmp rfl) .nil))) rfl ?_
         have e9 : n = nDg r (l.drop p) := stop_at hr36 hinv8 (by omega)
         have eQ : pQ r (l.drop p) = l.drop (p + n) := by unfold pQ; rw [← e9, List.drop_drop]
         have eT : pT r (l.drop p) = (l.drop p).take n := by unfold pT; rw [← e9]
         have eS0 : btL (pQ r (l.drop p)) 0 = btL l (p + n) := by rw [eQ, btL_drop]; rfl
         have e10 : kk = nDg r (l.drop (p + n + 1)) := stop_at hr36 hinv49 (by omega)
         have eB : pB r (l.drop p) = l.drop (p + n + 1) := by unfold pB; rw [eQ, List.drop_drop]
         have eU : pU r (l.drop p) = (l.drop (p + n + 1)).take kk := by unfold pU; rw [eB, ← e10]
         have eS : pS r (l.drop p) = true := by unfold pS; rw [eS0]; exact decide_eq_true (by omega)
         have eK : pieceOk r (l.drop p) = true := by unfold pieceOk; rw [eS, eB, ← e10, ← e9, decide_eq_true (show n ≠ 0 from by omega), decide_eq_true (show kk ≠ 0 from by omega)]; rfl
         have eL : p + pieceLen r (l.drop p) = p + n + 1 + kk := by unfold pieceLen; rw [eS, ← e9, eB, ← e10]; simp only [if_true]; omega
         have eX : pieceErr r (l.drop p) = 4 := by unfold pieceErr; rw [eS, eT, eU, if_pos rfl, if_pos (by first | exact Or.inl hb26' | exact Or.inr hb117')]
         have eV : pieceVal r neg (l.drop p) = (0 : Rat) := by unfold pieceVal; rw [eX, if_neg (by first | decide | assumption)]
         unfold pcE pcV pcX
         rw [if_pos eK, if_pos eK, if_pos eK, eL, eV, eX]
         exact ⟨_, _, _, _, rfl, ⟨(hS.rd 1 rfl), hs151.nil, hs151.cap⟩, ⟨(hS.rd 0 rfl), hs152.nil, hs152.cap⟩, hS.bel⟩
    ·
     have hb26' := of_decide_eq_false hb26
     refine seq_call hA rfl rfl rfl (enters_func  rfl rfl (fun w => by kernel_rfl)) (rread_bad (t := (l.drop p).take n) hr (by rw [List.length_take, List.length_drop]; omega) (by rw [List.length_take, List.length_drop]; omega) (of_decide_eq_false hb26)) ?_
     rintro _ w160 ⟨ro156, rc157, rfl, ho158, hb159⟩
     replace hS := hS.call hb159
     replace hS := hS.addR ho158.rd
     refine ⟨_, rfl, ?_⟩
     intro a hA
     refine mv hA rfl rfl rfl fun a hA => ?_
     refine seq_do (v := .slice ro156 0 rc157) hA rfl rfl rfl (d_extract (vs := [.slice ro156 0 rc157, .int .i64 ((rdE r ((l.drop p).take n)))]) rfl rfl) fun a hA => ?_
     refine seq_do (v := .int .i64 ((rdE r ((l.drop p).take n)))) hA rfl rfl rfl (d_extract (vs := [.slice ro156 0 rc157, .int .i64 ((rdE r ((l.drop p).take n)))]) rfl rfl) fun a hA => ?_
     refine seq_do hA rfl rfl rfl (d_assign rfl) fun a hA => ?_
     refine seq_do hA rfl rfl rfl (d_assign rfl) fun a hA => ?_
     refine seq_end ?_
     refine hK25 _ _ ?_
     refine wp_seq_k (fun K161 hK161 => ?_)
     refine wp_seq_k (fun K162 hK162 => ?_)
     refine wp_region_lit ?_
     refine mv hA rfl rfl rfl fun a hA => ?_
     refine mv hA rfl rfl rfl fun a hA => ?_
     refine seq_do (v := .int .i64 (((l.length : Nat) : Int))) hA rfl rfl rfl (d_lenT Tryz.underlying9 rfl) fun a hA => ?_
     refine seq_do (v := .bool false) hA rfl rfl rfl (d_bin rfl rfl (fun w => (bin_eql w).trans (by rw [show ((((p + n : Nat) : Int) == ((l.length : Nat) : Int))) = false from (beq_eq_false_iff_ne.2 (by omega))]))) fun a hA => ?_
     refine mv hA rfl rfl rfl fun a hA => ?_
     refine mv hA rfl rfl rfl fun a hA => ?_
     refine mv hA rfl rfl rfl fun a hA => ?_
     refine seq_do (v := .int .u8 (((btL l (p + n) : Nat) : Int))) hA rfl rfl rfl (d_ixT (s := l) (i := p + n) Tryz.underlying9 rfl rfl (by first | rfl | omega) (by first | omega | (simp only [List.length_drop, List.length_take]; omega))) fun a hA => ?_
     rcases Bool.eq_false_or_eq_true ((((btL l (p + n) : Nat) : Int) != 47)) with hb163 | hb163
     ·
      have hb163' := bne_iff_ne.1 hb163
      refine seq_do (v := .bool true) hA rfl rfl rfl (d_bin rfl rfl (fun w => (bin_neq w).trans (by rw [hb163]))) fun a hA => ?_
      refine seq_do (v := .bool true) hA rfl rfl rfl (d_pick rfl rfl rfl rfl) fun a hA => ?_
      refine seq_end ?_
      refine hK162 _ _ ?_
      refine wp_cond_true (hA.ev rfl) ?_
      refine wp_seq_k (fun K164 hK164 => ?_)
      refine wp_region_lit ?_
      refine mv hA rfl rfl rfl fun a hA => ?_
      refine mv hA rfl rfl rfl fun a hA => ?_
      refine mv hA rfl rfl rfl fun a hA => ?_
      refine seq_newU (us := [1]) (t := 40) (m := 1) hA hS rfl rfl rfl (d_buildSlice rfl (by kernel_rfl)) (by simp [Dig]) ?_
      intro g165 w166 hS a hA
      refine seq_call hA rfl rfl rfl (enters_func  rfl rfl (fun w => by kernel_rfl)) (rrat_01 neg ⟨(hS.rd 1 rfl), ho158.nocap, ho158.caps⟩ ⟨(hS.rd 0 rfl), (fun h => by cases h), (Nat.le_refl _)⟩) ?_
      rintro _ w171 ⟨f167_1, f167_c1, f167_2, f167_c2, rfl, hs168, hs169, hb170⟩
      replace hS := hS.call hb170
      replace hS := hS.addR hs168.rd
      replace hS := hS.addR hs169.rd
      refine ⟨_, rfl, ?_⟩
      intro a hA
      refine mv hA rfl rfl rfl fun a hA => ?_
      refine seq_do hA rfl rfl rfl (d_assign rfl) fun a hA => ?_
      refine seq_store (us := [.bool ((rb (0 : Rat).num)), .slice f167_1 ((words (0 : Rat).num.natAbs).length) f167_c1, .slice f167_2 ((words (0 : Rat).den).length) f167_c2]) hA hS rfl rfl (sets_store rfl rfl rfl (by kernel_rfl) hS 0 rfl rfl rfl) 0 rfl rfl rfl rfl ?_
      intro w172 hS
      refine seq_do hA rfl rfl rfl (d_assign rfl) fun a hA => ?_
      refine seq_end ?_
      refine hK164 _ _ ?_
      refine wp_ret ?_
      refine hret _ _ ?_
      refine ends (v := .tuple #[.int .i64 (((p + n : Nat) : Int)), .agg #[.bool ((rb (0 : Rat).num)), .slice f167_1 ((words (0 : Rat).num.natAbs).length) f167_c1, .slice f167_2 ((words (0 : Rat).den).length) f167_c2], .int .i64 ((rdE r ((l.drop p).take n)))]) hA rfl (.cons (res_tmp rfl) (.cons (res_cell hS RxF_isS_24 rfl 0 rfl (cs := [.bool ((rb (0 : Rat).num)), .slice f167_1 ((words (0 : Rat).num.natAbs).length) f167_c1, .slice f167_2 ((words (0 : Rat).den).length) f167_c2]) rfl rfl) (.cons (res_tmp rfl) .nil))) rfl ?_
      have e9 : n = nDg r (l.drop p) := stop_at hr36 hinv8 (by omega)
      have eQ : pQ r (l.drop p) = l.drop (p + n) := by unfold pQ; rw [← e9, List.drop_drop]
      have eT : pT r (l.drop p) = (l.drop p).take n := by unfold pT; rw [← e9]
      have eS0 : btL (pQ r (l.drop p)) 0 = btL l (p + n) := by rw [eQ, btL_drop]; rfl
      have eS : pS r (l.drop p) = false := by unfold pS; rw [eS0]; apply decide_eq_false; first | omega | (rw [btL_out (by omega)]; decide)
      have eK : pieceOk r (l.drop p) = true := by unfold pieceOk; rw [eS, ← e9, decide_eq_true (show n ≠ 0 from by omega)]; rfl
      have eL : p + pieceLen r (l.drop p) = p + n := by unfold pieceLen; rw [eS, ← e9]; rfl
      have eX : pieceErr r (l.drop p) = (rdE r ((l.drop p).take n)) := by unfold pieceErr; rw [eS, eT]; first | rfl | exact hb26'
      have eV : pieceVal r neg (l.drop p) = (0 : Rat) := by unfold pieceVal; rw [eX, if_neg (by first | decide | assumption)]
      unfold pcE pcV pcX
      rw [if_pos eK, if_pos eK, if_pos eK, eL, eV, eX]
      exact ⟨_, _, _, _, rfl, ⟨(hS.rd 1 rfl), hs168.nil, hs168.cap⟩, ⟨(hS.rd 0 rfl), hs169.nil, hs169.cap⟩, hS.bel⟩
     ·
      have hb163' := bne_eq_false_iff_eq.1 hb163
      refine seq_do (v := .bool false) hA rfl rfl rfl (d_bin rfl rfl (fun w => (bin_neq w).trans (by rw [hb163]))) fun a hA => ?_
      refine seq_do (v := .bool false) hA rfl rfl rfl (d_pick rfl rfl rfl rfl) fun a hA => ?_
      refine seq_end ?_
      refine hK162 _ _ ?_
      refine wp_cond_false (hA.ev rfl) ?_
      refine wp_skip ?_
      refine hK161 _ _ ?_
      refine wp_seq_k (fun K173 hK173 => ?_)
      refine wp_region_lit ?_
      refine mv hA rfl rfl rfl fun a hA => ?_
      refine seq_do (v := .int .i64 (((p + n + 1 : Nat) : Int))) hA rfl rfl rfl (d_bin rfl rfl (fun w => (bin_add (i64In (by omega) (by omega)) w).trans (by rw [show (((p + n : Nat) : Int) + 1 : Int) = ((p + n + 1 : Nat) : Int) from by omega]))) fun a hA => ?_
      refine seq_do hA rfl rfl rfl (d_assign rfl) fun a hA => ?_
      refine seq_end ?_
      refine hK173 _ _ ?_
      refine wp_seq_k (fun K174 hK174 => ?_)
      refine wp_region_lit ?_
      refine mv hA rfl rfl rfl fun a hA => ?_
      refine seq_do hA rfl rfl rfl (d_assign rfl) fun a hA => ?_
      refine seq_end ?_
      refine hK174 _ _ ?_
      refine wp_seq_k (fun K175 hK175 => ?_)
      refine wp_block ?_
      refine wp_loop_n (fun m a w1 => ∃ (kk : Nat), m = l.length - kk ∧ (kk ≤ nDg r (l.drop (p + n + 1))) ∧ Sl a 111 [(0, .string (bsL l)), (1, .int .i64 (((p : Nat) : Int))), (2, .int .i64 (((r : Nat) : Int))), (3, .bool neg), (8, .int .i64 0), (9, .pointer (some ⟨g2, 0, none⟩)), (10, .int .i64 0), (11, .int .i64 (((p + n + 1 + kk : Nat) : Int))), (12, .slice ro156 0 rc157), (13, .int .i64 ((rdE r ((l.drop p).take n)))), (14, .int .i64 (((p + n + 1 : Nat) : Int))), (17, .int .i64 (((p : Nat) : Int))), (18, .int .i64 (((p + n : Nat) : Int))), (19, .string (bsL l)), (20, .int .i64 (((l.length : Nat) : Int))), (21, .bool true), (22, .bool true), (23, .string (bsL l)), (24, .int .i64 (((p + n : Nat) : Int))), (25, .int .u8 (((btL l (p + n) : Nat) : Int))), (26, .int .u32 (((dvn 99 (btL l (p + n)) : Nat) : Int))), (27, .int .i64 (((r : Nat) : Int))), (28, .int .u32 (((r : Nat) : Int))), (29, .bool false), (30, .bool false), (33, .int .i64 (((p + n : Nat) : Int))), (34, .int .i64 (((p : Nat) : Int))), (35, .bool false), (37, .tuple #[.slice ro156 0 rc157, .int .i64 ((rdE r ((l.drop p).take n)))]), (38, .string (bsL l)), (39, .int .i64 (((p : Nat) : Int))), (40, .int .i64 (((p + n : Nat) : Int))), (41, .string (bsL ((l.drop p).take n))), (42, .int .i64 (((r : Nat) : Int))), (43, .tuple #[.slice ro156 0 rc157, .int .i64 ((rdE r ((l.drop p).take n)))]), (44, .slice ro156 0 rc157), (45, .int .i64 ((rdE r ((l.drop p).take n)))), (46, .int .i64 (((p + n : Nat) : Int))), (47, .string (bsL l)), (48, .int .i64 (((l.length : Nat) : Int))), (49, .bool false), (50, .bool false), (51, .string (bsL l)), (52, .int .i64 (((p + n : Nat) : Int))), (53, .int .u8 (((btL l (p + n) : Nat) : Int))), (54, .bool false), (55, .bool false), (62, .int .i64 (((p + n : Nat) : Int))), (63, .int .i64 (((p + n + 1 : Nat) : Int))), (64, .int .i64 (((p + n + 1 : Nat) : Int)))] ∧ St w w1 [(g2, [.bool false, .slice none 0 0, .slice none 0 0])] [(ro156, [])] []) _ ⟨0, rfl, Nat.zero_le _, hA.keep _ ⟨rfl, rfl, rfl, rfl, rfl, rfl, rfl, rfl, rfl, rfl, rfl, rfl, rfl, rfl, rfl, rfl, rfl, rfl, rfl, rfl, rfl, rfl, rfl, rfl, rfl, rfl, rfl, rfl, rfl, rfl, rfl, rfl, rfl, rfl, rfl, rfl, rfl, rfl, rfl, rfl, rfl, rfl, rfl, rfl, rfl, rfl, rfl, rfl, rfl, rfl, trivial⟩, hS⟩ ?_
      clear hS hA
      rintro m a w176 ⟨kk, rfl, hinv178, hA, hS⟩ K177 hK177
      have hq2 := nDg_le r (l.drop (p + n + 1))
      rw [List.length_drop] at hq2
      refine wp_seq_k (fun K179 hK179 => ?_)
      refine wp_seq_k (fun K180 hK180 => ?_)
      refine wp_region_lit ?_
      refine mv hA rfl rfl rfl fun a hA => ?_
      refine mv hA rfl rfl rfl fun a hA => ?_
      refine seq_do (v := .int .i64 (((l.length : Nat) : Int))) hA rfl rfl rfl (d_lenT Tryz.underlying9 rfl) fun a hA => ?_
      rcases Bool.eq_false_or_eq_true (decide (((p + n + 1 + kk : Nat) : Int) < ((l.length : Nat) : Int))) with hb181 | hb181
      ·
       have hb181' := of_decide_eq_true hb181
       refine seq_do (v := .bool true) hA rfl rfl rfl (d_bin rfl rfl (fun w => (bin_lss w).trans (by rw [hb181]))) fun a hA => ?_
       refine mv hA rfl rfl rfl fun a hA => ?_
       refine mv hA rfl rfl rfl fun a hA => ?_
       refine mv hA rfl rfl rfl fun a hA => ?_
       refine seq_do (v := .int .u8 (((btL l (p + n + 1 + kk) : Nat) : Int))) hA rfl rfl rfl (d_ixT (s := l) (i := p + n + 1 + kk) Tryz.underlying9 rfl rfl (by first | rfl | omega) (by first | omega | (simp only [List.length_drop, List.length_take]; omega))) fun a hA => ?_
       refine seq_call hA rfl rfl rfl (enters_func  rfl rfl (fun w => by kernel_rfl)) (value_any _ _ (btL_lt _ _)) ?_
       rintro _ w183 ⟨rfl, hb182⟩
       replace hb182 := below_eq hb182
       replace hS := hS.call hb182
       refine ⟨_, rfl, ?_⟩
       intro a hA
       refine mv hA rfl rfl rfl fun a hA => ?_
       refine seq_do (v := .int .u32 (((r : Nat) : Int))) hA rfl rfl rfl (d_convert rfl (ar_conv Tryz.underlying3 Tryz.underlying40 (in_u32 (by omega) (by omega)))) fun a hA => ?_
       rcases Bool.eq_false_or_eq_true (decide (((dvn 99 (btL l (p + n + 1 + kk)) : Nat) : Int) < ((r : Nat) : Int))) with hb184 | hb184
       ·
        have hb184' := of_decide_eq_true hb184
        refine seq_do (v := .bool true) hA rfl rfl rfl (d_bin rfl rfl (fun w => (bin_lss w).trans (by rw [hb184]))) fun a hA => ?_
        refine seq_do (v := .bool true) hA rfl rfl rfl (d_pick rfl rfl rfl rfl) fun a hA => ?_
        refine seq_end ?_
        refine hK180 _ _ ?_
        refine wp_cond_true (hA.ev rfl) ?_
        refine wp_skip ?_
        refine hK179 _ _ ?_
        refine wp_block ?_
        refine wp_region_lit ?_
        refine mv hA rfl rfl rfl fun a hA => ?_
        refine seq_do (v := .int .i64 (((p + n + 1 + kk + 1 : Nat) : Int))) hA rfl rfl rfl (d_bin rfl rfl (fun w => (bin_add (i64In (by omega) (by omega)) w).trans (by rw [show (((p + n + 1 + kk : Nat) : Int) + 1 : Int) = ((p + n + 1 + kk + 1 : Nat) : Int) from by omega]))) fun a hA => ?_
        refine seq_do hA rfl rfl rfl (d_assign rfl) fun a hA => ?_
        refine seq_end ?_
        refine hK177 _ _ _ (by omega) ⟨kk + 1, rfl, more_at hr36 hinv178 (by omega) (by omega), hA.keep _ ⟨rfl, rfl, rfl, rfl, rfl, rfl, rfl, rfl, rfl, rfl, rfl, rfl, rfl, rfl, rfl, rfl, rfl, rfl, rfl, rfl, rfl, rfl, rfl, rfl, rfl, rfl, rfl, rfl, rfl, rfl, rfl, rfl, rfl, rfl, rfl, rfl, rfl, rfl, rfl, rfl, rfl, rfl, rfl, rfl, rfl, rfl, rfl, rfl, rfl, rfl, trivial⟩, hS⟩
       ·
        have hb184' := of_decide_eq_false hb184
        refine seq_do (v := .bool false) hA rfl rfl rfl (d_bin rfl rfl (fun w => (bin_lss w).trans (by rw [hb184]))) fun a hA => ?_
        refine seq_do (v := .bool false) hA rfl rfl rfl (d_pick rfl rfl rfl rfl) fun a hA => ?_
        refine seq_end ?_
        refine hK180 _ _ ?_
        refine wp_cond_false (hA.ev rfl) ?_
        refine wp_exit ?_
        refine hK175 _ _ ?_
        refine wp_seq_k (fun K185 hK185 => ?_)
        refine wp_seq_k (fun K186 hK186 => ?_)
        refine wp_region_lit ?_
        refine mv hA rfl rfl rfl fun a hA => ?_
        refine mv hA rfl rfl rfl fun a hA => ?_
        rcases Bool.eq_false_or_eq_true ((((p + n + 1 + kk : Nat) : Int) == ((p + n + 1 : Nat) : Int))) with hb187 | hb187
        ·
         have hb187' := eq_of_beq hb187
         refine seq_do (v := .bool true) hA rfl rfl rfl (d_bin rfl rfl (fun w => (bin_eql w).trans (by rw [hb187]))) fun a hA => ?_
         refine seq_end ?_
         refine hK186 _ _ ?_
         refine wp_cond_true (hA.ev rfl) ?_
         refine wp_seq_k (fun K188 hK188 => ?_)
         refine wp_region_lit ?_
         refine seq_call hA rfl rfl rfl (enters_func  rfl rfl (fun w => by kernel_rfl)) (rzeroFR_any _) ?_
         rintro _ w193 ⟨f189_1, f189_c1, f189_2, f189_c2, rfl, hs190, hs191, hb192⟩
         replace hS := hS.call hb192
         replace hS := hS.addR hs190.rd
         replace hS := hS.addR hs191.rd
         refine ⟨_, rfl, ?_⟩
         intro a hA
         refine seq_do hA rfl rfl rfl (d_assign rfl) fun a hA => ?_
         refine seq_store (us := [.bool ((rb (0 : Rat).num)), .slice f189_1 ((words (0 : Rat).num.natAbs).length) f189_c1, .slice f189_2 ((words (0 : Rat).den).length) f189_c2]) hA hS rfl rfl (sets_store rfl rfl rfl (by kernel_rfl) hS 0 rfl rfl rfl) 0 rfl rfl rfl rfl ?_
         intro w194 hS
         refine seq_do hA rfl rfl rfl (d_assign rfl) fun a hA => ?_
         refine seq_end ?_
         refine hK188 _ _ ?_
         refine wp_ret ?_
         refine hret _ _ ?_
         refine ends (v := .tuple #[.int .i64 (-1), .agg #[.bool ((rb (0 : Rat).num)), .slice f189_1 ((words (0 : Rat).num.natAbs).length) f189_c1, .slice f189_2 ((words (0 : Rat).den).length) f189_c2], .int .i64 0]) hA rfl (.cons (res_tmp rfl) (.cons (res_cell hS RxF_isS_24 rfl 0 rfl (cs := [.bool ((rb (0 : Rat).num)), .slice f189_1 ((words (0 : Rat).num.natAbs).length) f189_c1, .slice f189_2 ((words (0 : Rat).den).length) f189_c2]) rfl rfl) (.cons (res_tmp rfl) .nil))) rfl ?_
         have e9 : n = nDg r (l.drop p) := stop_at hr36 hinv8 (by omega)
         have eQ : pQ r (l.drop p) = l.drop (p + n) := by unfold pQ; rw [← e9, List.drop_drop]
         have eT : pT r (l.drop p) = (l.drop p).take n := by unfold pT; rw [← e9]
         have eS0 : btL (pQ r (l.drop p)) 0 = btL l (p + n) := by rw [eQ, btL_drop]; rfl
         have e10 : kk = nDg r (l.drop (p + n + 1)) := stop_at hr36 hinv178 (by omega)
         have eB : pB r (l.drop p) = l.drop (p + n + 1) := by unfold pB; rw [eQ, List.drop_drop]
         have eU : pU r (l.drop p) = (l.drop (p + n + 1)).take kk := by unfold pU; rw [eB, ← e10]
         have eS : pS r (l.drop p) = true := by unfold pS; rw [eS0]; exact decide_eq_true (by omega)
         have eK : pieceOk r (l.drop p) = false := by unfold pieceOk; rw [eS, eB, ← e10, show kk = 0 from by omega]; simp
         unfold pcE pcV pcX
         rw [eK]
         exact ⟨_, _, _, _, rfl, ⟨(hS.rd 1 rfl), hs190.nil, hs190.cap⟩, ⟨(hS.rd 0 rfl), hs191.nil, hs191.cap⟩, hS.bel⟩
        ·
         have hb187' := ne_of_beq_false hb187
         refine seq_do (v := .bool false) hA rfl rfl rfl (d_bin rfl rfl (fun w => (bin_eql w).trans (by rw [hb187]))) fun a hA => ?_
         refine seq_end ?_
         refine hK186 _ _ ?_
         refine wp_cond_false (hA.ev rfl) ?_
         refine wp_skip ?_
         refine hK185 _ _ ?_
         refine wp_seq_k (fun K195 hK195 => ?_)
         refine wp_region_lit ?_
         refine mv hA rfl rfl rfl fun a hA => ?_
         refine mv hA rfl rfl rfl fun a hA => ?_
         refine mv hA rfl rfl rfl fun a hA => ?_
         refine seq_do (v := .string (bsL ((l.drop (p + n + 1)).take kk))) hA rfl rfl rfl (d_slN (p := p + n + 1) (n := kk) (s := l) Tryz.underlying9 rfl rfl rfl (by first | rfl | omega) (by first | rfl | omega) (by first | omega | (simp only [List.length_drop, List.length_take]; omega))) fun a hA => ?_
         refine mv hA rfl rfl rfl fun a hA => ?_
         rcases Bool.eq_false_or_eq_true (decide (rdE r ((l.drop (p + n + 1)).take kk) = 0)) with hb196 | hb196
         ·
          have hb196' := of_decide_eq_true hb196
          refine seq_call hA rfl rfl rfl (enters_func  rfl rfl (fun w => by kernel_rfl)) (rread_ok (t := (l.drop (p + n + 1)).take kk) hr (by rw [List.length_take, List.length_drop]; omega) (by rw [List.length_take, List.length_drop]; omega) (of_decide_eq_true hb196)) ?_
          rintro _ w201 ⟨ro197, rc198, rfl, ho199, hb200⟩
          replace hS := hS.call hb200
          replace hS := hS.addR ho199.rd
          refine ⟨_, rfl, ?_⟩
          intro a hA
          refine mv hA rfl rfl rfl fun a hA => ?_
          refine seq_do (v := .slice ro197 ((words (natN r ((l.drop (p + n + 1)).take kk))).length) rc198) hA rfl rfl rfl (d_extract (vs := [.slice ro197 ((words (natN r ((l.drop (p + n + 1)).take kk))).length) rc198, .int .i64 0]) rfl rfl) fun a hA => ?_
          refine seq_do (v := .int .i64 0) hA rfl rfl rfl (d_extract (vs := [.slice ro197 ((words (natN r ((l.drop (p + n + 1)).take kk))).length) rc198, .int .i64 0]) rfl rfl) fun a hA => ?_
          refine seq_do hA rfl rfl rfl (d_assign rfl) fun a hA => ?_
          refine seq_do hA rfl rfl rfl (d_assign rfl) fun a hA => ?_
          refine seq_end ?_
          refine hK195 _ _ ?_
          refine wp_seq_k (fun K202 hK202 => ?_)
          refine wp_seq_k (fun K203 hK203 => ?_)
          refine wp_region_lit ?_
          refine mv hA rfl rfl rfl fun a hA => ?_
          refine seq_do (v := .bool true) hA rfl rfl rfl (d_bin rfl rfl (fun w => (bin_neq w).trans (by rw [show (((rdE r ((l.drop p).take n)) != 0)) = true from (bne_iff_ne.2 hb26')]))) fun a hA => ?_
          refine mv hA rfl rfl rfl fun a hA => ?_
          refine seq_skip hA rfl rfl rfl fun a hA => ?_
          refine seq_skip hA rfl rfl rfl fun a hA => ?_
          refine seq_do (v := .bool true) hA rfl rfl rfl (d_pick rfl rfl rfl rfl) fun a hA => ?_
          refine seq_end ?_
          refine hK203 _ _ ?_
          refine wp_cond_true (hA.ev rfl) ?_
          refine wp_seq_k (fun K204 hK204 => ?_)
          refine wp_region_lit ?_
          refine mv hA rfl rfl rfl fun a hA => ?_
          refine seq_call hA rfl rfl rfl (enters_func  rfl rfl (fun w => by kernel_rfl)) (rzeroFR_any _) ?_
          rintro _ w209 ⟨f205_1, f205_c1, f205_2, f205_c2, rfl, hs206, hs207, hb208⟩
          replace hS := hS.call hb208
          replace hS := hS.addR hs206.rd
          replace hS := hS.addR hs207.rd
          refine ⟨_, rfl, ?_⟩
          intro a hA
          refine seq_do hA rfl rfl rfl (d_assign rfl) fun a hA => ?_
          refine seq_store (us := [.bool ((rb (0 : Rat).num)), .slice f205_1 ((words (0 : Rat).num.natAbs).length) f205_c1, .slice f205_2 ((words (0 : Rat).den).length) f205_c2]) hA hS rfl rfl (sets_store rfl rfl rfl (by kernel_rfl) hS 0 rfl rfl rfl) 0 rfl rfl rfl rfl ?_
          intro w210 hS
          refine seq_do hA rfl rfl rfl (d_assign rfl) fun a hA => ?_
          refine seq_end ?_
          refine hK204 _ _ ?_
          refine wp_ret ?_
          refine hret _ _ ?_
          refine ends (v := .tuple #[.int .i64 (((p + n + 1 + kk : Nat) : Int)), .agg #[.bool ((rb (0 : Rat).num)), .slice f205_1 ((words (0 : Rat).num.natAbs).length) f205_c1, .slice f205_2 ((words (0 : Rat).den).length) f205_c2], .int .i64 4]) hA rfl (.cons (res_tmp rfl) (.cons (res_cell hS RxF_isS_24 rfl 0 rfl (cs := [.bool ((rb (0 : Rat).num)), .slice f205_1 ((words (0 : Rat).num.natAbs).length) f205_c1, .slice f205_2 ((words (0 : Rat).den).length) f205_c2]) rfl rfl) (.cons (res_tmp rfl) .nil))) rfl ?_
          have e9 : n = nDg r (l.drop p) := stop_at hr36 hinv8 (by omega)
          have eQ : pQ r (l.drop p) = l.drop (p + n) := by unfold pQ; rw [← e9, List.drop_drop]
          have eT : pT r (l.drop p) = (l.drop p).take n := by unfold pT; rw [← e9]
          have eS0 : btL (pQ r (l.drop p)) 0 = btL l (p + n) := by rw [eQ, btL_drop]; rfl
          have e10 : kk = nDg r (l.drop (p + n + 1)) := stop_at hr36 hinv178 (by omega)
          have eB : pB r (l.drop p) = l.drop (p + n + 1) := by unfold pB; rw [eQ, List.drop_drop]
          have eU : pU r (l.drop p) = (l.drop (p + n + 1)).take kk := by unfold pU; rw [eB, ← e10]
          have eS : pS r (l.drop p) = true := by unfold pS; rw [eS0]; exact decide_eq_true (by omega)
          have eK : pieceOk r (l.drop p) = true := by unfold pieceOk; rw [eS, eB, ← e10, ← e9, decide_eq_true (show n ≠ 0 from by omega), decide_eq_true (show kk ≠ 0 from by omega)]; rfl
          have eL : p + pieceLen r (l.drop p) = p + n + 1 + kk := by unfold pieceLen; rw [eS, ← e9, eB, ← e10]; simp only [if_true]; omega
          have eX : pieceErr r (l.drop p) = 4 := by unfold pieceErr; rw [eS, eT, eU, if_pos rfl, if_pos (by first | exact Or.inl hb26' | exact Or.inr hb196')]
          have eV : pieceVal r neg (l.drop p) = (0 : Rat) := by unfold pieceVal; rw [eX, if_neg (by first | decide | assumption)]
          unfold pcE pcV pcX
          rw [if_pos eK, if_pos eK, if_pos eK, eL, eV, eX]
          exact ⟨_, _, _, _, rfl, ⟨(hS.rd 1 rfl), hs206.nil, hs206.cap⟩, ⟨(hS.rd 0 rfl), hs207.nil, hs207.cap⟩, hS.bel⟩
         ·
          have hb196' := of_decide_eq_false hb196
          refine seq_call hA rfl rfl rfl (enters_func  rfl rfl (fun w => by kernel_rfl)) (rread_bad (t := (l.drop (p + n + 1)).take kk) hr (by rw [List.length_take, List.length_drop]; omega) (by rw [List.length_take, List.length_drop]; omega) (of_decide_eq_false hb196)) ?_
          rintro _ w215 ⟨ro211, rc212, rfl, ho213, hb214⟩
          replace hS := hS.call hb214
          replace hS := hS.addR ho213.rd
          refine ⟨_, rfl, ?_⟩
          intro a hA
          refine mv hA rfl rfl rfl fun a hA => ?_
          refine seq_do (v := .slice ro211 0 rc212) hA rfl rfl rfl (d_extract (vs := [.slice ro211 0 rc212, .int .i64 ((rdE r ((l.drop (p + n + 1)).take kk)))]) rfl rfl) fun a hA => ?_
          refine seq_do (v := .int .i64 ((rdE r ((l.drop (p + n + 1)).take kk)))) hA rfl rfl rfl (d_extract (vs := [.slice ro211 0 rc212, .int .i64 ((rdE r ((l.drop (p + n + 1)).take kk)))]) rfl rfl) fun a hA => ?_
          refine seq_do hA rfl rfl rfl (d_assign rfl) fun a hA => ?_
          refine seq_do hA rfl rfl rfl (d_assign rfl) fun a hA => ?_
          refine seq_end ?_
          refine hK195 _ _ ?_
          refine wp_seq_k (fun K216 hK216 => ?_)
          refine wp_seq_k (fun K217 hK217 => ?_)
          refine wp_region_lit ?_
          refine mv hA rfl rfl rfl fun a hA => ?_
          refine seq_do (v := .bool true) hA rfl rfl rfl (d_bin rfl rfl (fun w => (bin_neq w).trans (by rw [show (((rdE r ((l.drop p).take n)) != 0)) = true from (bne_iff_ne.2 hb26')]))) fun a hA => ?_
          refine mv hA rfl rfl rfl fun a hA => ?_
          refine seq_skip hA rfl rfl rfl fun a hA => ?_
          refine seq_skip hA rfl rfl rfl fun a hA => ?_
          refine seq_do (v := .bool true) hA rfl rfl rfl (d_pick rfl rfl rfl rfl) fun a hA => ?_
          refine seq_end ?_
          refine hK217 _ _ ?_
          refine wp_cond_true (hA.ev rfl) ?_
          refine wp_seq_k (fun K218 hK218 => ?_)
          refine wp_region_lit ?_
          refine mv hA rfl rfl rfl fun a hA => ?_
          refine seq_call hA rfl rfl rfl (enters_func  rfl rfl (fun w => by kernel_rfl)) (rzeroFR_any _) ?_
          rintro _ w223 ⟨f219_1, f219_c1, f219_2, f219_c2, rfl, hs220, hs221, hb222⟩
          replace hS := hS.call hb222
          replace hS := hS.addR hs220.rd
          replace hS := hS.addR hs221.rd
          refine ⟨_, rfl, ?_⟩
          intro a hA
          refine seq_do hA rfl rfl rfl (d_assign rfl) fun a hA => ?_
          refine seq_store (us := [.bool ((rb (0 : Rat).num)), .slice f219_1 ((words (0 : Rat).num.natAbs).length) f219_c1, .slice f219_2 ((words (0 : Rat).den).length) f219_c2]) hA hS rfl rfl (sets_store rfl rfl rfl (by kernel_rfl) hS 0 rfl rfl rfl) 0 rfl rfl rfl rfl ?_
          intro w224 hS
          refine seq_do hA rfl rfl rfl (d_assign rfl) fun a hA => ?_
          refine seq_end ?_
          refine hK218 _ _ ?_
          refine wp_ret ?_
          refine hret _ _ ?_
          refine ends (v := .tuple #[.int .i64 (((p + n + 1 + kk : Nat) : Int)), .agg #[.bool ((rb (0 : Rat).num)), .slice f219_1 ((words (0 : Rat).num.natAbs).length) f219_c1, .slice f219_2 ((words (0 : Rat).den).length) f219_c2], .int .i64 4]) hA rfl (.cons (res_tmp rfl) (.cons (res_cell hS RxF_isS_24 rfl 0 rfl (cs := [.bool ((rb (0 : Rat).num)), .slice f219_1 ((words (0 : Rat).num.natAbs).length) f219_c1, .slice f219_2 ((words (0 : Rat).den).length) f219_c2]) rfl rfl) (.cons (res_tmp rfl) .nil))) rfl ?_
          have e9 : n = nDg r (l.drop p) := stop_at hr36 hinv8 (by omega)
          have eQ : pQ r (l.drop p) = l.drop (p + n) := by unfold pQ; rw [← e9, List.drop_drop]
          have eT : pT r (l.drop p) = (l.drop p).take n := by unfold pT; rw [← e9]
          have eS0 : btL (pQ r (l.drop p)) 0 = btL l (p + n) := by rw [eQ, btL_drop]; rfl
          have e10 : kk = nDg r (l.drop (p + n + 1)) := stop_at hr36 hinv178 (by omega)
          have eB : pB r (l.drop p) = l.drop (p + n + 1) := by unfold pB; rw [eQ, List.drop_drop]
          have eU : pU r (l.drop p) = (l.drop (p + n + 1)).take kk := by unfold pU; rw [eB, ← e10]
          have eS : pS r (l.drop p) = true := by unfold pS; rw [eS0]; exact decide_eq_true (by omega)
          have eK : pieceOk r (l.drop p) = true := by unfold pieceOk; rw [eS, eB, ← e10, ← e9, decide_eq_true (show n ≠ 0 from by omega), decide_eq_true (show kk ≠ 0 from by omega)]; rfl
          have eL : p + pieceLen r (l.drop p) = p + n + 1 + kk := by unfold pieceLen; rw [eS, ← e9, eB, ← e10]; simp only [if_true]; omega
          have eX : pieceErr r (l.drop p) = 4 := by unfold pieceErr; rw [eS, eT, eU, if_pos rfl, if_pos (by first | exact Or.inl hb26' | exact Or.inr hb196')]
          have eV : pieceVal r neg (l.drop p) = (0 : Rat) := by unfold pieceVal; rw [eX, if_neg (by first | decide | assumption)]
          unfold pcE pcV pcX
          rw [if_pos eK, if_pos eK, if_pos eK, eL, eV, eX]
          exact ⟨_, _, _, _, rfl, ⟨(hS.rd 1 rfl), hs220.nil, hs220.cap⟩, ⟨(hS.rd 0 rfl), hs221.nil, hs221.cap⟩, hS.bel⟩
      ·
       have hb181' := of_decide_eq_false hb181
       refine seq_do (v := .bool false) hA rfl rfl rfl (d_bin rfl rfl (fun w => (bin_lss w).trans (by rw [hb181]))) fun a hA => ?_
       refine mv hA rfl rfl rfl fun a hA => ?_
       refine seq_skip hA rfl rfl rfl fun a hA => ?_
       refine seq_skip hA rfl rfl rfl fun a hA => ?_
       refine seq_skip hA rfl rfl rfl fun a hA => ?_
       refine seq_skip hA rfl rfl rfl fun a hA => ?_
       refine seq_skip hA rfl rfl rfl fun a hA => ?_
       refine seq_skip hA rfl rfl rfl fun a hA => ?_
       refine seq_skip hA rfl rfl rfl fun a hA => ?_
       refine seq_do (v := .bool false) hA rfl rfl rfl (d_pick rfl rfl rfl rfl) fun a hA => ?_
       refine seq_end ?_
       refine hK180 _ _ ?_
       refine wp_cond_false (hA.ev rfl) ?_
       refine wp_exit ?_
       refine hK175 _ _ ?_
       refine wp_seq_k (fun K225 hK225 => ?_)
       refine wp_seq_k (fun K226 hK226 => ?_)
       refine wp_region_lit ?_
       refine mv hA rfl rfl rfl fun a hA => ?_
       refine mv hA rfl rfl rfl fun a hA => ?_
       rcases Bool.eq_false_or_eq_true ((((p + n + 1 + kk : Nat) : Int) == ((p + n + 1 : Nat) : Int))) with hb227 | hb227
       ·
        have hb227' := eq_of_beq hb227
        refine seq_do (v := .bool true) hA rfl rfl rfl (d_bin rfl rfl (fun w => (bin_eql w).trans (by rw [hb227]))) fun a hA => ?_
        refine seq_end ?_
        refine hK226 _ _ ?_
        refine wp_cond_true (hA.ev rfl) ?_
        refine wp_seq_k (fun K228 hK228 => ?_)
        refine wp_region_lit ?_
        refine seq_call hA rfl rfl rfl (enters_func  rfl rfl (fun w => by kernel_rfl)) (rzeroFR_any _) ?_
        rintro _ w233 ⟨f229_1, f229_c1, f229_2, f229_c2, rfl, hs230, hs231, hb232⟩
        replace hS := hS.call hb232
        replace hS := hS.addR hs230.rd
        replace hS := hS.addR hs231.rd
        refine ⟨_, rfl, ?_⟩
        intro a hA
        refine seq_do hA rfl rfl rfl (d_assign rfl) fun a hA => ?_
        refine seq_store (us := [.bool ((rb (0 : Rat).num)), .slice f229_1 ((words (0 : Rat).num.natAbs).length) f229_c1, .slice f229_2 ((words (0 : Rat).den).length) f229_c2]) hA hS rfl rfl (sets_store rfl rfl rfl (by kernel_rfl) hS 0 rfl rfl rfl) 0 rfl rfl rfl rfl ?_
        intro w234 hS
        refine seq_do hA rfl rfl rfl (d_assign rfl) fun a hA => ?_
        refine seq_end ?_
        refine hK228 _ _ ?_
        refine wp_ret ?_
        refine hret _ _ ?_
        refine ends (v := .tuple #[.int .i64 (-1), .agg #[.bool ((rb (0 : Rat).num)), .slice f229_1 ((words (0 : Rat).num.natAbs).length) f229_c1, .slice f229_2 ((words (0 : Rat).den).length) f229_c2], .int .i64 0]) hA rfl (.cons (res_tmp rfl) (.cons (res_cell hS RxF_isS_24 rfl 0 rfl (cs := [.bool ((rb (0 : Rat).num)), .slice f229_1 ((words (0 : Rat).num.natAbs).length) f229_c1, .slice f229_2 ((words (0 : Rat).den).length) f229_c2]) rfl rfl) (.cons (res_tmp rfl) .nil))) rfl ?_
        have e9 : n = nDg r (l.drop p) := stop_at hr36 hinv8 (by omega)
        have eQ : pQ r (l.drop p) = l.drop (p + n) := by unfold pQ; rw [← e9, List.drop_drop]
        have eT : pT r (l.drop p) = (l.drop p).take n := by unfold pT; rw [← e9]
        have eS0 : btL (pQ r (l.drop p)) 0 = btL l (p + n) := by rw [eQ, btL_drop]; rfl
        have e10 : kk = nDg r (l.drop (p + n + 1)) := stop_at hr36 hinv178 (by omega)
        have eB : pB r (l.drop p) = l.drop (p + n + 1) := by unfold pB; rw [eQ, List.drop_drop]
        have eU : pU r (l.drop p) = (l.drop (p + n + 1)).take kk := by unfold pU; rw [eB, ← e10]
        have eS : pS r (l.drop p) = true := by unfold pS; rw [eS0]; exact decide_eq_true (by omega)
        have eK : pieceOk r (l.drop p) = false := by unfold pieceOk; rw [eS, eB, ← e10, show kk = 0 from by omega]; simp
        unfold pcE pcV pcX
        rw [eK]
        exact ⟨_, _, _, _, rfl, ⟨(hS.rd 1 rfl), hs230.nil, hs230.cap⟩, ⟨(hS.rd 0 rfl), hs231.nil, hs231.cap⟩, hS.bel⟩
       ·
        have hb227' := ne_of_beq_false hb227
        refine seq_do (v := .bool false) hA rfl rfl rfl (d_bin rfl rfl (fun w => (bin_eql w).trans (by rw [hb227]))) fun a hA => ?_
        refine seq_end ?_
        refine hK226 _ _ ?_
        refine wp_cond_false (hA.ev rfl) ?_
        refine wp_skip ?_
        refine hK225 _ _ ?_
        refine wp_seq_k (fun K235 hK235 => ?_)
        refine wp_region_lit ?_
        refine mv hA rfl rfl rfl fun a hA => ?_
        refine mv hA rfl rfl rfl fun a hA => ?_
        refine mv hA rfl rfl rfl fun a hA => ?_
        refine seq_do (v := .string (bsL ((l.drop (p + n + 1)).take kk))) hA rfl rfl rfl (d_slN (p := p + n + 1) (n := kk) (s := l) Tryz.underlying9 rfl rfl rfl (by first | rfl | omega) (by first | rfl | omega) (by first | omega | (simp only [List.length_drop, List.length_take]; omega))) fun a hA => ?_
        refine mv hA rfl rfl rfl fun a hA => ?_
        rcases Bool.eq_false_or_eq_true (decide (rdE r ((l.drop (p + n + 1)).take kk) = 0)) with hb236 | hb236
        ·
         have hb236' := of_decide_eq_true hb236
         refine seq_call hA rfl rfl rfl (enters_func  rfl rfl (fun w => by kernel_rfl)) (rread_ok (t := (l.drop (p + n + 1)).take kk) hr (by rw [List.length_take, List.length_drop]; omega) (by rw [List.length_take, List.length_drop]; omega) (of_decide_eq_true hb236)) ?_
         rintro _ w241 ⟨ro237, rc238, rfl, ho239, hb240⟩
         replace hS := hS.call hb240
         replace hS := hS.addR ho239.rd
         refine ⟨_, rfl, ?_⟩
         intro a hA
         refine mv hA rfl rfl rfl fun a hA => ?_
         refine seq_do (v := .slice ro237 ((words (natN r ((l.drop (p + n + 1)).take kk))).length) rc238) hA rfl rfl rfl (d_extract (vs := [.slice ro237 ((words (natN r ((l.drop (p + n + 1)).take kk))).length) rc238, .int .i64 0]) rfl rfl) fun a hA => ?_
         refine seq_do (v := .int .i64 0) hA rfl rfl rfl (d_extract (vs := [.slice ro237 ((words (natN r ((l.drop (p + n + 1)).take kk))).length) rc238, .int .i64 0]) rfl rfl) fun a hA => ?_
         refine seq_do hA rfl rfl rfl (d_assign rfl) fun a hA => ?_
         refine seq_do hA rfl rfl rfl (d_assign rfl) fun a hA => ?_
         refine seq_end ?_
         refine hK235 _ _ ?_
         refine wp_seq_k (fun K242 hK242 => ?_)
         refine wp_seq_k (fun K243 hK243 => ?_)
         refine wp_region_lit ?_
         refine mv hA rfl rfl rfl fun a hA => ?_
         refine seq_do (v := .bool true) hA rfl rfl rfl (d_bin rfl rfl (fun w => (bin_neq w).trans (by rw [show (((rdE r ((l.drop p).take n)) != 0)) = true from (bne_iff_ne.2 hb26')]))) fun a hA => ?_
         refine mv hA rfl rfl rfl fun a hA => ?_
         refine seq_skip hA rfl rfl rfl fun a hA => ?_
         refine seq_skip hA rfl rfl rfl fun a hA => ?_
         refine seq_do (v := .bool true) hA rfl rfl rfl (d_pick rfl rfl rfl rfl) fun a hA => ?_
         refine seq_end ?_
         refine hK243 _ _ ?_
         refine wp_cond_true (hA.ev rfl) ?_
         refine wp_seq_k (fun K244 hK244 => ?_)
         refine wp_region_lit ?_
         refine mv hA rfl rfl rfl fun a hA => ?_
         refine seq_call hA rfl rfl rfl (enters_func  rfl rfl (fun w => by kernel_rfl)) (rzeroFR_any _) ?_
         rintro _ w249 ⟨f245_1, f245_c1, f245_2, f245_c2, rfl, hs246, hs247, hb248⟩
         replace hS := hS.call hb248
         replace hS := hS.addR hs246.rd
         replace hS := hS.addR hs247.rd
         refine ⟨_, rfl, ?_⟩
         intro a hA
         refine seq_do hA rfl rfl rfl (d_assign rfl) fun a hA => ?_
         refine seq_store (us := [.bool ((rb (0 : Rat).num)), .slice f245_1 ((words (0 : Rat).num.natAbs).length) f245_c1, .slice f245_2 ((words (0 : Rat).den).length) f245_c2]) hA hS rfl rfl (sets_store rfl rfl rfl (by kernel_rfl) hS 0 rfl rfl rfl) 0 rfl rfl rfl rfl ?_
         intro w250 hS
         refine seq_do hA rfl rfl rfl (d_assign rfl) fun a hA => ?_
         refine seq_end ?_
         refine hK244 _ _ ?_
         refine wp_ret ?_
         refine hret _ _ ?_
         refine ends (v := .tuple #[.int .i64 (((p + n + 1 + kk : Nat) : Int)), .agg #[.bool ((rb (0 : Rat).num)), .slice f245_1 ((words (0 : Rat).num.natAbs).length) f245_c1, .slice f245_2 ((words (0 : Rat).den).length) f245_c2], .int .i64 4]) hA rfl (.cons (res_tmp rfl) (.cons (res_cell hS RxF_isS_24 rfl 0 rfl (cs := [.bool ((rb (0 : Rat).num)), .slice f245_1 ((words (0 : Rat).num.natAbs).length) f245_c1, .slice f245_2 ((words (0 : Rat).den).length) f245_c2]) rfl rfl) (.cons (res_tmp rfl) .nil))) rfl ?_
         have e9 : n = nDg r (l.drop p) := stop_at hr36 hinv8 (by omega)
         have eQ : pQ r (l.drop p) = l.drop (p + n) := by unfold pQ; rw [← e9, List.drop_drop]
         have eT : pT r (l.drop p) = (l.drop p).take n := by unfold pT; rw [← e9]
         have eS0 : btL (pQ r (l.drop p)) 0 = btL l (p + n) := by rw [eQ, btL_drop]; rfl
         have e10 : kk = nDg r (l.drop (p + n + 1)) := stop_at hr36 hinv178 (by omega)
         have eB : pB r (l.drop p) = l.drop (p + n + 1) := by unfold pB; rw [eQ, List.drop_drop]
         have eU : pU r (l.drop p) = (l.drop (p + n + 1)).take kk := by unfold pU; rw [eB, ← e10]
         have eS : pS r (l.drop p) = true := by unfold pS; rw [eS0]; exact decide_eq_true (by omega)
         have eK : pieceOk r (l.drop p) = true := by unfold pieceOk; rw [eS, eB, ← e10, ← e9, decide_eq_true (show n ≠ 0 from by omega), decide_eq_true (show kk ≠ 0 from by omega)]; rfl
         have eL : p + pieceLen r (l.drop p) = p + n + 1 + kk := by unfold pieceLen; rw [eS, ← e9, eB, ← e10]; simp only [if_true]; omega
         have eX : pieceErr r (l.drop p) = 4 := by unfold pieceErr; rw [eS, eT, eU, if_pos rfl, if_pos (by first | exact Or.inl hb26' | exact Or.inr hb236')]
         have eV : pieceVal r neg (l.drop p) = (0 : Rat) := by unfold pieceVal; rw [eX, if_neg (by first | decide | assumption)]
         unfold pcE pcV pcX
         rw [if_pos eK, if_pos eK, if_pos eK, eL, eV, eX]
         exact ⟨_, _, _, _, rfl, ⟨(hS.rd 1 rfl), hs246.nil, hs246.cap⟩, ⟨(hS.rd 0 rfl), hs247.nil, hs247.cap⟩, hS.bel⟩
        ·
         have hb236' := of_decide_eq_false hb236
         refine seq_call hA rfl rfl rfl (enters_func  rfl rfl (fun w => by kernel_rfl)) (rread_bad (t := (l.drop (p + n + 1)).take kk) hr (by rw [List.length_take, List.length_drop]; omega) (by rw [List.length_take, List.length_drop]; omega) (of_decide_eq_false hb236)) ?_
         rintro _ w255 ⟨ro251, rc252, rfl, ho253, hb254⟩
         replace hS := hS.call hb254
         replace hS := hS.addR ho253.rd
         refine ⟨_, rfl, ?_⟩
         intro a hA
         refine mv hA rfl rfl rfl fun a hA => ?_
         refine seq_do (v := .slice ro251 0 rc252) hA rfl rfl rfl (d_extract (vs := [.slice ro251 0 rc252, .int .i64 ((rdE r ((l.drop (p + n + 1)).take kk)))]) rfl rfl) fun a hA => ?_
         refine seq_do (v := .int .i64 ((rdE r ((l.drop (p + n + 1)).take kk)))) hA rfl rfl rfl (d_extract (vs := [.slice ro251 0 rc252, .int .i64 ((rdE r ((l.drop (p + n + 1)).take kk)))]) rfl rfl) fun a hA => ?_
         refine seq_do hA rfl rfl rfl (d_assign rfl) fun a hA => ?_
         refine seq_do hA rfl rfl rfl (d_assign rfl) fun a hA => ?_
         refine seq_end ?_
         refine hK235 _ _ ?_
         refine wp_seq_k (fun K256 hK256 => ?_)
         refine wp_seq_k (fun K257 hK257 => ?_)
         refine wp_region_lit ?_
         refine mv hA rfl rfl rfl fun a hA => ?_
         refine seq_do (v := .bool true) hA rfl rfl rfl (d_bin rfl rfl (fun w => (bin_neq w).trans (by rw [show (((rdE r ((l.drop p).take n)) != 0)) = true from (bne_iff_ne.2 hb26')]))) fun a hA => ?_
         refine mv hA rfl rfl rfl fun a hA => ?_
         refine seq_skip hA rfl rfl rfl fun a hA => ?_
         refine seq_skip hA rfl rfl rfl fun a hA => ?_
         refine seq_do (v := .bool true) hA rfl rfl rfl (d_pick rfl rfl rfl rfl) fun a hA => ?_
         refine seq_end ?_
         refine hK257 _ _ ?_
         refine wp_cond_true (hA.ev rfl) ?_
         refine wp_seq_k (fun K258 hK258 => ?_)
         refine wp_region_lit ?_
         refine mv hA rfl rfl rfl fun a hA => ?_
         refine seq_call hA rfl rfl rfl (enters_func  rfl rfl (fun w => by kernel_rfl)) (rzeroFR_any _) ?_
         rintro _ w263 ⟨f259_1, f259_c1, f259_2, f259_c2, rfl, hs260, hs261, hb262⟩
         replace hS := hS.call hb262
         replace hS := hS.addR hs260.rd
         replace hS := hS.addR hs261.rd
         refine ⟨_, rfl, ?_⟩
         intro a hA
         refine seq_do hA rfl rfl rfl (d_assign rfl) fun a hA => ?_
         refine seq_store (us := [.bool ((rb (0 : Rat).num)), .slice f259_1 ((words (0 : Rat).num.natAbs).length) f259_c1, .slice f259_2 ((words (0 : Rat).den).length) f259_c2]) hA hS rfl rfl (sets_store rfl rfl rfl (by kernel_rfl) hS 0 rfl rfl rfl) 0 rfl rfl rfl rfl ?_
         intro w264 hS
         refine seq_do hA rfl rfl rfl (d_assign rfl) fun a hA => ?_
         refine seq_end ?_
         refine hK258 _ _ ?_
         refine wp_ret ?_
         refine hret _ _ ?_
         refine ends (v := .tuple #[.int .i64 (((p + n + 1 + kk : Nat) : Int)), .agg #[.bool ((rb (0 : Rat).num)), .slice f259_1 ((words (0 : Rat).num.natAbs).length) f259_c1, .slice f259_2 ((words (0 : Rat).den).length) f259_c2], .int .i64 4]) hA rfl (.cons (res_tmp rfl) (.cons (res_cell hS RxF_isS_24 rfl 0 rfl (cs := [.bool ((rb (0 : Rat).num)), .slice f259_1 ((words (0 : Rat).num.natAbs).length) f259_c1, .slice f259_2 ((words (0 : Rat).den).length) f259_c2]) rfl rfl) (.cons (res_tmp rfl) .nil))) rfl ?_
         have e9 : n = nDg r (l.drop p) := stop_at hr36 hinv8 (by omega)
         have eQ : pQ r (l.drop p) = l.drop (p + n) := by unfold pQ; rw [← e9, List.drop_drop]
         have eT : pT r (l.drop p) = (l.drop p).take n := by unfold pT; rw [← e9]
         have eS0 : btL (pQ r (l.drop p)) 0 = btL l (p + n) := by rw [eQ, btL_drop]; rfl
         have e10 : kk = nDg r (l.drop (p + n + 1)) := stop_at hr36 hinv178 (by omega)
         have eB : pB r (l.drop p) = l.drop (p + n + 1) := by unfold pB; rw [eQ, List.drop_drop]
         have eU : pU r (l.drop p) = (l.drop (p + n + 1)).take kk := by unfold pU; rw [eB, ← e10]
         have eS : pS r (l.drop p) = true := by unfold pS; rw [eS0]; exact decide_eq_true (by omega)
         have eK : pieceOk r (l.drop p) = true := by unfold pieceOk; rw [eS, eB, ← e10, ← e9, decide_eq_true (show n ≠ 0 from by omega), decide_eq_true (show kk ≠ 0 from by omega)]; rfl
         have eL : p + pieceLen r (l.drop p) = p + n + 1 + kk := by unfold pieceLen; rw [eS, ← e9, eB, ← e10]; simp only [if_true]; omega
         have eX : pieceErr r (l.drop p) = 4 := by unfold pieceErr; rw [eS, eT, eU, if_pos rfl, if_pos (by first | exact Or.inl hb26' | exact Or.inr hb236')]
         have eV : pieceVal r neg (l.drop p) = (0 : Rat) := by unfold pieceVal; rw [eX, if_neg (by first | decide | assumption)]
         unfold pcE pcV pcX
         rw [if_pos eK, if_pos eK, if_pos eK, eL, eV, eX]
         exact ⟨_, _, _, _, rfl, ⟨(hS.rd 1 rfl), hs260.nil, hs260.cap⟩, ⟨(hS.rd 0 rfl), hs261.nil, hs261.cap⟩, hS.bel⟩
 ·
  have hb11' := of_decide_eq_false hb11
  refine seq_do (v := .bool false) hA rfl rfl rfl (d_bin rfl rfl (fun w => (bin_lss w).trans (by rw [hb11]))) fun a hA => ?_
  refine mv hA rfl rfl rfl fun a hA => ?_
  refine seq_skip hA rfl rfl rfl fun a hA => ?_
  refine seq_skip hA rfl rfl rfl fun a hA => ?_
  refine seq_skip hA rfl rfl rfl fun a hA => ?_
  refine seq_skip hA rfl rfl rfl fun a hA => ?_
  refine seq_skip hA rfl rfl rfl fun a hA => ?_
  refine seq_skip hA rfl rfl rfl fun a hA => ?_
  refine seq_skip hA rfl rfl rfl fun a hA => ?_
  refine seq_do (v := .bool false) hA rfl rfl rfl (d_pick rfl rfl rfl rfl) fun a hA => ?_
  refine seq_end ?_
  refine hK10 _ _ ?_
  refine wp_cond_false (hA.ev rfl) ?_
  refine wp_exit ?_
  refine hK5 _ _ ?_
  refine wp_seq_k (fun K265 hK265 => ?_)
  refine wp_seq_k (fun K266 hK266 => ?_)
  refine wp_region_lit ?_
  refine mv hA rfl rfl rfl fun a hA => ?_
  refine mv hA rfl rfl rfl fun a hA => ?_
  rcases Bool.eq_false_or_eq_true ((((p + n : Nat) : Int) == ((p : Nat) : Int))) with hb267 | hb267
  ·
   have hb267' := eq_of_beq hb267
   refine seq_do (v := .bool true) hA rfl rfl rfl (d_bin rfl rfl (fun w => (bin_eql w).trans (by rw [hb267]))) fun a hA => ?_
   refine seq_end ?_
   refine hK266 _ _ ?_
   refine wp_cond_true (hA.ev rfl) ?_
   refine wp_seq_k (fun K268 hK268 => ?_)
   refine wp_region_lit ?_
   refine seq_call hA rfl rfl rfl (enters_func  rfl rfl (fun w => by kernel_rfl)) (rzeroFR_any _) ?_
   rintro _ w273 ⟨f269_1, f269_c1, f269_2, f269_c2, rfl, hs270, hs271, hb272⟩
   replace hS := hS.call hb272
   replace hS := hS.addR hs270.rd
   replace hS := hS.addR hs271.rd
   refine ⟨_, rfl, ?_⟩
   intro a hA
   refine seq_do hA rfl rfl rfl (d_assign rfl) fun a hA => ?_
   refine seq_store (us := [.bool ((rb (0 : Rat).num)), .slice f269_1 ((words (0 : Rat).num.natAbs).length) f269_c1, .slice f269_2 ((words (0 : Rat).den).length) f269_c2]) hA hS rfl rfl (sets_store rfl rfl rfl (by kernel_rfl) hS 0 rfl rfl rfl) 0 rfl rfl rfl rfl ?_
   intro w274 hS
   refine seq_do hA rfl rfl rfl (d_assign rfl) fun a hA => ?_
   refine seq_end ?_
   refine hK268 _ _ ?_
   refine wp_ret ?_
   refine hret _ _ ?_
   refine ends (v := .tuple #[.int .i64 (-1), .agg #[.bool ((rb (0 : Rat).num)), .slice f269_1 ((words (0 : Rat).num.natAbs).length) f269_c1, .slice f269_2 ((words (0 : Rat).den).length) f269_c2], .int .i64 0]) hA rfl (.cons (res_tmp rfl) (.cons (res_cell hS RxF_isS_24 rfl 0 rfl (cs := [.bool ((rb (0 : Rat).num)), .slice f269_1 ((words (0 : Rat).num.natAbs).length) f269_c1, .slice f269_2 ((words (0 : Rat).den).length) f269_c2]) rfl rfl) (.cons (res_tmp rfl) .nil))) rfl ?_
   have e9 : n = nDg r (l.drop p) := stop_at hr36 hinv8 (by omega)
   have eQ : pQ r (l.drop p) = l.drop (p + n) := by unfold pQ; rw [← e9, List.drop_drop]
   have eT : pT r (l.drop p) = (l.drop p).take n := by unfold pT; rw [← e9]
   have eS0 : btL (pQ r (l.drop p)) 0 = btL l (p + n) := by rw [eQ, btL_drop]; rfl
   have eK : pieceOk r (l.drop p) = false := by unfold pieceOk; rw [← e9, show n = 0 from by omega]; rfl
   unfold pcE pcV pcX
   rw [eK]
   exact ⟨_, _, _, _, rfl, ⟨(hS.rd 1 rfl), hs270.nil, hs270.cap⟩, ⟨(hS.rd 0 rfl), hs271.nil, hs271.cap⟩, hS.bel⟩
  ·
   have hb267' := ne_of_beq_false hb267
   refine seq_do (v := .bool false) hA rfl rfl rfl (d_bin rfl rfl (fun w => (bin_eql w).trans (by rw [hb267]))) fun a hA => ?_
   refine seq_end ?_
   refine hK266 _ _ ?_
   refine wp_cond_false (hA.ev rfl) ?_
   refine wp_skip ?_
   refine hK265 _ _ ?_
   refine wp_seq_k (fun K275 hK275 => ?_)
   refine wp_region_lit ?_
   refine mv hA rfl rfl rfl fun a hA => ?_
   refine mv hA rfl rfl rfl fun a hA => ?_
   refine mv hA rfl rfl rfl fun a hA => ?_
   refine seq_do (v := .string (bsL ((l.drop p).take n))) hA rfl rfl rfl (d_slN (p := p) (n := n) (s := l) Tryz.underlying9 rfl rfl rfl (by first | rfl | omega) (by first | rfl | omega) (by first | omega | (simp only [List.length_drop, List.length_take]; omega))) fun a hA => ?_
   refine mv hA rfl rfl rfl fun a hA => ?_
   rcases Bool.eq_false_or_eq_true (decide (rdE r ((l.drop p).take n) = 0)) with hb276 | hb276
   ·
    have hb276' := of_decide_eq_true hb276
    refine seq_call hA rfl rfl rfl (enters_func  rfl rfl (fun w => by kernel_rfl)) (rread_ok (t := (l.drop p).take n) hr (by rw [List.length_take, List.length_drop]; omega) (by rw [List.length_take, List.length_drop]; omega) (of_decide_eq_true hb276)) ?_
    rintro _ w281 ⟨ro277, rc278, rfl, ho279, hb280⟩
    replace hS := hS.call hb280
    replace hS := hS.addR ho279.rd
    refine ⟨_, rfl, ?_⟩
    intro a hA
    refine mv hA rfl rfl rfl fun a hA => ?_
    refine seq_do (v := .slice ro277 ((words (natN r ((l.drop p).take n))).length) rc278) hA rfl rfl rfl (d_extract (vs := [.slice ro277 ((words (natN r ((l.drop p).take n))).length) rc278, .int .i64 0]) rfl rfl) fun a hA => ?_
    refine seq_do (v := .int .i64 0) hA rfl rfl rfl (d_extract (vs := [.slice ro277 ((words (natN r ((l.drop p).take n))).length) rc278, .int .i64 0]) rfl rfl) fun a hA => ?_
    refine seq_do hA rfl rfl rfl (d_assign rfl) fun a hA => ?_
    refine seq_do hA rfl rfl rfl (d_assign rfl) fun a hA => ?_
    refine seq_end ?_
    refine hK275 _ _ ?_
    refine wp_seq_k (fun K282 hK282 => ?_)
    refine wp_seq_k (fun K283 hK283 => ?_)
    refine wp_region_lit ?_
    refine mv hA rfl rfl rfl fun a hA => ?_
    refine mv hA rfl rfl rfl fun a hA => ?_
    refine seq_do (v := .int .i64 (((l.length : Nat) : Int))) hA rfl rfl rfl (d_lenT Tryz.underlying9 rfl) fun a hA => ?_
    refine seq_do (v := .bool true) hA rfl rfl rfl (d_bin rfl rfl (fun w => (bin_eql w).trans (by rw [show ((((p + n : Nat) : Int) == ((l.length : Nat) : Int))) = true from (beq_iff_eq.2 (by omega))]))) fun a hA => ?_
    refine mv hA rfl rfl rfl fun a hA => ?_
    refine seq_skip hA rfl rfl rfl fun a hA => ?_
    refine seq_skip hA rfl rfl rfl fun a hA => ?_
    refine seq_skip hA rfl rfl rfl fun a hA => ?_
    refine seq_skip hA rfl rfl rfl fun a hA => ?_
    refine seq_do (v := .bool true) hA rfl rfl rfl (d_pick rfl rfl rfl rfl) fun a hA => ?_
    refine seq_end ?_
    refine hK283 _ _ ?_
    refine wp_cond_true (hA.ev rfl) ?_
    refine wp_seq_k (fun K284 hK284 => ?_)
    refine wp_region_lit ?_
    refine mv hA rfl rfl rfl fun a hA => ?_
    refine mv hA rfl rfl rfl fun a hA => ?_
    refine mv hA rfl rfl rfl fun a hA => ?_
    refine seq_newU (us := [1]) (t := 40) (m := 1) hA hS rfl rfl rfl (d_buildSlice rfl (by kernel_rfl)) (by simp [Dig]) ?_
    intro g285 w286 hS a hA
    refine seq_call hA rfl rfl rfl (enters_func  rfl rfl (fun w => by kernel_rfl)) (rrat_w1 neg ⟨(hS.rd 1 rfl), ho279.nocap, ho279.caps⟩ ⟨(hS.rd 0 rfl), (fun h => by cases h), (Nat.le_refl _)⟩ (rdN_ok (of_decide_eq_true hb276)).2) ?_
    rintro _ w291 ⟨f287_1, f287_c1, f287_2, f287_c2, rfl, hs288, hs289, hb290⟩
    replace hS := hS.call hb290
    replace hS := hS.addR hs288.rd
    replace hS := hS.addR hs289.rd
    refine ⟨_, rfl, ?_⟩
    intro a hA
    refine mv hA rfl rfl rfl fun a hA => ?_
    refine seq_do hA rfl rfl rfl (d_assign rfl) fun a hA => ?_
    refine seq_store (us := [.bool ((rb (mkRat (sgn neg (natN r ((l.drop p).take n))) 1).num)), .slice f287_1 ((words (mkRat (sgn neg (natN r ((l.drop p).take n))) 1).num.natAbs).length) f287_c1, .slice f287_2 ((words (mkRat (sgn neg (natN r ((l.drop p).take n))) 1).den).length) f287_c2]) hA hS rfl rfl (sets_store rfl rfl rfl (by kernel_rfl) hS 0 rfl rfl rfl) 0 rfl rfl rfl rfl ?_
    intro w292 hS
    refine seq_do hA rfl rfl rfl (d_assign rfl) fun a hA => ?_
    refine seq_end ?_
    refine hK284 _ _ ?_
    refine wp_ret ?_
    refine hret _ _ ?_
    refine ends (v := .tuple #[.int .i64 (((p + n : Nat) : Int)), .agg #[.bool ((rb (mkRat (sgn neg (natN r ((l.drop p).take n))) 1).num)), .slice f287_1 ((words (mkRat (sgn neg (natN r ((l.drop p).take n))) 1).num.natAbs).length) f287_c1, .slice f287_2 ((words (mkRat (sgn neg (natN r ((l.drop p).take n))) 1).den).length) f287_c2], .int .i64 0]) hA rfl (.cons (res_tmp rfl) (.cons (res_cell hS RxF_isS_24 rfl 0 rfl (cs := [.bool ((rb (mkRat (sgn neg (natN r ((l.drop p).take n))) 1).num)), .slice f287_1 ((words (mkRat (sgn neg (natN r ((l.drop p).take n))) 1).num.natAbs).length) f287_c1, .slice f287_2 ((words (mkRat (sgn neg (natN r ((l.drop p).take n))) 1).den).length) f287_c2]) rfl rfl) (.cons (res_tmp rfl) .nil))) rfl ?_
    have e9 : n = nDg r (l.drop p) := stop_at hr36 hinv8 (by omega)
    have eQ : pQ r (l.drop p) = l.drop (p + n) := by unfold pQ; rw [← e9, List.drop_drop]
    have eT : pT r (l.drop p) = (l.drop p).take n := by unfold pT; rw [← e9]
    have eS0 : btL (pQ r (l.drop p)) 0 = btL l (p + n) := by rw [eQ, btL_drop]; rfl
    have eS : pS r (l.drop p) = false := by unfold pS; rw [eS0]; apply decide_eq_false; first | omega | (rw [btL_out (by omega)]; decide)
    have eK : pieceOk r (l.drop p) = true := by unfold pieceOk; rw [eS, ← e9, decide_eq_true (show n ≠ 0 from by omega)]; rfl
    have eL : p + pieceLen r (l.drop p) = p + n := by unfold pieceLen; rw [eS, ← e9]; rfl
    have eX : pieceErr r (l.drop p) = 0 := by unfold pieceErr; rw [eS, eT]; first | rfl | exact hb276'
    have eV : pieceVal r neg (l.drop p) = (mkRat (sgn neg (natN r ((l.drop p).take n))) 1) := by unfold pieceVal; rw [eX, if_pos rfl, eS, eT]; rfl
    unfold pcE pcV pcX
    rw [if_pos eK, if_pos eK, if_pos eK, eL, eV, eX]
    exact ⟨_, _, _, _, rfl, ⟨(hS.rd 1 rfl), hs288.nil, hs288.cap⟩, ⟨(hS.rd 0 rfl), hs289.nil, hs289.cap⟩, hS.bel⟩
   ·
    have hb276' := of_decide_eq_false hb276
    refine seq_call hA rfl rfl rfl (enters_func  rfl rfl (fun w => by kernel_rfl)) (rread_bad (t := (l.drop p).take n) hr (by rw [List.length_take, List.length_drop]; omega) (by rw [List.length_take, List.length_drop]; omega) (of_decide_eq_false hb276)) ?_
    rintro _ w297 ⟨ro293, rc294, rfl, ho295, hb296⟩
    replace hS := hS.call hb296
    replace hS := hS.addR ho295.rd
    refine ⟨_, rfl, ?_⟩
    intro a hA
    refine mv hA rfl rfl rfl fun a hA => ?_
    refine seq_do (v := .slice ro293 0 rc294) hA rfl rfl rfl (d_extract (vs := [.slice ro293 0 rc294, .int .i64 ((rdE r ((l.drop p).take n)))]) rfl rfl) fun a hA => ?_
    refine seq_do (v := .int .i64 ((rdE r ((l.drop p).take n)))) hA rfl rfl rfl (d_extract (vs := [.slice ro293 0 rc294, .int .i64 ((rdE r ((l.drop p).take n)))]) rfl rfl) fun a hA => ?_
    refine seq_do hA rfl rfl rfl (d_assign rfl) fun a hA => ?_
    refine seq_do hA rfl rfl rfl (d_assign rfl) fun a hA => ?_
    refine seq_end ?_
    refine hK275 _ _ ?_
    refine wp_seq_k (fun K298 hK298 => ?_)
    refine wp_seq_k (fun K299 hK299 => ?_)
    refine wp_region_lit ?_
    refine mv hA rfl rfl rfl fun a hA => ?_
    refine mv hA rfl rfl rfl fun a hA => ?_
    refine seq_do (v := .int .i64 (((l.length : Nat) : Int))) hA rfl rfl rfl (d_lenT Tryz.underlying9 rfl) fun a hA => ?_
    refine seq_do (v := .bool true) hA rfl rfl rfl (d_bin rfl rfl (fun w => (bin_eql w).trans (by rw [show ((((p + n : Nat) : Int) == ((l.length : Nat) : Int))) = true from (beq_iff_eq.2 (by omega))]))) fun a hA => ?_
    refine mv hA rfl rfl rfl fun a hA => ?_
    refine seq_skip hA rfl rfl rfl fun a hA => ?_
    refine seq_skip hA rfl rfl rfl fun a hA => ?_
    refine seq_skip hA rfl rfl rfl fun a hA => ?_
    refine seq_skip hA rfl rfl rfl fun a hA => ?_
    refine seq_do (v := .bool true) hA rfl rfl rfl (d_pick rfl rfl rfl rfl) fun a hA => ?_
    refine seq_end ?_
    refine hK299 _ _ ?_
    refine wp_cond_true (hA.ev rfl) ?_
    refine wp_seq_k (fun K300 hK300 => ?_)
    refine wp_region_lit ?_
    refine mv hA rfl rfl rfl fun a hA => ?_
    refine mv hA rfl rfl rfl fun a hA => ?_
    refine mv hA rfl rfl rfl fun a hA => ?_
    refine seq_newU (us := [1]) (t := 40) (m := 1) hA hS rfl rfl rfl (d_buildSlice rfl (by kernel_rfl)) (by simp [Dig]) ?_
    intro g301 w302 hS a hA
    refine seq_call hA rfl rfl rfl (enters_func  rfl rfl (fun w => by kernel_rfl)) (rrat_01 neg ⟨(hS.rd 1 rfl), ho295.nocap, ho295.caps⟩ ⟨(hS.rd 0 rfl), (fun h => by cases h), (Nat.le_refl _)⟩) ?_
    rintro _ w307 ⟨f303_1, f303_c1, f303_2, f303_c2, rfl, hs304, hs305, hb306⟩
    replace hS := hS.call hb306
    replace hS := hS.addR hs304.rd
    replace hS := hS.addR hs305.rd
    refine ⟨_, rfl, ?_⟩
    intro a hA
    refine mv hA rfl rfl rfl fun a hA => ?_
    refine seq_do hA rfl rfl rfl (d_assign rfl) fun a hA => ?_
    refine seq_store (us := [.bool ((rb (0 : Rat).num)), .slice f303_1 ((words (0 : Rat).num.natAbs).length) f303_c1, .slice f303_2 ((words (0 : Rat).den).length) f303_c2]) hA hS rfl rfl (sets_store rfl rfl rfl (by kernel_rfl) hS 0 rfl rfl rfl) 0 rfl rfl rfl rfl ?_
    intro w308 hS
    refine seq_do hA rfl rfl rfl (d_assign rfl) fun a hA => ?_
    refine seq_end ?_
    refine hK300 _ _ ?_
    refine wp_ret ?_
    refine hret _ _ ?_
    refine ends (v := .tuple #[.int .i64 (((p + n : Nat) : Int)), .agg #[.bool ((rb (0 : Rat).num)), .slice f303_1 ((words (0 : Rat).num.natAbs).length) f303_c1, .slice f303_2 ((words (0 : Rat).den).length) f303_c2], .int .i64 ((rdE r ((l.drop p).take n)))]) hA rfl (.cons (res_tmp rfl) (.cons (res_cell hS RxF_isS_24 rfl 0 rfl (cs := [.bool ((rb (0 : Rat).num)), .slice f303_1 ((words (0 : Rat).num.natAbs).length) f303_c1, .slice f303_2 ((words (0 : Rat).den).length) f303_c2]) rfl rfl) (.cons (res_tmp rfl) .nil))) rfl ?_
    have e9 : n = nDg r (l.drop p) := stop_at hr36 hinv8 (by omega)
    have eQ : pQ r (l.drop p) = l.drop (p + n) := by unfold pQ; rw [← e9, List.drop_drop]
    have eT : pT r (l.drop p) = (l.drop p).take n := by unfold pT; rw [← e9]
    have eS0 : btL (pQ r (l.drop p)) 0 = btL l (p + n) := by rw [eQ, btL_drop]; rfl
    have eS : pS r (l.drop p) = false := by unfold pS; rw [eS0]; apply decide_eq_false; first | omega | (rw [btL_out (by omega)]; decide)
    have eK : pieceOk r (l.drop p) = true := by unfold pieceOk; rw [eS, ← e9, decide_eq_true (show n ≠ 0 from by omega)]; rfl
    have eL : p + pieceLen r (l.drop p) = p + n := by unfold pieceLen; rw [eS, ← e9]; rfl
    have eX : pieceErr r (l.drop p) = (rdE r ((l.drop p).take n)) := by unfold pieceErr; rw [eS, eT]; first | rfl | exact hb276'
    have eV : pieceVal r neg (l.drop p) = (0 : Rat) := by unfold pieceVal; rw [eX, if_neg (by first | decide | assumption)]
    unfold pcE pcV pcX
    rw [if_pos eK, if_pos eK, if_pos eK, eL, eV, eX]
    exact ⟨_, _, _, _, rfl, ⟨(hS.rd 1 rfl), hs304.nil, hs304.cap⟩, ⟨(hS.rd 0 rfl), hs305.nil, hs305.cap⟩, hS.bel⟩
theorem rpiece_ok {w : World} {r p : Nat} {l : List UInt8} (hr : RadN r) (neg : Bool) (hl : l.length ≤ 9223372036854775807) (hp : p ≤ l.length) (hok : pieceOk r (l.drop p) = true) : Calls Tryz.prog 52 #[.string (bsL l), .int .i64 ((p : Nat) : Int), .int .i64 ((r : Nat) : Int), .bool neg] w fun e w' => ∃ o1 c1 o2 c2, e = .returned (.tuple #[.int .i64 ((p + pieceLen r (l.drop p) : Nat) : Int), .agg #[.bool (rb (pieceVal r neg (l.drop p)).num), .slice o1 (words (pieceVal r neg (l.drop p)).num.natAbs).length c1, .slice o2 (words (pieceVal r neg (l.drop p)).den).length c2], .int .i64 (pieceErr r (l.drop p))]) ∧ Sc w' o1 c1 (words (pieceVal r neg (l.drop p)).num.natAbs) ∧ Sc w' o2 c2 (words (pieceVal r neg (l.drop p)).den) ∧ Below w.heap.size w w' := by
 have h := rpiece_any (w := w) (p := p) (l := l) hr neg hl hp
 unfold pcE pcV pcX at h
 rw [if_pos hok, if_pos hok, if_pos hok] at h
 exact h
theorem rpiece_no {w : World} {r p : Nat} {l : List UInt8} (hr : RadN r) (neg : Bool) (hl : l.length ≤ 9223372036854775807) (hp : p ≤ l.length) (hok : pieceOk r (l.drop p) = false) : Calls Tryz.prog 52 #[.string (bsL l), .int .i64 ((p : Nat) : Int), .int .i64 ((r : Nat) : Int), .bool neg] w fun e w' => ∃ o1 c1 o2 c2, e = .returned (.tuple #[.int .i64 (-1), .agg #[.bool (rb (0 : Rat).num), .slice o1 (words (0 : Rat).num.natAbs).length c1, .slice o2 (words (0 : Rat).den).length c2], .int .i64 0]) ∧ Sc w' o1 c1 (words (0 : Rat).num.natAbs) ∧ Sc w' o2 c2 (words (0 : Rat).den) ∧ Below w.heap.size w w' := by
 have h := rpiece_any (w := w) (p := p) (l := l) hr neg hl hp
 have hn : ¬ pieceOk r (l.drop p) = true := by rw [hok]; decide
 unfold pcE pcV pcX at h
 rw [if_neg hn, if_neg hn, if_neg hn] at h
 exact h
end Go.Proofs.YtjmhdebfpnjceaaGreat
