/- Walks of the document's reading of a number without prefixes, and of its Read. The walk of the law of reading. -/
import Derived.Test.YtjmhdebfpnjceaaGreatPexactr10c
namespace Go.Proofs.YtjmhdebfpnjceaaGreat
open Go.RowKit
set_option linter.unusedVariables false
set_option linter.unusedSimpArgs false
set_option maxRecDepth 100000
theorem RxG_isS_24 : IsS Tryz.prog 24 3 := ⟨⟨_, Tryz.underlying24⟩, by kernel_rfl⟩
theorem RxG_isS_26 : IsS Tryz.prog 26 6 := ⟨⟨_, Tryz.underlying26⟩, by kernel_rfl⟩
theorem pieceLen_le (r : Nat) (m : List UInt8) : pieceLen r m ≤ m.length := by
 have h1 := nDg_le r m
 unfold pieceLen
 split
 ·
  rename_i hs
  have hs' : btL (pQ r m) 0 = 47 := of_decide_eq_true hs
  have k1 := btL_in (l := pQ r m) (i := 0) (by omega)
  have k2 := nDg_le r (pB r m)
  unfold pB at k2
  rw [List.length_drop] at k2
  have k3 : (pQ r m).length = m.length - nDg r m := by unfold pQ; rw [List.length_drop]
  unfold pB
  omega
 ·
  exact h1
theorem pieceLen_at (r p : Nat) (l : List UInt8) (hp : p ≤ l.length) : p + pieceLen r (l.drop p) ≤ l.length := by
 have h := pieceLen_le r (l.drop p)
 rw [List.length_drop] at h
 omega
theorem sign_len {l : List UInt8} {p : Nat} (h : signB (l.drop p) = true) : p < l.length := by
 unfold signB at h
 rw [btL_drop] at h
 have := btL_in (l := l) (i := p + 0) (by intro k; rw [k] at h; cases h)
 omega
def bodyQ (B : Bool × Rat × Rat × Int) : Q6 := if B.1 = true then Q6.rat B.2.1 B.2.2.1 else Q6.zero
theorem bodyQ_t (U V : Rat) (E : Int) : bodyQ (true, U, V, E) = Q6.rat U V := rfl
theorem bodyQ_f (U V : Rat) (E : Int) : bodyQ (false, U, V, E) = Q6.zero := rfl
def AnsB (w : World) (B : Bool × Rat × Rat × Int) (e : Ending) (w' : World) : Prop := ∃ o1 c1 o2 c2 o3 c3 o4 c4, e = .returned (.tuple #[numV (bodyQ B) o1 c1 o2 c2 o3 c3 o4 c4, .int .i64 B.2.2.2, .bool B.1]) ∧ Nm w' (bodyQ B) o1 c1 o2 c2 o3 c3 o4 c4 ∧ Below w.heap.size w w'
theorem neg_at (l : List UInt8) (p : Nat) : (((btL l p : Nat) : Int) == 45) = negB (l.drop p) := by rw [beq45]; unfold negB; rw [btL_drop]; rfl
set_option maxHeartbeats 2000000 in
theorem rbody_any {w : World} {r : Nat} {l : List UInt8} (hr : RadN r) (hl : l.length ≤ 9223372036854775807) {B : Bool × Rat × Rat × Int} (hB : bodyS r l = B) : Calls Tryz.prog 30 #[.string (bsL l), .int .i64 ((r : Nat) : Int)] w (AnsB w B) := by
 have hS : St w w [] [] [] := St.start w
 refine walk_of (l := [(0, .string (bsL l)), (1, .int .i64 (((r : Nat) : Int)))]) Tryz.func30 rfl Tryz.ntmps30 rfl rfl ?_
 intro Q hret hnorm hP a hA
 refine wp_seq_k (fun K1 hK1 => ?_)
 refine wp_region_lit ?_
 refine seq_new (vs := [.bool false, .slice none 0 0, .slice none 0 0, .bool false, .slice none 0 0, .slice none 0 0]) (t := 26) hA hS rfl rfl rfl (fun g => .pointer (some ⟨g, 0, none⟩)) (d_alloc (z := .agg #[.bool false, .slice none 0 0, .slice none 0 0, .bool false, .slice none 0 0, .slice none 0 0]) (by kernel_rfl) rfl) rfl ?_
 intro g2 w3 hS a hA
 refine seq_do hA rfl rfl rfl (d_assign rfl) fun a hA => ?_
 refine seq_do hA rfl rfl rfl (d_assign rfl) fun a hA => ?_
 refine seq_end ?_
 refine hK1 _ _ ?_
 refine wp_seq_k (fun K4 hK4 => ?_)
 refine wp_region_lit ?_
 refine seq_newU (us := [1]) (t := 40) (m := 1) hA hS rfl rfl rfl (d_buildSlice rfl (by kernel_rfl)) (by simp [Dig]) ?_
 intro g5 w6 hS a hA
 refine seq_newU (us := [1]) (t := 40) (m := 1) hA hS rfl rfl rfl (d_buildSlice rfl (by kernel_rfl)) (by simp [Dig]) ?_
 intro g7 w8 hS a hA
 refine seq_do (v := .agg #[.bool false, .slice (some ⟨g5, 0, none⟩) 1 1, .slice (some ⟨g7, 0, none⟩) 1 1]) hA rfl rfl rfl (d_build rfl (fun w => by kernel_rfl)) fun a hA => ?_
 refine seq_new (vs := [.bool false, .slice none 0 0, .slice none 0 0]) (t := 24) hA hS rfl rfl rfl (fun g => .pointer (some ⟨g, 0, none⟩)) (d_alloc (z := .agg #[.bool false, .slice none 0 0, .slice none 0 0]) (by kernel_rfl) rfl) rfl ?_
 intro g9 w10 hS a hA
 refine seq_store (us := [.bool false, .slice (some ⟨g5, 0, none⟩) 1 1, .slice (some ⟨g7, 0, none⟩) 1 1]) hA hS rfl rfl (sets_store rfl rfl rfl (by kernel_rfl) hS 0 rfl rfl rfl) 0 rfl rfl rfl rfl ?_
 intro w11 hS
 refine seq_end ?_
 refine hK4 _ _ ?_
 refine wp_seq_k (fun K12 hK12 => ?_)
 refine wp_region_lit ?_
 refine seq_do hA rfl rfl rfl (d_assign rfl) fun a hA => ?_
 refine seq_end ?_
 refine hK12 _ _ ?_
 refine wp_seq_k (fun K13 hK13 => ?_)
 refine wp_region_lit ?_
 refine seq_do hA rfl rfl rfl (d_assign rfl) fun a hA => ?_
 refine seq_end ?_
 refine hK13 _ _ ?_
 refine wp_seq_k (fun K14 hK14 => ?_)
 refine wp_region_lit ?_
 refine mv hA rfl rfl rfl fun a hA => ?_
 rcases Bool.eq_false_or_eq_true (signB (l.drop 0)) with hb15 | hb15
 ·
  have hj16 := sign_len hb15
  refine seq_call hA rfl rfl rfl (enters_func  rfl rfl (fun w => by kernel_rfl)) (rsignedX_any (p := 0) hl hb15) ?_
  rintro _ w18 ⟨rfl, hb17⟩
  replace hS := hS.call hb17
  refine ⟨_, rfl, ?_⟩
  intro a hA
  refine seq_do hA rfl rfl rfl (d_assign rfl) fun a hA => ?_
  refine seq_end ?_
  refine hK14 _ _ ?_
  refine wp_seq_k (fun K19 hK19 => ?_)
  refine wp_seq_k (fun K20 hK20 => ?_)
  refine wp_region_lit ?_
  refine mv hA rfl rfl rfl fun a hA => ?_
  refine seq_end ?_
  refine hK20 _ _ ?_
  refine wp_cond_true (hA.ev rfl) ?_
  refine wp_seq_k (fun K21 hK21 => ?_)
  refine wp_region_lit ?_
  refine mv hA rfl rfl rfl fun a hA => ?_
  refine seq_do (v := .int .u8 (((btL l 0 : Nat) : Int))) hA rfl rfl rfl (d_ixT (s := l) (i := 0) Tryz.underlying9 rfl rfl (by first | rfl | omega) (by first | omega | (simp only [List.length_drop, List.length_take]; omega))) fun a hA => ?_
  refine seq_do (v := .bool ((((btL l 0 : Nat) : Int) == 45))) hA rfl rfl rfl (d_bin rfl rfl bin_eql) fun a hA => ?_
  refine seq_do hA rfl rfl rfl (d_assign rfl) fun a hA => ?_
  refine seq_end ?_
  refine hK21 _ _ ?_
  refine wp_seq_k (fun K22 hK22 => ?_)
  refine wp_region_lit ?_
  refine seq_do hA rfl rfl rfl (d_assign rfl) fun a hA => ?_
  refine seq_end ?_
  refine hK22 _ _ ?_
  refine wp_seq_k (fun K23 hK23 => ?_)
  refine wp_region_lit ?_
  refine mv hA rfl rfl rfl fun a hA => ?_
  rcases Bool.eq_false_or_eq_true (unitB (l.drop 1)) with hb24 | hb24
  ·
   refine seq_call hA rfl rfl rfl (enters_func  rfl rfl (fun w => by kernel_rfl)) (rendsX_any (p := 1) hl hb24) ?_
   rintro _ w26 ⟨rfl, hb25⟩
   replace hS := hS.call hb25
   refine ⟨_, rfl, ?_⟩
   intro a hA
   refine seq_end ?_
   refine hK23 _ _ ?_
   refine wp_cond_true (hA.ev rfl) ?_
   refine wp_seq_k (fun K27 hK27 => ?_)
   refine wp_seq_k (fun K28 hK28 => ?_)
   refine wp_region_lit ?_
   refine mv hA rfl rfl rfl fun a hA => ?_
   refine seq_end ?_
   refine hK28 _ _ ?_
   refine wp_cond_split (t := (((btL l 0 : Nat) : Int) == 45)) (hA.ev rfl) (fun hc29 => ?_) (fun hc29 => ?_)
   ·
    have hc29' := eq_of_beq hc29
    refine wp_seq_k (fun K30 hK30 => ?_)
    refine wp_draw (S := fun w1 => St w w1 [(g9, [.bool false, .slice (some ⟨g5, 0, none⟩) 1 1, .slice (some ⟨g7, 0, none⟩) 1 1])] [(some ⟨g7, 0, none⟩, [1]), (some ⟨g5, 0, none⟩, [1])] []) (by kernel_rfl) ?_
    replace hS := hS.drew
    refine any_tk hA 1 rfl rfl rfl rfl hP (hS.partD (.cons_cons _ (.cons _ .slnil)) 0 rfl (.refl _)) (fun w1 hS => d_loadS hS RxG_isS_24 rfl 0 rfl (cs := [.bool false, .slice (some ⟨g5, 0, none⟩) 1 1, .slice (some ⟨g7, 0, none⟩) 1 1]) rfl rfl) fun a hA => ?_
    refine any_one (by kernel_rfl) (op_call hA 0 rfl rfl rfl rfl (enters_func  rfl rfl (fun w => by kernel_rfl)) (rzeroFR_any _) ?_)
    rintro _ w35 ⟨f31_1, f31_c1, f31_2, f31_c2, rfl, hs32, hs33, hb34⟩
    replace hS := hS.call hb34
    replace hS := hS.addR hs32.rd
    replace hS := hS.addR hs33.rd
    refine ⟨_, rfl, (hS.partD (.cons_cons _ (.cons _ .slnil)) 2 rfl (.refl _)), ?_⟩
    intro a hA
    refine any_one (by kernel_rfl) (op_call hA 2 rfl rfl rfl rfl (enters_func  rfl rfl (fun w => by kernel_rfl)) (rminus_any (r := true) rfl) ?_)
    rintro _ w37 ⟨rfl, hb36⟩
    replace hS := hS.call hb36
    refine ⟨_, rfl, (hS.partD (.cons_cons _ (.cons _ .slnil)) 2 rfl (.refl _)), ?_⟩
    intro a hA
    refine any_tk (v := .agg #[.bool ((rb (0 : Rat).num)), .slice f31_1 ((words (0 : Rat).num.natAbs).length) f31_c1, .slice f31_2 ((words (0 : Rat).den).length) f31_c2, .bool true, .slice (some ⟨g5, 0, none⟩) 1 1, .slice (some ⟨g7, 0, none⟩) 1 1]) hA 3 rfl rfl rfl rfl hP (hS.partD (.cons_cons _ (.cons _ .slnil)) 2 rfl (.refl _)) (fun w1 hS => d_build rfl (fun w => by kernel_rfl)) fun a hA => ?_
    refine any_one (by kernel_rfl) (op_store (us := [.bool ((rb (0 : Rat).num)), .slice f31_1 ((words (0 : Rat).num.natAbs).length) f31_c1, .slice f31_2 ((words (0 : Rat).den).length) f31_c2, .bool true, .slice (some ⟨g5, 0, none⟩) 1 1, .slice (some ⟨g7, 0, none⟩) 1 1]) hA hS 4 rfl rfl rfl (sets_store rfl rfl rfl (by kernel_rfl) hS 1 rfl rfl rfl) 1 rfl rfl rfl rfl ?_)
    intro w38 hS
    refine ⟨(hS.partD (.cons_cons _ (.cons _ .slnil)) 2 rfl (.refl _)), ?_⟩
    refine any_tk hA 5 rfl rfl rfl rfl hP (hS.partD (.cons_cons _ (.cons _ .slnil)) 2 rfl (.refl _)) (fun w1 hS => d_assign rfl) fun a hA => ?_
    refine any_tk hA 6 rfl rfl rfl rfl hP (hS.partD (.cons_cons _ (.cons _ .slnil)) 2 rfl (.refl _)) (fun w1 hS => d_assign rfl) fun a hA => ?_
    refine any_end (by kernel_rfl) ?_
    refine hK30 _ _ ?_
    refine wp_ret ?_
    refine hret _ _ ?_
    refine ends (v := .tuple #[.agg #[.bool ((rb (0 : Rat).num)), .slice f31_1 ((words (0 : Rat).num.natAbs).length) f31_c1, .slice f31_2 ((words (0 : Rat).den).length) f31_c2, .bool true, .slice (some ⟨g5, 0, none⟩) 1 1, .slice (some ⟨g7, 0, none⟩) 1 1], .int .i64 0, .bool true]) hA rfl (.cons (res_cell hS RxG_isS_26 rfl 1 rfl (cs := [.bool ((rb (0 : Rat).num)), .slice f31_1 ((words (0 : Rat).num.natAbs).length) f31_c1, .slice f31_2 ((words (0 : Rat).den).length) f31_c2, .bool true, .slice (some ⟨g5, 0, none⟩) 1 1, .slice (some ⟨g7, 0, none⟩) 1 1]) rfl rfl) (.cons (res_tmp rfl) (.cons (res_tmp rfl) .nil))) rfl ?_
    have hs0 : signB l = true := by have h9 := hb15; rw [List.drop_zero] at h9; exact h9
    have hp0 : p0 l = 1 := by unfold p0; rw [hs0]; rfl
    have hp1 : p1 r l = 1 + pieceLen r (l.drop 1) := by unfold p1; rw [hp0]
    have hm1 : m1 r l = l.drop (1 + pieceLen r (l.drop 1) + 1) := by unfold m1; rw [hp1]
    have hn0 : negB (l.drop 0) = negB l := by rw [List.drop_zero]
    rw [neg_at] at hc29
    rw [List.drop_zero] at hc29
    have e9 : bodyS r l = (true, (0 : Rat), (-1), 0) := by
     simp only [bodyS, oneS, neg_at, hs0, hp0, hp1, hm1, hn0, hb24, hc29, Bool.true_and, Bool.false_and, Bool.and_true, Bool.and_false, if_true, if_false, Bool.false_eq_true, Bool.true_eq_false, ↓reduceIte]
    subst hB
    rw [e9]
    unfold AnsB
    rw [bodyQ_t, show Q6.rat (0 : Rat) (-1) = ⟨(rb (0 : Rat).num), words (0 : Rat).num.natAbs, words (0 : Rat).den, true, [1], [1]⟩ from by simp only [Q6.rat, one_b, one_t, one_q, neg_b, neg_t, neg_q]]
    exact ⟨f31_1, f31_c1, f31_2, f31_c2, some ⟨g5, 0, none⟩, 1, some ⟨g7, 0, none⟩, 1, rfl, ⟨⟨(hS.rd 1 rfl), hs32.nil, hs32.cap⟩, ⟨(hS.rd 0 rfl), hs33.nil, hs33.cap⟩, ⟨(hS.rd 3 rfl), (fun h => by cases h), (Nat.le_refl _)⟩, ⟨(hS.rd 2 rfl), (fun h => by cases h), (Nat.le_refl _)⟩⟩, hS.bel⟩
   ·
    have hc29' := ne_of_beq_false hc29
    refine wp_skip ?_
    refine hK27 _ _ ?_
    refine wp_seq_k (fun K39 hK39 => ?_)
    refine wp_draw (S := fun w1 => St w w1 [(g9, [.bool false, .slice (some ⟨g5, 0, none⟩) 1 1, .slice (some ⟨g7, 0, none⟩) 1 1])] [(some ⟨g7, 0, none⟩, [1]), (some ⟨g5, 0, none⟩, [1])] []) (by kernel_rfl) ?_
    replace hS := hS.drew
    refine any_tk hA 1 rfl rfl rfl rfl hP (hS.partD (.cons_cons _ (.cons _ .slnil)) 0 rfl (.refl _)) (fun w1 hS => d_loadS hS RxG_isS_24 rfl 0 rfl (cs := [.bool false, .slice (some ⟨g5, 0, none⟩) 1 1, .slice (some ⟨g7, 0, none⟩) 1 1]) rfl rfl) fun a hA => ?_
    refine any_one (by kernel_rfl) (op_call hA 0 rfl rfl rfl rfl (enters_func  rfl rfl (fun w => by kernel_rfl)) (rzeroFR_any _) ?_)
    rintro _ w44 ⟨f40_1, f40_c1, f40_2, f40_c2, rfl, hs41, hs42, hb43⟩
    replace hS := hS.call hb43
    replace hS := hS.addR hs41.rd
    replace hS := hS.addR hs42.rd
    refine ⟨_, rfl, (hS.partD (.cons_cons _ (.cons _ .slnil)) 2 rfl (.refl _)), ?_⟩
    intro a hA
    refine any_tk (v := .agg #[.bool ((rb (0 : Rat).num)), .slice f40_1 ((words (0 : Rat).num.natAbs).length) f40_c1, .slice f40_2 ((words (0 : Rat).den).length) f40_c2, .bool false, .slice (some ⟨g5, 0, none⟩) 1 1, .slice (some ⟨g7, 0, none⟩) 1 1]) hA 2 rfl rfl rfl rfl hP (hS.partD (.cons_cons _ (.cons _ .slnil)) 2 rfl (.refl _)) (fun w1 hS => d_build rfl (fun w => by kernel_rfl)) fun a hA => ?_
    refine any_one (by kernel_rfl) (op_store (us := [.bool ((rb (0 : Rat).num)), .slice f40_1 ((words (0 : Rat).num.natAbs).length) f40_c1, .slice f40_2 ((words (0 : Rat).den).length) f40_c2, .bool false, .slice (some ⟨g5, 0, none⟩) 1 1, .slice (some ⟨g7, 0, none⟩) 1 1]) hA hS 3 rfl rfl rfl (sets_store rfl rfl rfl (by kernel_rfl) hS 1 rfl rfl rfl) 1 rfl rfl rfl rfl ?_)
    intro w45 hS
    refine ⟨(hS.partD (.cons_cons _ (.cons _ .slnil)) 2 rfl (.refl _)), ?_⟩
    refine any_tk hA 4 rfl rfl rfl rfl hP (hS.partD (.cons_cons _ (.cons _ .slnil)) 2 rfl (.refl _)) (fun w1 hS => d_assign rfl) fun a hA => ?_
    refine any_tk hA 5 rfl rfl rfl rfl hP (hS.partD (.cons_cons _ (.cons _ .slnil)) 2 rfl (.refl _)) (fun w1 hS => d_assign rfl) fun a hA => ?_
    refine any_end (by kernel_rfl) ?_
    refine hK39 _ _ ?_
    refine wp_ret ?_
    refine hret _ _ ?_
    refine ends (v := .tuple #[.agg #[.bool ((rb (0 : Rat).num)), .slice f40_1 ((words (0 : Rat).num.natAbs).length) f40_c1, .slice f40_2 ((words (0 : Rat).den).length) f40_c2, .bool false, .slice (some ⟨g5, 0, none⟩) 1 1, .slice (some ⟨g7, 0, none⟩) 1 1], .int .i64 0, .bool true]) hA rfl (.cons (res_cell hS RxG_isS_26 rfl 1 rfl (cs := [.bool ((rb (0 : Rat).num)), .slice f40_1 ((words (0 : Rat).num.natAbs).length) f40_c1, .slice f40_2 ((words (0 : Rat).den).length) f40_c2, .bool false, .slice (some ⟨g5, 0, none⟩) 1 1, .slice (some ⟨g7, 0, none⟩) 1 1]) rfl rfl) (.cons (res_tmp rfl) (.cons (res_tmp rfl) .nil))) rfl ?_
    have hs0 : signB l = true := by have h9 := hb15; rw [List.drop_zero] at h9; exact h9
    have hp0 : p0 l = 1 := by unfold p0; rw [hs0]; rfl
    have hp1 : p1 r l = 1 + pieceLen r (l.drop 1) := by unfold p1; rw [hp0]
    have hm1 : m1 r l = l.drop (1 + pieceLen r (l.drop 1) + 1) := by unfold m1; rw [hp1]
    have hn0 : negB (l.drop 0) = negB l := by rw [List.drop_zero]
    rw [neg_at] at hc29
    rw [List.drop_zero] at hc29
    have e9 : bodyS r l = (true, (0 : Rat), 1, 0) := by
     simp only [bodyS, oneS, neg_at, hs0, hp0, hp1, hm1, hn0, hb24, hc29, Bool.true_and, Bool.false_and, Bool.and_true, Bool.and_false, if_true, if_false, Bool.false_eq_true, Bool.true_eq_false, ↓reduceIte]
    subst hB
    rw [e9]
    unfold AnsB
    rw [bodyQ_t, show Q6.rat (0 : Rat) 1 = ⟨(rb (0 : Rat).num), words (0 : Rat).num.natAbs, words (0 : Rat).den, false, [1], [1]⟩ from by simp only [Q6.rat, one_b, one_t, one_q, neg_b, neg_t, neg_q]]
    exact ⟨f40_1, f40_c1, f40_2, f40_c2, some ⟨g5, 0, none⟩, 1, some ⟨g7, 0, none⟩, 1, rfl, ⟨⟨(hS.rd 1 rfl), hs41.nil, hs41.cap⟩, ⟨(hS.rd 0 rfl), hs42.nil, hs42.cap⟩, ⟨(hS.rd 3 rfl), (fun h => by cases h), (Nat.le_refl _)⟩, ⟨(hS.rd 2 rfl), (fun h => by cases h), (Nat.le_refl _)⟩⟩, hS.bel⟩
  ·
   refine seq_call hA rfl rfl rfl (enters_func  rfl rfl (fun w => by kernel_rfl)) (rendsX_any (p := 1) hl hb24) ?_
   rintro _ w47 ⟨rfl, hb46⟩
   replace hS := hS.call hb46
   refine ⟨_, rfl, ?_⟩
   intro a hA
   refine seq_end ?_
   refine hK23 _ _ ?_
   refine wp_cond_false (hA.ev rfl) ?_
   refine wp_skip ?_
   refine hK19 _ _ ?_
   refine wp_seq_k (fun K48 hK48 => ?_)
   refine wp_region_lit ?_
   refine mv hA rfl rfl rfl fun a hA => ?_
   refine mv hA rfl rfl rfl fun a hA => ?_
   refine mv hA rfl rfl rfl fun a hA => ?_
   refine mv hA rfl rfl rfl fun a hA => ?_
   rcases Bool.eq_false_or_eq_true (pieceOk r (l.drop 1)) with hb49 | hb49
   ·
    have hj54 := pieceLen_at r (1) l (by omega)
    refine seq_call hA rfl rfl rfl (enters_func  rfl rfl (fun w => by kernel_rfl)) (rpiece_ok (p := 1) hr ((((btL l 0 : Nat) : Int) == 45)) hl (by omega) hb49) ?_
    rintro _ w55 ⟨f50_1, f50_c1, f50_2, f50_c2, rfl, hs51, hs52, hb53⟩
    replace hS := hS.call hb53
    replace hS := hS.addR hs51.rd
    replace hS := hS.addR hs52.rd
    refine ⟨_, rfl, ?_⟩
    intro a hA
    refine mv hA rfl rfl rfl fun a hA => ?_
    refine seq_do (v := .int .i64 (((1 + pieceLen r (l.drop 1) : Nat) : Int))) hA rfl rfl rfl (d_extract (vs := [.int .i64 (((1 + pieceLen r (l.drop 1) : Nat) : Int)), .agg #[.bool ((rb (pieceVal r ((((btL l 0 : Nat) : Int) == 45)) (l.drop 1)).num)), .slice f50_1 ((words (pieceVal r ((((btL l 0 : Nat) : Int) == 45)) (l.drop 1)).num.natAbs).length) f50_c1, .slice f50_2 ((words (pieceVal r ((((btL l 0 : Nat) : Int) == 45)) (l.drop 1)).den).length) f50_c2], .int .i64 ((pieceErr r (l.drop 1)))]) rfl rfl) fun a hA => ?_
    refine seq_do (v := .agg #[.bool ((rb (pieceVal r ((((btL l 0 : Nat) : Int) == 45)) (l.drop 1)).num)), .slice f50_1 ((words (pieceVal r ((((btL l 0 : Nat) : Int) == 45)) (l.drop 1)).num.natAbs).length) f50_c1, .slice f50_2 ((words (pieceVal r ((((btL l 0 : Nat) : Int) == 45)) (l.drop 1)).den).length) f50_c2]) hA rfl rfl rfl (d_extract (vs := [.int .i64 (((1 + pieceLen r (l.drop 1) : Nat) : Int)), .agg #[.bool ((rb (pieceVal r ((((btL l 0 : Nat) : Int) == 45)) (l.drop 1)).num)), .slice f50_1 ((words (pieceVal r ((((btL l 0 : Nat) : Int) == 45)) (l.drop 1)).num.natAbs).length) f50_c1, .slice f50_2 ((words (pieceVal r ((((btL l 0 : Nat) : Int) == 45)) (l.drop 1)).den).length) f50_c2], .int .i64 ((pieceErr r (l.drop 1)))]) rfl rfl) fun a hA => ?_
    refine seq_do (v := .int .i64 ((pieceErr r (l.drop 1)))) hA rfl rfl rfl (d_extract (vs := [.int .i64 (((1 + pieceLen r (l.drop 1) : Nat) : Int)), .agg #[.bool ((rb (pieceVal r ((((btL l 0 : Nat) : Int) == 45)) (l.drop 1)).num)), .slice f50_1 ((words (pieceVal r ((((btL l 0 : Nat) : Int) == 45)) (l.drop 1)).num.natAbs).length) f50_c1, .slice f50_2 ((words (pieceVal r ((((btL l 0 : Nat) : Int) == 45)) (l.drop 1)).den).length) f50_c2], .int .i64 ((pieceErr r (l.drop 1)))]) rfl rfl) fun a hA => ?_
    refine seq_new (vs := [.bool false, .slice none 0 0, .slice none 0 0]) (t := 24) hA hS rfl rfl rfl (fun g => .pointer (some ⟨g, 0, none⟩)) (d_alloc (z := .agg #[.bool false, .slice none 0 0, .slice none 0 0]) (by kernel_rfl) rfl) rfl ?_
    intro g56 w57 hS a hA
    refine seq_do hA rfl rfl rfl (d_assign rfl) fun a hA => ?_
    refine seq_store (us := [.bool ((rb (pieceVal r ((((btL l 0 : Nat) : Int) == 45)) (l.drop 1)).num)), .slice f50_1 ((words (pieceVal r ((((btL l 0 : Nat) : Int) == 45)) (l.drop 1)).num.natAbs).length) f50_c1, .slice f50_2 ((words (pieceVal r ((((btL l 0 : Nat) : Int) == 45)) (l.drop 1)).den).length) f50_c2]) hA hS rfl rfl (sets_store rfl rfl rfl (by kernel_rfl) hS 0 rfl rfl rfl) 0 rfl rfl rfl rfl ?_
    intro w58 hS
    refine seq_do hA rfl rfl rfl (d_assign rfl) fun a hA => ?_
    refine seq_end ?_
    refine hK48 _ _ ?_
    refine wp_seq_k (fun K59 hK59 => ?_)
    refine wp_seq_k (fun K60 hK60 => ?_)
    refine wp_region_lit ?_
    refine mv hA rfl rfl rfl fun a hA => ?_
    refine seq_do (v := .bool false) hA rfl rfl rfl (d_bin rfl rfl (fun w => (bin_lss w).trans (by rw [show (decide (((1 + pieceLen r (l.drop 1) : Nat) : Int) < 0)) = false from (decide_eq_false (by omega))]))) fun a hA => ?_
    refine seq_end ?_
    refine hK60 _ _ ?_
    refine wp_cond_false (hA.ev rfl) ?_
    refine wp_skip ?_
    refine hK59 _ _ ?_
    refine wp_seq_k (fun K61 hK61 => ?_)
    refine wp_seq_k (fun K62 hK62 => ?_)
    refine wp_region_lit ?_
    refine mv hA rfl rfl rfl fun a hA => ?_
    refine mv hA rfl rfl rfl fun a hA => ?_
    refine seq_do (v := .int .i64 (((l.length : Nat) : Int))) hA rfl rfl rfl (d_lenT Tryz.underlying9 rfl) fun a hA => ?_
    rcases Bool.eq_false_or_eq_true ((((1 + pieceLen r (l.drop 1) : Nat) : Int) == ((l.length : Nat) : Int))) with hb63 | hb63
    ·
     have hb63' := eq_of_beq hb63
     refine seq_do (v := .bool true) hA rfl rfl rfl (d_bin rfl rfl (fun w => (bin_eql w).trans (by rw [hb63]))) fun a hA => ?_
     refine seq_end ?_
     refine hK62 _ _ ?_
     refine wp_cond_true (hA.ev rfl) ?_
     refine wp_seq_k (fun K64 hK64 => ?_)
     refine wp_draw (S := fun w1 => St w w1 [(g56, [.bool ((rb (pieceVal r ((((btL l 0 : Nat) : Int) == 45)) (l.drop 1)).num)), .slice f50_1 ((words (pieceVal r ((((btL l 0 : Nat) : Int) == 45)) (l.drop 1)).num.natAbs).length) f50_c1, .slice f50_2 ((words (pieceVal r ((((btL l 0 : Nat) : Int) == 45)) (l.drop 1)).den).length) f50_c2]), (g9, [.bool false, .slice (some ⟨g5, 0, none⟩) 1 1, .slice (some ⟨g7, 0, none⟩) 1 1])] [(f50_2, words (pieceVal r ((((btL l 0 : Nat) : Int) == 45)) (l.drop 1)).den), (f50_1, words (pieceVal r ((((btL l 0 : Nat) : Int) == 45)) (l.drop 1)).num.natAbs), (some ⟨g7, 0, none⟩, [1]), (some ⟨g5, 0, none⟩, [1])] []) (by kernel_rfl) ?_
     replace hS := hS.drew
     refine any_tk hA 0 rfl rfl rfl rfl hP (hS.partD (.cons_cons _ (.cons_cons _ (.cons _ .slnil))) 0 rfl (.refl _)) (fun w1 hS => d_loadS hS RxG_isS_24 rfl 0 rfl (cs := [.bool ((rb (pieceVal r ((((btL l 0 : Nat) : Int) == 45)) (l.drop 1)).num)), .slice f50_1 ((words (pieceVal r ((((btL l 0 : Nat) : Int) == 45)) (l.drop 1)).num.natAbs).length) f50_c1, .slice f50_2 ((words (pieceVal r ((((btL l 0 : Nat) : Int) == 45)) (l.drop 1)).den).length) f50_c2]) rfl rfl) fun a hA => ?_
     refine any_tk hA 3 rfl rfl rfl rfl hP (hS.partD (.cons_cons _ (.cons_cons _ (.cons _ .slnil))) 0 rfl (.refl _)) (fun w1 hS => d_move rfl) fun a hA => ?_
     refine any_one (by kernel_rfl) (op_call hA 1 rfl rfl rfl rfl (enters_func  rfl rfl (fun w => by kernel_rfl)) (rzeroFR_any _) ?_)
     rintro _ w69 ⟨f65_1, f65_c1, f65_2, f65_c2, rfl, hs66, hs67, hb68⟩
     replace hS := hS.call hb68
     replace hS := hS.addR hs66.rd
     replace hS := hS.addR hs67.rd
     refine ⟨_, rfl, (hS.partD (.cons_cons _ (.cons_cons _ (.cons _ .slnil))) 2 rfl (.refl _)), ?_⟩
     intro a hA
     refine any_tk (v := .agg #[.bool ((rb (pieceVal r ((((btL l 0 : Nat) : Int) == 45)) (l.drop 1)).num)), .slice f50_1 ((words (pieceVal r ((((btL l 0 : Nat) : Int) == 45)) (l.drop 1)).num.natAbs).length) f50_c1, .slice f50_2 ((words (pieceVal r ((((btL l 0 : Nat) : Int) == 45)) (l.drop 1)).den).length) f50_c2, .bool ((rb (0 : Rat).num)), .slice f65_1 ((words (0 : Rat).num.natAbs).length) f65_c1, .slice f65_2 ((words (0 : Rat).den).length) f65_c2]) hA 2 rfl rfl rfl rfl hP (hS.partD (.cons_cons _ (.cons_cons _ (.cons _ .slnil))) 2 rfl (.refl _)) (fun w1 hS => d_build rfl (fun w => by kernel_rfl)) fun a hA => ?_
     refine any_one (by kernel_rfl) (op_store (us := [.bool ((rb (pieceVal r ((((btL l 0 : Nat) : Int) == 45)) (l.drop 1)).num)), .slice f50_1 ((words (pieceVal r ((((btL l 0 : Nat) : Int) == 45)) (l.drop 1)).num.natAbs).length) f50_c1, .slice f50_2 ((words (pieceVal r ((((btL l 0 : Nat) : Int) == 45)) (l.drop 1)).den).length) f50_c2, .bool ((rb (0 : Rat).num)), .slice f65_1 ((words (0 : Rat).num.natAbs).length) f65_c1, .slice f65_2 ((words (0 : Rat).den).length) f65_c2]) hA hS 4 rfl rfl rfl (sets_store rfl rfl rfl (by kernel_rfl) hS 2 rfl rfl rfl) 2 rfl rfl rfl rfl ?_)
     intro w70 hS
     refine ⟨(hS.partD (.cons_cons _ (.cons_cons _ (.cons _ .slnil))) 2 rfl (.refl _)), ?_⟩
     refine any_tk hA 5 rfl rfl rfl rfl hP (hS.partD (.cons_cons _ (.cons_cons _ (.cons _ .slnil))) 2 rfl (.refl _)) (fun w1 hS => d_assign rfl) fun a hA => ?_
     refine any_tk hA 6 rfl rfl rfl rfl hP (hS.partD (.cons_cons _ (.cons_cons _ (.cons _ .slnil))) 2 rfl (.refl _)) (fun w1 hS => d_assign rfl) fun a hA => ?_
     refine any_end (by kernel_rfl) ?_
     refine hK64 _ _ ?_
     refine wp_ret ?_
     refine hret _ _ ?_
     refine ends (v := .tuple #[.agg #[.bool ((rb (pieceVal r ((((btL l 0 : Nat) : Int) == 45)) (l.drop 1)).num)), .slice f50_1 ((words (pieceVal r ((((btL l 0 : Nat) : Int) == 45)) (l.drop 1)).num.natAbs).length) f50_c1, .slice f50_2 ((words (pieceVal r ((((btL l 0 : Nat) : Int) == 45)) (l.drop 1)).den).length) f50_c2, .bool ((rb (0 : Rat).num)), .slice f65_1 ((words (0 : Rat).num.natAbs).length) f65_c1, .slice f65_2 ((words (0 : Rat).den).length) f65_c2], .int .i64 ((pieceErr r (l.drop 1))), .bool true]) hA rfl (.cons (res_cell hS RxG_isS_26 rfl 2 rfl (cs := [.bool ((rb (pieceVal r ((((btL l 0 : Nat) : Int) == 45)) (l.drop 1)).num)), .slice f50_1 ((words (pieceVal r ((((btL l 0 : Nat) : Int) == 45)) (l.drop 1)).num.natAbs).length) f50_c1, .slice f50_2 ((words (pieceVal r ((((btL l 0 : Nat) : Int) == 45)) (l.drop 1)).den).length) f50_c2, .bool ((rb (0 : Rat).num)), .slice f65_1 ((words (0 : Rat).num.natAbs).length) f65_c1, .slice f65_2 ((words (0 : Rat).den).length) f65_c2]) rfl rfl) (.cons (res_tmp rfl) (.cons (res_tmp rfl) .nil))) rfl ?_
     have hs0 : signB l = true := by have h9 := hb15; rw [List.drop_zero] at h9; exact h9
     have hp0 : p0 l = 1 := by unfold p0; rw [hs0]; rfl
     have hp1 : p1 r l = 1 + pieceLen r (l.drop 1) := by unfold p1; rw [hp0]
     have hm1 : m1 r l = l.drop (1 + pieceLen r (l.drop 1) + 1) := by unfold m1; rw [hp1]
     have hn0 : negB (l.drop 0) = negB l := by rw [List.drop_zero]
     have hl71 : 1 + pieceLen r (l.drop 1) = l.length := by omega
     have e9 : bodyS r l = (true, (pieceVal r ((((btL l 0 : Nat) : Int) == 45)) (l.drop 1)), (0 : Rat), (pieceErr r (l.drop 1))) := by
      simp only [bodyS, oneS, neg_at, hs0, hp0, hp1, hm1, hn0, hb24, hb49, hl71, Bool.true_and, Bool.false_and, Bool.and_true, Bool.and_false, if_true, if_false, Bool.false_eq_true, Bool.true_eq_false, ↓reduceIte]
     subst hB
     rw [e9]
     unfold AnsB
     rw [bodyQ_t, show Q6.rat (pieceVal r ((((btL l 0 : Nat) : Int) == 45)) (l.drop 1)) (0 : Rat) = ⟨(rb (pieceVal r ((((btL l 0 : Nat) : Int) == 45)) (l.drop 1)).num), words (pieceVal r ((((btL l 0 : Nat) : Int) == 45)) (l.drop 1)).num.natAbs, words (pieceVal r ((((btL l 0 : Nat) : Int) == 45)) (l.drop 1)).den, (rb (0 : Rat).num), words (0 : Rat).num.natAbs, words (0 : Rat).den⟩ from by simp only [Q6.rat, one_b, one_t, one_q, neg_b, neg_t, neg_q]]
     exact ⟨f50_1, f50_c1, f50_2, f50_c2, f65_1, f65_c1, f65_2, f65_c2, rfl, ⟨⟨(hS.rd 3 rfl), hs51.nil, hs51.cap⟩, ⟨(hS.rd 2 rfl), hs52.nil, hs52.cap⟩, ⟨(hS.rd 1 rfl), hs66.nil, hs66.cap⟩, ⟨(hS.rd 0 rfl), hs67.nil, hs67.cap⟩⟩, hS.bel⟩
    ·
     have hb63' := ne_of_beq_false hb63
     refine seq_do (v := .bool false) hA rfl rfl rfl (d_bin rfl rfl (fun w => (bin_eql w).trans (by rw [hb63]))) fun a hA => ?_
     refine seq_end ?_
     refine hK62 _ _ ?_
     refine wp_cond_false (hA.ev rfl) ?_
     refine wp_skip ?_
     refine hK61 _ _ ?_
     refine wp_seq_k (fun K72 hK72 => ?_)
     refine wp_seq_k (fun K73 hK73 => ?_)
     refine wp_region_lit ?_
     refine mv hA rfl rfl rfl fun a hA => ?_
     refine mv hA rfl rfl rfl fun a hA => ?_
     refine mv hA rfl rfl rfl fun a hA => ?_
     refine mv hA rfl rfl rfl fun a hA => ?_
     rcases Bool.eq_false_or_eq_true (unitB (l.drop (1 + pieceLen r (l.drop 1)))) with hb74 | hb74
     ·
      refine seq_call hA rfl rfl rfl (enters_func  rfl rfl (fun w => by kernel_rfl)) (rendsX_any (p := 1 + pieceLen r (l.drop 1)) hl hb74) ?_
      rintro _ w76 ⟨rfl, hb75⟩
      replace hS := hS.call hb75
      refine ⟨_, rfl, ?_⟩
      intro a hA
      refine seq_do (v := .bool true) hA rfl rfl rfl (d_pick rfl rfl rfl rfl) fun a hA => ?_
      refine seq_end ?_
      refine hK73 _ _ ?_
      refine wp_cond_true (hA.ev rfl) ?_
      refine wp_seq_k (fun K77 hK77 => ?_)
      refine wp_draw (S := fun w1 => St w w1 [(g56, [.bool ((rb (pieceVal r ((((btL l 0 : Nat) : Int) == 45)) (l.drop 1)).num)), .slice f50_1 ((words (pieceVal r ((((btL l 0 : Nat) : Int) == 45)) (l.drop 1)).num.natAbs).length) f50_c1, .slice f50_2 ((words (pieceVal r ((((btL l 0 : Nat) : Int) == 45)) (l.drop 1)).den).length) f50_c2]), (g9, [.bool false, .slice (some ⟨g5, 0, none⟩) 1 1, .slice (some ⟨g7, 0, none⟩) 1 1])] [(f50_2, words (pieceVal r ((((btL l 0 : Nat) : Int) == 45)) (l.drop 1)).den), (f50_1, words (pieceVal r ((((btL l 0 : Nat) : Int) == 45)) (l.drop 1)).num.natAbs), (some ⟨g7, 0, none⟩, [1]), (some ⟨g5, 0, none⟩, [1])] []) (by kernel_rfl) ?_
      replace hS := hS.drew
      refine any_tk hA 1 rfl rfl rfl rfl hP (hS.partD (.cons_cons _ (.cons_cons _ (.cons _ .slnil))) 0 rfl (.refl _)) (fun w1 hS => d_loadS hS RxG_isS_24 rfl 0 rfl (cs := [.bool ((rb (pieceVal r ((((btL l 0 : Nat) : Int) == 45)) (l.drop 1)).num)), .slice f50_1 ((words (pieceVal r ((((btL l 0 : Nat) : Int) == 45)) (l.drop 1)).num.natAbs).length) f50_c1, .slice f50_2 ((words (pieceVal r ((((btL l 0 : Nat) : Int) == 45)) (l.drop 1)).den).length) f50_c2]) rfl rfl) fun a hA => ?_
      refine any_tk hA 3 rfl rfl rfl rfl hP (hS.partD (.cons_cons _ (.cons_cons _ (.cons _ .slnil))) 0 rfl (.refl _)) (fun w1 hS => d_move rfl) fun a hA => ?_
      refine any_one (by kernel_rfl) (op_call hA 0 rfl rfl rfl rfl (enters_func  rfl rfl (fun w => by kernel_rfl)) (rzeroFR_any _) ?_)
      rintro _ w82 ⟨f78_1, f78_c1, f78_2, f78_c2, rfl, hs79, hs80, hb81⟩
      replace hS := hS.call hb81
      replace hS := hS.addR hs79.rd
      replace hS := hS.addR hs80.rd
      refine ⟨_, rfl, (hS.partD (.cons_cons _ (.cons_cons _ (.cons _ .slnil))) 2 rfl (.refl _)), ?_⟩
      intro a hA
      refine any_tk (v := .agg #[.bool ((rb (0 : Rat).num)), .slice f78_1 ((words (0 : Rat).num.natAbs).length) f78_c1, .slice f78_2 ((words (0 : Rat).den).length) f78_c2, .bool ((rb (pieceVal r ((((btL l 0 : Nat) : Int) == 45)) (l.drop 1)).num)), .slice f50_1 ((words (pieceVal r ((((btL l 0 : Nat) : Int) == 45)) (l.drop 1)).num.natAbs).length) f50_c1, .slice f50_2 ((words (pieceVal r ((((btL l 0 : Nat) : Int) == 45)) (l.drop 1)).den).length) f50_c2]) hA 2 rfl rfl rfl rfl hP (hS.partD (.cons_cons _ (.cons_cons _ (.cons _ .slnil))) 2 rfl (.refl _)) (fun w1 hS => d_build rfl (fun w => by kernel_rfl)) fun a hA => ?_
      refine any_one (by kernel_rfl) (op_store (us := [.bool ((rb (0 : Rat).num)), .slice f78_1 ((words (0 : Rat).num.natAbs).length) f78_c1, .slice f78_2 ((words (0 : Rat).den).length) f78_c2, .bool ((rb (pieceVal r ((((btL l 0 : Nat) : Int) == 45)) (l.drop 1)).num)), .slice f50_1 ((words (pieceVal r ((((btL l 0 : Nat) : Int) == 45)) (l.drop 1)).num.natAbs).length) f50_c1, .slice f50_2 ((words (pieceVal r ((((btL l 0 : Nat) : Int) == 45)) (l.drop 1)).den).length) f50_c2]) hA hS 4 rfl rfl rfl (sets_store rfl rfl rfl (by kernel_rfl) hS 2 rfl rfl rfl) 2 rfl rfl rfl rfl ?_)
      intro w83 hS
      refine ⟨(hS.partD (.cons_cons _ (.cons_cons _ (.cons _ .slnil))) 2 rfl (.refl _)), ?_⟩
      refine any_tk hA 5 rfl rfl rfl rfl hP (hS.partD (.cons_cons _ (.cons_cons _ (.cons _ .slnil))) 2 rfl (.refl _)) (fun w1 hS => d_assign rfl) fun a hA => ?_
      refine any_tk hA 6 rfl rfl rfl rfl hP (hS.partD (.cons_cons _ (.cons_cons _ (.cons _ .slnil))) 2 rfl (.refl _)) (fun w1 hS => d_assign rfl) fun a hA => ?_
      refine any_end (by kernel_rfl) ?_
      refine hK77 _ _ ?_
      refine wp_ret ?_
      refine hret _ _ ?_
      refine ends (v := .tuple #[.agg #[.bool ((rb (0 : Rat).num)), .slice f78_1 ((words (0 : Rat).num.natAbs).length) f78_c1, .slice f78_2 ((words (0 : Rat).den).length) f78_c2, .bool ((rb (pieceVal r ((((btL l 0 : Nat) : Int) == 45)) (l.drop 1)).num)), .slice f50_1 ((words (pieceVal r ((((btL l 0 : Nat) : Int) == 45)) (l.drop 1)).num.natAbs).length) f50_c1, .slice f50_2 ((words (pieceVal r ((((btL l 0 : Nat) : Int) == 45)) (l.drop 1)).den).length) f50_c2], .int .i64 ((pieceErr r (l.drop 1))), .bool true]) hA rfl (.cons (res_cell hS RxG_isS_26 rfl 2 rfl (cs := [.bool ((rb (0 : Rat).num)), .slice f78_1 ((words (0 : Rat).num.natAbs).length) f78_c1, .slice f78_2 ((words (0 : Rat).den).length) f78_c2, .bool ((rb (pieceVal r ((((btL l 0 : Nat) : Int) == 45)) (l.drop 1)).num)), .slice f50_1 ((words (pieceVal r ((((btL l 0 : Nat) : Int) == 45)) (l.drop 1)).num.natAbs).length) f50_c1, .slice f50_2 ((words (pieceVal r ((((btL l 0 : Nat) : Int) == 45)) (l.drop 1)).den).length) f50_c2]) rfl rfl) (.cons (res_tmp rfl) (.cons (res_tmp rfl) .nil))) rfl ?_
      have hs0 : signB l = true := by have h9 := hb15; rw [List.drop_zero] at h9; exact h9
      have hp0 : p0 l = 1 := by unfold p0; rw [hs0]; rfl
      have hp1 : p1 r l = 1 + pieceLen r (l.drop 1) := by unfold p1; rw [hp0]
      have hm1 : m1 r l = l.drop (1 + pieceLen r (l.drop 1) + 1) := by unfold m1; rw [hp1]
      have hn0 : negB (l.drop 0) = negB l := by rw [List.drop_zero]
      have hl84 : ¬ 1 + pieceLen r (l.drop 1) = l.length := by omega
      have e9 : bodyS r l = (true, (0 : Rat), (pieceVal r ((((btL l 0 : Nat) : Int) == 45)) (l.drop 1)), (pieceErr r (l.drop 1))) := by
       simp only [bodyS, oneS, neg_at, hs0, hp0, hp1, hm1, hn0, hb24, hb49, hl84, hb74, Bool.true_and, Bool.false_and, Bool.and_true, Bool.and_false, if_true, if_false, Bool.false_eq_true, Bool.true_eq_false, ↓reduceIte]
      subst hB
      rw [e9]
      unfold AnsB
      rw [bodyQ_t, show Q6.rat (0 : Rat) (pieceVal r ((((btL l 0 : Nat) : Int) == 45)) (l.drop 1)) = ⟨(rb (0 : Rat).num), words (0 : Rat).num.natAbs, words (0 : Rat).den, (rb (pieceVal r ((((btL l 0 : Nat) : Int) == 45)) (l.drop 1)).num), words (pieceVal r ((((btL l 0 : Nat) : Int) == 45)) (l.drop 1)).num.natAbs, words (pieceVal r ((((btL l 0 : Nat) : Int) == 45)) (l.drop 1)).den⟩ from by simp only [Q6.rat, one_b, one_t, one_q, neg_b, neg_t, neg_q]]
      exact ⟨f78_1, f78_c1, f78_2, f78_c2, f50_1, f50_c1, f50_2, f50_c2, rfl, ⟨⟨(hS.rd 1 rfl), hs79.nil, hs79.cap⟩, ⟨(hS.rd 0 rfl), hs80.nil, hs80.cap⟩, ⟨(hS.rd 3 rfl), hs51.nil, hs51.cap⟩, ⟨(hS.rd 2 rfl), hs52.nil, hs52.cap⟩⟩, hS.bel⟩
     ·
      refine seq_call hA rfl rfl rfl (enters_func  rfl rfl (fun w => by kernel_rfl)) (rendsX_any (p := 1 + pieceLen r (l.drop 1)) hl hb74) ?_
      rintro _ w86 ⟨rfl, hb85⟩
      replace hS := hS.call hb85
      refine ⟨_, rfl, ?_⟩
      intro a hA
      refine seq_do (v := .bool false) hA rfl rfl rfl (d_pick rfl rfl rfl rfl) fun a hA => ?_
      refine seq_end ?_
      refine hK73 _ _ ?_
      refine wp_cond_false (hA.ev rfl) ?_
      refine wp_skip ?_
      refine hK72 _ _ ?_
      refine wp_seq_k (fun K87 hK87 => ?_)
      refine wp_seq_k (fun K88 hK88 => ?_)
      refine wp_region_lit ?_
      refine mv hA rfl rfl rfl fun a hA => ?_
      refine mv hA rfl rfl rfl fun a hA => ?_
      rcases Bool.eq_false_or_eq_true (signB (l.drop (1 + pieceLen r (l.drop 1)))) with hb89 | hb89
      ·
       have hj90 := sign_len hb89
       refine seq_call hA rfl rfl rfl (enters_func  rfl rfl (fun w => by kernel_rfl)) (rsignedX_any (p := 1 + pieceLen r (l.drop 1)) hl hb89) ?_
       rintro _ w92 ⟨rfl, hb91⟩
       replace hS := hS.call hb91
       refine ⟨_, rfl, ?_⟩
       intro a hA
       refine seq_do (v := .bool false) hA rfl rfl rfl (d_un rfl un_not) fun a hA => ?_
       refine seq_end ?_
       refine hK88 _ _ ?_
       refine wp_cond_false (hA.ev rfl) ?_
       refine wp_skip ?_
       refine hK87 _ _ ?_
       refine wp_seq_k (fun K93 hK93 => ?_)
       refine wp_region_lit ?_
       refine mv hA rfl rfl rfl fun a hA => ?_
       refine mv hA rfl rfl rfl fun a hA => ?_
       refine seq_do (v := .int .u8 (((btL l (1 + pieceLen r (l.drop 1)) : Nat) : Int))) hA rfl rfl rfl (d_ixT (s := l) (i := 1 + pieceLen r (l.drop 1)) Tryz.underlying9 rfl rfl (by first | rfl | omega) (by first | omega | (simp only [List.length_drop, List.length_take]; omega))) fun a hA => ?_
       refine seq_do (v := .bool ((((btL l (1 + pieceLen r (l.drop 1)) : Nat) : Int) == 45))) hA rfl rfl rfl (d_bin rfl rfl bin_eql) fun a hA => ?_
       refine seq_do hA rfl rfl rfl (d_assign rfl) fun a hA => ?_
       refine seq_end ?_
       refine hK93 _ _ ?_
       refine wp_seq_k (fun K94 hK94 => ?_)
       refine wp_seq_k (fun K95 hK95 => ?_)
       refine wp_region_lit ?_
       refine mv hA rfl rfl rfl fun a hA => ?_
       refine mv hA rfl rfl rfl fun a hA => ?_
       refine seq_do (v := .int .i64 (((1 + pieceLen r (l.drop 1) + 1 : Nat) : Int))) hA rfl rfl rfl (d_bin rfl rfl (fun w => (bin_add (i64In (by omega) (by omega)) w).trans (by rw [show (((1 + pieceLen r (l.drop 1) : Nat) : Int) + 1 : Int) = ((1 + pieceLen r (l.drop 1) + 1 : Nat) : Int) from by omega]))) fun a hA => ?_
       rcases Bool.eq_false_or_eq_true (unitB (l.drop (1 + pieceLen r (l.drop 1) + 1))) with hb96 | hb96
       ·
        refine seq_call hA rfl rfl rfl (enters_func  rfl rfl (fun w => by kernel_rfl)) (rendsX_any (p := 1 + pieceLen r (l.drop 1) + 1) hl hb96) ?_
        rintro _ w98 ⟨rfl, hb97⟩
        replace hS := hS.call hb97
        refine ⟨_, rfl, ?_⟩
        intro a hA
        refine seq_end ?_
        refine hK95 _ _ ?_
        refine wp_cond_true (hA.ev rfl) ?_
        refine wp_seq_k (fun K99 hK99 => ?_)
        refine wp_seq_k (fun K100 hK100 => ?_)
        refine wp_region_lit ?_
        refine mv hA rfl rfl rfl fun a hA => ?_
        refine seq_end ?_
        refine hK100 _ _ ?_
        refine wp_cond_split (t := (((btL l (1 + pieceLen r (l.drop 1)) : Nat) : Int) == 45)) (hA.ev rfl) (fun hc101 => ?_) (fun hc101 => ?_)
        ·
         have hc101' := eq_of_beq hc101
         refine wp_seq_k (fun K102 hK102 => ?_)
         refine wp_draw (S := fun w1 => St w w1 [(g56, [.bool ((rb (pieceVal r ((((btL l 0 : Nat) : Int) == 45)) (l.drop 1)).num)), .slice f50_1 ((words (pieceVal r ((((btL l 0 : Nat) : Int) == 45)) (l.drop 1)).num.natAbs).length) f50_c1, .slice f50_2 ((words (pieceVal r ((((btL l 0 : Nat) : Int) == 45)) (l.drop 1)).den).length) f50_c2]), (g9, [.bool false, .slice (some ⟨g5, 0, none⟩) 1 1, .slice (some ⟨g7, 0, none⟩) 1 1])] [(f50_2, words (pieceVal r ((((btL l 0 : Nat) : Int) == 45)) (l.drop 1)).den), (f50_1, words (pieceVal r ((((btL l 0 : Nat) : Int) == 45)) (l.drop 1)).num.natAbs), (some ⟨g7, 0, none⟩, [1]), (some ⟨g5, 0, none⟩, [1])] []) (by kernel_rfl) ?_
         replace hS := hS.drew
         refine any_tk hA 0 rfl rfl rfl rfl hP (hS.partD (.cons_cons _ (.cons_cons _ (.cons _ .slnil))) 0 rfl (.refl _)) (fun w1 hS => d_loadS hS RxG_isS_24 rfl 0 rfl (cs := [.bool ((rb (pieceVal r ((((btL l 0 : Nat) : Int) == 45)) (l.drop 1)).num)), .slice f50_1 ((words (pieceVal r ((((btL l 0 : Nat) : Int) == 45)) (l.drop 1)).num.natAbs).length) f50_c1, .slice f50_2 ((words (pieceVal r ((((btL l 0 : Nat) : Int) == 45)) (l.drop 1)).den).length) f50_c2]) rfl rfl) fun a hA => ?_
         refine any_tk hA 1 rfl rfl rfl rfl hP (hS.partD (.cons_cons _ (.cons_cons _ (.cons _ .slnil))) 0 rfl (.refl _)) (fun w1 hS => d_loadS hS RxG_isS_24 rfl 1 rfl (cs := [.bool false, .slice (some ⟨g5, 0, none⟩) 1 1, .slice (some ⟨g7, 0, none⟩) 1 1]) rfl rfl) fun a hA => ?_
         refine any_tk hA 4 rfl rfl rfl rfl hP (hS.partD (.cons_cons _ (.cons_cons _ (.cons _ .slnil))) 0 rfl (.refl _)) (fun w1 hS => d_move rfl) fun a hA => ?_
         refine any_one (by kernel_rfl) (op_call hA 2 rfl rfl rfl rfl (enters_func  rfl rfl (fun w => by kernel_rfl)) (rminus_any (r := true) rfl) ?_)
         rintro _ w104 ⟨rfl, hb103⟩
         replace hS := hS.call hb103
         refine ⟨_, rfl, (hS.partD (.cons_cons _ (.cons_cons _ (.cons _ .slnil))) 0 rfl (.refl _)), ?_⟩
         intro a hA
         refine any_tk (v := .agg #[.bool ((rb (pieceVal r ((((btL l 0 : Nat) : Int) == 45)) (l.drop 1)).num)), .slice f50_1 ((words (pieceVal r ((((btL l 0 : Nat) : Int) == 45)) (l.drop 1)).num.natAbs).length) f50_c1, .slice f50_2 ((words (pieceVal r ((((btL l 0 : Nat) : Int) == 45)) (l.drop 1)).den).length) f50_c2, .bool true, .slice (some ⟨g5, 0, none⟩) 1 1, .slice (some ⟨g7, 0, none⟩) 1 1]) hA 3 rfl rfl rfl rfl hP (hS.partD (.cons_cons _ (.cons_cons _ (.cons _ .slnil))) 0 rfl (.refl _)) (fun w1 hS => d_build rfl (fun w => by kernel_rfl)) fun a hA => ?_
         refine any_one (by kernel_rfl) (op_store (us := [.bool ((rb (pieceVal r ((((btL l 0 : Nat) : Int) == 45)) (l.drop 1)).num)), .slice f50_1 ((words (pieceVal r ((((btL l 0 : Nat) : Int) == 45)) (l.drop 1)).num.natAbs).length) f50_c1, .slice f50_2 ((words (pieceVal r ((((btL l 0 : Nat) : Int) == 45)) (l.drop 1)).den).length) f50_c2, .bool true, .slice (some ⟨g5, 0, none⟩) 1 1, .slice (some ⟨g7, 0, none⟩) 1 1]) hA hS 5 rfl rfl rfl (sets_store rfl rfl rfl (by kernel_rfl) hS 2 rfl rfl rfl) 2 rfl rfl rfl rfl ?_)
         intro w105 hS
         refine ⟨(hS.partD (.cons_cons _ (.cons_cons _ (.cons _ .slnil))) 0 rfl (.refl _)), ?_⟩
         refine any_tk hA 6 rfl rfl rfl rfl hP (hS.partD (.cons_cons _ (.cons_cons _ (.cons _ .slnil))) 0 rfl (.refl _)) (fun w1 hS => d_assign rfl) fun a hA => ?_
         refine any_tk hA 7 rfl rfl rfl rfl hP (hS.partD (.cons_cons _ (.cons_cons _ (.cons _ .slnil))) 0 rfl (.refl _)) (fun w1 hS => d_assign rfl) fun a hA => ?_
         refine any_end (by kernel_rfl) ?_
         refine hK102 _ _ ?_
         refine wp_ret ?_
         refine hret _ _ ?_
         refine ends (v := .tuple #[.agg #[.bool ((rb (pieceVal r ((((btL l 0 : Nat) : Int) == 45)) (l.drop 1)).num)), .slice f50_1 ((words (pieceVal r ((((btL l 0 : Nat) : Int) == 45)) (l.drop 1)).num.natAbs).length) f50_c1, .slice f50_2 ((words (pieceVal r ((((btL l 0 : Nat) : Int) == 45)) (l.drop 1)).den).length) f50_c2, .bool true, .slice (some ⟨g5, 0, none⟩) 1 1, .slice (some ⟨g7, 0, none⟩) 1 1], .int .i64 ((pieceErr r (l.drop 1))), .bool true]) hA rfl (.cons (res_cell hS RxG_isS_26 rfl 2 rfl (cs := [.bool ((rb (pieceVal r ((((btL l 0 : Nat) : Int) == 45)) (l.drop 1)).num)), .slice f50_1 ((words (pieceVal r ((((btL l 0 : Nat) : Int) == 45)) (l.drop 1)).num.natAbs).length) f50_c1, .slice f50_2 ((words (pieceVal r ((((btL l 0 : Nat) : Int) == 45)) (l.drop 1)).den).length) f50_c2, .bool true, .slice (some ⟨g5, 0, none⟩) 1 1, .slice (some ⟨g7, 0, none⟩) 1 1]) rfl rfl) (.cons (res_tmp rfl) (.cons (res_tmp rfl) .nil))) rfl ?_
         have hs0 : signB l = true := by have h9 := hb15; rw [List.drop_zero] at h9; exact h9
         have hp0 : p0 l = 1 := by unfold p0; rw [hs0]; rfl
         have hp1 : p1 r l = 1 + pieceLen r (l.drop 1) := by unfold p1; rw [hp0]
         have hm1 : m1 r l = l.drop (1 + pieceLen r (l.drop 1) + 1) := by unfold m1; rw [hp1]
         have hn0 : negB (l.drop 0) = negB l := by rw [List.drop_zero]
         have hl106 : ¬ 1 + pieceLen r (l.drop 1) = l.length := by omega
         rw [neg_at] at hc101
         have e9 : bodyS r l = (true, (pieceVal r ((((btL l 0 : Nat) : Int) == 45)) (l.drop 1)), (-1), (pieceErr r (l.drop 1))) := by
          simp only [bodyS, oneS, neg_at, hs0, hp0, hp1, hm1, hn0, hb24, hb49, hl106, hb74, hb89, hb96, hc101, Bool.true_and, Bool.false_and, Bool.and_true, Bool.and_false, if_true, if_false, Bool.false_eq_true, Bool.true_eq_false, ↓reduceIte]
         subst hB
         rw [e9]
         unfold AnsB
         rw [bodyQ_t, show Q6.rat (pieceVal r ((((btL l 0 : Nat) : Int) == 45)) (l.drop 1)) (-1) = ⟨(rb (pieceVal r ((((btL l 0 : Nat) : Int) == 45)) (l.drop 1)).num), words (pieceVal r ((((btL l 0 : Nat) : Int) == 45)) (l.drop 1)).num.natAbs, words (pieceVal r ((((btL l 0 : Nat) : Int) == 45)) (l.drop 1)).den, true, [1], [1]⟩ from by simp only [Q6.rat, one_b, one_t, one_q, neg_b, neg_t, neg_q]]
         exact ⟨f50_1, f50_c1, f50_2, f50_c2, some ⟨g5, 0, none⟩, 1, some ⟨g7, 0, none⟩, 1, rfl, ⟨⟨(hS.rd 1 rfl), hs51.nil, hs51.cap⟩, ⟨(hS.rd 0 rfl), hs52.nil, hs52.cap⟩, ⟨(hS.rd 3 rfl), (fun h => by cases h), (Nat.le_refl _)⟩, ⟨(hS.rd 2 rfl), (fun h => by cases h), (Nat.le_refl _)⟩⟩, hS.bel⟩
        ·
         have hc101' := ne_of_beq_false hc101
         refine wp_skip ?_
         refine hK99 _ _ ?_
         refine wp_seq_k (fun K107 hK107 => ?_)
         refine wp_region_lit ?_
         refine seq_do hA rfl rfl rfl (d_loadS hS RxG_isS_24 rfl 0 rfl (cs := [.bool ((rb (pieceVal r ((((btL l 0 : Nat) : Int) == 45)) (l.drop 1)).num)), .slice f50_1 ((words (pieceVal r ((((btL l 0 : Nat) : Int) == 45)) (l.drop 1)).num.natAbs).length) f50_c1, .slice f50_2 ((words (pieceVal r ((((btL l 0 : Nat) : Int) == 45)) (l.drop 1)).den).length) f50_c2]) rfl rfl) fun a hA => ?_
         refine seq_do hA rfl rfl rfl (d_loadS hS RxG_isS_24 rfl 1 rfl (cs := [.bool false, .slice (some ⟨g5, 0, none⟩) 1 1, .slice (some ⟨g7, 0, none⟩) 1 1]) rfl rfl) fun a hA => ?_
         refine seq_do (v := .agg #[.bool ((rb (pieceVal r ((((btL l 0 : Nat) : Int) == 45)) (l.drop 1)).num)), .slice f50_1 ((words (pieceVal r ((((btL l 0 : Nat) : Int) == 45)) (l.drop 1)).num.natAbs).length) f50_c1, .slice f50_2 ((words (pieceVal r ((((btL l 0 : Nat) : Int) == 45)) (l.drop 1)).den).length) f50_c2, .bool false, .slice (some ⟨g5, 0, none⟩) 1 1, .slice (some ⟨g7, 0, none⟩) 1 1]) hA rfl rfl rfl (d_build rfl (fun w => by kernel_rfl)) fun a hA => ?_
         refine mv hA rfl rfl rfl fun a hA => ?_
         refine seq_store (us := [.bool ((rb (pieceVal r ((((btL l 0 : Nat) : Int) == 45)) (l.drop 1)).num)), .slice f50_1 ((words (pieceVal r ((((btL l 0 : Nat) : Int) == 45)) (l.drop 1)).num.natAbs).length) f50_c1, .slice f50_2 ((words (pieceVal r ((((btL l 0 : Nat) : Int) == 45)) (l.drop 1)).den).length) f50_c2, .bool false, .slice (some ⟨g5, 0, none⟩) 1 1, .slice (some ⟨g7, 0, none⟩) 1 1]) hA hS rfl rfl (sets_store rfl rfl rfl (by kernel_rfl) hS 2 rfl rfl rfl) 2 rfl rfl rfl rfl ?_
         intro w108 hS
         refine seq_do hA rfl rfl rfl (d_assign rfl) fun a hA => ?_
         refine seq_do hA rfl rfl rfl (d_assign rfl) fun a hA => ?_
         refine seq_end ?_
         refine hK107 _ _ ?_
         refine wp_ret ?_
         refine hret _ _ ?_
         refine ends (v := .tuple #[.agg #[.bool ((rb (pieceVal r ((((btL l 0 : Nat) : Int) == 45)) (l.drop 1)).num)), .slice f50_1 ((words (pieceVal r ((((btL l 0 : Nat) : Int) == 45)) (l.drop 1)).num.natAbs).length) f50_c1, .slice f50_2 ((words (pieceVal r ((((btL l 0 : Nat) : Int) == 45)) (l.drop 1)).den).length) f50_c2, .bool false, .slice (some ⟨g5, 0, none⟩) 1 1, .slice (some ⟨g7, 0, none⟩) 1 1], .int .i64 ((pieceErr r (l.drop 1))), .bool true]) hA rfl (.cons (res_cell hS RxG_isS_26 rfl 2 rfl (cs := [.bool ((rb (pieceVal r ((((btL l 0 : Nat) : Int) == 45)) (l.drop 1)).num)), .slice f50_1 ((words (pieceVal r ((((btL l 0 : Nat) : Int) == 45)) (l.drop 1)).num.natAbs).length) f50_c1, .slice f50_2 ((words (pieceVal r ((((btL l 0 : Nat) : Int) == 45)) (l.drop 1)).den).length) f50_c2, .bool false, .slice (some ⟨g5, 0, none⟩) 1 1, .slice (some ⟨g7, 0, none⟩) 1 1]) rfl rfl) (.cons (res_tmp rfl) (.cons (res_tmp rfl) .nil))) rfl ?_
         have hs0 : signB l = true := by have h9 := hb15; rw [List.drop_zero] at h9; exact h9
         have hp0 : p0 l = 1 := by unfold p0; rw [hs0]; rfl
         have hp1 : p1 r l = 1 + pieceLen r (l.drop 1) := by unfold p1; rw [hp0]
         have hm1 : m1 r l = l.drop (1 + pieceLen r (l.drop 1) + 1) := by unfold m1; rw [hp1]
         have hn0 : negB (l.drop 0) = negB l := by rw [List.drop_zero]
         have hl109 : ¬ 1 + pieceLen r (l.drop 1) = l.length := by omega
         rw [neg_at] at hc101
         have e9 : bodyS r l = (true, (pieceVal r ((((btL l 0 : Nat) : Int) == 45)) (l.drop 1)), 1, (pieceErr r (l.drop 1))) := by
          simp only [bodyS, oneS, neg_at, hs0, hp0, hp1, hm1, hn0, hb24, hb49, hl109, hb74, hb89, hb96, hc101, Bool.true_and, Bool.false_and, Bool.and_true, Bool.and_false, if_true, if_false, Bool.false_eq_true, Bool.true_eq_false, ↓reduceIte]
         subst hB
         rw [e9]
         unfold AnsB
         rw [bodyQ_t, show Q6.rat (pieceVal r ((((btL l 0 : Nat) : Int) == 45)) (l.drop 1)) 1 = ⟨(rb (pieceVal r ((((btL l 0 : Nat) : Int) == 45)) (l.drop 1)).num), words (pieceVal r ((((btL l 0 : Nat) : Int) == 45)) (l.drop 1)).num.natAbs, words (pieceVal r ((((btL l 0 : Nat) : Int) == 45)) (l.drop 1)).den, false, [1], [1]⟩ from by simp only [Q6.rat, one_b, one_t, one_q, neg_b, neg_t, neg_q]]
         exact ⟨f50_1, f50_c1, f50_2, f50_c2, some ⟨g5, 0, none⟩, 1, some ⟨g7, 0, none⟩, 1, rfl, ⟨⟨(hS.rd 1 rfl), hs51.nil, hs51.cap⟩, ⟨(hS.rd 0 rfl), hs52.nil, hs52.cap⟩, ⟨(hS.rd 3 rfl), (fun h => by cases h), (Nat.le_refl _)⟩, ⟨(hS.rd 2 rfl), (fun h => by cases h), (Nat.le_refl _)⟩⟩, hS.bel⟩
       ·
        refine seq_call hA rfl rfl rfl (enters_func  rfl rfl (fun w => by kernel_rfl)) (rendsX_any (p := 1 + pieceLen r (l.drop 1) + 1) hl hb96) ?_
        rintro _ w111 ⟨rfl, hb110⟩
        replace hS := hS.call hb110
        refine ⟨_, rfl, ?_⟩
        intro a hA
        refine seq_end ?_
        refine hK95 _ _ ?_
        refine wp_cond_false (hA.ev rfl) ?_
        refine wp_skip ?_
        refine hK94 _ _ ?_
        refine wp_seq_k (fun K112 hK112 => ?_)
        refine wp_region_lit ?_
        refine mv hA rfl rfl rfl fun a hA => ?_
        refine mv hA rfl rfl rfl fun a hA => ?_
        refine seq_do (v := .int .i64 (((1 + pieceLen r (l.drop 1) + 1 : Nat) : Int))) hA rfl rfl rfl (d_bin rfl rfl (fun w => (bin_add (i64In (by omega) (by omega)) w).trans (by rw [show (((1 + pieceLen r (l.drop 1) : Nat) : Int) + 1 : Int) = ((1 + pieceLen r (l.drop 1) + 1 : Nat) : Int) from by omega]))) fun a hA => ?_
        refine mv hA rfl rfl rfl fun a hA => ?_
        refine mv hA rfl rfl rfl fun a hA => ?_
        rcases Bool.eq_false_or_eq_true (pieceOk r (l.drop (1 + pieceLen r (l.drop 1) + 1))) with hb113 | hb113
        ·
         have hj118 := pieceLen_at r (1 + pieceLen r (l.drop 1) + 1) l (by omega)
         refine seq_call hA rfl rfl rfl (enters_func  rfl rfl (fun w => by kernel_rfl)) (rpiece_ok (p := 1 + pieceLen r (l.drop 1) + 1) hr ((((btL l (1 + pieceLen r (l.drop 1)) : Nat) : Int) == 45)) hl (by omega) hb113) ?_
         rintro _ w119 ⟨f114_1, f114_c1, f114_2, f114_c2, rfl, hs115, hs116, hb117⟩
         replace hS := hS.call hb117
         replace hS := hS.addR hs115.rd
         replace hS := hS.addR hs116.rd
         refine ⟨_, rfl, ?_⟩
         intro a hA
         refine mv hA rfl rfl rfl fun a hA => ?_
         refine seq_do (v := .int .i64 (((1 + pieceLen r (l.drop 1) + 1 + pieceLen r (l.drop (1 + pieceLen r (l.drop 1) + 1)) : Nat) : Int))) hA rfl rfl rfl (d_extract (vs := [.int .i64 (((1 + pieceLen r (l.drop 1) + 1 + pieceLen r (l.drop (1 + pieceLen r (l.drop 1) + 1)) : Nat) : Int)), .agg #[.bool ((rb (pieceVal r ((((btL l (1 + pieceLen r (l.drop 1)) : Nat) : Int) == 45)) (l.drop (1 + pieceLen r (l.drop 1) + 1))).num)), .slice f114_1 ((words (pieceVal r ((((btL l (1 + pieceLen r (l.drop 1)) : Nat) : Int) == 45)) (l.drop (1 + pieceLen r (l.drop 1) + 1))).num.natAbs).length) f114_c1, .slice f114_2 ((words (pieceVal r ((((btL l (1 + pieceLen r (l.drop 1)) : Nat) : Int) == 45)) (l.drop (1 + pieceLen r (l.drop 1) + 1))).den).length) f114_c2], .int .i64 ((pieceErr r (l.drop (1 + pieceLen r (l.drop 1) + 1))))]) rfl rfl) fun a hA => ?_
         refine seq_do (v := .agg #[.bool ((rb (pieceVal r ((((btL l (1 + pieceLen r (l.drop 1)) : Nat) : Int) == 45)) (l.drop (1 + pieceLen r (l.drop 1) + 1))).num)), .slice f114_1 ((words (pieceVal r ((((btL l (1 + pieceLen r (l.drop 1)) : Nat) : Int) == 45)) (l.drop (1 + pieceLen r (l.drop 1) + 1))).num.natAbs).length) f114_c1, .slice f114_2 ((words (pieceVal r ((((btL l (1 + pieceLen r (l.drop 1)) : Nat) : Int) == 45)) (l.drop (1 + pieceLen r (l.drop 1) + 1))).den).length) f114_c2]) hA rfl rfl rfl (d_extract (vs := [.int .i64 (((1 + pieceLen r (l.drop 1) + 1 + pieceLen r (l.drop (1 + pieceLen r (l.drop 1) + 1)) : Nat) : Int)), .agg #[.bool ((rb (pieceVal r ((((btL l (1 + pieceLen r (l.drop 1)) : Nat) : Int) == 45)) (l.drop (1 + pieceLen r (l.drop 1) + 1))).num)), .slice f114_1 ((words (pieceVal r ((((btL l (1 + pieceLen r (l.drop 1)) : Nat) : Int) == 45)) (l.drop (1 + pieceLen r (l.drop 1) + 1))).num.natAbs).length) f114_c1, .slice f114_2 ((words (pieceVal r ((((btL l (1 + pieceLen r (l.drop 1)) : Nat) : Int) == 45)) (l.drop (1 + pieceLen r (l.drop 1) + 1))).den).length) f114_c2], .int .i64 ((pieceErr r (l.drop (1 + pieceLen r (l.drop 1) + 1))))]) rfl rfl) fun a hA => ?_
         refine seq_do (v := .int .i64 ((pieceErr r (l.drop (1 + pieceLen r (l.drop 1) + 1))))) hA rfl rfl rfl (d_extract (vs := [.int .i64 (((1 + pieceLen r (l.drop 1) + 1 + pieceLen r (l.drop (1 + pieceLen r (l.drop 1) + 1)) : Nat) : Int)), .agg #[.bool ((rb (pieceVal r ((((btL l (1 + pieceLen r (l.drop 1)) : Nat) : Int) == 45)) (l.drop (1 + pieceLen r (l.drop 1) + 1))).num)), .slice f114_1 ((words (pieceVal r ((((btL l (1 + pieceLen r (l.drop 1)) : Nat) : Int) == 45)) (l.drop (1 + pieceLen r (l.drop 1) + 1))).num.natAbs).length) f114_c1, .slice f114_2 ((words (pieceVal r ((((btL l (1 + pieceLen r (l.drop 1)) : Nat) : Int) == 45)) (l.drop (1 + pieceLen r (l.drop 1) + 1))).den).length) f114_c2], .int .i64 ((pieceErr r (l.drop (1 + pieceLen r (l.drop 1) + 1))))]) rfl rfl) fun a hA => ?_
         refine seq_new (vs := [.bool false, .slice none 0 0, .slice none 0 0]) (t := 24) hA hS rfl rfl rfl (fun g => .pointer (some ⟨g, 0, none⟩)) (d_alloc (z := .agg #[.bool false, .slice none 0 0, .slice none 0 0]) (by kernel_rfl) rfl) rfl ?_
         intro g120 w121 hS a hA
         refine seq_do hA rfl rfl rfl (d_assign rfl) fun a hA => ?_
         refine seq_store (us := [.bool ((rb (pieceVal r ((((btL l (1 + pieceLen r (l.drop 1)) : Nat) : Int) == 45)) (l.drop (1 + pieceLen r (l.drop 1) + 1))).num)), .slice f114_1 ((words (pieceVal r ((((btL l (1 + pieceLen r (l.drop 1)) : Nat) : Int) == 45)) (l.drop (1 + pieceLen r (l.drop 1) + 1))).num.natAbs).length) f114_c1, .slice f114_2 ((words (pieceVal r ((((btL l (1 + pieceLen r (l.drop 1)) : Nat) : Int) == 45)) (l.drop (1 + pieceLen r (l.drop 1) + 1))).den).length) f114_c2]) hA hS rfl rfl (sets_store rfl rfl rfl (by kernel_rfl) hS 0 rfl rfl rfl) 0 rfl rfl rfl rfl ?_
         intro w122 hS
         refine seq_do hA rfl rfl rfl (d_assign rfl) fun a hA => ?_
         refine seq_end ?_
         refine hK112 _ _ ?_
         refine wp_seq_k (fun K123 hK123 => ?_)
         refine wp_seq_k (fun K124 hK124 => ?_)
         refine wp_region_lit ?_
         refine mv hA rfl rfl rfl fun a hA => ?_
         refine seq_do (v := .bool false) hA rfl rfl rfl (d_bin rfl rfl (fun w => (bin_lss w).trans (by rw [show (decide (((1 + pieceLen r (l.drop 1) + 1 + pieceLen r (l.drop (1 + pieceLen r (l.drop 1) + 1)) : Nat) : Int) < 0)) = false from (decide_eq_false (by omega))]))) fun a hA => ?_
         refine mv hA rfl rfl rfl fun a hA => ?_
         refine mv hA rfl rfl rfl fun a hA => ?_
         refine mv hA rfl rfl rfl fun a hA => ?_
         rcases Bool.eq_false_or_eq_true (unitB (l.drop (1 + pieceLen r (l.drop 1) + 1 + pieceLen r (l.drop (1 + pieceLen r (l.drop 1) + 1))))) with hb125 | hb125
         ·
          refine seq_call hA rfl rfl rfl (enters_func  rfl rfl (fun w => by kernel_rfl)) (rendsX_any (p := 1 + pieceLen r (l.drop 1) + 1 + pieceLen r (l.drop (1 + pieceLen r (l.drop 1) + 1))) hl hb125) ?_
          rintro _ w127 ⟨rfl, hb126⟩
          replace hS := hS.call hb126
          refine ⟨_, rfl, ?_⟩
          intro a hA
          refine seq_do (v := .bool false) hA rfl rfl rfl (d_un rfl un_not) fun a hA => ?_
          refine seq_do (v := .bool false) hA rfl rfl rfl (d_pick rfl rfl rfl rfl) fun a hA => ?_
          refine seq_end ?_
          refine hK124 _ _ ?_
          refine wp_cond_false (hA.ev rfl) ?_
          refine wp_skip ?_
          refine hK123 _ _ ?_
          refine wp_seq_k (fun K128 hK128 => ?_)
          refine wp_draw (S := fun w1 => St w w1 [(g120, [.bool ((rb (pieceVal r ((((btL l (1 + pieceLen r (l.drop 1)) : Nat) : Int) == 45)) (l.drop (1 + pieceLen r (l.drop 1) + 1))).num)), .slice f114_1 ((words (pieceVal r ((((btL l (1 + pieceLen r (l.drop 1)) : Nat) : Int) == 45)) (l.drop (1 + pieceLen r (l.drop 1) + 1))).num.natAbs).length) f114_c1, .slice f114_2 ((words (pieceVal r ((((btL l (1 + pieceLen r (l.drop 1)) : Nat) : Int) == 45)) (l.drop (1 + pieceLen r (l.drop 1) + 1))).den).length) f114_c2]), (g56, [.bool ((rb (pieceVal r ((((btL l 0 : Nat) : Int) == 45)) (l.drop 1)).num)), .slice f50_1 ((words (pieceVal r ((((btL l 0 : Nat) : Int) == 45)) (l.drop 1)).num.natAbs).length) f50_c1, .slice f50_2 ((words (pieceVal r ((((btL l 0 : Nat) : Int) == 45)) (l.drop 1)).den).length) f50_c2]), (g9, [.bool false, .slice (some ⟨g5, 0, none⟩) 1 1, .slice (some ⟨g7, 0, none⟩) 1 1])] [(f114_2, words (pieceVal r ((((btL l (1 + pieceLen r (l.drop 1)) : Nat) : Int) == 45)) (l.drop (1 + pieceLen r (l.drop 1) + 1))).den), (f114_1, words (pieceVal r ((((btL l (1 + pieceLen r (l.drop 1)) : Nat) : Int) == 45)) (l.drop (1 + pieceLen r (l.drop 1) + 1))).num.natAbs), (f50_2, words (pieceVal r ((((btL l 0 : Nat) : Int) == 45)) (l.drop 1)).den), (f50_1, words (pieceVal r ((((btL l 0 : Nat) : Int) == 45)) (l.drop 1)).num.natAbs), (some ⟨g7, 0, none⟩, [1]), (some ⟨g5, 0, none⟩, [1])] []) (by kernel_rfl) ?_
          replace hS := hS.drew
          refine any_tk hA 0 rfl rfl rfl rfl hP (hS.partD (.cons_cons _ (.cons_cons _ (.cons_cons _ (.cons _ .slnil)))) 0 rfl (.refl _)) (fun w1 hS => d_loadS hS RxG_isS_24 rfl 1 rfl (cs := [.bool ((rb (pieceVal r ((((btL l 0 : Nat) : Int) == 45)) (l.drop 1)).num)), .slice f50_1 ((words (pieceVal r ((((btL l 0 : Nat) : Int) == 45)) (l.drop 1)).num.natAbs).length) f50_c1, .slice f50_2 ((words (pieceVal r ((((btL l 0 : Nat) : Int) == 45)) (l.drop 1)).den).length) f50_c2]) rfl rfl) fun a hA => ?_
          refine any_tk hA 1 rfl rfl rfl rfl hP (hS.partD (.cons_cons _ (.cons_cons _ (.cons_cons _ (.cons _ .slnil)))) 0 rfl (.refl _)) (fun w1 hS => d_loadS hS RxG_isS_24 rfl 0 rfl (cs := [.bool ((rb (pieceVal r ((((btL l (1 + pieceLen r (l.drop 1)) : Nat) : Int) == 45)) (l.drop (1 + pieceLen r (l.drop 1) + 1))).num)), .slice f114_1 ((words (pieceVal r ((((btL l (1 + pieceLen r (l.drop 1)) : Nat) : Int) == 45)) (l.drop (1 + pieceLen r (l.drop 1) + 1))).num.natAbs).length) f114_c1, .slice f114_2 ((words (pieceVal r ((((btL l (1 + pieceLen r (l.drop 1)) : Nat) : Int) == 45)) (l.drop (1 + pieceLen r (l.drop 1) + 1))).den).length) f114_c2]) rfl rfl) fun a hA => ?_
          refine any_tk (v := .agg #[.bool ((rb (pieceVal r ((((btL l 0 : Nat) : Int) == 45)) (l.drop 1)).num)), .slice f50_1 ((words (pieceVal r ((((btL l 0 : Nat) : Int) == 45)) (l.drop 1)).num.natAbs).length) f50_c1, .slice f50_2 ((words (pieceVal r ((((btL l 0 : Nat) : Int) == 45)) (l.drop 1)).den).length) f50_c2, .bool ((rb (pieceVal r ((((btL l (1 + pieceLen r (l.drop 1)) : Nat) : Int) == 45)) (l.drop (1 + pieceLen r (l.drop 1) + 1))).num)), .slice f114_1 ((words (pieceVal r ((((btL l (1 + pieceLen r (l.drop 1)) : Nat) : Int) == 45)) (l.drop (1 + pieceLen r (l.drop 1) + 1))).num.natAbs).length) f114_c1, .slice f114_2 ((words (pieceVal r ((((btL l (1 + pieceLen r (l.drop 1)) : Nat) : Int) == 45)) (l.drop (1 + pieceLen r (l.drop 1) + 1))).den).length) f114_c2]) hA 2 rfl rfl rfl rfl hP (hS.partD (.cons_cons _ (.cons_cons _ (.cons_cons _ (.cons _ .slnil)))) 0 rfl (.refl _)) (fun w1 hS => d_build rfl (fun w => by kernel_rfl)) fun a hA => ?_
          refine any_tk hA 3 rfl rfl rfl rfl hP (hS.partD (.cons_cons _ (.cons_cons _ (.cons_cons _ (.cons _ .slnil)))) 0 rfl (.refl _)) (fun w1 hS => d_move rfl) fun a hA => ?_
          refine any_tk hA 4 rfl rfl rfl rfl hP (hS.partD (.cons_cons _ (.cons_cons _ (.cons_cons _ (.cons _ .slnil)))) 0 rfl (.refl _)) (fun w1 hS => d_move rfl) fun a hA => ?_
          refine any_one (by kernel_rfl) (op_call hA 5 rfl rfl rfl rfl (enters_func  rfl rfl (fun w => by kernel_rfl)) (rworse_any) ?_)
          rintro _ w130 ⟨rfl, hb129⟩
          replace hS := hS.call hb129
          refine ⟨_, rfl, (hS.partD (.cons_cons _ (.cons_cons _ (.cons_cons _ (.cons _ .slnil)))) 0 rfl (.refl _)), ?_⟩
          intro a hA
          refine any_one (by kernel_rfl) (op_store (us := [.bool ((rb (pieceVal r ((((btL l 0 : Nat) : Int) == 45)) (l.drop 1)).num)), .slice f50_1 ((words (pieceVal r ((((btL l 0 : Nat) : Int) == 45)) (l.drop 1)).num.natAbs).length) f50_c1, .slice f50_2 ((words (pieceVal r ((((btL l 0 : Nat) : Int) == 45)) (l.drop 1)).den).length) f50_c2, .bool ((rb (pieceVal r ((((btL l (1 + pieceLen r (l.drop 1)) : Nat) : Int) == 45)) (l.drop (1 + pieceLen r (l.drop 1) + 1))).num)), .slice f114_1 ((words (pieceVal r ((((btL l (1 + pieceLen r (l.drop 1)) : Nat) : Int) == 45)) (l.drop (1 + pieceLen r (l.drop 1) + 1))).num.natAbs).length) f114_c1, .slice f114_2 ((words (pieceVal r ((((btL l (1 + pieceLen r (l.drop 1)) : Nat) : Int) == 45)) (l.drop (1 + pieceLen r (l.drop 1) + 1))).den).length) f114_c2]) hA hS 6 rfl rfl rfl (sets_store rfl rfl rfl (by kernel_rfl) hS 3 rfl rfl rfl) 3 rfl rfl rfl rfl ?_)
          intro w131 hS
          refine ⟨(hS.partD (.cons_cons _ (.cons_cons _ (.cons_cons _ (.cons _ .slnil)))) 0 rfl (.refl _)), ?_⟩
          refine any_tk hA 7 rfl rfl rfl rfl hP (hS.partD (.cons_cons _ (.cons_cons _ (.cons_cons _ (.cons _ .slnil)))) 0 rfl (.refl _)) (fun w1 hS => d_assign rfl) fun a hA => ?_
          refine any_tk hA 8 rfl rfl rfl rfl hP (hS.partD (.cons_cons _ (.cons_cons _ (.cons_cons _ (.cons _ .slnil)))) 0 rfl (.refl _)) (fun w1 hS => d_assign rfl) fun a hA => ?_
          refine any_end (by kernel_rfl) ?_
          refine hK128 _ _ ?_
          refine wp_ret ?_
          refine hret _ _ ?_
          refine ends (v := .tuple #[.agg #[.bool ((rb (pieceVal r ((((btL l 0 : Nat) : Int) == 45)) (l.drop 1)).num)), .slice f50_1 ((words (pieceVal r ((((btL l 0 : Nat) : Int) == 45)) (l.drop 1)).num.natAbs).length) f50_c1, .slice f50_2 ((words (pieceVal r ((((btL l 0 : Nat) : Int) == 45)) (l.drop 1)).den).length) f50_c2, .bool ((rb (pieceVal r ((((btL l (1 + pieceLen r (l.drop 1)) : Nat) : Int) == 45)) (l.drop (1 + pieceLen r (l.drop 1) + 1))).num)), .slice f114_1 ((words (pieceVal r ((((btL l (1 + pieceLen r (l.drop 1)) : Nat) : Int) == 45)) (l.drop (1 + pieceLen r (l.drop 1) + 1))).num.natAbs).length) f114_c1, .slice f114_2 ((words (pieceVal r ((((btL l (1 + pieceLen r (l.drop 1)) : Nat) : Int) == 45)) (l.drop (1 + pieceLen r (l.drop 1) + 1))).den).length) f114_c2], .int .i64 ((worseE ((pieceErr r (l.drop 1))) ((pieceErr r (l.drop (1 + pieceLen r (l.drop 1) + 1)))))), .bool true]) hA rfl (.cons (res_cell hS RxG_isS_26 rfl 3 rfl (cs := [.bool ((rb (pieceVal r ((((btL l 0 : Nat) : Int) == 45)) (l.drop 1)).num)), .slice f50_1 ((words (pieceVal r ((((btL l 0 : Nat) : Int) == 45)) (l.drop 1)).num.natAbs).length) f50_c1, .slice f50_2 ((words (pieceVal r ((((btL l 0 : Nat) : Int) == 45)) (l.drop 1)).den).length) f50_c2, .bool ((rb (pieceVal r ((((btL l (1 + pieceLen r (l.drop 1)) : Nat) : Int) == 45)) (l.drop (1 + pieceLen r (l.drop 1) + 1))).num)), .slice f114_1 ((words (pieceVal r ((((btL l (1 + pieceLen r (l.drop 1)) : Nat) : Int) == 45)) (l.drop (1 + pieceLen r (l.drop 1) + 1))).num.natAbs).length) f114_c1, .slice f114_2 ((words (pieceVal r ((((btL l (1 + pieceLen r (l.drop 1)) : Nat) : Int) == 45)) (l.drop (1 + pieceLen r (l.drop 1) + 1))).den).length) f114_c2]) rfl rfl) (.cons (res_tmp rfl) (.cons (res_tmp rfl) .nil))) rfl ?_
          have hs0 : signB l = true := by have h9 := hb15; rw [List.drop_zero] at h9; exact h9
          have hp0 : p0 l = 1 := by unfold p0; rw [hs0]; rfl
          have hp1 : p1 r l = 1 + pieceLen r (l.drop 1) := by unfold p1; rw [hp0]
          have hm1 : m1 r l = l.drop (1 + pieceLen r (l.drop 1) + 1) := by unfold m1; rw [hp1]
          have hn0 : negB (l.drop 0) = negB l := by rw [List.drop_zero]
          have hl132 : ¬ 1 + pieceLen r (l.drop 1) = l.length := by omega
          have e9 : bodyS r l = (true, (pieceVal r ((((btL l 0 : Nat) : Int) == 45)) (l.drop 1)), (pieceVal r ((((btL l (1 + pieceLen r (l.drop 1)) : Nat) : Int) == 45)) (l.drop (1 + pieceLen r (l.drop 1) + 1))), (worseE ((pieceErr r (l.drop 1))) ((pieceErr r (l.drop (1 + pieceLen r (l.drop 1) + 1)))))) := by
           simp only [bodyS, oneS, neg_at, hs0, hp0, hp1, hm1, hn0, hb24, hb49, hl132, hb74, hb89, hb96, hb113, hb125, Bool.true_and, Bool.false_and, Bool.and_true, Bool.and_false, if_true, if_false, Bool.false_eq_true, Bool.true_eq_false, ↓reduceIte]
          subst hB
          rw [e9]
          unfold AnsB
          rw [bodyQ_t, show Q6.rat (pieceVal r ((((btL l 0 : Nat) : Int) == 45)) (l.drop 1)) (pieceVal r ((((btL l (1 + pieceLen r (l.drop 1)) : Nat) : Int) == 45)) (l.drop (1 + pieceLen r (l.drop 1) + 1))) = ⟨(rb (pieceVal r ((((btL l 0 : Nat) : Int) == 45)) (l.drop 1)).num), words (pieceVal r ((((btL l 0 : Nat) : Int) == 45)) (l.drop 1)).num.natAbs, words (pieceVal r ((((btL l 0 : Nat) : Int) == 45)) (l.drop 1)).den, (rb (pieceVal r ((((btL l (1 + pieceLen r (l.drop 1)) : Nat) : Int) == 45)) (l.drop (1 + pieceLen r (l.drop 1) + 1))).num), words (pieceVal r ((((btL l (1 + pieceLen r (l.drop 1)) : Nat) : Int) == 45)) (l.drop (1 + pieceLen r (l.drop 1) + 1))).num.natAbs, words (pieceVal r ((((btL l (1 + pieceLen r (l.drop 1)) : Nat) : Int) == 45)) (l.drop (1 + pieceLen r (l.drop 1) + 1))).den⟩ from by simp only [Q6.rat, one_b, one_t, one_q, neg_b, neg_t, neg_q]]
          exact ⟨f50_1, f50_c1, f50_2, f50_c2, f114_1, f114_c1, f114_2, f114_c2, rfl, ⟨⟨(hS.rd 3 rfl), hs51.nil, hs51.cap⟩, ⟨(hS.rd 2 rfl), hs52.nil, hs52.cap⟩, ⟨(hS.rd 1 rfl), hs115.nil, hs115.cap⟩, ⟨(hS.rd 0 rfl), hs116.nil, hs116.cap⟩⟩, hS.bel⟩
         ·
          refine seq_call hA rfl rfl rfl (enters_func  rfl rfl (fun w => by kernel_rfl)) (rendsX_any (p := 1 + pieceLen r (l.drop 1) + 1 + pieceLen r (l.drop (1 + pieceLen r (l.drop 1) + 1))) hl hb125) ?_
          rintro _ w134 ⟨rfl, hb133⟩
          replace hS := hS.call hb133
          refine ⟨_, rfl, ?_⟩
          intro a hA
          refine seq_do (v := .bool true) hA rfl rfl rfl (d_un rfl un_not) fun a hA => ?_
          refine seq_do (v := .bool true) hA rfl rfl rfl (d_pick rfl rfl rfl rfl) fun a hA => ?_
          refine seq_end ?_
          refine hK124 _ _ ?_
          refine wp_cond_true (hA.ev rfl) ?_
          refine wp_seq_k (fun K135 hK135 => ?_)
          refine wp_region_lit ?_
          refine seq_do (v := .agg #[.bool false, .slice none 0 0, .slice none 0 0, .bool false, .slice none 0 0, .slice none 0 0]) hA rfl rfl rfl (d_build rfl (fun w => by kernel_rfl)) fun a hA => ?_
          refine seq_store (us := [.bool false, .slice none 0 0, .slice none 0 0, .bool false, .slice none 0 0, .slice none 0 0]) hA hS rfl rfl (sets_store rfl rfl rfl (by kernel_rfl) hS 3 rfl rfl rfl) 3 rfl rfl rfl rfl ?_
          intro w136 hS
          refine seq_do hA rfl rfl rfl (d_assign rfl) fun a hA => ?_
          refine seq_do hA rfl rfl rfl (d_assign rfl) fun a hA => ?_
          refine seq_end ?_
          refine hK135 _ _ ?_
          refine wp_ret ?_
          refine hret _ _ ?_
          refine ends (v := .tuple #[.agg #[.bool false, .slice none 0 0, .slice none 0 0, .bool false, .slice none 0 0, .slice none 0 0], .int .i64 0, .bool false]) hA rfl (.cons (res_cell hS RxG_isS_26 rfl 3 rfl (cs := [.bool false, .slice none 0 0, .slice none 0 0, .bool false, .slice none 0 0, .slice none 0 0]) rfl rfl) (.cons (res_tmp rfl) (.cons (res_tmp rfl) .nil))) rfl ?_
          have hs0 : signB l = true := by have h9 := hb15; rw [List.drop_zero] at h9; exact h9
          have hp0 : p0 l = 1 := by unfold p0; rw [hs0]; rfl
          have hp1 : p1 r l = 1 + pieceLen r (l.drop 1) := by unfold p1; rw [hp0]
          have hm1 : m1 r l = l.drop (1 + pieceLen r (l.drop 1) + 1) := by unfold m1; rw [hp1]
          have hn0 : negB (l.drop 0) = negB l := by rw [List.drop_zero]
          have hl137 : ¬ 1 + pieceLen r (l.drop 1) = l.length := by omega
          have e9 : bodyS r l = (false, 0, 0, 0) := by
           simp only [bodyS, oneS, neg_at, hs0, hp0, hp1, hm1, hn0, hb24, hb49, hl137, hb74, hb89, hb96, hb113, hb125, Bool.true_and, Bool.false_and, Bool.and_true, Bool.and_false, if_true, if_false, Bool.false_eq_true, Bool.true_eq_false, ↓reduceIte]
          subst hB
          rw [e9]
          unfold AnsB
          rw [bodyQ_f]
          exact ⟨none, 0, none, 0, none, 0, none, 0, rfl, ⟨Sc.none _, Sc.none _, Sc.none _, Sc.none _⟩, hS.bel⟩
        ·
         refine seq_call hA rfl rfl rfl (enters_func  rfl rfl (fun w => by kernel_rfl)) (rpiece_no (p := 1 + pieceLen r (l.drop 1) + 1) hr ((((btL l (1 + pieceLen r (l.drop 1)) : Nat) : Int) == 45)) hl (by omega) hb113) ?_
         rintro _ w142 ⟨f138_1, f138_c1, f138_2, f138_c2, rfl, hs139, hs140, hb141⟩
         replace hS := hS.call hb141
         replace hS := hS.addR hs139.rd
         replace hS := hS.addR hs140.rd
         refine ⟨_, rfl, ?_⟩
         intro a hA
         refine mv hA rfl rfl rfl fun a hA => ?_
         refine seq_do (v := .int .i64 (-1)) hA rfl rfl rfl (d_extract (vs := [.int .i64 (-1), .agg #[.bool ((rb (0 : Rat).num)), .slice f138_1 ((words (0 : Rat).num.natAbs).length) f138_c1, .slice f138_2 ((words (0 : Rat).den).length) f138_c2], .int .i64 0]) rfl rfl) fun a hA => ?_
         refine seq_do (v := .agg #[.bool ((rb (0 : Rat).num)), .slice f138_1 ((words (0 : Rat).num.natAbs).length) f138_c1, .slice f138_2 ((words (0 : Rat).den).length) f138_c2]) hA rfl rfl rfl (d_extract (vs := [.int .i64 (-1), .agg #[.bool ((rb (0 : Rat).num)), .slice f138_1 ((words (0 : Rat).num.natAbs).length) f138_c1, .slice f138_2 ((words (0 : Rat).den).length) f138_c2], .int .i64 0]) rfl rfl) fun a hA => ?_
         refine seq_do (v := .int .i64 0) hA rfl rfl rfl (d_extract (vs := [.int .i64 (-1), .agg #[.bool ((rb (0 : Rat).num)), .slice f138_1 ((words (0 : Rat).num.natAbs).length) f138_c1, .slice f138_2 ((words (0 : Rat).den).length) f138_c2], .int .i64 0]) rfl rfl) fun a hA => ?_
         refine seq_new (vs := [.bool false, .slice none 0 0, .slice none 0 0]) (t := 24) hA hS rfl rfl rfl (fun g => .pointer (some ⟨g, 0, none⟩)) (d_alloc (z := .agg #[.bool false, .slice none 0 0, .slice none 0 0]) (by kernel_rfl) rfl) rfl ?_
         intro g143 w144 hS a hA
         refine seq_do hA rfl rfl rfl (d_assign rfl) fun a hA => ?_
         refine seq_store (us := [.bool ((rb (0 : Rat).num)), .slice f138_1 ((words (0 : Rat).num.natAbs).length) f138_c1, .slice f138_2 ((words (0 : Rat).den).length) f138_c2]) hA hS rfl rfl (sets_store rfl rfl rfl (by kernel_rfl) hS 0 rfl rfl rfl) 0 rfl rfl rfl rfl ?_
         intro w145 hS
         refine seq_do hA rfl rfl rfl (d_assign rfl) fun a hA => ?_
         refine seq_end ?_
         refine hK112 _ _ ?_
         refine wp_seq_k (fun K146 hK146 => ?_)
         refine wp_seq_k (fun K147 hK147 => ?_)
         refine wp_region_lit ?_
         refine mv hA rfl rfl rfl fun a hA => ?_
         refine seq_do (v := .bool true) hA rfl rfl rfl (d_bin rfl rfl (fun w => by kernel_rfl)) fun a hA => ?_
         refine mv hA rfl rfl rfl fun a hA => ?_
         refine seq_skip hA rfl rfl rfl fun a hA => ?_
         refine seq_skip hA rfl rfl rfl fun a hA => ?_
         refine seq_skip hA rfl rfl rfl fun a hA => ?_
         refine seq_skip hA rfl rfl rfl fun a hA => ?_
         refine seq_do (v := .bool true) hA rfl rfl rfl (d_pick rfl rfl rfl rfl) fun a hA => ?_
         refine seq_end ?_
         refine hK147 _ _ ?_
         refine wp_cond_true (hA.ev rfl) ?_
         refine wp_seq_k (fun K148 hK148 => ?_)
         refine wp_region_lit ?_
         refine seq_do (v := .agg #[.bool false, .slice none 0 0, .slice none 0 0, .bool false, .slice none 0 0, .slice none 0 0]) hA rfl rfl rfl (d_build rfl (fun w => by kernel_rfl)) fun a hA => ?_
         refine seq_store (us := [.bool false, .slice none 0 0, .slice none 0 0, .bool false, .slice none 0 0, .slice none 0 0]) hA hS rfl rfl (sets_store rfl rfl rfl (by kernel_rfl) hS 3 rfl rfl rfl) 3 rfl rfl rfl rfl ?_
         intro w149 hS
         refine seq_do hA rfl rfl rfl (d_assign rfl) fun a hA => ?_
         refine seq_do hA rfl rfl rfl (d_assign rfl) fun a hA => ?_
         refine seq_end ?_
         refine hK148 _ _ ?_
         refine wp_ret ?_
         refine hret _ _ ?_
         refine ends (v := .tuple #[.agg #[.bool false, .slice none 0 0, .slice none 0 0, .bool false, .slice none 0 0, .slice none 0 0], .int .i64 0, .bool false]) hA rfl (.cons (res_cell hS RxG_isS_26 rfl 3 rfl (cs := [.bool false, .slice none 0 0, .slice none 0 0, .bool false, .slice none 0 0, .slice none 0 0]) rfl rfl) (.cons (res_tmp rfl) (.cons (res_tmp rfl) .nil))) rfl ?_
         have hs0 : signB l = true := by have h9 := hb15; rw [List.drop_zero] at h9; exact h9
         have hp0 : p0 l = 1 := by unfold p0; rw [hs0]; rfl
         have hp1 : p1 r l = 1 + pieceLen r (l.drop 1) := by unfold p1; rw [hp0]
         have hm1 : m1 r l = l.drop (1 + pieceLen r (l.drop 1) + 1) := by unfold m1; rw [hp1]
         have hn0 : negB (l.drop 0) = negB l := by rw [List.drop_zero]
         have hl150 : ¬ 1 + pieceLen r (l.drop 1) = l.length := by omega
         have e9 : bodyS r l = (false, 0, 0, 0) := by
          simp only [bodyS, oneS, neg_at, hs0, hp0, hp1, hm1, hn0, hb24, hb49, hl150, hb74, hb89, hb96, hb113, Bool.true_and, Bool.false_and, Bool.and_true, Bool.and_false, if_true, if_false, Bool.false_eq_true, Bool.true_eq_false, ↓reduceIte]
         subst hB
         rw [e9]
         unfold AnsB
         rw [bodyQ_f]
         exact ⟨none, 0, none, 0, none, 0, none, 0, rfl, ⟨Sc.none _, Sc.none _, Sc.none _, Sc.none _⟩, hS.bel⟩
      ·
       refine seq_call hA rfl rfl rfl (enters_func  rfl rfl (fun w => by kernel_rfl)) (rsignedX_any (p := 1 + pieceLen r (l.drop 1)) hl hb89) ?_
       rintro _ w152 ⟨rfl, hb151⟩
       replace hS := hS.call hb151
       refine ⟨_, rfl, ?_⟩
       intro a hA
       refine seq_do (v := .bool true) hA rfl rfl rfl (d_un rfl un_not) fun a hA => ?_
       refine seq_end ?_
       refine hK88 _ _ ?_
       refine wp_cond_true (hA.ev rfl) ?_
       refine wp_seq_k (fun K153 hK153 => ?_)
       refine wp_region_lit ?_
       refine seq_do (v := .agg #[.bool false, .slice none 0 0, .slice none 0 0, .bool false, .slice none 0 0, .slice none 0 0]) hA rfl rfl rfl (d_build rfl (fun w => by kernel_rfl)) fun a hA => ?_
       refine seq_store (us := [.bool false, .slice none 0 0, .slice none 0 0, .bool false, .slice none 0 0, .slice none 0 0]) hA hS rfl rfl (sets_store rfl rfl rfl (by kernel_rfl) hS 2 rfl rfl rfl) 2 rfl rfl rfl rfl ?_
       intro w154 hS
       refine seq_do hA rfl rfl rfl (d_assign rfl) fun a hA => ?_
       refine seq_do hA rfl rfl rfl (d_assign rfl) fun a hA => ?_
       refine seq_end ?_
       refine hK153 _ _ ?_
       refine wp_ret ?_
       refine hret _ _ ?_
       refine ends (v := .tuple #[.agg #[.bool false, .slice none 0 0, .slice none 0 0, .bool false, .slice none 0 0, .slice none 0 0], .int .i64 0, .bool false]) hA rfl (.cons (res_cell hS RxG_isS_26 rfl 2 rfl (cs := [.bool false, .slice none 0 0, .slice none 0 0, .bool false, .slice none 0 0, .slice none 0 0]) rfl rfl) (.cons (res_tmp rfl) (.cons (res_tmp rfl) .nil))) rfl ?_
       have hs0 : signB l = true := by have h9 := hb15; rw [List.drop_zero] at h9; exact h9
       have hp0 : p0 l = 1 := by unfold p0; rw [hs0]; rfl
       have hp1 : p1 r l = 1 + pieceLen r (l.drop 1) := by unfold p1; rw [hp0]
       have hm1 : m1 r l = l.drop (1 + pieceLen r (l.drop 1) + 1) := by unfold m1; rw [hp1]
       have hn0 : negB (l.drop 0) = negB l := by rw [List.drop_zero]
       have hl155 : ¬ 1 + pieceLen r (l.drop 1) = l.length := by omega
       have e9 : bodyS r l = (false, 0, 0, 0) := by
        simp only [bodyS, oneS, neg_at, hs0, hp0, hp1, hm1, hn0, hb24, hb49, hl155, hb74, hb89, Bool.true_and, Bool.false_and, Bool.and_true, Bool.and_false, if_true, if_false, Bool.false_eq_true, Bool.true_eq_false, ↓reduceIte]
       subst hB
       rw [e9]
       unfold AnsB
       rw [bodyQ_f]
       exact ⟨none, 0, none, 0, none, 0, none, 0, rfl, ⟨Sc.none _, Sc.none _, Sc.none _, Sc.none _⟩, hS.bel⟩
   ·
    refine seq_call hA rfl rfl rfl (enters_func  rfl rfl (fun w => by kernel_rfl)) (rpiece_no (p := 1) hr ((((btL l 0 : Nat) : Int) == 45)) hl (by omega) hb49) ?_
    rintro _ w160 ⟨f156_1, f156_c1, f156_2, f156_c2, rfl, hs157, hs158, hb159⟩
    replace hS := hS.call hb159
    replace hS := hS.addR hs157.rd
    replace hS := hS.addR hs158.rd
    refine ⟨_, rfl, ?_⟩
    intro a hA
    refine mv hA rfl rfl rfl fun a hA => ?_
    refine seq_do (v := .int .i64 (-1)) hA rfl rfl rfl (d_extract (vs := [.int .i64 (-1), .agg #[.bool ((rb (0 : Rat).num)), .slice f156_1 ((words (0 : Rat).num.natAbs).length) f156_c1, .slice f156_2 ((words (0 : Rat).den).length) f156_c2], .int .i64 0]) rfl rfl) fun a hA => ?_
    refine seq_do (v := .agg #[.bool ((rb (0 : Rat).num)), .slice f156_1 ((words (0 : Rat).num.natAbs).length) f156_c1, .slice f156_2 ((words (0 : Rat).den).length) f156_c2]) hA rfl rfl rfl (d_extract (vs := [.int .i64 (-1), .agg #[.bool ((rb (0 : Rat).num)), .slice f156_1 ((words (0 : Rat).num.natAbs).length) f156_c1, .slice f156_2 ((words (0 : Rat).den).length) f156_c2], .int .i64 0]) rfl rfl) fun a hA => ?_
    refine seq_do (v := .int .i64 0) hA rfl rfl rfl (d_extract (vs := [.int .i64 (-1), .agg #[.bool ((rb (0 : Rat).num)), .slice f156_1 ((words (0 : Rat).num.natAbs).length) f156_c1, .slice f156_2 ((words (0 : Rat).den).length) f156_c2], .int .i64 0]) rfl rfl) fun a hA => ?_
    refine seq_new (vs := [.bool false, .slice none 0 0, .slice none 0 0]) (t := 24) hA hS rfl rfl rfl (fun g => .pointer (some ⟨g, 0, none⟩)) (d_alloc (z := .agg #[.bool false, .slice none 0 0, .slice none 0 0]) (by kernel_rfl) rfl) rfl ?_
    intro g161 w162 hS a hA
    refine seq_do hA rfl rfl rfl (d_assign rfl) fun a hA => ?_
    refine seq_store (us := [.bool ((rb (0 : Rat).num)), .slice f156_1 ((words (0 : Rat).num.natAbs).length) f156_c1, .slice f156_2 ((words (0 : Rat).den).length) f156_c2]) hA hS rfl rfl (sets_store rfl rfl rfl (by kernel_rfl) hS 0 rfl rfl rfl) 0 rfl rfl rfl rfl ?_
    intro w163 hS
    refine seq_do hA rfl rfl rfl (d_assign rfl) fun a hA => ?_
    refine seq_end ?_
    refine hK48 _ _ ?_
    refine wp_seq_k (fun K164 hK164 => ?_)
    refine wp_seq_k (fun K165 hK165 => ?_)
    refine wp_region_lit ?_
    refine mv hA rfl rfl rfl fun a hA => ?_
    refine seq_do (v := .bool true) hA rfl rfl rfl (d_bin rfl rfl (fun w => by kernel_rfl)) fun a hA => ?_
    refine seq_end ?_
    refine hK165 _ _ ?_
    refine wp_cond_true (hA.ev rfl) ?_
    refine wp_seq_k (fun K166 hK166 => ?_)
    refine wp_region_lit ?_
    refine seq_do (v := .agg #[.bool false, .slice none 0 0, .slice none 0 0, .bool false, .slice none 0 0, .slice none 0 0]) hA rfl rfl rfl (d_build rfl (fun w => by kernel_rfl)) fun a hA => ?_
    refine seq_store (us := [.bool false, .slice none 0 0, .slice none 0 0, .bool false, .slice none 0 0, .slice none 0 0]) hA hS rfl rfl (sets_store rfl rfl rfl (by kernel_rfl) hS 2 rfl rfl rfl) 2 rfl rfl rfl rfl ?_
    intro w167 hS
    refine seq_do hA rfl rfl rfl (d_assign rfl) fun a hA => ?_
    refine seq_do hA rfl rfl rfl (d_assign rfl) fun a hA => ?_
    refine seq_end ?_
    refine hK166 _ _ ?_
    refine wp_ret ?_
    refine hret _ _ ?_
    refine ends (v := .tuple #[.agg #[.bool false, .slice none 0 0, .slice none 0 0, .bool false, .slice none 0 0, .slice none 0 0], .int .i64 0, .bool false]) hA rfl (.cons (res_cell hS RxG_isS_26 rfl 2 rfl (cs := [.bool false, .slice none 0 0, .slice none 0 0, .bool false, .slice none 0 0, .slice none 0 0]) rfl rfl) (.cons (res_tmp rfl) (.cons (res_tmp rfl) .nil))) rfl ?_
    have hs0 : signB l = true := by have h9 := hb15; rw [List.drop_zero] at h9; exact h9
    have hp0 : p0 l = 1 := by unfold p0; rw [hs0]; rfl
    have hp1 : p1 r l = 1 + pieceLen r (l.drop 1) := by unfold p1; rw [hp0]
    have hm1 : m1 r l = l.drop (1 + pieceLen r (l.drop 1) + 1) := by unfold m1; rw [hp1]
    have hn0 : negB (l.drop 0) = negB l := by rw [List.drop_zero]
    have e9 : bodyS r l = (false, 0, 0, 0) := by
     simp only [bodyS, oneS, neg_at, hs0, hp0, hp1, hm1, hn0, hb24, hb49, Bool.true_and, Bool.false_and, Bool.and_true, Bool.and_false, if_true, if_false, Bool.false_eq_true, Bool.true_eq_false, ↓reduceIte]
    subst hB
    rw [e9]
    unfold AnsB
    rw [bodyQ_f]
    exact ⟨none, 0, none, 0, none, 0, none, 0, rfl, ⟨Sc.none _, Sc.none _, Sc.none _, Sc.none _⟩, hS.bel⟩
 ·
  refine seq_call hA rfl rfl rfl (enters_func  rfl rfl (fun w => by kernel_rfl)) (rsignedX_any (p := 0) hl hb15) ?_
  rintro _ w169 ⟨rfl, hb168⟩
  replace hS := hS.call hb168
  refine ⟨_, rfl, ?_⟩
  intro a hA
  refine seq_do hA rfl rfl rfl (d_assign rfl) fun a hA => ?_
  refine seq_end ?_
  refine hK14 _ _ ?_
  refine wp_seq_k (fun K170 hK170 => ?_)
  refine wp_seq_k (fun K171 hK171 => ?_)
  refine wp_region_lit ?_
  refine mv hA rfl rfl rfl fun a hA => ?_
  refine seq_end ?_
  refine hK171 _ _ ?_
  refine wp_cond_false (hA.ev rfl) ?_
  refine wp_skip ?_
  refine hK170 _ _ ?_
  refine wp_seq_k (fun K172 hK172 => ?_)
  refine wp_region_lit ?_
  refine mv hA rfl rfl rfl fun a hA => ?_
  refine mv hA rfl rfl rfl fun a hA => ?_
  refine mv hA rfl rfl rfl fun a hA => ?_
  refine mv hA rfl rfl rfl fun a hA => ?_
  rcases Bool.eq_false_or_eq_true (pieceOk r (l.drop 0)) with hb173 | hb173
  ·
   have hj178 := pieceLen_at r (0) l (by omega)
   refine seq_call hA rfl rfl rfl (enters_func  rfl rfl (fun w => by kernel_rfl)) (rpiece_ok (p := 0) hr false hl (by omega) hb173) ?_
   rintro _ w179 ⟨f174_1, f174_c1, f174_2, f174_c2, rfl, hs175, hs176, hb177⟩
   replace hS := hS.call hb177
   replace hS := hS.addR hs175.rd
   replace hS := hS.addR hs176.rd
   refine ⟨_, rfl, ?_⟩
   intro a hA
   refine mv hA rfl rfl rfl fun a hA => ?_
   refine seq_do (v := .int .i64 (((0 + pieceLen r (l.drop 0) : Nat) : Int))) hA rfl rfl rfl (d_extract (vs := [.int .i64 (((0 + pieceLen r (l.drop 0) : Nat) : Int)), .agg #[.bool ((rb (pieceVal r false (l.drop 0)).num)), .slice f174_1 ((words (pieceVal r false (l.drop 0)).num.natAbs).length) f174_c1, .slice f174_2 ((words (pieceVal r false (l.drop 0)).den).length) f174_c2], .int .i64 ((pieceErr r (l.drop 0)))]) rfl rfl) fun a hA => ?_
   refine seq_do (v := .agg #[.bool ((rb (pieceVal r false (l.drop 0)).num)), .slice f174_1 ((words (pieceVal r false (l.drop 0)).num.natAbs).length) f174_c1, .slice f174_2 ((words (pieceVal r false (l.drop 0)).den).length) f174_c2]) hA rfl rfl rfl (d_extract (vs := [.int .i64 (((0 + pieceLen r (l.drop 0) : Nat) : Int)), .agg #[.bool ((rb (pieceVal r false (l.drop 0)).num)), .slice f174_1 ((words (pieceVal r false (l.drop 0)).num.natAbs).length) f174_c1, .slice f174_2 ((words (pieceVal r false (l.drop 0)).den).length) f174_c2], .int .i64 ((pieceErr r (l.drop 0)))]) rfl rfl) fun a hA => ?_
   refine seq_do (v := .int .i64 ((pieceErr r (l.drop 0)))) hA rfl rfl rfl (d_extract (vs := [.int .i64 (((0 + pieceLen r (l.drop 0) : Nat) : Int)), .agg #[.bool ((rb (pieceVal r false (l.drop 0)).num)), .slice f174_1 ((words (pieceVal r false (l.drop 0)).num.natAbs).length) f174_c1, .slice f174_2 ((words (pieceVal r false (l.drop 0)).den).length) f174_c2], .int .i64 ((pieceErr r (l.drop 0)))]) rfl rfl) fun a hA => ?_
   refine seq_new (vs := [.bool false, .slice none 0 0, .slice none 0 0]) (t := 24) hA hS rfl rfl rfl (fun g => .pointer (some ⟨g, 0, none⟩)) (d_alloc (z := .agg #[.bool false, .slice none 0 0, .slice none 0 0]) (by kernel_rfl) rfl) rfl ?_
   intro g180 w181 hS a hA
   refine seq_do hA rfl rfl rfl (d_assign rfl) fun a hA => ?_
   refine seq_store (us := [.bool ((rb (pieceVal r false (l.drop 0)).num)), .slice f174_1 ((words (pieceVal r false (l.drop 0)).num.natAbs).length) f174_c1, .slice f174_2 ((words (pieceVal r false (l.drop 0)).den).length) f174_c2]) hA hS rfl rfl (sets_store rfl rfl rfl (by kernel_rfl) hS 0 rfl rfl rfl) 0 rfl rfl rfl rfl ?_
   intro w182 hS
   refine seq_do hA rfl rfl rfl (d_assign rfl) fun a hA => ?_
   refine seq_end ?_
   refine hK172 _ _ ?_
   refine wp_seq_k (fun K183 hK183 => ?_)
   refine wp_seq_k (fun K184 hK184 => ?_)
   refine wp_region_lit ?_
   refine mv hA rfl rfl rfl fun a hA => ?_
   refine seq_do (v := .bool false) hA rfl rfl rfl (d_bin rfl rfl (fun w => (bin_lss w).trans (by rw [show (decide (((0 + pieceLen r (l.drop 0) : Nat) : Int) < 0)) = false from (decide_eq_false (by omega))]))) fun a hA => ?_
   refine seq_end ?_
   refine hK184 _ _ ?_
   refine wp_cond_false (hA.ev rfl) ?_
   refine wp_skip ?_
   refine hK183 _ _ ?_
   refine wp_seq_k (fun K185 hK185 => ?_)
   refine wp_seq_k (fun K186 hK186 => ?_)
   refine wp_region_lit ?_
   refine mv hA rfl rfl rfl fun a hA => ?_
   refine mv hA rfl rfl rfl fun a hA => ?_
   refine seq_do (v := .int .i64 (((l.length : Nat) : Int))) hA rfl rfl rfl (d_lenT Tryz.underlying9 rfl) fun a hA => ?_
   rcases Bool.eq_false_or_eq_true ((((0 + pieceLen r (l.drop 0) : Nat) : Int) == ((l.length : Nat) : Int))) with hb187 | hb187
   ·
    have hb187' := eq_of_beq hb187
    refine seq_do (v := .bool true) hA rfl rfl rfl (d_bin rfl rfl (fun w => (bin_eql w).trans (by rw [hb187]))) fun a hA => ?_
    refine seq_end ?_
    refine hK186 _ _ ?_
    refine wp_cond_true (hA.ev rfl) ?_
    refine wp_seq_k (fun K188 hK188 => ?_)
    refine wp_draw (S := fun w1 => St w w1 [(g180, [.bool ((rb (pieceVal r false (l.drop 0)).num)), .slice f174_1 ((words (pieceVal r false (l.drop 0)).num.natAbs).length) f174_c1, .slice f174_2 ((words (pieceVal r false (l.drop 0)).den).length) f174_c2]), (g9, [.bool false, .slice (some ⟨g5, 0, none⟩) 1 1, .slice (some ⟨g7, 0, none⟩) 1 1])] [(f174_2, words (pieceVal r false (l.drop 0)).den), (f174_1, words (pieceVal r false (l.drop 0)).num.natAbs), (some ⟨g7, 0, none⟩, [1]), (some ⟨g5, 0, none⟩, [1])] []) (by kernel_rfl) ?_
    replace hS := hS.drew
    refine any_tk hA 0 rfl rfl rfl rfl hP (hS.partD (.cons_cons _ (.cons_cons _ (.cons _ .slnil))) 0 rfl (.refl _)) (fun w1 hS => d_loadS hS RxG_isS_24 rfl 0 rfl (cs := [.bool ((rb (pieceVal r false (l.drop 0)).num)), .slice f174_1 ((words (pieceVal r false (l.drop 0)).num.natAbs).length) f174_c1, .slice f174_2 ((words (pieceVal r false (l.drop 0)).den).length) f174_c2]) rfl rfl) fun a hA => ?_
    refine any_tk hA 3 rfl rfl rfl rfl hP (hS.partD (.cons_cons _ (.cons_cons _ (.cons _ .slnil))) 0 rfl (.refl _)) (fun w1 hS => d_move rfl) fun a hA => ?_
    refine any_one (by kernel_rfl) (op_call hA 1 rfl rfl rfl rfl (enters_func  rfl rfl (fun w => by kernel_rfl)) (rzeroFR_any _) ?_)
    rintro _ w193 ⟨f189_1, f189_c1, f189_2, f189_c2, rfl, hs190, hs191, hb192⟩
    replace hS := hS.call hb192
    replace hS := hS.addR hs190.rd
    replace hS := hS.addR hs191.rd
    refine ⟨_, rfl, (hS.partD (.cons_cons _ (.cons_cons _ (.cons _ .slnil))) 2 rfl (.refl _)), ?_⟩
    intro a hA
    refine any_tk (v := .agg #[.bool ((rb (pieceVal r false (l.drop 0)).num)), .slice f174_1 ((words (pieceVal r false (l.drop 0)).num.natAbs).length) f174_c1, .slice f174_2 ((words (pieceVal r false (l.drop 0)).den).length) f174_c2, .bool ((rb (0 : Rat).num)), .slice f189_1 ((words (0 : Rat).num.natAbs).length) f189_c1, .slice f189_2 ((words (0 : Rat).den).length) f189_c2]) hA 2 rfl rfl rfl rfl hP (hS.partD (.cons_cons _ (.cons_cons _ (.cons _ .slnil))) 2 rfl (.refl _)) (fun w1 hS => d_build rfl (fun w => by kernel_rfl)) fun a hA => ?_
    refine any_one (by kernel_rfl) (op_store (us := [.bool ((rb (pieceVal r false (l.drop 0)).num)), .slice f174_1 ((words (pieceVal r false (l.drop 0)).num.natAbs).length) f174_c1, .slice f174_2 ((words (pieceVal r false (l.drop 0)).den).length) f174_c2, .bool ((rb (0 : Rat).num)), .slice f189_1 ((words (0 : Rat).num.natAbs).length) f189_c1, .slice f189_2 ((words (0 : Rat).den).length) f189_c2]) hA hS 4 rfl rfl rfl (sets_store rfl rfl rfl (by kernel_rfl) hS 2 rfl rfl rfl) 2 rfl rfl rfl rfl ?_)
    intro w194 hS
    refine ⟨(hS.partD (.cons_cons _ (.cons_cons _ (.cons _ .slnil))) 2 rfl (.refl _)), ?_⟩
    refine any_tk hA 5 rfl rfl rfl rfl hP (hS.partD (.cons_cons _ (.cons_cons _ (.cons _ .slnil))) 2 rfl (.refl _)) (fun w1 hS => d_assign rfl) fun a hA => ?_
    refine any_tk hA 6 rfl rfl rfl rfl hP (hS.partD (.cons_cons _ (.cons_cons _ (.cons _ .slnil))) 2 rfl (.refl _)) (fun w1 hS => d_assign rfl) fun a hA => ?_
    refine any_end (by kernel_rfl) ?_
    refine hK188 _ _ ?_
    refine wp_ret ?_
    refine hret _ _ ?_
    refine ends (v := .tuple #[.agg #[.bool ((rb (pieceVal r false (l.drop 0)).num)), .slice f174_1 ((words (pieceVal r false (l.drop 0)).num.natAbs).length) f174_c1, .slice f174_2 ((words (pieceVal r false (l.drop 0)).den).length) f174_c2, .bool ((rb (0 : Rat).num)), .slice f189_1 ((words (0 : Rat).num.natAbs).length) f189_c1, .slice f189_2 ((words (0 : Rat).den).length) f189_c2], .int .i64 ((pieceErr r (l.drop 0))), .bool true]) hA rfl (.cons (res_cell hS RxG_isS_26 rfl 2 rfl (cs := [.bool ((rb (pieceVal r false (l.drop 0)).num)), .slice f174_1 ((words (pieceVal r false (l.drop 0)).num.natAbs).length) f174_c1, .slice f174_2 ((words (pieceVal r false (l.drop 0)).den).length) f174_c2, .bool ((rb (0 : Rat).num)), .slice f189_1 ((words (0 : Rat).num.natAbs).length) f189_c1, .slice f189_2 ((words (0 : Rat).den).length) f189_c2]) rfl rfl) (.cons (res_tmp rfl) (.cons (res_tmp rfl) .nil))) rfl ?_
    have hs0 : signB l = false := by have h9 := hb15; rw [List.drop_zero] at h9; exact h9
    have hp0 : p0 l = 0 := by unfold p0; rw [hs0]; rfl
    have hp1 : p1 r l = 0 + pieceLen r (l.drop 0) := by unfold p1; rw [hp0]
    have hm1 : m1 r l = l.drop (0 + pieceLen r (l.drop 0) + 1) := by unfold m1; rw [hp1]
    have hn0 : negB (l.drop 0) = negB l := by rw [List.drop_zero]
    have hl195 : 0 + pieceLen r (l.drop 0) = l.length := by omega
    have e9 : bodyS r l = (true, (pieceVal r false (l.drop 0)), (0 : Rat), (pieceErr r (l.drop 0))) := by
     simp only [bodyS, oneS, neg_at, hs0, hp0, hp1, hm1, hn0, hb173, hl195, Bool.true_and, Bool.false_and, Bool.and_true, Bool.and_false, if_true, if_false, Bool.false_eq_true, Bool.true_eq_false, ↓reduceIte]
    subst hB
    rw [e9]
    unfold AnsB
    rw [bodyQ_t, show Q6.rat (pieceVal r false (l.drop 0)) (0 : Rat) = ⟨(rb (pieceVal r false (l.drop 0)).num), words (pieceVal r false (l.drop 0)).num.natAbs, words (pieceVal r false (l.drop 0)).den, (rb (0 : Rat).num), words (0 : Rat).num.natAbs, words (0 : Rat).den⟩ from by simp only [Q6.rat, one_b, one_t, one_q, neg_b, neg_t, neg_q]]
    exact ⟨f174_1, f174_c1, f174_2, f174_c2, f189_1, f189_c1, f189_2, f189_c2, rfl, ⟨⟨(hS.rd 3 rfl), hs175.nil, hs175.cap⟩, ⟨(hS.rd 2 rfl), hs176.nil, hs176.cap⟩, ⟨(hS.rd 1 rfl), hs190.nil, hs190.cap⟩, ⟨(hS.rd 0 rfl), hs191.nil, hs191.cap⟩⟩, hS.bel⟩
   ·
    have hb187' := ne_of_beq_false hb187
    refine seq_do (v := .bool false) hA rfl rfl rfl (d_bin rfl rfl (fun w => (bin_eql w).trans (by rw [hb187]))) fun a hA => ?_
    refine seq_end ?_
    refine hK186 _ _ ?_
    refine wp_cond_false (hA.ev rfl) ?_
    refine wp_skip ?_
    refine hK185 _ _ ?_
    refine wp_seq_k (fun K196 hK196 => ?_)
    refine wp_seq_k (fun K197 hK197 => ?_)
    refine wp_region_lit ?_
    refine mv hA rfl rfl rfl fun a hA => ?_
    refine mv hA rfl rfl rfl fun a hA => ?_
    refine seq_skip hA rfl rfl rfl fun a hA => ?_
    refine seq_skip hA rfl rfl rfl fun a hA => ?_
    refine seq_skip hA rfl rfl rfl fun a hA => ?_
    refine seq_do (v := .bool false) hA rfl rfl rfl (d_pick rfl rfl rfl rfl) fun a hA => ?_
    refine seq_end ?_
    refine hK197 _ _ ?_
    refine wp_cond_false (hA.ev rfl) ?_
    refine wp_skip ?_
    refine hK196 _ _ ?_
    refine wp_seq_k (fun K198 hK198 => ?_)
    refine wp_seq_k (fun K199 hK199 => ?_)
    refine wp_region_lit ?_
    refine mv hA rfl rfl rfl fun a hA => ?_
    refine mv hA rfl rfl rfl fun a hA => ?_
    rcases Bool.eq_false_or_eq_true (signB (l.drop (0 + pieceLen r (l.drop 0)))) with hb200 | hb200
    ·
     have hj201 := sign_len hb200
     refine seq_call hA rfl rfl rfl (enters_func  rfl rfl (fun w => by kernel_rfl)) (rsignedX_any (p := 0 + pieceLen r (l.drop 0)) hl hb200) ?_
     rintro _ w203 ⟨rfl, hb202⟩
     replace hS := hS.call hb202
     refine ⟨_, rfl, ?_⟩
     intro a hA
     refine seq_do (v := .bool false) hA rfl rfl rfl (d_un rfl un_not) fun a hA => ?_
     refine seq_end ?_
     refine hK199 _ _ ?_
     refine wp_cond_false (hA.ev rfl) ?_
     refine wp_skip ?_
     refine hK198 _ _ ?_
     refine wp_seq_k (fun K204 hK204 => ?_)
     refine wp_region_lit ?_
     refine mv hA rfl rfl rfl fun a hA => ?_
     refine mv hA rfl rfl rfl fun a hA => ?_
     refine seq_do (v := .int .u8 (((btL l (0 + pieceLen r (l.drop 0)) : Nat) : Int))) hA rfl rfl rfl (d_ixT (s := l) (i := 0 + pieceLen r (l.drop 0)) Tryz.underlying9 rfl rfl (by first | rfl | omega) (by first | omega | (simp only [List.length_drop, List.length_take]; omega))) fun a hA => ?_
     refine seq_do (v := .bool ((((btL l (0 + pieceLen r (l.drop 0)) : Nat) : Int) == 45))) hA rfl rfl rfl (d_bin rfl rfl bin_eql) fun a hA => ?_
     refine seq_do hA rfl rfl rfl (d_assign rfl) fun a hA => ?_
     refine seq_end ?_
     refine hK204 _ _ ?_
     refine wp_seq_k (fun K205 hK205 => ?_)
     refine wp_seq_k (fun K206 hK206 => ?_)
     refine wp_region_lit ?_
     refine mv hA rfl rfl rfl fun a hA => ?_
     refine mv hA rfl rfl rfl fun a hA => ?_
     refine seq_do (v := .int .i64 (((0 + pieceLen r (l.drop 0) + 1 : Nat) : Int))) hA rfl rfl rfl (d_bin rfl rfl (fun w => (bin_add (i64In (by omega) (by omega)) w).trans (by rw [show (((0 + pieceLen r (l.drop 0) : Nat) : Int) + 1 : Int) = ((0 + pieceLen r (l.drop 0) + 1 : Nat) : Int) from by omega]))) fun a hA => ?_
     rcases Bool.eq_false_or_eq_true (unitB (l.drop (0 + pieceLen r (l.drop 0) + 1))) with hb207 | hb207
     ·
      refine seq_call hA rfl rfl rfl (enters_func  rfl rfl (fun w => by kernel_rfl)) (rendsX_any (p := 0 + pieceLen r (l.drop 0) + 1) hl hb207) ?_
      rintro _ w209 ⟨rfl, hb208⟩
      replace hS := hS.call hb208
      refine ⟨_, rfl, ?_⟩
      intro a hA
      refine seq_end ?_
      refine hK206 _ _ ?_
      refine wp_cond_true (hA.ev rfl) ?_
      refine wp_seq_k (fun K210 hK210 => ?_)
      refine wp_seq_k (fun K211 hK211 => ?_)
      refine wp_region_lit ?_
      refine mv hA rfl rfl rfl fun a hA => ?_
      refine seq_end ?_
      refine hK211 _ _ ?_
      refine wp_cond_split (t := (((btL l (0 + pieceLen r (l.drop 0)) : Nat) : Int) == 45)) (hA.ev rfl) (fun hc212 => ?_) (fun hc212 => ?_)
      ·
       have hc212' := eq_of_beq hc212
       refine wp_seq_k (fun K213 hK213 => ?_)
       refine wp_draw (S := fun w1 => St w w1 [(g180, [.bool ((rb (pieceVal r false (l.drop 0)).num)), .slice f174_1 ((words (pieceVal r false (l.drop 0)).num.natAbs).length) f174_c1, .slice f174_2 ((words (pieceVal r false (l.drop 0)).den).length) f174_c2]), (g9, [.bool false, .slice (some ⟨g5, 0, none⟩) 1 1, .slice (some ⟨g7, 0, none⟩) 1 1])] [(f174_2, words (pieceVal r false (l.drop 0)).den), (f174_1, words (pieceVal r false (l.drop 0)).num.natAbs), (some ⟨g7, 0, none⟩, [1]), (some ⟨g5, 0, none⟩, [1])] []) (by kernel_rfl) ?_
       replace hS := hS.drew
       refine any_tk hA 0 rfl rfl rfl rfl hP (hS.partD (.cons_cons _ (.cons_cons _ (.cons _ .slnil))) 0 rfl (.refl _)) (fun w1 hS => d_loadS hS RxG_isS_24 rfl 0 rfl (cs := [.bool ((rb (pieceVal r false (l.drop 0)).num)), .slice f174_1 ((words (pieceVal r false (l.drop 0)).num.natAbs).length) f174_c1, .slice f174_2 ((words (pieceVal r false (l.drop 0)).den).length) f174_c2]) rfl rfl) fun a hA => ?_
       refine any_tk hA 1 rfl rfl rfl rfl hP (hS.partD (.cons_cons _ (.cons_cons _ (.cons _ .slnil))) 0 rfl (.refl _)) (fun w1 hS => d_loadS hS RxG_isS_24 rfl 1 rfl (cs := [.bool false, .slice (some ⟨g5, 0, none⟩) 1 1, .slice (some ⟨g7, 0, none⟩) 1 1]) rfl rfl) fun a hA => ?_
       refine any_tk hA 4 rfl rfl rfl rfl hP (hS.partD (.cons_cons _ (.cons_cons _ (.cons _ .slnil))) 0 rfl (.refl _)) (fun w1 hS => d_move rfl) fun a hA => ?_
       refine any_one (by kernel_rfl) (op_call hA 2 rfl rfl rfl rfl (enters_func  rfl rfl (fun w => by kernel_rfl)) (rminus_any (r := true) rfl) ?_)
       rintro _ w215 ⟨rfl, hb214⟩
       replace hS := hS.call hb214
       refine ⟨_, rfl, (hS.partD (.cons_cons _ (.cons_cons _ (.cons _ .slnil))) 0 rfl (.refl _)), ?_⟩
       intro a hA
       refine any_tk (v := .agg #[.bool ((rb (pieceVal r false (l.drop 0)).num)), .slice f174_1 ((words (pieceVal r false (l.drop 0)).num.natAbs).length) f174_c1, .slice f174_2 ((words (pieceVal r false (l.drop 0)).den).length) f174_c2, .bool true, .slice (some ⟨g5, 0, none⟩) 1 1, .slice (some ⟨g7, 0, none⟩) 1 1]) hA 3 rfl rfl rfl rfl hP (hS.partD (.cons_cons _ (.cons_cons _ (.cons _ .slnil))) 0 rfl (.refl _)) (fun w1 hS => d_build rfl (fun w => by kernel_rfl)) fun a hA => ?_
       refine any_one (by kernel_rfl) (op_store (us := [.bool ((rb (pieceVal r false (l.drop 0)).num)), .slice f174_1 ((words (pieceVal r false (l.drop 0)).num.natAbs).length) f174_c1, .slice f174_2 ((words (pieceVal r false (l.drop 0)).den).length) f174_c2, .bool true, .slice (some ⟨g5, 0, none⟩) 1 1, .slice (some ⟨g7, 0, none⟩) 1 1]) hA hS 5 rfl rfl rfl (sets_store rfl rfl rfl (by kernel_rfl) hS 2 rfl rfl rfl) 2 rfl rfl rfl rfl ?_)
       intro w216 hS
       refine ⟨(hS.partD (.cons_cons _ (.cons_cons _ (.cons _ .slnil))) 0 rfl (.refl _)), ?_⟩
       refine any_tk hA 6 rfl rfl rfl rfl hP (hS.partD (.cons_cons _ (.cons_cons _ (.cons _ .slnil))) 0 rfl (.refl _)) (fun w1 hS => d_assign rfl) fun a hA => ?_
       refine any_tk hA 7 rfl rfl rfl rfl hP (hS.partD (.cons_cons _ (.cons_cons _ (.cons _ .slnil))) 0 rfl (.refl _)) (fun w1 hS => d_assign rfl) fun a hA => ?_
       refine any_end (by kernel_rfl) ?_
       refine hK213 _ _ ?_
       refine wp_ret ?_
       refine hret _ _ ?_
       refine ends (v := .tuple #[.agg #[.bool ((rb (pieceVal r false (l.drop 0)).num)), .slice f174_1 ((words (pieceVal r false (l.drop 0)).num.natAbs).length) f174_c1, .slice f174_2 ((words (pieceVal r false (l.drop 0)).den).length) f174_c2, .bool true, .slice (some ⟨g5, 0, none⟩) 1 1, .slice (some ⟨g7, 0, none⟩) 1 1], .int .i64 ((pieceErr r (l.drop 0))), .bool true]) hA rfl (.cons (res_cell hS RxG_isS_26 rfl 2 rfl (cs := [.bool ((rb (pieceVal r false (l.drop 0)).num)), .slice f174_1 ((words (pieceVal r false (l.drop 0)).num.natAbs).length) f174_c1, .slice f174_2 ((words (pieceVal r false (l.drop 0)).den).length) f174_c2, .bool true, .slice (some ⟨g5, 0, none⟩) 1 1, .slice (some ⟨g7, 0, none⟩) 1 1]) rfl rfl) (.cons (res_tmp rfl) (.cons (res_tmp rfl) .nil))) rfl ?_
       have hs0 : signB l = false := by have h9 := hb15; rw [List.drop_zero] at h9; exact h9
       have hp0 : p0 l = 0 := by unfold p0; rw [hs0]; rfl
       have hp1 : p1 r l = 0 + pieceLen r (l.drop 0) := by unfold p1; rw [hp0]
       have hm1 : m1 r l = l.drop (0 + pieceLen r (l.drop 0) + 1) := by unfold m1; rw [hp1]
       have hn0 : negB (l.drop 0) = negB l := by rw [List.drop_zero]
       have hl217 : ¬ 0 + pieceLen r (l.drop 0) = l.length := by omega
       rw [neg_at] at hc212
       have e9 : bodyS r l = (true, (pieceVal r false (l.drop 0)), (-1), (pieceErr r (l.drop 0))) := by
        simp only [bodyS, oneS, neg_at, hs0, hp0, hp1, hm1, hn0, hb173, hl217, hb200, hb207, hc212, Bool.true_and, Bool.false_and, Bool.and_true, Bool.and_false, if_true, if_false, Bool.false_eq_true, Bool.true_eq_false, ↓reduceIte]
       subst hB
       rw [e9]
       unfold AnsB
       rw [bodyQ_t, show Q6.rat (pieceVal r false (l.drop 0)) (-1) = ⟨(rb (pieceVal r false (l.drop 0)).num), words (pieceVal r false (l.drop 0)).num.natAbs, words (pieceVal r false (l.drop 0)).den, true, [1], [1]⟩ from by simp only [Q6.rat, one_b, one_t, one_q, neg_b, neg_t, neg_q]]
       exact ⟨f174_1, f174_c1, f174_2, f174_c2, some ⟨g5, 0, none⟩, 1, some ⟨g7, 0, none⟩, 1, rfl, ⟨⟨(hS.rd 1 rfl), hs175.nil, hs175.cap⟩, ⟨(hS.rd 0 rfl), hs176.nil, hs176.cap⟩, ⟨(hS.rd 3 rfl), (fun h => by cases h), (Nat.le_refl _)⟩, ⟨(hS.rd 2 rfl), (fun h => by cases h), (Nat.le_refl _)⟩⟩, hS.bel⟩
      ·
       have hc212' := ne_of_beq_false hc212
       refine wp_skip ?_
       refine hK210 _ _ ?_
       refine wp_seq_k (fun K218 hK218 => ?_)
       refine wp_region_lit ?_
       refine seq_do hA rfl rfl rfl (d_loadS hS RxG_isS_24 rfl 0 rfl (cs := [.bool ((rb (pieceVal r false (l.drop 0)).num)), .slice f174_1 ((words (pieceVal r false (l.drop 0)).num.natAbs).length) f174_c1, .slice f174_2 ((words (pieceVal r false (l.drop 0)).den).length) f174_c2]) rfl rfl) fun a hA => ?_
       refine seq_do hA rfl rfl rfl (d_loadS hS RxG_isS_24 rfl 1 rfl (cs := [.bool false, .slice (some ⟨g5, 0, none⟩) 1 1, .slice (some ⟨g7, 0, none⟩) 1 1]) rfl rfl) fun a hA => ?_
       refine seq_do (v := .agg #[.bool ((rb (pieceVal r false (l.drop 0)).num)), .slice f174_1 ((words (pieceVal r false (l.drop 0)).num.natAbs).length) f174_c1, .slice f174_2 ((words (pieceVal r false (l.drop 0)).den).length) f174_c2, .bool false, .slice (some ⟨g5, 0, none⟩) 1 1, .slice (some ⟨g7, 0, none⟩) 1 1]) hA rfl rfl rfl (d_build rfl (fun w => by kernel_rfl)) fun a hA => ?_
       refine mv hA rfl rfl rfl fun a hA => ?_
       refine seq_store (us := [.bool ((rb (pieceVal r false (l.drop 0)).num)), .slice f174_1 ((words (pieceVal r false (l.drop 0)).num.natAbs).length) f174_c1, .slice f174_2 ((words (pieceVal r false (l.drop 0)).den).length) f174_c2, .bool false, .slice (some ⟨g5, 0, none⟩) 1 1, .slice (some ⟨g7, 0, none⟩) 1 1]) hA hS rfl rfl (sets_store rfl rfl rfl (by kernel_rfl) hS 2 rfl rfl rfl) 2 rfl rfl rfl rfl ?_
       intro w219 hS
       refine seq_do hA rfl rfl rfl (d_assign rfl) fun a hA => ?_
       refine seq_do hA rfl rfl rfl (d_assign rfl) fun a hA => ?_
       refine seq_end ?_
       refine hK218 _ _ ?_
       refine wp_ret ?_
       refine hret _ _ ?_
       refine ends (v := .tuple #[.agg #[.bool ((rb (pieceVal r false (l.drop 0)).num)), .slice f174_1 ((words (pieceVal r false (l.drop 0)).num.natAbs).length) f174_c1, .slice f174_2 ((words (pieceVal r false (l.drop 0)).den).length) f174_c2, .bool false, .slice (some ⟨g5, 0, none⟩) 1 1, .slice (some ⟨g7, 0, none⟩) 1 1], .int .i64 ((pieceErr r (l.drop 0))), .bool true]) hA rfl (.cons (res_cell hS RxG_isS_26 rfl 2 rfl (cs := [.bool ((rb (pieceVal r false (l.drop 0)).num)), .slice f174_1 ((words (pieceVal r false (l.drop 0)).num.natAbs).length) f174_c1, .slice f174_2 ((words (pieceVal r false (l.drop 0)).den).length) f174_c2, .bool false, .slice (some ⟨g5, 0, none⟩) 1 1, .slice (some ⟨g7, 0, none⟩) 1 1]) rfl rfl) (.cons (res_tmp rfl) (.cons (res_tmp rfl) .nil))) rfl ?_
       have hs0 : signB l = false := by have h9 := hb15; rw [List.drop_zero] at h9; exact h9
       have hp0 : p0 l = 0 := by unfold p0; rw [hs0]; rfl
       have hp1 : p1 r l = 0 + pieceLen r (l.drop 0) := by unfold p1; rw [hp0]
       have hm1 : m1 r l = l.drop (0 + pieceLen r (l.drop 0) + 1) := by unfold m1; rw [hp1]
       have hn0 : negB (l.drop 0) = negB l := by rw [List.drop_zero]
       have hl220 : ¬ 0 + pieceLen r (l.drop 0) = l.length := by omega
       rw [neg_at] at hc212
       have e9 : bodyS r l = (true, (pieceVal r false (l.drop 0)), 1, (pieceErr r (l.drop 0))) := by
        simp only [bodyS, oneS, neg_at, hs0, hp0, hp1, hm1, hn0, hb173, hl220, hb200, hb207, hc212, Bool.true_and, Bool.false_and, Bool.and_true, Bool.and_false, if_true, if_false, Bool.false_eq_true, Bool.true_eq_false, ↓reduceIte]
       subst hB
       rw [e9]
       unfold AnsB
       rw [bodyQ_t, show Q6.rat (pieceVal r false (l.drop 0)) 1 = ⟨(rb (pieceVal r false (l.drop 0)).num), words (pieceVal r false (l.drop 0)).num.natAbs, words (pieceVal r false (l.drop 0)).den, false, [1], [1]⟩ from by simp only [Q6.rat, one_b, one_t, one_q, neg_b, neg_t, neg_q]]
       exact ⟨f174_1, f174_c1, f174_2, f174_c2, some ⟨g5, 0, none⟩, 1, some ⟨g7, 0, none⟩, 1, rfl, ⟨⟨(hS.rd 1 rfl), hs175.nil, hs175.cap⟩, ⟨(hS.rd 0 rfl), hs176.nil, hs176.cap⟩, ⟨(hS.rd 3 rfl), (fun h => by cases h), (Nat.le_refl _)⟩, ⟨(hS.rd 2 rfl), (fun h => by cases h), (Nat.le_refl _)⟩⟩, hS.bel⟩
     ·
      refine seq_call hA rfl rfl rfl (enters_func  rfl rfl (fun w => by kernel_rfl)) (rendsX_any (p := 0 + pieceLen r (l.drop 0) + 1) hl hb207) ?_
      rintro _ w222 ⟨rfl, hb221⟩
      replace hS := hS.call hb221
      refine ⟨_, rfl, ?_⟩
      intro a hA
      refine seq_end ?_
      refine hK206 _ _ ?_
      refine wp_cond_false (hA.ev rfl) ?_
      refine wp_skip ?_
      refine hK205 _ _ ?_
      refine wp_seq_k (fun K223 hK223 => ?_)
      refine wp_region_lit ?_
      refine mv hA rfl rfl rfl fun a hA => ?_
      refine mv hA rfl rfl rfl fun a hA => ?_
      refine seq_do (v := .int .i64 (((0 + pieceLen r (l.drop 0) + 1 : Nat) : Int))) hA rfl rfl rfl (d_bin rfl rfl (fun w => (bin_add (i64In (by omega) (by omega)) w).trans (by rw [show (((0 + pieceLen r (l.drop 0) : Nat) : Int) + 1 : Int) = ((0 + pieceLen r (l.drop 0) + 1 : Nat) : Int) from by omega]))) fun a hA => ?_
      refine mv hA rfl rfl rfl fun a hA => ?_
      refine mv hA rfl rfl rfl fun a hA => ?_
      rcases Bool.eq_false_or_eq_true (pieceOk r (l.drop (0 + pieceLen r (l.drop 0) + 1))) with hb224 | hb224
      ·
       have hj229 := pieceLen_at r (0 + pieceLen r (l.drop 0) + 1) l (by omega)
       refine seq_call hA rfl rfl rfl (enters_func  rfl rfl (fun w => by kernel_rfl)) (rpiece_ok (p := 0 + pieceLen r (l.drop 0) + 1) hr ((((btL l (0 + pieceLen r (l.drop 0)) : Nat) : Int) == 45)) hl (by omega) hb224) ?_
       rintro _ w230 ⟨f225_1, f225_c1, f225_2, f225_c2, rfl, hs226, hs227, hb228⟩
       replace hS := hS.call hb228
       replace hS := hS.addR hs226.rd
       replace hS := hS.addR hs227.rd
       refine ⟨_, rfl, ?_⟩
       intro a hA
       refine mv hA rfl rfl rfl fun a hA => ?_
       refine seq_do (v := .int .i64 (((0 + pieceLen r (l.drop 0) + 1 + pieceLen r (l.drop (0 + pieceLen r (l.drop 0) + 1)) : Nat) : Int))) hA rfl rfl rfl (d_extract (vs := [.int .i64 (((0 + pieceLen r (l.drop 0) + 1 + pieceLen r (l.drop (0 + pieceLen r (l.drop 0) + 1)) : Nat) : Int)), .agg #[.bool ((rb (pieceVal r ((((btL l (0 + pieceLen r (l.drop 0)) : Nat) : Int) == 45)) (l.drop (0 + pieceLen r (l.drop 0) + 1))).num)), .slice f225_1 ((words (pieceVal r ((((btL l (0 + pieceLen r (l.drop 0)) : Nat) : Int) == 45)) (l.drop (0 + pieceLen r (l.drop 0) + 1))).num.natAbs).length) f225_c1, .slice f225_2 ((words (pieceVal r ((((btL l (0 + pieceLen r (l.drop 0)) : Nat) : Int) == 45)) (l.drop (0 + pieceLen r (l.drop 0) + 1))).den).length) f225_c2], .int .i64 ((pieceErr r (l.drop (0 + pieceLen r (l.drop 0) + 1))))]) rfl rfl) fun a hA => ?_
       refine seq_do (v := .agg #[.bool ((rb (pieceVal r ((((btL l (0 + pieceLen r (l.drop 0)) : Nat) : Int) == 45)) (l.drop (0 + pieceLen r (l.drop 0) + 1))).num)), .slice f225_1 ((words (pieceVal r ((((btL l (0 + pieceLen r (l.drop 0)) : Nat) : Int) == 45)) (l.drop (0 + pieceLen r (l.drop 0) + 1))).num.natAbs).length) f225_c1, .slice f225_2 ((words (pieceVal r ((((btL l (0 + pieceLen r (l.drop 0)) : Nat) : Int) == 45)) (l.drop (0 + pieceLen r (l.drop 0) + 1))).den).length) f225_c2]) hA rfl rfl rfl (d_extract (vs := [.int .i64 (((0 + pieceLen r (l.drop 0) + 1 + pieceLen r (l.drop (0 + pieceLen r (l.drop 0) + 1)) : Nat) : Int)), .agg #[.bool ((rb (pieceVal r ((((btL l (0 + pieceLen r (l.drop 0)) : Nat) : Int) == 45)) (l.drop (0 + pieceLen r (l.drop 0) + 1))).num)), .slice f225_1 ((words (pieceVal r ((((btL l (0 + pieceLen r (l.drop 0)) : Nat) : Int) == 45)) (l.drop (0 + pieceLen r (l.drop 0) + 1))).num.natAbs).length) f225_c1, .slice f225_2 ((words (pieceVal r ((((btL l (0 + pieceLen r (l.drop 0)) : Nat) : Int) == 45)) (l.drop (0 + pieceLen r (l.drop 0) + 1))).den).length) f225_c2], .int .i64 ((pieceErr r (l.drop (0 + pieceLen r (l.drop 0) + 1))))]) rfl rfl) fun a hA => ?_
       refine seq_do (v := .int .i64 ((pieceErr r (l.drop (0 + pieceLen r (l.drop 0) + 1))))) hA rfl rfl rfl (d_extract (vs := [.int .i64 (((0 + pieceLen r (l.drop 0) + 1 + pieceLen r (l.drop (0 + pieceLen r (l.drop 0) + 1)) : Nat) : Int)), .agg #[.bool ((rb (pieceVal r ((((btL l (0 + pieceLen r (l.drop 0)) : Nat) : Int) == 45)) (l.drop (0 + pieceLen r (l.drop 0) + 1))).num)), .slice f225_1 ((words (pieceVal r ((((btL l (0 + pieceLen r (l.drop 0)) : Nat) : Int) == 45)) (l.drop (0 + pieceLen r (l.drop 0) + 1))).num.natAbs).length) f225_c1, .slice f225_2 ((words (pieceVal r ((((btL l (0 + pieceLen r (l.drop 0)) : Nat) : Int) == 45)) (l.drop (0 + pieceLen r (l.drop 0) + 1))).den).length) f225_c2], .int .i64 ((pieceErr r (l.drop (0 + pieceLen r (l.drop 0) + 1))))]) rfl rfl) fun a hA => ?_
       refine seq_new (vs := [.bool false, .slice none 0 0, .slice none 0 0]) (t := 24) hA hS rfl rfl rfl (fun g => .pointer (some ⟨g, 0, none⟩)) (d_alloc (z := .agg #[.bool false, .slice none 0 0, .slice none 0 0]) (by kernel_rfl) rfl) rfl ?_
       intro g231 w232 hS a hA
       refine seq_do hA rfl rfl rfl (d_assign rfl) fun a hA => ?_
       refine seq_store (us := [.bool ((rb (pieceVal r ((((btL l (0 + pieceLen r (l.drop 0)) : Nat) : Int) == 45)) (l.drop (0 + pieceLen r (l.drop 0) + 1))).num)), .slice f225_1 ((words (pieceVal r ((((btL l (0 + pieceLen r (l.drop 0)) : Nat) : Int) == 45)) (l.drop (0 + pieceLen r (l.drop 0) + 1))).num.natAbs).length) f225_c1, .slice f225_2 ((words (pieceVal r ((((btL l (0 + pieceLen r (l.drop 0)) : Nat) : Int) == 45)) (l.drop (0 + pieceLen r (l.drop 0) + 1))).den).length) f225_c2]) hA hS rfl rfl (sets_store rfl rfl rfl (by kernel_rfl) hS 0 rfl rfl rfl) 0 rfl rfl rfl rfl ?_
       intro w233 hS
       refine seq_do hA rfl rfl rfl (d_assign rfl) fun a hA => ?_
       refine seq_end ?_
       refine hK223 _ _ ?_
       refine wp_seq_k (fun K234 hK234 => ?_)
       refine wp_seq_k (fun K235 hK235 => ?_)
       refine wp_region_lit ?_
       refine mv hA rfl rfl rfl fun a hA => ?_
       refine seq_do (v := .bool false) hA rfl rfl rfl (d_bin rfl rfl (fun w => (bin_lss w).trans (by rw [show (decide (((0 + pieceLen r (l.drop 0) + 1 + pieceLen r (l.drop (0 + pieceLen r (l.drop 0) + 1)) : Nat) : Int) < 0)) = false from (decide_eq_false (by omega))]))) fun a hA => ?_
       refine mv hA rfl rfl rfl fun a hA => ?_
       refine mv hA rfl rfl rfl fun a hA => ?_
       refine mv hA rfl rfl rfl fun a hA => ?_
       rcases Bool.eq_false_or_eq_true (unitB (l.drop (0 + pieceLen r (l.drop 0) + 1 + pieceLen r (l.drop (0 + pieceLen r (l.drop 0) + 1))))) with hb236 | hb236
       ·
        refine seq_call hA rfl rfl rfl (enters_func  rfl rfl (fun w => by kernel_rfl)) (rendsX_any (p := 0 + pieceLen r (l.drop 0) + 1 + pieceLen r (l.drop (0 + pieceLen r (l.drop 0) + 1))) hl hb236) ?_
        rintro _ w238 ⟨rfl, hb237⟩
        replace hS := hS.call hb237
        refine ⟨_, rfl, ?_⟩
        intro a hA
        refine seq_do (v := .bool false) hA rfl rfl rfl (d_un rfl un_not) fun a hA => ?_
        refine seq_do (v := .bool false) hA rfl rfl rfl (d_pick rfl rfl rfl rfl) fun a hA => ?_
        refine seq_end ?_
        refine hK235 _ _ ?_
        refine wp_cond_false (hA.ev rfl) ?_
        refine wp_skip ?_
        refine hK234 _ _ ?_
        refine wp_seq_k (fun K239 hK239 => ?_)
        refine wp_draw (S := fun w1 => St w w1 [(g231, [.bool ((rb (pieceVal r ((((btL l (0 + pieceLen r (l.drop 0)) : Nat) : Int) == 45)) (l.drop (0 + pieceLen r (l.drop 0) + 1))).num)), .slice f225_1 ((words (pieceVal r ((((btL l (0 + pieceLen r (l.drop 0)) : Nat) : Int) == 45)) (l.drop (0 + pieceLen r (l.drop 0) + 1))).num.natAbs).length) f225_c1, .slice f225_2 ((words (pieceVal r ((((btL l (0 + pieceLen r (l.drop 0)) : Nat) : Int) == 45)) (l.drop (0 + pieceLen r (l.drop 0) + 1))).den).length) f225_c2]), (g180, [.bool ((rb (pieceVal r false (l.drop 0)).num)), .slice f174_1 ((words (pieceVal r false (l.drop 0)).num.natAbs).length) f174_c1, .slice f174_2 ((words (pieceVal r false (l.drop 0)).den).length) f174_c2]), (g9, [.bool false, .slice (some ⟨g5, 0, none⟩) 1 1, .slice (some ⟨g7, 0, none⟩) 1 1])] [(f225_2, words (pieceVal r ((((btL l (0 + pieceLen r (l.drop 0)) : Nat) : Int) == 45)) (l.drop (0 + pieceLen r (l.drop 0) + 1))).den), (f225_1, words (pieceVal r ((((btL l (0 + pieceLen r (l.drop 0)) : Nat) : Int) == 45)) (l.drop (0 + pieceLen r (l.drop 0) + 1))).num.natAbs), (f174_2, words (pieceVal r false (l.drop 0)).den), (f174_1, words (pieceVal r false (l.drop 0)).num.natAbs), (some ⟨g7, 0, none⟩, [1]), (some ⟨g5, 0, none⟩, [1])] []) (by kernel_rfl) ?_
        replace hS := hS.drew
        refine any_tk hA 0 rfl rfl rfl rfl hP (hS.partD (.cons_cons _ (.cons_cons _ (.cons_cons _ (.cons _ .slnil)))) 0 rfl (.refl _)) (fun w1 hS => d_loadS hS RxG_isS_24 rfl 1 rfl (cs := [.bool ((rb (pieceVal r false (l.drop 0)).num)), .slice f174_1 ((words (pieceVal r false (l.drop 0)).num.natAbs).length) f174_c1, .slice f174_2 ((words (pieceVal r false (l.drop 0)).den).length) f174_c2]) rfl rfl) fun a hA => ?_
        refine any_tk hA 1 rfl rfl rfl rfl hP (hS.partD (.cons_cons _ (.cons_cons _ (.cons_cons _ (.cons _ .slnil)))) 0 rfl (.refl _)) (fun w1 hS => d_loadS hS RxG_isS_24 rfl 0 rfl (cs := [.bool ((rb (pieceVal r ((((btL l (0 + pieceLen r (l.drop 0)) : Nat) : Int) == 45)) (l.drop (0 + pieceLen r (l.drop 0) + 1))).num)), .slice f225_1 ((words (pieceVal r ((((btL l (0 + pieceLen r (l.drop 0)) : Nat) : Int) == 45)) (l.drop (0 + pieceLen r (l.drop 0) + 1))).num.natAbs).length) f225_c1, .slice f225_2 ((words (pieceVal r ((((btL l (0 + pieceLen r (l.drop 0)) : Nat) : Int) == 45)) (l.drop (0 + pieceLen r (l.drop 0) + 1))).den).length) f225_c2]) rfl rfl) fun a hA => ?_
        refine any_tk (v := .agg #[.bool ((rb (pieceVal r false (l.drop 0)).num)), .slice f174_1 ((words (pieceVal r false (l.drop 0)).num.natAbs).length) f174_c1, .slice f174_2 ((words (pieceVal r false (l.drop 0)).den).length) f174_c2, .bool ((rb (pieceVal r ((((btL l (0 + pieceLen r (l.drop 0)) : Nat) : Int) == 45)) (l.drop (0 + pieceLen r (l.drop 0) + 1))).num)), .slice f225_1 ((words (pieceVal r ((((btL l (0 + pieceLen r (l.drop 0)) : Nat) : Int) == 45)) (l.drop (0 + pieceLen r (l.drop 0) + 1))).num.natAbs).length) f225_c1, .slice f225_2 ((words (pieceVal r ((((btL l (0 + pieceLen r (l.drop 0)) : Nat) : Int) == 45)) (l.drop (0 + pieceLen r (l.drop 0) + 1))).den).length) f225_c2]) hA 2 rfl rfl rfl rfl hP (hS.partD (.cons_cons _ (.cons_cons _ (.cons_cons _ (.cons _ .slnil)))) 0 rfl (.refl _)) (fun w1 hS => d_build rfl (fun w => by kernel_rfl)) fun a hA => ?_
        refine any_tk hA 3 rfl rfl rfl rfl hP (hS.partD (.cons_cons _ (.cons_cons _ (.cons_cons _ (.cons _ .slnil)))) 0 rfl (.refl _)) (fun w1 hS => d_move rfl) fun a hA => ?_
        refine any_tk hA 4 rfl rfl rfl rfl hP (hS.partD (.cons_cons _ (.cons_cons _ (.cons_cons _ (.cons _ .slnil)))) 0 rfl (.refl _)) (fun w1 hS => d_move rfl) fun a hA => ?_
        refine any_one (by kernel_rfl) (op_call hA 5 rfl rfl rfl rfl (enters_func  rfl rfl (fun w => by kernel_rfl)) (rworse_any) ?_)
        rintro _ w241 ⟨rfl, hb240⟩
        replace hS := hS.call hb240
        refine ⟨_, rfl, (hS.partD (.cons_cons _ (.cons_cons _ (.cons_cons _ (.cons _ .slnil)))) 0 rfl (.refl _)), ?_⟩
        intro a hA
        refine any_one (by kernel_rfl) (op_store (us := [.bool ((rb (pieceVal r false (l.drop 0)).num)), .slice f174_1 ((words (pieceVal r false (l.drop 0)).num.natAbs).length) f174_c1, .slice f174_2 ((words (pieceVal r false (l.drop 0)).den).length) f174_c2, .bool ((rb (pieceVal r ((((btL l (0 + pieceLen r (l.drop 0)) : Nat) : Int) == 45)) (l.drop (0 + pieceLen r (l.drop 0) + 1))).num)), .slice f225_1 ((words (pieceVal r ((((btL l (0 + pieceLen r (l.drop 0)) : Nat) : Int) == 45)) (l.drop (0 + pieceLen r (l.drop 0) + 1))).num.natAbs).length) f225_c1, .slice f225_2 ((words (pieceVal r ((((btL l (0 + pieceLen r (l.drop 0)) : Nat) : Int) == 45)) (l.drop (0 + pieceLen r (l.drop 0) + 1))).den).length) f225_c2]) hA hS 6 rfl rfl rfl (sets_store rfl rfl rfl (by kernel_rfl) hS 3 rfl rfl rfl) 3 rfl rfl rfl rfl ?_)
        intro w242 hS
        refine ⟨(hS.partD (.cons_cons _ (.cons_cons _ (.cons_cons _ (.cons _ .slnil)))) 0 rfl (.refl _)), ?_⟩
        refine any_tk hA 7 rfl rfl rfl rfl hP (hS.partD (.cons_cons _ (.cons_cons _ (.cons_cons _ (.cons _ .slnil)))) 0 rfl (.refl _)) (fun w1 hS => d_assign rfl) fun a hA => ?_
        refine any_tk hA 8 rfl rfl rfl rfl hP (hS.partD (.cons_cons _ (.cons_cons _ (.cons_cons _ (.cons _ .slnil)))) 0 rfl (.refl _)) (fun w1 hS => d_assign rfl) fun a hA => ?_
        refine any_end (by kernel_rfl) ?_
        refine hK239 _ _ ?_
        refine wp_ret ?_
        refine hret _ _ ?_
        refine ends (v := .tuple #[.agg #[.bool ((rb (pieceVal r false (l.drop 0)).num)), .slice f174_1 ((words (pieceVal r false (l.drop 0)).num.natAbs).length) f174_c1, .slice f174_2 ((words (pieceVal r false (l.drop 0)).den).length) f174_c2, .bool ((rb (pieceVal r ((((btL l (0 + pieceLen r (l.drop 0)) : Nat) : Int) == 45)) (l.drop (0 + pieceLen r (l.drop 0) + 1))).num)), .slice f225_1 ((words (pieceVal r ((((btL l (0 + pieceLen r (l.drop 0)) : Nat) : Int) == 45)) (l.drop (0 + pieceLen r (l.drop 0) + 1))).num.natAbs).length) f225_c1, .slice f225_2 ((words (pieceVal r ((((btL l (0 + pieceLen r (l.drop 0)) : Nat) : Int) == 45)) (l.drop (0 + pieceLen r (l.drop 0) + 1))).den).length) f225_c2], .int .i64 ((worseE ((pieceErr r (l.drop 0))) ((pieceErr r (l.drop (0 + pieceLen r (l.drop 0) + 1)))))), .bool true]) hA rfl (.cons (res_cell hS RxG_isS_26 rfl 3 rfl (cs := [.bool ((rb (pieceVal r false (l.drop 0)).num)), .slice f174_1 ((words (pieceVal r false (l.drop 0)).num.natAbs).length) f174_c1, .slice f174_2 ((words (pieceVal r false (l.drop 0)).den).length) f174_c2, .bool ((rb (pieceVal r ((((btL l (0 + pieceLen r (l.drop 0)) : Nat) : Int) == 45)) (l.drop (0 + pieceLen r (l.drop 0) + 1))).num)), .slice f225_1 ((words (pieceVal r ((((btL l (0 + pieceLen r (l.drop 0)) : Nat) : Int) == 45)) (l.drop (0 + pieceLen r (l.drop 0) + 1))).num.natAbs).length) f225_c1, .slice f225_2 ((words (pieceVal r ((((btL l (0 + pieceLen r (l.drop 0)) : Nat) : Int) == 45)) (l.drop (0 + pieceLen r (l.drop 0) + 1))).den).length) f225_c2]) rfl rfl) (.cons (res_tmp rfl) (.cons (res_tmp rfl) .nil))) rfl ?_
        have hs0 : signB l = false := by have h9 := hb15; rw [List.drop_zero] at h9; exact h9
        have hp0 : p0 l = 0 := by unfold p0; rw [hs0]; rfl
        have hp1 : p1 r l = 0 + pieceLen r (l.drop 0) := by unfold p1; rw [hp0]
        have hm1 : m1 r l = l.drop (0 + pieceLen r (l.drop 0) + 1) := by unfold m1; rw [hp1]
        have hn0 : negB (l.drop 0) = negB l := by rw [List.drop_zero]
        have hl243 : ¬ 0 + pieceLen r (l.drop 0) = l.length := by omega
        have e9 : bodyS r l = (true, (pieceVal r false (l.drop 0)), (pieceVal r ((((btL l (0 + pieceLen r (l.drop 0)) : Nat) : Int) == 45)) (l.drop (0 + pieceLen r (l.drop 0) + 1))), (worseE ((pieceErr r (l.drop 0))) ((pieceErr r (l.drop (0 + pieceLen r (l.drop 0) + 1)))))) := by
         simp only [bodyS, oneS, neg_at, hs0, hp0, hp1, hm1, hn0, hb173, hl243, hb200, hb207, hb224, hb236, Bool.true_and, Bool.false_and, Bool.and_true, Bool.and_false, if_true, if_false, Bool.false_eq_true, Bool.true_eq_false, ↓reduceIte]
        subst hB
        rw [e9]
        unfold AnsB
        rw [bodyQ_t, show Q6.rat (pieceVal r false (l.drop 0)) (pieceVal r ((((btL l (0 + pieceLen r (l.drop 0)) : Nat) : Int) == 45)) (l.drop (0 + pieceLen r (l.drop 0) + 1))) = ⟨(rb (pieceVal r false (l.drop 0)).num), words (pieceVal r false (l.drop 0)).num.natAbs, words (pieceVal r false (l.drop 0)).den, (rb (pieceVal r ((((btL l (0 + pieceLen r (l.drop 0)) : Nat) : Int) == 45)) (l.drop (0 + pieceLen r (l.drop 0) + 1))).num), words (pieceVal r ((((btL l (0 + pieceLen r (l.drop 0)) : Nat) : Int) == 45)) (l.drop (0 + pieceLen r (l.drop 0) + 1))).num.natAbs, words (pieceVal r ((((btL l (0 + pieceLen r (l.drop 0)) : Nat) : Int) == 45)) (l.drop (0 + pieceLen r (l.drop 0) + 1))).den⟩ from by simp only [Q6.rat, one_b, one_t, one_q, neg_b, neg_t, neg_q]]
        exact ⟨f174_1, f174_c1, f174_2, f174_c2, f225_1, f225_c1, f225_2, f225_c2, rfl, ⟨⟨(hS.rd 3 rfl), hs175.nil, hs175.cap⟩, ⟨(hS.rd 2 rfl), hs176.nil, hs176.cap⟩, ⟨(hS.rd 1 rfl), hs226.nil, hs226.cap⟩, ⟨(hS.rd 0 rfl), hs227.nil, hs227.cap⟩⟩, hS.bel⟩
       ·
        refine seq_call hA rfl rfl rfl (enters_func  rfl rfl (fun w => by kernel_rfl)) (rendsX_any (p := 0 + pieceLen r (l.drop 0) + 1 + pieceLen r (l.drop (0 + pieceLen r (l.drop 0) + 1))) hl hb236) ?_
        rintro _ w245 ⟨rfl, hb244⟩
        replace hS := hS.call hb244
        refine ⟨_, rfl, ?_⟩
        intro a hA
        refine seq_do (v := .bool true) hA rfl rfl rfl (d_un rfl un_not) fun a hA => ?_
        refine seq_do (v := .bool true) hA rfl rfl rfl (d_pick rfl rfl rfl rfl) fun a hA => ?_
        refine seq_end ?_
        refine hK235 _ _ ?_
        refine wp_cond_true (hA.ev rfl) ?_
        refine wp_seq_k (fun K246 hK246 => ?_)
        refine wp_region_lit ?_
        refine seq_do (v := .agg #[.bool false, .slice none 0 0, .slice none 0 0, .bool false, .slice none 0 0, .slice none 0 0]) hA rfl rfl rfl (d_build rfl (fun w => by kernel_rfl)) fun a hA => ?_
        refine seq_store (us := [.bool false, .slice none 0 0, .slice none 0 0, .bool false, .slice none 0 0, .slice none 0 0]) hA hS rfl rfl (sets_store rfl rfl rfl (by kernel_rfl) hS 3 rfl rfl rfl) 3 rfl rfl rfl rfl ?_
        intro w247 hS
        refine seq_do hA rfl rfl rfl (d_assign rfl) fun a hA => ?_
        refine seq_do hA rfl rfl rfl (d_assign rfl) fun a hA => ?_
        refine seq_end ?_
        refine hK246 _ _ ?_
        refine wp_ret ?_
        refine hret _ _ ?_
        refine ends (v := .tuple #[.agg #[.bool false, .slice none 0 0, .slice none 0 0, .bool false, .slice none 0 0, .slice none 0 0], .int .i64 0, .bool false]) hA rfl (.cons (res_cell hS RxG_isS_26 rfl 3 rfl (cs := [.bool false, .slice none 0 0, .slice none 0 0, .bool false, .slice none 0 0, .slice none 0 0]) rfl rfl) (.cons (res_tmp rfl) (.cons (res_tmp rfl) .nil))) rfl ?_
        have hs0 : signB l = false := by have h9 := hb15; rw [List.drop_zero] at h9; exact h9
        have hp0 : p0 l = 0 := by unfold p0; rw [hs0]; rfl
        have hp1 : p1 r l = 0 + pieceLen r (l.drop 0) := by unfold p1; rw [hp0]
        have hm1 : m1 r l = l.drop (0 + pieceLen r (l.drop 0) + 1) := by unfold m1; rw [hp1]
        have hn0 : negB (l.drop 0) = negB l := by rw [List.drop_zero]
        have hl248 : ¬ 0 + pieceLen r (l.drop 0) = l.length := by omega
        have e9 : bodyS r l = (false, 0, 0, 0) := by
         simp only [bodyS, oneS, neg_at, hs0, hp0, hp1, hm1, hn0, hb173, hl248, hb200, hb207, hb224, hb236, Bool.true_and, Bool.false_and, Bool.and_true, Bool.and_false, if_true, if_false, Bool.false_eq_true, Bool.true_eq_false, ↓reduceIte]
        subst hB
        rw [e9]
        unfold AnsB
        rw [bodyQ_f]
        exact ⟨none, 0, none, 0, none, 0, none, 0, rfl, ⟨Sc.none _, Sc.none _, Sc.none _, Sc.none _⟩, hS.bel⟩
      ·
       refine seq_call hA rfl rfl rfl (enters_func  rfl rfl (fun w => by kernel_rfl)) (rpiece_no (p := 0 + pieceLen r (l.drop 0) + 1) hr ((((btL l (0 + pieceLen r (l.drop 0)) : Nat) : Int) == 45)) hl (by omega) hb224) ?_
       rintro _ w253 ⟨f249_1, f249_c1, f249_2, f249_c2, rfl, hs250, hs251, hb252⟩
       replace hS := hS.call hb252
       replace hS := hS.addR hs250.rd
       replace hS := hS.addR hs251.rd
       refine ⟨_, rfl, ?_⟩
       intro a hA
       refine mv hA rfl rfl rfl fun a hA => ?_
       refine seq_do (v := .int .i64 (-1)) hA rfl rfl rfl (d_extract (vs := [.int .i64 (-1), .agg #[.bool ((rb (0 : Rat).num)), .slice f249_1 ((words (0 : Rat).num.natAbs).length) f249_c1, .slice f249_2 ((words (0 : Rat).den).length) f249_c2], .int .i64 0]) rfl rfl) fun a hA => ?_
       refine seq_do (v := .agg #[.bool ((rb (0 : Rat).num)), .slice f249_1 ((words (0 : Rat).num.natAbs).length) f249_c1, .slice f249_2 ((words (0 : Rat).den).length) f249_c2]) hA rfl rfl rfl (d_extract (vs := [.int .i64 (-1), .agg #[.bool ((rb (0 : Rat).num)), .slice f249_1 ((words (0 : Rat).num.natAbs).length) f249_c1, .slice f249_2 ((words (0 : Rat).den).length) f249_c2], .int .i64 0]) rfl rfl) fun a hA => ?_
       refine seq_do (v := .int .i64 0) hA rfl rfl rfl (d_extract (vs := [.int .i64 (-1), .agg #[.bool ((rb (0 : Rat).num)), .slice f249_1 ((words (0 : Rat).num.natAbs).length) f249_c1, .slice f249_2 ((words (0 : Rat).den).length) f249_c2], .int .i64 0]) rfl rfl) fun a hA => ?_
       refine seq_new (vs := [.bool false, .slice none 0 0, .slice none 0 0]) (t := 24) hA hS rfl rfl rfl (fun g => .pointer (some ⟨g, 0, none⟩)) (d_alloc (z := .agg #[.bool false, .slice none 0 0, .slice none 0 0]) (by kernel_rfl) rfl) rfl ?_
       intro g254 w255 hS a hA
       refine seq_do hA rfl rfl rfl (d_assign rfl) fun a hA => ?_
       refine seq_store (us := [.bool ((rb (0 : Rat).num)), .slice f249_1 ((words (0 : Rat).num.natAbs).length) f249_c1, .slice f249_2 ((words (0 : Rat).den).length) f249_c2]) hA hS rfl rfl (sets_store rfl rfl rfl (by kernel_rfl) hS 0 rfl rfl rfl) 0 rfl rfl rfl rfl ?_
       intro w256 hS
       refine seq_do hA rfl rfl rfl (d_assign rfl) fun a hA => ?_
       refine seq_end ?_
       refine hK223 _ _ ?_
       refine wp_seq_k (fun K257 hK257 => ?_)
       refine wp_seq_k (fun K258 hK258 => ?_)
       refine wp_region_lit ?_
       refine mv hA rfl rfl rfl fun a hA => ?_
       refine seq_do (v := .bool true) hA rfl rfl rfl (d_bin rfl rfl (fun w => by kernel_rfl)) fun a hA => ?_
       refine mv hA rfl rfl rfl fun a hA => ?_
       refine seq_skip hA rfl rfl rfl fun a hA => ?_
       refine seq_skip hA rfl rfl rfl fun a hA => ?_
       refine seq_skip hA rfl rfl rfl fun a hA => ?_
       refine seq_skip hA rfl rfl rfl fun a hA => ?_
       refine seq_do (v := .bool true) hA rfl rfl rfl (d_pick rfl rfl rfl rfl) fun a hA => ?_
       refine seq_end ?_
       refine hK258 _ _ ?_
       refine wp_cond_true (hA.ev rfl) ?_
       refine wp_seq_k (fun K259 hK259 => ?_)
       refine wp_region_lit ?_
       refine seq_do (v := .agg #[.bool false, .slice none 0 0, .slice none 0 0, .bool false, .slice none 0 0, .slice none 0 0]) hA rfl rfl rfl (d_build rfl (fun w => by kernel_rfl)) fun a hA => ?_
       refine seq_store (us := [.bool false, .slice none 0 0, .slice none 0 0, .bool false, .slice none 0 0, .slice none 0 0]) hA hS rfl rfl (sets_store rfl rfl rfl (by kernel_rfl) hS 3 rfl rfl rfl) 3 rfl rfl rfl rfl ?_
       intro w260 hS
       refine seq_do hA rfl rfl rfl (d_assign rfl) fun a hA => ?_
       refine seq_do hA rfl rfl rfl (d_assign rfl) fun a hA => ?_
       refine seq_end ?_
       refine hK259 _ _ ?_
       refine wp_ret ?_
       refine hret _ _ ?_
       refine ends (v := .tuple #[.agg #[.bool false, .slice none 0 0, .slice none 0 0, .bool false, .slice none 0 0, .slice none 0 0], .int .i64 0, .bool false]) hA rfl (.cons (res_cell hS RxG_isS_26 rfl 3 rfl (cs := [.bool false, .slice none 0 0, .slice none 0 0, .bool false, .slice none 0 0, .slice none 0 0]) rfl rfl) (.cons (res_tmp rfl) (.cons (res_tmp rfl) .nil))) rfl ?_
       have hs0 : signB l = false := by have h9 := hb15; rw [List.drop_zero] at h9; exact h9
       have hp0 : p0 l = 0 := by unfold p0; rw [hs0]; rfl
       have hp1 : p1 r l = 0 + pieceLen r (l.drop 0) := by unfold p1; rw [hp0]
       have hm1 : m1 r l = l.drop (0 + pieceLen r (l.drop 0) + 1) := by unfold m1; rw [hp1]
       have hn0 : negB (l.drop 0) = negB l := by rw [List.drop_zero]
       have hl261 : ¬ 0 + pieceLen r (l.drop 0) = l.length := by omega
       have e9 : bodyS r l = (false, 0, 0, 0) := by
        simp only [bodyS, oneS, neg_at, hs0, hp0, hp1, hm1, hn0, hb173, hl261, hb200, hb207, hb224, Bool.true_and, Bool.false_and, Bool.and_true, Bool.and_false, if_true, if_false, Bool.false_eq_true, Bool.true_eq_false, ↓reduceIte]
       subst hB
       rw [e9]
       unfold AnsB
       rw [bodyQ_f]
       exact ⟨none, 0, none, 0, none, 0, none, 0, rfl, ⟨Sc.none _, Sc.none _, Sc.none _, Sc.none _⟩, hS.bel⟩
    ·
     refine seq_call hA rfl rfl rfl (enters_func  rfl rfl (fun w => by kernel_rfl)) (rsignedX_any (p := 0 + pieceLen r (l.drop 0)) hl hb200) ?_
     rintro _ w263 ⟨rfl, hb262⟩
     replace hS := hS.call hb262
     refine ⟨_, rfl, ?_⟩
     intro a hA
     refine seq_do (v := .bool true) hA rfl rfl rfl (d_un rfl un_not) fun a hA => ?_
     refine seq_end ?_
     refine hK199 _ _ ?_
     refine wp_cond_true (hA.ev rfl) ?_
     refine wp_seq_k (fun K264 hK264 => ?_)
     refine wp_region_lit ?_
     refine seq_do (v := .agg #[.bool false, .slice none 0 0, .slice none 0 0, .bool false, .slice none 0 0, .slice none 0 0]) hA rfl rfl rfl (d_build rfl (fun w => by kernel_rfl)) fun a hA => ?_
     refine seq_store (us := [.bool false, .slice none 0 0, .slice none 0 0, .bool false, .slice none 0 0, .slice none 0 0]) hA hS rfl rfl (sets_store rfl rfl rfl (by kernel_rfl) hS 2 rfl rfl rfl) 2 rfl rfl rfl rfl ?_
     intro w265 hS
     refine seq_do hA rfl rfl rfl (d_assign rfl) fun a hA => ?_
     refine seq_do hA rfl rfl rfl (d_assign rfl) fun a hA => ?_
     refine seq_end ?_
     refine hK264 _ _ ?_
     refine wp_ret ?_
     refine hret _ _ ?_
     refine ends (v := .tuple #[.agg #[.bool false, .slice none 0 0, .slice none 0 0, .bool false, .slice none 0 0, .slice none 0 0], .int .i64 0, .bool false]) hA rfl (.cons (res_cell hS RxG_isS_26 rfl 2 rfl (cs := [.bool false, .slice none 0 0, .slice none 0 0, .bool false, .slice none 0 0, .slice none 0 0]) rfl rfl) (.cons (res_tmp rfl) (.cons (res_tmp rfl) .nil))) rfl ?_
     have hs0 : signB l = false := by have h9 := hb15; rw [List.drop_zero] at h9; exact h9
     have hp0 : p0 l = 0 := by unfold p0; rw [hs0]; rfl
     have hp1 : p1 r l = 0 + pieceLen r (l.drop 0) := by unfold p1; rw [hp0]
     have hm1 : m1 r l = l.drop (0 + pieceLen r (l.drop 0) + 1) := by unfold m1; rw [hp1]
     have hn0 : negB (l.drop 0) = negB l := by rw [List.drop_zero]
     have hl266 : ¬ 0 + pieceLen r (l.drop 0) = l.length := by omega
     have e9 : bodyS r l = (false, 0, 0, 0) := by
      simp only [bodyS, oneS, neg_at, hs0, hp0, hp1, hm1, hn0, hb173, hl266, hb200, Bool.true_and, Bool.false_and, Bool.and_true, Bool.and_false, if_true, if_false, Bool.false_eq_true, Bool.true_eq_false, ↓reduceIte]
     subst hB
     rw [e9]
     unfold AnsB
     rw [bodyQ_f]
     exact ⟨none, 0, none, 0, none, 0, none, 0, rfl, ⟨Sc.none _, Sc.none _, Sc.none _, Sc.none _⟩, hS.bel⟩
  ·
   refine seq_call hA rfl rfl rfl (enters_func  rfl rfl (fun w => by kernel_rfl)) (rpiece_no (p := 0) hr false hl (by omega) hb173) ?_
   rintro _ w271 ⟨f267_1, f267_c1, f267_2, f267_c2, rfl, hs268, hs269, hb270⟩
   replace hS := hS.call hb270
   replace hS := hS.addR hs268.rd
   replace hS := hS.addR hs269.rd
   refine ⟨_, rfl, ?_⟩
   intro a hA
   refine mv hA rfl rfl rfl fun a hA => ?_
   refine seq_do (v := .int .i64 (-1)) hA rfl rfl rfl (d_extract (vs := [.int .i64 (-1), .agg #[.bool ((rb (0 : Rat).num)), .slice f267_1 ((words (0 : Rat).num.natAbs).length) f267_c1, .slice f267_2 ((words (0 : Rat).den).length) f267_c2], .int .i64 0]) rfl rfl) fun a hA => ?_
   refine seq_do (v := .agg #[.bool ((rb (0 : Rat).num)), .slice f267_1 ((words (0 : Rat).num.natAbs).length) f267_c1, .slice f267_2 ((words (0 : Rat).den).length) f267_c2]) hA rfl rfl rfl (d_extract (vs := [.int .i64 (-1), .agg #[.bool ((rb (0 : Rat).num)), .slice f267_1 ((words (0 : Rat).num.natAbs).length) f267_c1, .slice f267_2 ((words (0 : Rat).den).length) f267_c2], .int .i64 0]) rfl rfl) fun a hA => ?_
   refine seq_do (v := .int .i64 0) hA rfl rfl rfl (d_extract (vs := [.int .i64 (-1), .agg #[.bool ((rb (0 : Rat).num)), .slice f267_1 ((words (0 : Rat).num.natAbs).length) f267_c1, .slice f267_2 ((words (0 : Rat).den).length) f267_c2], .int .i64 0]) rfl rfl) fun a hA => ?_
   refine seq_new (vs := [.bool false, .slice none 0 0, .slice none 0 0]) (t := 24) hA hS rfl rfl rfl (fun g => .pointer (some ⟨g, 0, none⟩)) (d_alloc (z := .agg #[.bool false, .slice none 0 0, .slice none 0 0]) (by kernel_rfl) rfl) rfl ?_
   intro g272 w273 hS a hA
   refine seq_do hA rfl rfl rfl (d_assign rfl) fun a hA => ?_
   refine seq_store (us := [.bool ((rb (0 : Rat).num)), .slice f267_1 ((words (0 : Rat).num.natAbs).length) f267_c1, .slice f267_2 ((words (0 : Rat).den).length) f267_c2]) hA hS rfl rfl (sets_store rfl rfl rfl (by kernel_rfl) hS 0 rfl rfl rfl) 0 rfl rfl rfl rfl ?_
   intro w274 hS
   refine seq_do hA rfl rfl rfl (d_assign rfl) fun a hA => ?_
   refine seq_end ?_
   refine hK172 _ _ ?_
   refine wp_seq_k (fun K275 hK275 => ?_)
   refine wp_seq_k (fun K276 hK276 => ?_)
   refine wp_region_lit ?_
   refine mv hA rfl rfl rfl fun a hA => ?_
   refine seq_do (v := .bool true) hA rfl rfl rfl (d_bin rfl rfl (fun w => by kernel_rfl)) fun a hA => ?_
   refine seq_end ?_
   refine hK276 _ _ ?_
   refine wp_cond_true (hA.ev rfl) ?_
   refine wp_seq_k (fun K277 hK277 => ?_)
   refine wp_region_lit ?_
   refine seq_do (v := .agg #[.bool false, .slice none 0 0, .slice none 0 0, .bool false, .slice none 0 0, .slice none 0 0]) hA rfl rfl rfl (d_build rfl (fun w => by kernel_rfl)) fun a hA => ?_
   refine seq_store (us := [.bool false, .slice none 0 0, .slice none 0 0, .bool false, .slice none 0 0, .slice none 0 0]) hA hS rfl rfl (sets_store rfl rfl rfl (by kernel_rfl) hS 2 rfl rfl rfl) 2 rfl rfl rfl rfl ?_
   intro w278 hS
   refine seq_do hA rfl rfl rfl (d_assign rfl) fun a hA => ?_
   refine seq_do hA rfl rfl rfl (d_assign rfl) fun a hA => ?_
   refine seq_end ?_
   refine hK277 _ _ ?_
   refine wp_ret ?_
   refine hret _ _ ?_
   refine ends (v := .tuple #[.agg #[.bool false, .slice none 0 0, .slice none 0 0, .bool false, .slice none 0 0, .slice none 0 0], .int .i64 0, .bool false]) hA rfl (.cons (res_cell hS RxG_isS_26 rfl 2 rfl (cs := [.bool false, .slice none 0 0, .slice none 0 0, .bool false, .slice none 0 0, .slice none 0 0]) rfl rfl) (.cons (res_tmp rfl) (.cons (res_tmp rfl) .nil))) rfl ?_
   have hs0 : signB l = false := by have h9 := hb15; rw [List.drop_zero] at h9; exact h9
   have hp0 : p0 l = 0 := by unfold p0; rw [hs0]; rfl
   have hp1 : p1 r l = 0 + pieceLen r (l.drop 0) := by unfold p1; rw [hp0]
   have hm1 : m1 r l = l.drop (0 + pieceLen r (l.drop 0) + 1) := by unfold m1; rw [hp1]
   have hn0 : negB (l.drop 0) = negB l := by rw [List.drop_zero]
   have e9 : bodyS r l = (false, 0, 0, 0) := by
    simp only [bodyS, oneS, neg_at, hs0, hp0, hp1, hm1, hn0, hb173, Bool.true_and, Bool.false_and, Bool.and_true, Bool.and_false, if_true, if_false, Bool.false_eq_true, Bool.true_eq_false, ↓reduceIte]
   subst hB
   rw [e9]
   unfold AnsB
   rw [bodyQ_f]
   exact ⟨none, 0, none, 0, none, 0, none, 0, rfl, ⟨Sc.none _, Sc.none _, Sc.none _, Sc.none _⟩, hS.bel⟩
set_option maxHeartbeats 2000000 in
theorem rread_rad {w : World} {r : Nat} {l : List UInt8} (hr : RadN r) (hl : l.length ≤ 9223372036854775807) : Calls Tryz.prog 10 #[.string (bsL l), .int .i64 ((r : Nat) : Int)] w (AnsN w (readX l ((r : Nat) : Int))) := by
 have hS : St w w [] [] [] := St.start w
 refine walk_of (l := [(0, .string (bsL l)), (1, .int .i64 (((r : Nat) : Int)))]) Tryz.func10 rfl Tryz.ntmps10 rfl rfl ?_
 intro Q hret hnorm hP a hA
 refine wp_seq_k (fun K1 hK1 => ?_)
 refine wp_region_lit ?_
 refine seq_new (vs := [.bool false, .slice none 0 0, .slice none 0 0, .bool false, .slice none 0 0, .slice none 0 0]) (t := 26) hA hS rfl rfl rfl (fun g => .pointer (some ⟨g, 0, none⟩)) (d_alloc (z := .agg #[.bool false, .slice none 0 0, .slice none 0 0, .bool false, .slice none 0 0, .slice none 0 0]) (by kernel_rfl) rfl) rfl ?_
 intro g2 w3 hS a hA
 refine seq_do hA rfl rfl rfl (d_assign rfl) fun a hA => ?_
 refine seq_end ?_
 refine hK1 _ _ ?_
 refine wp_seq_k (fun K4 hK4 => ?_)
 refine wp_seq_k (fun K5 hK5 => ?_)
 refine wp_region_lit ?_
 refine mv hA rfl rfl rfl fun a hA => ?_
 refine seq_call hA rfl rfl rfl (enters_func  rfl rfl (fun w => by kernel_rfl)) (rradixX_any (radixB_rad hr)) ?_
 rintro _ w7 ⟨rfl, hb6⟩
 replace hS := hS.call hb6
 refine ⟨_, rfl, ?_⟩
 intro a hA
 refine seq_do (v := .bool false) hA rfl rfl rfl (d_un rfl un_not) fun a hA => ?_
 refine seq_end ?_
 refine hK5 _ _ ?_
 refine wp_cond_false (hA.ev rfl) ?_
 refine wp_skip ?_
 refine hK4 _ _ ?_
 refine wp_seq_k (fun K8 hK8 => ?_)
 refine wp_region_lit ?_
 refine seq_do hA rfl rfl rfl (d_assign rfl) fun a hA => ?_
 refine seq_end ?_
 refine hK8 _ _ ?_
 refine wp_seq_k (fun K9 hK9 => ?_)
 refine wp_region_lit ?_
 refine seq_do hA rfl rfl rfl (d_assign rfl) fun a hA => ?_
 refine seq_do hA rfl rfl rfl (d_assign rfl) fun a hA => ?_
 refine seq_end ?_
 refine hK9 _ _ ?_
 refine wp_seq_k (fun K10 hK10 => ?_)
 refine wp_block ?_
 refine wp_loop_n (fun m a w1 => ∃ (p : Nat) (k : Nat) (told : Bool) (ex : Bool), m = 1 + (l.length - p) ∧ (prfx told ex k (l.drop p) = prfx false false r l ∧ p ≤ l.length) ∧ Sl a 86 [(0, .string (bsL l)), (1, .int .i64 (((k : Nat) : Int))), (4, .pointer (some ⟨g2, 0, none⟩)), (6, .int .i64 (((p : Nat) : Int))), (7, .bool told), (8, .bool ex), (13, .int .i64 (((r : Nat) : Int))), (14, .bool true), (15, .bool false)] ∧ St w w1 [(g2, [.bool false, .slice none 0 0, .slice none 0 0, .bool false, .slice none 0 0, .slice none 0 0])] [] []) _ ⟨0, r, false, false, rfl, ⟨by rw [List.drop_zero], Nat.zero_le _⟩, hA.keep _ ⟨rfl, rfl, rfl, rfl, rfl, rfl, rfl, rfl, rfl, trivial⟩, hS⟩ ?_
 clear hS hA
 rintro m a w11 ⟨p, k, told, ex, rfl, hinv13, hA, hS⟩ K12 hK12
 have hq := hinv13.2
 refine wp_seq_k (fun K14 hK14 => ?_)
 refine wp_seq_k (fun K15 hK15 => ?_)
 refine wp_region_lit ?_
 refine mv hA rfl rfl rfl fun a hA => ?_
 refine mv hA rfl rfl rfl fun a hA => ?_
 refine seq_do (v := .int .i64 (((l.length : Nat) : Int))) hA rfl rfl rfl (d_lenT Tryz.underlying9 rfl) fun a hA => ?_
 rcases Bool.eq_false_or_eq_true (decide (((p : Nat) : Int) < ((l.length : Nat) : Int))) with hb16 | hb16
 ·
  have hb16' := of_decide_eq_true hb16
  refine seq_do (v := .bool true) hA rfl rfl rfl (d_bin rfl rfl (fun w => (bin_lss w).trans (by rw [hb16]))) fun a hA => ?_
  refine mv hA rfl rfl rfl fun a hA => ?_
  refine mv hA rfl rfl rfl fun a hA => ?_
  refine mv hA rfl rfl rfl fun a hA => ?_
  refine seq_do (v := .int .u8 (((btL l p : Nat) : Int))) hA rfl rfl rfl (d_ixT (s := l) (i := p) Tryz.underlying9 rfl rfl (by first | rfl | omega) (by first | omega | (simp only [List.length_drop, List.length_take]; omega))) fun a hA => ?_
  rcases Bool.eq_false_or_eq_true ((((btL l p : Nat) : Int) == 35)) with hb17 | hb17
  ·
   have hb17' := eq_of_beq hb17
   refine seq_do (v := .bool true) hA rfl rfl rfl (d_bin rfl rfl (fun w => (bin_eql w).trans (by rw [hb17]))) fun a hA => ?_
   refine seq_do (v := .bool true) hA rfl rfl rfl (d_pick rfl rfl rfl rfl) fun a hA => ?_
   refine seq_end ?_
   refine hK15 _ _ ?_
   refine wp_cond_true (hA.ev rfl) ?_
   refine wp_skip ?_
   refine hK14 _ _ ?_
   refine wp_block ?_
   refine wp_seq_k (fun K18 hK18 => ?_)
   refine wp_seq_k (fun K19 hK19 => ?_)
   refine wp_region_lit ?_
   refine mv hA rfl rfl rfl fun a hA => ?_
   refine seq_do (v := .int .i64 (((p + 1 : Nat) : Int))) hA rfl rfl rfl (d_bin rfl rfl (fun w => (bin_add (i64In (by omega) (by omega)) w).trans (by rw [show (((p : Nat) : Int) + 1 : Int) = ((p + 1 : Nat) : Int) from by omega]))) fun a hA => ?_
   refine mv hA rfl rfl rfl fun a hA => ?_
   refine seq_do (v := .int .i64 (((l.length : Nat) : Int))) hA rfl rfl rfl (d_lenT Tryz.underlying9 rfl) fun a hA => ?_
   rcases Bool.eq_false_or_eq_true ((((p + 1 : Nat) : Int) == ((l.length : Nat) : Int))) with hb20 | hb20
   ·
    have hb20' := eq_of_beq hb20
    refine seq_do (v := .bool true) hA rfl rfl rfl (d_bin rfl rfl (fun w => (bin_eql w).trans (by rw [hb20]))) fun a hA => ?_
    refine seq_end ?_
    refine hK19 _ _ ?_
    refine wp_cond_true (hA.ev rfl) ?_
    refine wp_seq_k (fun K21 hK21 => ?_)
    refine wp_region_lit ?_
    refine seq_do (v := .agg #[.bool false, .slice none 0 0, .slice none 0 0, .bool false, .slice none 0 0, .slice none 0 0]) hA rfl rfl rfl (d_build rfl (fun w => by kernel_rfl)) fun a hA => ?_
    refine seq_store (us := [.bool false, .slice none 0 0, .slice none 0 0, .bool false, .slice none 0 0, .slice none 0 0]) hA hS rfl rfl (sets_store rfl rfl rfl (by kernel_rfl) hS 0 rfl rfl rfl) 0 rfl rfl rfl rfl ?_
    intro w22 hS
    refine seq_do hA rfl rfl rfl (d_assign rfl) fun a hA => ?_
    refine seq_end ?_
    refine hK21 _ _ ?_
    refine wp_ret ?_
    refine hret _ _ ?_
    refine ends (v := .tuple #[.agg #[.bool false, .slice none 0 0, .slice none 0 0, .bool false, .slice none 0 0, .slice none 0 0], .int .i64 5]) hA rfl (.cons (res_cell hS RxG_isS_26 rfl 0 rfl (cs := [.bool false, .slice none 0 0, .slice none 0 0, .bool false, .slice none 0 0, .slice none 0 0]) rfl rfl) (.cons (res_tmp rfl) .nil)) rfl ?_
    have hm0 : btL (l.drop p) 0 = btL l p := by rw [btL_drop]; rfl
    have hm1 : btL (l.drop p) 1 = btL l (p + 1) := by rw [btL_drop]
    have ePx : prfx false false r l = (l.drop p, k) := hinv13.1.symm.trans (prfx_short (by rw [List.length_drop]; omega))
    have hk : RadN k := by have h := prfx_rad hr false false l; rw [ePx] at h; exact h
    rw [readX_def hr ePx, if_neg (by rw [okP_hash hk (by omega)]; decide)]
    exact ⟨none, 0, none, 0, none, 0, none, 0, rfl, ⟨Sc.none _, Sc.none _, Sc.none _, Sc.none _⟩, hS.bel⟩
   ·
    have hb20' := ne_of_beq_false hb20
    refine seq_do (v := .bool false) hA rfl rfl rfl (d_bin rfl rfl (fun w => (bin_eql w).trans (by rw [hb20]))) fun a hA => ?_
    refine seq_end ?_
    refine hK19 _ _ ?_
    refine wp_cond_false (hA.ev rfl) ?_
    refine wp_skip ?_
    refine hK18 _ _ ?_
    refine wp_seq_k (fun K23 hK23 => ?_)
    refine wp_region_lit ?_
    refine seq_do hA rfl rfl rfl (d_assign rfl) fun a hA => ?_
    refine seq_end ?_
    refine hK23 _ _ ?_
    refine wp_seq_k (fun K24 hK24 => ?_)
    refine wp_seq_k (fun K25 hK25 => ?_)
    refine wp_region_lit ?_
    refine mv hA rfl rfl rfl fun a hA => ?_
    refine mv hA rfl rfl rfl fun a hA => ?_
    refine seq_do (v := .int .i64 (((p + 1 : Nat) : Int))) hA rfl rfl rfl (d_bin rfl rfl (fun w => (bin_add (i64In (by omega) (by omega)) w).trans (by rw [show (((p : Nat) : Int) + 1 : Int) = ((p + 1 : Nat) : Int) from by omega]))) fun a hA => ?_
    refine seq_do (v := .int .u8 (((btL l (p + 1) : Nat) : Int))) hA rfl rfl rfl (d_ixT (s := l) (i := p + 1) Tryz.underlying9 rfl rfl (by first | rfl | omega) (by first | omega | (simp only [List.length_drop, List.length_take]; omega))) fun a hA => ?_
    refine seq_end ?_
    refine hK25 _ _ ?_
    refine wp_block ?_
    refine wp_seq_k (fun K26 hK26 => ?_)
    refine wp_seq_k (fun K27 hK27 => ?_)
    refine wp_region_lit ?_
    rcases Bool.eq_false_or_eq_true ((((btL l (p + 1) : Nat) : Int) == 98)) with hb28 | hb28
    ·
     have hb28' := eq_of_beq hb28
     refine seq_do (v := .bool true) hA rfl rfl rfl (d_bin rfl rfl (fun w => (bin_eql w).trans (by rw [hb28]))) fun a hA => ?_
     refine seq_do hA rfl rfl rfl (d_assign rfl) fun a hA => ?_
     refine seq_end ?_
     refine hK27 _ _ ?_
     refine wp_cond_true (hA.ev rfl) ?_
     refine wp_skip ?_
     refine hK26 _ _ ?_
     refine wp_cond_true (hA.ev rfl) ?_
     refine wp_region_lit ?_
     refine seq_do hA rfl rfl rfl (d_assign rfl) fun a hA => ?_
     refine seq_end ?_
     refine hK24 _ _ ?_
     refine wp_seq_k (fun K29 hK29 => ?_)
     refine wp_seq_k (fun K30 hK30 => ?_)
     refine wp_region_lit ?_
     refine mv hA rfl rfl rfl fun a hA => ?_
     refine seq_do (v := .bool false) hA rfl rfl rfl (d_bin rfl rfl (fun w => by kernel_rfl)) fun a hA => ?_
     refine mv hA rfl rfl rfl fun a hA => ?_
     refine mv hA rfl rfl rfl fun a hA => ?_
     refine seq_do (v := .bool told) hA rfl rfl rfl (d_pick rfl rfl rfl rfl) fun a hA => ?_
     refine seq_end ?_
     refine hK30 _ _ ?_
     refine wp_cond_split (t := told) (hA.ev rfl) (fun hc31 => ?_) (fun hc31 => ?_)
     ·
      refine wp_seq_k (fun K32 hK32 => ?_)
      refine wp_region_lit ?_
      refine seq_do (v := .agg #[.bool false, .slice none 0 0, .slice none 0 0, .bool false, .slice none 0 0, .slice none 0 0]) hA rfl rfl rfl (d_build rfl (fun w => by kernel_rfl)) fun a hA => ?_
      refine seq_store (us := [.bool false, .slice none 0 0, .slice none 0 0, .bool false, .slice none 0 0, .slice none 0 0]) hA hS rfl rfl (sets_store rfl rfl rfl (by kernel_rfl) hS 0 rfl rfl rfl) 0 rfl rfl rfl rfl ?_
      intro w33 hS
      refine seq_do hA rfl rfl rfl (d_assign rfl) fun a hA => ?_
      refine seq_end ?_
      refine hK32 _ _ ?_
      refine wp_ret ?_
      refine hret _ _ ?_
      refine ends (v := .tuple #[.agg #[.bool false, .slice none 0 0, .slice none 0 0, .bool false, .slice none 0 0, .slice none 0 0], .int .i64 5]) hA rfl (.cons (res_cell hS RxG_isS_26 rfl 0 rfl (cs := [.bool false, .slice none 0 0, .slice none 0 0, .bool false, .slice none 0 0, .slice none 0 0]) rfl rfl) (.cons (res_tmp rfl) .nil)) rfl ?_
      have hm0 : btL (l.drop p) 0 = btL l p := by rw [btL_drop]; rfl
      have hm1 : btL (l.drop p) 1 = btL l (p + 1) := by rw [btL_drop]
      have hrd : radOf (btL (l.drop p) 1) = 2 := by rw [hm1]; unfold radOf; repeat (first | rfl | rw [if_pos (by omega)] | rw [if_neg (by omega)])
      have ePx : prfx false false r l = (l.drop p, k) := hinv13.1.symm.trans (prfx_stay (by rw [List.length_drop]; omega) (by omega) (Or.inr hc31) (Or.inl (by omega)))
      have hk : RadN k := by have h := prfx_rad hr false false l; rw [ePx] at h; exact h
      rw [readX_def hr ePx, if_neg (by rw [okP_hash hk (by omega)]; decide)]
      exact ⟨none, 0, none, 0, none, 0, none, 0, rfl, ⟨Sc.none _, Sc.none _, Sc.none _, Sc.none _⟩, hS.bel⟩
     ·
      refine wp_skip ?_
      refine hK29 _ _ ?_
      refine wp_seq_k (fun K34 hK34 => ?_)
      refine wp_region_lit ?_
      refine seq_do hA rfl rfl rfl (d_assign rfl) fun a hA => ?_
      refine seq_end ?_
      refine hK34 _ _ ?_
      refine wp_seq_k (fun K35 hK35 => ?_)
      refine wp_region_lit ?_
      refine mv hA rfl rfl rfl fun a hA => ?_
      refine seq_do hA rfl rfl rfl (d_assign rfl) fun a hA => ?_
      refine seq_end ?_
      refine hK35 _ _ ?_
      refine wp_region_lit ?_
      refine mv hA rfl rfl rfl fun a hA => ?_
      refine seq_do (v := .int .i64 (((p + 2 : Nat) : Int))) hA rfl rfl rfl (d_bin rfl rfl (fun w => (bin_add (i64In (by omega) (by omega)) w).trans (by rw [show (((p : Nat) : Int) + 2 : Int) = ((p + 2 : Nat) : Int) from by omega]))) fun a hA => ?_
      refine seq_do hA rfl rfl rfl (d_assign rfl) fun a hA => ?_
      refine seq_end ?_
      have hm0 : btL (l.drop p) 0 = btL l p := by rw [btL_drop]; rfl
      have hm1 : btL (l.drop p) 1 = btL l (p + 1) := by rw [btL_drop]
      have hd2 : (l.drop p).drop 2 = l.drop (p + 2) := by rw [List.drop_drop]
      have hrd : radOf (btL (l.drop p) 1) = 2 := by rw [hm1]; unfold radOf; repeat (first | rfl | rw [if_pos (by omega)] | rw [if_neg (by omega)])
      refine hK12 _ _ _ (by omega) ⟨p + 2, 2, true, ex, rfl, ⟨by have h9 := prfx_radix (told := told) (ex := ex) (k := k) (m := l.drop p) (by rw [List.length_drop]; omega) (by omega) (by omega) hc31; rw [hrd, hd2] at h9; exact h9.symm.trans hinv13.1, by omega⟩, hA.keep _ ⟨rfl, rfl, rfl, rfl, rfl, rfl, rfl, rfl, rfl, trivial⟩, hS⟩
    ·
     have hb28' := ne_of_beq_false hb28
     refine seq_do (v := .bool false) hA rfl rfl rfl (d_bin rfl rfl (fun w => (bin_eql w).trans (by rw [hb28]))) fun a hA => ?_
     refine seq_do hA rfl rfl rfl (d_assign rfl) fun a hA => ?_
     refine seq_end ?_
     refine hK27 _ _ ?_
     refine wp_cond_false (hA.ev rfl) ?_
     refine wp_region_lit ?_
     rcases Bool.eq_false_or_eq_true ((((btL l (p + 1) : Nat) : Int) == 66)) with hb36 | hb36
     ·
      have hb36' := eq_of_beq hb36
      refine seq_do (v := .bool true) hA rfl rfl rfl (d_bin rfl rfl (fun w => (bin_eql w).trans (by rw [hb36]))) fun a hA => ?_
      refine seq_do hA rfl rfl rfl (d_assign rfl) fun a hA => ?_
      refine seq_end ?_
      refine hK26 _ _ ?_
      refine wp_cond_true (hA.ev rfl) ?_
      refine wp_region_lit ?_
      refine seq_do hA rfl rfl rfl (d_assign rfl) fun a hA => ?_
      refine seq_end ?_
      refine hK24 _ _ ?_
      refine wp_seq_k (fun K37 hK37 => ?_)
      refine wp_seq_k (fun K38 hK38 => ?_)
      refine wp_region_lit ?_
      refine mv hA rfl rfl rfl fun a hA => ?_
      refine seq_do (v := .bool false) hA rfl rfl rfl (d_bin rfl rfl (fun w => by kernel_rfl)) fun a hA => ?_
      refine mv hA rfl rfl rfl fun a hA => ?_
      refine mv hA rfl rfl rfl fun a hA => ?_
      refine seq_do (v := .bool told) hA rfl rfl rfl (d_pick rfl rfl rfl rfl) fun a hA => ?_
      refine seq_end ?_
      refine hK38 _ _ ?_
      refine wp_cond_split (t := told) (hA.ev rfl) (fun hc39 => ?_) (fun hc39 => ?_)
      ·
       refine wp_seq_k (fun K40 hK40 => ?_)
       refine wp_region_lit ?_
       refine seq_do (v := .agg #[.bool false, .slice none 0 0, .slice none 0 0, .bool false, .slice none 0 0, .slice none 0 0]) hA rfl rfl rfl (d_build rfl (fun w => by kernel_rfl)) fun a hA => ?_
       refine seq_store (us := [.bool false, .slice none 0 0, .slice none 0 0, .bool false, .slice none 0 0, .slice none 0 0]) hA hS rfl rfl (sets_store rfl rfl rfl (by kernel_rfl) hS 0 rfl rfl rfl) 0 rfl rfl rfl rfl ?_
       intro w41 hS
       refine seq_do hA rfl rfl rfl (d_assign rfl) fun a hA => ?_
       refine seq_end ?_
       refine hK40 _ _ ?_
       refine wp_ret ?_
       refine hret _ _ ?_
       refine ends (v := .tuple #[.agg #[.bool false, .slice none 0 0, .slice none 0 0, .bool false, .slice none 0 0, .slice none 0 0], .int .i64 5]) hA rfl (.cons (res_cell hS RxG_isS_26 rfl 0 rfl (cs := [.bool false, .slice none 0 0, .slice none 0 0, .bool false, .slice none 0 0, .slice none 0 0]) rfl rfl) (.cons (res_tmp rfl) .nil)) rfl ?_
       have hm0 : btL (l.drop p) 0 = btL l p := by rw [btL_drop]; rfl
       have hm1 : btL (l.drop p) 1 = btL l (p + 1) := by rw [btL_drop]
       have hrd : radOf (btL (l.drop p) 1) = 2 := by rw [hm1]; unfold radOf; repeat (first | rfl | rw [if_pos (by omega)] | rw [if_neg (by omega)])
       have ePx : prfx false false r l = (l.drop p, k) := hinv13.1.symm.trans (prfx_stay (by rw [List.length_drop]; omega) (by omega) (Or.inr hc39) (Or.inl (by omega)))
       have hk : RadN k := by have h := prfx_rad hr false false l; rw [ePx] at h; exact h
       rw [readX_def hr ePx, if_neg (by rw [okP_hash hk (by omega)]; decide)]
       exact ⟨none, 0, none, 0, none, 0, none, 0, rfl, ⟨Sc.none _, Sc.none _, Sc.none _, Sc.none _⟩, hS.bel⟩
      ·
       refine wp_skip ?_
       refine hK37 _ _ ?_
       refine wp_seq_k (fun K42 hK42 => ?_)
       refine wp_region_lit ?_
       refine seq_do hA rfl rfl rfl (d_assign rfl) fun a hA => ?_
       refine seq_end ?_
       refine hK42 _ _ ?_
       refine wp_seq_k (fun K43 hK43 => ?_)
       refine wp_region_lit ?_
       refine mv hA rfl rfl rfl fun a hA => ?_
       refine seq_do hA rfl rfl rfl (d_assign rfl) fun a hA => ?_
       refine seq_end ?_
       refine hK43 _ _ ?_
       refine wp_region_lit ?_
       refine mv hA rfl rfl rfl fun a hA => ?_
       refine seq_do (v := .int .i64 (((p + 2 : Nat) : Int))) hA rfl rfl rfl (d_bin rfl rfl (fun w => (bin_add (i64In (by omega) (by omega)) w).trans (by rw [show (((p : Nat) : Int) + 2 : Int) = ((p + 2 : Nat) : Int) from by omega]))) fun a hA => ?_
       refine seq_do hA rfl rfl rfl (d_assign rfl) fun a hA => ?_
       refine seq_end ?_
       have hm0 : btL (l.drop p) 0 = btL l p := by rw [btL_drop]; rfl
       have hm1 : btL (l.drop p) 1 = btL l (p + 1) := by rw [btL_drop]
       have hd2 : (l.drop p).drop 2 = l.drop (p + 2) := by rw [List.drop_drop]
       have hrd : radOf (btL (l.drop p) 1) = 2 := by rw [hm1]; unfold radOf; repeat (first | rfl | rw [if_pos (by omega)] | rw [if_neg (by omega)])
       refine hK12 _ _ _ (by omega) ⟨p + 2, 2, true, ex, rfl, ⟨by have h9 := prfx_radix (told := told) (ex := ex) (k := k) (m := l.drop p) (by rw [List.length_drop]; omega) (by omega) (by omega) hc39; rw [hrd, hd2] at h9; exact h9.symm.trans hinv13.1, by omega⟩, hA.keep _ ⟨rfl, rfl, rfl, rfl, rfl, rfl, rfl, rfl, rfl, trivial⟩, hS⟩
     ·
      have hb36' := ne_of_beq_false hb36
      refine seq_do (v := .bool false) hA rfl rfl rfl (d_bin rfl rfl (fun w => (bin_eql w).trans (by rw [hb36]))) fun a hA => ?_
      refine seq_do hA rfl rfl rfl (d_assign rfl) fun a hA => ?_
      refine seq_end ?_
      refine hK26 _ _ ?_
      refine wp_cond_false (hA.ev rfl) ?_
      refine wp_seq_k (fun K44 hK44 => ?_)
      refine wp_seq_k (fun K45 hK45 => ?_)
      refine wp_region_lit ?_
      rcases Bool.eq_false_or_eq_true ((((btL l (p + 1) : Nat) : Int) == 111)) with hb46 | hb46
      ·
       have hb46' := eq_of_beq hb46
       refine seq_do (v := .bool true) hA rfl rfl rfl (d_bin rfl rfl (fun w => (bin_eql w).trans (by rw [hb46]))) fun a hA => ?_
       refine seq_do hA rfl rfl rfl (d_assign rfl) fun a hA => ?_
       refine seq_end ?_
       refine hK45 _ _ ?_
       refine wp_cond_true (hA.ev rfl) ?_
       refine wp_skip ?_
       refine hK44 _ _ ?_
       refine wp_cond_true (hA.ev rfl) ?_
       refine wp_region_lit ?_
       refine seq_do hA rfl rfl rfl (d_assign rfl) fun a hA => ?_
       refine seq_end ?_
       refine hK24 _ _ ?_
       refine wp_seq_k (fun K47 hK47 => ?_)
       refine wp_seq_k (fun K48 hK48 => ?_)
       refine wp_region_lit ?_
       refine mv hA rfl rfl rfl fun a hA => ?_
       refine seq_do (v := .bool false) hA rfl rfl rfl (d_bin rfl rfl (fun w => by kernel_rfl)) fun a hA => ?_
       refine mv hA rfl rfl rfl fun a hA => ?_
       refine mv hA rfl rfl rfl fun a hA => ?_
       refine seq_do (v := .bool told) hA rfl rfl rfl (d_pick rfl rfl rfl rfl) fun a hA => ?_
       refine seq_end ?_
       refine hK48 _ _ ?_
       refine wp_cond_split (t := told) (hA.ev rfl) (fun hc49 => ?_) (fun hc49 => ?_)
       ·
        refine wp_seq_k (fun K50 hK50 => ?_)
        refine wp_region_lit ?_
        refine seq_do (v := .agg #[.bool false, .slice none 0 0, .slice none 0 0, .bool false, .slice none 0 0, .slice none 0 0]) hA rfl rfl rfl (d_build rfl (fun w => by kernel_rfl)) fun a hA => ?_
        refine seq_store (us := [.bool false, .slice none 0 0, .slice none 0 0, .bool false, .slice none 0 0, .slice none 0 0]) hA hS rfl rfl (sets_store rfl rfl rfl (by kernel_rfl) hS 0 rfl rfl rfl) 0 rfl rfl rfl rfl ?_
        intro w51 hS
        refine seq_do hA rfl rfl rfl (d_assign rfl) fun a hA => ?_
        refine seq_end ?_
        refine hK50 _ _ ?_
        refine wp_ret ?_
        refine hret _ _ ?_
        refine ends (v := .tuple #[.agg #[.bool false, .slice none 0 0, .slice none 0 0, .bool false, .slice none 0 0, .slice none 0 0], .int .i64 5]) hA rfl (.cons (res_cell hS RxG_isS_26 rfl 0 rfl (cs := [.bool false, .slice none 0 0, .slice none 0 0, .bool false, .slice none 0 0, .slice none 0 0]) rfl rfl) (.cons (res_tmp rfl) .nil)) rfl ?_
        have hm0 : btL (l.drop p) 0 = btL l p := by rw [btL_drop]; rfl
        have hm1 : btL (l.drop p) 1 = btL l (p + 1) := by rw [btL_drop]
        have hrd : radOf (btL (l.drop p) 1) = 8 := by rw [hm1]; unfold radOf; repeat (first | rfl | rw [if_pos (by omega)] | rw [if_neg (by omega)])
        have ePx : prfx false false r l = (l.drop p, k) := hinv13.1.symm.trans (prfx_stay (by rw [List.length_drop]; omega) (by omega) (Or.inr hc49) (Or.inl (by omega)))
        have hk : RadN k := by have h := prfx_rad hr false false l; rw [ePx] at h; exact h
        rw [readX_def hr ePx, if_neg (by rw [okP_hash hk (by omega)]; decide)]
        exact ⟨none, 0, none, 0, none, 0, none, 0, rfl, ⟨Sc.none _, Sc.none _, Sc.none _, Sc.none _⟩, hS.bel⟩
       ·
        refine wp_skip ?_
        refine hK47 _ _ ?_
        refine wp_seq_k (fun K52 hK52 => ?_)
        refine wp_region_lit ?_
        refine seq_do hA rfl rfl rfl (d_assign rfl) fun a hA => ?_
        refine seq_end ?_
        refine hK52 _ _ ?_
        refine wp_seq_k (fun K53 hK53 => ?_)
        refine wp_region_lit ?_
        refine mv hA rfl rfl rfl fun a hA => ?_
        refine seq_do hA rfl rfl rfl (d_assign rfl) fun a hA => ?_
        refine seq_end ?_
        refine hK53 _ _ ?_
        refine wp_region_lit ?_
        refine mv hA rfl rfl rfl fun a hA => ?_
        refine seq_do (v := .int .i64 (((p + 2 : Nat) : Int))) hA rfl rfl rfl (d_bin rfl rfl (fun w => (bin_add (i64In (by omega) (by omega)) w).trans (by rw [show (((p : Nat) : Int) + 2 : Int) = ((p + 2 : Nat) : Int) from by omega]))) fun a hA => ?_
        refine seq_do hA rfl rfl rfl (d_assign rfl) fun a hA => ?_
        refine seq_end ?_
        have hm0 : btL (l.drop p) 0 = btL l p := by rw [btL_drop]; rfl
        have hm1 : btL (l.drop p) 1 = btL l (p + 1) := by rw [btL_drop]
        have hd2 : (l.drop p).drop 2 = l.drop (p + 2) := by rw [List.drop_drop]
        have hrd : radOf (btL (l.drop p) 1) = 8 := by rw [hm1]; unfold radOf; repeat (first | rfl | rw [if_pos (by omega)] | rw [if_neg (by omega)])
        refine hK12 _ _ _ (by omega) ⟨p + 2, 8, true, ex, rfl, ⟨by have h9 := prfx_radix (told := told) (ex := ex) (k := k) (m := l.drop p) (by rw [List.length_drop]; omega) (by omega) (by omega) hc49; rw [hrd, hd2] at h9; exact h9.symm.trans hinv13.1, by omega⟩, hA.keep _ ⟨rfl, rfl, rfl, rfl, rfl, rfl, rfl, rfl, rfl, trivial⟩, hS⟩
      ·
       have hb46' := ne_of_beq_false hb46
       refine seq_do (v := .bool false) hA rfl rfl rfl (d_bin rfl rfl (fun w => (bin_eql w).trans (by rw [hb46]))) fun a hA => ?_
       refine seq_do hA rfl rfl rfl (d_assign rfl) fun a hA => ?_
       refine seq_end ?_
       refine hK45 _ _ ?_
       refine wp_cond_false (hA.ev rfl) ?_
       refine wp_region_lit ?_
       rcases Bool.eq_false_or_eq_true ((((btL l (p + 1) : Nat) : Int) == 79)) with hb54 | hb54
       ·
        have hb54' := eq_of_beq hb54
        refine seq_do (v := .bool true) hA rfl rfl rfl (d_bin rfl rfl (fun w => (bin_eql w).trans (by rw [hb54]))) fun a hA => ?_
        refine seq_do hA rfl rfl rfl (d_assign rfl) fun a hA => ?_
        refine seq_end ?_
        refine hK44 _ _ ?_
        refine wp_cond_true (hA.ev rfl) ?_
        refine wp_region_lit ?_
        refine seq_do hA rfl rfl rfl (d_assign rfl) fun a hA => ?_
        refine seq_end ?_
        refine hK24 _ _ ?_
        refine wp_seq_k (fun K55 hK55 => ?_)
        refine wp_seq_k (fun K56 hK56 => ?_)
        refine wp_region_lit ?_
        refine mv hA rfl rfl rfl fun a hA => ?_
        refine seq_do (v := .bool false) hA rfl rfl rfl (d_bin rfl rfl (fun w => by kernel_rfl)) fun a hA => ?_
        refine mv hA rfl rfl rfl fun a hA => ?_
        refine mv hA rfl rfl rfl fun a hA => ?_
        refine seq_do (v := .bool told) hA rfl rfl rfl (d_pick rfl rfl rfl rfl) fun a hA => ?_
        refine seq_end ?_
        refine hK56 _ _ ?_
        refine wp_cond_split (t := told) (hA.ev rfl) (fun hc57 => ?_) (fun hc57 => ?_)
        ·
         refine wp_seq_k (fun K58 hK58 => ?_)
         refine wp_region_lit ?_
         refine seq_do (v := .agg #[.bool false, .slice none 0 0, .slice none 0 0, .bool false, .slice none 0 0, .slice none 0 0]) hA rfl rfl rfl (d_build rfl (fun w => by kernel_rfl)) fun a hA => ?_
         refine seq_store (us := [.bool false, .slice none 0 0, .slice none 0 0, .bool false, .slice none 0 0, .slice none 0 0]) hA hS rfl rfl (sets_store rfl rfl rfl (by kernel_rfl) hS 0 rfl rfl rfl) 0 rfl rfl rfl rfl ?_
         intro w59 hS
         refine seq_do hA rfl rfl rfl (d_assign rfl) fun a hA => ?_
         refine seq_end ?_
         refine hK58 _ _ ?_
         refine wp_ret ?_
         refine hret _ _ ?_
         refine ends (v := .tuple #[.agg #[.bool false, .slice none 0 0, .slice none 0 0, .bool false, .slice none 0 0, .slice none 0 0], .int .i64 5]) hA rfl (.cons (res_cell hS RxG_isS_26 rfl 0 rfl (cs := [.bool false, .slice none 0 0, .slice none 0 0, .bool false, .slice none 0 0, .slice none 0 0]) rfl rfl) (.cons (res_tmp rfl) .nil)) rfl ?_
         have hm0 : btL (l.drop p) 0 = btL l p := by rw [btL_drop]; rfl
         have hm1 : btL (l.drop p) 1 = btL l (p + 1) := by rw [btL_drop]
         have hrd : radOf (btL (l.drop p) 1) = 8 := by rw [hm1]; unfold radOf; repeat (first | rfl | rw [if_pos (by omega)] | rw [if_neg (by omega)])
         have ePx : prfx false false r l = (l.drop p, k) := hinv13.1.symm.trans (prfx_stay (by rw [List.length_drop]; omega) (by omega) (Or.inr hc57) (Or.inl (by omega)))
         have hk : RadN k := by have h := prfx_rad hr false false l; rw [ePx] at h; exact h
         rw [readX_def hr ePx, if_neg (by rw [okP_hash hk (by omega)]; decide)]
         exact ⟨none, 0, none, 0, none, 0, none, 0, rfl, ⟨Sc.none _, Sc.none _, Sc.none _, Sc.none _⟩, hS.bel⟩
        ·
         refine wp_skip ?_
         refine hK55 _ _ ?_
         refine wp_seq_k (fun K60 hK60 => ?_)
         refine wp_region_lit ?_
         refine seq_do hA rfl rfl rfl (d_assign rfl) fun a hA => ?_
         refine seq_end ?_
         refine hK60 _ _ ?_
         refine wp_seq_k (fun K61 hK61 => ?_)
         refine wp_region_lit ?_
         refine mv hA rfl rfl rfl fun a hA => ?_
         refine seq_do hA rfl rfl rfl (d_assign rfl) fun a hA => ?_
         refine seq_end ?_
         refine hK61 _ _ ?_
         refine wp_region_lit ?_
         refine mv hA rfl rfl rfl fun a hA => ?_
         refine seq_do (v := .int .i64 (((p + 2 : Nat) : Int))) hA rfl rfl rfl (d_bin rfl rfl (fun w => (bin_add (i64In (by omega) (by omega)) w).trans (by rw [show (((p : Nat) : Int) + 2 : Int) = ((p + 2 : Nat) : Int) from by omega]))) fun a hA => ?_
         refine seq_do hA rfl rfl rfl (d_assign rfl) fun a hA => ?_
         refine seq_end ?_
         have hm0 : btL (l.drop p) 0 = btL l p := by rw [btL_drop]; rfl
         have hm1 : btL (l.drop p) 1 = btL l (p + 1) := by rw [btL_drop]
         have hd2 : (l.drop p).drop 2 = l.drop (p + 2) := by rw [List.drop_drop]
         have hrd : radOf (btL (l.drop p) 1) = 8 := by rw [hm1]; unfold radOf; repeat (first | rfl | rw [if_pos (by omega)] | rw [if_neg (by omega)])
         refine hK12 _ _ _ (by omega) ⟨p + 2, 8, true, ex, rfl, ⟨by have h9 := prfx_radix (told := told) (ex := ex) (k := k) (m := l.drop p) (by rw [List.length_drop]; omega) (by omega) (by omega) hc57; rw [hrd, hd2] at h9; exact h9.symm.trans hinv13.1, by omega⟩, hA.keep _ ⟨rfl, rfl, rfl, rfl, rfl, rfl, rfl, rfl, rfl, trivial⟩, hS⟩
       ·
        have hb54' := ne_of_beq_false hb54
        refine seq_do (v := .bool false) hA rfl rfl rfl (d_bin rfl rfl (fun w => (bin_eql w).trans (by rw [hb54]))) fun a hA => ?_
        refine seq_do hA rfl rfl rfl (d_assign rfl) fun a hA => ?_
        refine seq_end ?_
        refine hK44 _ _ ?_
        refine wp_cond_false (hA.ev rfl) ?_
        refine wp_seq_k (fun K62 hK62 => ?_)
        refine wp_seq_k (fun K63 hK63 => ?_)
        refine wp_region_lit ?_
        rcases Bool.eq_false_or_eq_true ((((btL l (p + 1) : Nat) : Int) == 100)) with hb64 | hb64
        ·
         have hb64' := eq_of_beq hb64
         refine seq_do (v := .bool true) hA rfl rfl rfl (d_bin rfl rfl (fun w => (bin_eql w).trans (by rw [hb64]))) fun a hA => ?_
         refine seq_do hA rfl rfl rfl (d_assign rfl) fun a hA => ?_
         refine seq_end ?_
         refine hK63 _ _ ?_
         refine wp_cond_true (hA.ev rfl) ?_
         refine wp_skip ?_
         refine hK62 _ _ ?_
         refine wp_cond_true (hA.ev rfl) ?_
         refine wp_region_lit ?_
         refine seq_do hA rfl rfl rfl (d_assign rfl) fun a hA => ?_
         refine seq_end ?_
         refine hK24 _ _ ?_
         refine wp_seq_k (fun K65 hK65 => ?_)
         refine wp_seq_k (fun K66 hK66 => ?_)
         refine wp_region_lit ?_
         refine mv hA rfl rfl rfl fun a hA => ?_
         refine seq_do (v := .bool false) hA rfl rfl rfl (d_bin rfl rfl (fun w => by kernel_rfl)) fun a hA => ?_
         refine mv hA rfl rfl rfl fun a hA => ?_
         refine mv hA rfl rfl rfl fun a hA => ?_
         refine seq_do (v := .bool told) hA rfl rfl rfl (d_pick rfl rfl rfl rfl) fun a hA => ?_
         refine seq_end ?_
         refine hK66 _ _ ?_
         refine wp_cond_split (t := told) (hA.ev rfl) (fun hc67 => ?_) (fun hc67 => ?_)
         ·
          refine wp_seq_k (fun K68 hK68 => ?_)
          refine wp_region_lit ?_
          refine seq_do (v := .agg #[.bool false, .slice none 0 0, .slice none 0 0, .bool false, .slice none 0 0, .slice none 0 0]) hA rfl rfl rfl (d_build rfl (fun w => by kernel_rfl)) fun a hA => ?_
          refine seq_store (us := [.bool false, .slice none 0 0, .slice none 0 0, .bool false, .slice none 0 0, .slice none 0 0]) hA hS rfl rfl (sets_store rfl rfl rfl (by kernel_rfl) hS 0 rfl rfl rfl) 0 rfl rfl rfl rfl ?_
          intro w69 hS
          refine seq_do hA rfl rfl rfl (d_assign rfl) fun a hA => ?_
          refine seq_end ?_
          refine hK68 _ _ ?_
          refine wp_ret ?_
          refine hret _ _ ?_
          refine ends (v := .tuple #[.agg #[.bool false, .slice none 0 0, .slice none 0 0, .bool false, .slice none 0 0, .slice none 0 0], .int .i64 5]) hA rfl (.cons (res_cell hS RxG_isS_26 rfl 0 rfl (cs := [.bool false, .slice none 0 0, .slice none 0 0, .bool false, .slice none 0 0, .slice none 0 0]) rfl rfl) (.cons (res_tmp rfl) .nil)) rfl ?_
          have hm0 : btL (l.drop p) 0 = btL l p := by rw [btL_drop]; rfl
          have hm1 : btL (l.drop p) 1 = btL l (p + 1) := by rw [btL_drop]
          have hrd : radOf (btL (l.drop p) 1) = 10 := by rw [hm1]; unfold radOf; repeat (first | rfl | rw [if_pos (by omega)] | rw [if_neg (by omega)])
          have ePx : prfx false false r l = (l.drop p, k) := hinv13.1.symm.trans (prfx_stay (by rw [List.length_drop]; omega) (by omega) (Or.inr hc67) (Or.inl (by omega)))
          have hk : RadN k := by have h := prfx_rad hr false false l; rw [ePx] at h; exact h
          rw [readX_def hr ePx, if_neg (by rw [okP_hash hk (by omega)]; decide)]
          exact ⟨none, 0, none, 0, none, 0, none, 0, rfl, ⟨Sc.none _, Sc.none _, Sc.none _, Sc.none _⟩, hS.bel⟩
         ·
          refine wp_skip ?_
          refine hK65 _ _ ?_
          refine wp_seq_k (fun K70 hK70 => ?_)
          refine wp_region_lit ?_
          refine seq_do hA rfl rfl rfl (d_assign rfl) fun a hA => ?_
          refine seq_end ?_
          refine hK70 _ _ ?_
          refine wp_seq_k (fun K71 hK71 => ?_)
          refine wp_region_lit ?_
          refine mv hA rfl rfl rfl fun a hA => ?_
          refine seq_do hA rfl rfl rfl (d_assign rfl) fun a hA => ?_
          refine seq_end ?_
          refine hK71 _ _ ?_
          refine wp_region_lit ?_
          refine mv hA rfl rfl rfl fun a hA => ?_
          refine seq_do (v := .int .i64 (((p + 2 : Nat) : Int))) hA rfl rfl rfl (d_bin rfl rfl (fun w => (bin_add (i64In (by omega) (by omega)) w).trans (by rw [show (((p : Nat) : Int) + 2 : Int) = ((p + 2 : Nat) : Int) from by omega]))) fun a hA => ?_
          refine seq_do hA rfl rfl rfl (d_assign rfl) fun a hA => ?_
          refine seq_end ?_
          have hm0 : btL (l.drop p) 0 = btL l p := by rw [btL_drop]; rfl
          have hm1 : btL (l.drop p) 1 = btL l (p + 1) := by rw [btL_drop]
          have hd2 : (l.drop p).drop 2 = l.drop (p + 2) := by rw [List.drop_drop]
          have hrd : radOf (btL (l.drop p) 1) = 10 := by rw [hm1]; unfold radOf; repeat (first | rfl | rw [if_pos (by omega)] | rw [if_neg (by omega)])
          refine hK12 _ _ _ (by omega) ⟨p + 2, 10, true, ex, rfl, ⟨by have h9 := prfx_radix (told := told) (ex := ex) (k := k) (m := l.drop p) (by rw [List.length_drop]; omega) (by omega) (by omega) hc67; rw [hrd, hd2] at h9; exact h9.symm.trans hinv13.1, by omega⟩, hA.keep _ ⟨rfl, rfl, rfl, rfl, rfl, rfl, rfl, rfl, rfl, trivial⟩, hS⟩
        ·
         have hb64' := ne_of_beq_false hb64
         refine seq_do (v := .bool false) hA rfl rfl rfl (d_bin rfl rfl (fun w => (bin_eql w).trans (by rw [hb64]))) fun a hA => ?_
         refine seq_do hA rfl rfl rfl (d_assign rfl) fun a hA => ?_
         refine seq_end ?_
         refine hK63 _ _ ?_
         refine wp_cond_false (hA.ev rfl) ?_
         refine wp_region_lit ?_
         rcases Bool.eq_false_or_eq_true ((((btL l (p + 1) : Nat) : Int) == 68)) with hb72 | hb72
         ·
          have hb72' := eq_of_beq hb72
          refine seq_do (v := .bool true) hA rfl rfl rfl (d_bin rfl rfl (fun w => (bin_eql w).trans (by rw [hb72]))) fun a hA => ?_
          refine seq_do hA rfl rfl rfl (d_assign rfl) fun a hA => ?_
          refine seq_end ?_
          refine hK62 _ _ ?_
          refine wp_cond_true (hA.ev rfl) ?_
          refine wp_region_lit ?_
          refine seq_do hA rfl rfl rfl (d_assign rfl) fun a hA => ?_
          refine seq_end ?_
          refine hK24 _ _ ?_
          refine wp_seq_k (fun K73 hK73 => ?_)
          refine wp_seq_k (fun K74 hK74 => ?_)
          refine wp_region_lit ?_
          refine mv hA rfl rfl rfl fun a hA => ?_
          refine seq_do (v := .bool false) hA rfl rfl rfl (d_bin rfl rfl (fun w => by kernel_rfl)) fun a hA => ?_
          refine mv hA rfl rfl rfl fun a hA => ?_
          refine mv hA rfl rfl rfl fun a hA => ?_
          refine seq_do (v := .bool told) hA rfl rfl rfl (d_pick rfl rfl rfl rfl) fun a hA => ?_
          refine seq_end ?_
          refine hK74 _ _ ?_
          refine wp_cond_split (t := told) (hA.ev rfl) (fun hc75 => ?_) (fun hc75 => ?_)
          ·
           refine wp_seq_k (fun K76 hK76 => ?_)
           refine wp_region_lit ?_
           refine seq_do (v := .agg #[.bool false, .slice none 0 0, .slice none 0 0, .bool false, .slice none 0 0, .slice none 0 0]) hA rfl rfl rfl (d_build rfl (fun w => by kernel_rfl)) fun a hA => ?_
           refine seq_store (us := [.bool false, .slice none 0 0, .slice none 0 0, .bool false, .slice none 0 0, .slice none 0 0]) hA hS rfl rfl (sets_store rfl rfl rfl (by kernel_rfl) hS 0 rfl rfl rfl) 0 rfl rfl rfl rfl ?_
           intro w77 hS
           refine seq_do hA rfl rfl rfl (d_assign rfl) fun a hA => ?_
           refine seq_end ?_
           refine hK76 _ _ ?_
           refine wp_ret ?_
           refine hret _ _ ?_
           refine ends (v := .tuple #[.agg #[.bool false, .slice none 0 0, .slice none 0 0, .bool false, .slice none 0 0, .slice none 0 0], .int .i64 5]) hA rfl (.cons (res_cell hS RxG_isS_26 rfl 0 rfl (cs := [.bool false, .slice none 0 0, .slice none 0 0, .bool false, .slice none 0 0, .slice none 0 0]) rfl rfl) (.cons (res_tmp rfl) .nil)) rfl ?_
           have hm0 : btL (l.drop p) 0 = btL l p := by rw [btL_drop]; rfl
           have hm1 : btL (l.drop p) 1 = btL l (p + 1) := by rw [btL_drop]
           have hrd : radOf (btL (l.drop p) 1) = 10 := by rw [hm1]; unfold radOf; repeat (first | rfl | rw [if_pos (by omega)] | rw [if_neg (by omega)])
           have ePx : prfx false false r l = (l.drop p, k) := hinv13.1.symm.trans (prfx_stay (by rw [List.length_drop]; omega) (by omega) (Or.inr hc75) (Or.inl (by omega)))
           have hk : RadN k := by have h := prfx_rad hr false false l; rw [ePx] at h; exact h
           rw [readX_def hr ePx, if_neg (by rw [okP_hash hk (by omega)]; decide)]
           exact ⟨none, 0, none, 0, none, 0, none, 0, rfl, ⟨Sc.none _, Sc.none _, Sc.none _, Sc.none _⟩, hS.bel⟩
          ·
           refine wp_skip ?_
           refine hK73 _ _ ?_
           refine wp_seq_k (fun K78 hK78 => ?_)
           refine wp_region_lit ?_
           refine seq_do hA rfl rfl rfl (d_assign rfl) fun a hA => ?_
           refine seq_end ?_
           refine hK78 _ _ ?_
           refine wp_seq_k (fun K79 hK79 => ?_)
           refine wp_region_lit ?_
           refine mv hA rfl rfl rfl fun a hA => ?_
           refine seq_do hA rfl rfl rfl (d_assign rfl) fun a hA => ?_
           refine seq_end ?_
           refine hK79 _ _ ?_
           refine wp_region_lit ?_
           refine mv hA rfl rfl rfl fun a hA => ?_
           refine seq_do (v := .int .i64 (((p + 2 : Nat) : Int))) hA rfl rfl rfl (d_bin rfl rfl (fun w => (bin_add (i64In (by omega) (by omega)) w).trans (by rw [show (((p : Nat) : Int) + 2 : Int) = ((p + 2 : Nat) : Int) from by omega]))) fun a hA => ?_
           refine seq_do hA rfl rfl rfl (d_assign rfl) fun a hA => ?_
           refine seq_end ?_
           have hm0 : btL (l.drop p) 0 = btL l p := by rw [btL_drop]; rfl
           have hm1 : btL (l.drop p) 1 = btL l (p + 1) := by rw [btL_drop]
           have hd2 : (l.drop p).drop 2 = l.drop (p + 2) := by rw [List.drop_drop]
           have hrd : radOf (btL (l.drop p) 1) = 10 := by rw [hm1]; unfold radOf; repeat (first | rfl | rw [if_pos (by omega)] | rw [if_neg (by omega)])
           refine hK12 _ _ _ (by omega) ⟨p + 2, 10, true, ex, rfl, ⟨by have h9 := prfx_radix (told := told) (ex := ex) (k := k) (m := l.drop p) (by rw [List.length_drop]; omega) (by omega) (by omega) hc75; rw [hrd, hd2] at h9; exact h9.symm.trans hinv13.1, by omega⟩, hA.keep _ ⟨rfl, rfl, rfl, rfl, rfl, rfl, rfl, rfl, rfl, trivial⟩, hS⟩
         ·
          have hb72' := ne_of_beq_false hb72
          refine seq_do (v := .bool false) hA rfl rfl rfl (d_bin rfl rfl (fun w => (bin_eql w).trans (by rw [hb72]))) fun a hA => ?_
          refine seq_do hA rfl rfl rfl (d_assign rfl) fun a hA => ?_
          refine seq_end ?_
          refine hK62 _ _ ?_
          refine wp_cond_false (hA.ev rfl) ?_
          refine wp_seq_k (fun K80 hK80 => ?_)
          refine wp_seq_k (fun K81 hK81 => ?_)
          refine wp_region_lit ?_
          rcases Bool.eq_false_or_eq_true ((((btL l (p + 1) : Nat) : Int) == 120)) with hb82 | hb82
          ·
           have hb82' := eq_of_beq hb82
           refine seq_do (v := .bool true) hA rfl rfl rfl (d_bin rfl rfl (fun w => (bin_eql w).trans (by rw [hb82]))) fun a hA => ?_
           refine seq_do hA rfl rfl rfl (d_assign rfl) fun a hA => ?_
           refine seq_end ?_
           refine hK81 _ _ ?_
           refine wp_cond_true (hA.ev rfl) ?_
           refine wp_skip ?_
           refine hK80 _ _ ?_
           refine wp_cond_true (hA.ev rfl) ?_
           refine wp_region_lit ?_
           refine seq_do hA rfl rfl rfl (d_assign rfl) fun a hA => ?_
           refine seq_end ?_
           refine hK24 _ _ ?_
           refine wp_seq_k (fun K83 hK83 => ?_)
           refine wp_seq_k (fun K84 hK84 => ?_)
           refine wp_region_lit ?_
           refine mv hA rfl rfl rfl fun a hA => ?_
           refine seq_do (v := .bool false) hA rfl rfl rfl (d_bin rfl rfl (fun w => by kernel_rfl)) fun a hA => ?_
           refine mv hA rfl rfl rfl fun a hA => ?_
           refine mv hA rfl rfl rfl fun a hA => ?_
           refine seq_do (v := .bool told) hA rfl rfl rfl (d_pick rfl rfl rfl rfl) fun a hA => ?_
           refine seq_end ?_
           refine hK84 _ _ ?_
           refine wp_cond_split (t := told) (hA.ev rfl) (fun hc85 => ?_) (fun hc85 => ?_)
           ·
            refine wp_seq_k (fun K86 hK86 => ?_)
            refine wp_region_lit ?_
            refine seq_do (v := .agg #[.bool false, .slice none 0 0, .slice none 0 0, .bool false, .slice none 0 0, .slice none 0 0]) hA rfl rfl rfl (d_build rfl (fun w => by kernel_rfl)) fun a hA => ?_
            refine seq_store (us := [.bool false, .slice none 0 0, .slice none 0 0, .bool false, .slice none 0 0, .slice none 0 0]) hA hS rfl rfl (sets_store rfl rfl rfl (by kernel_rfl) hS 0 rfl rfl rfl) 0 rfl rfl rfl rfl ?_
            intro w87 hS
            refine seq_do hA rfl rfl rfl (d_assign rfl) fun a hA => ?_
            refine seq_end ?_
            refine hK86 _ _ ?_
            refine wp_ret ?_
            refine hret _ _ ?_
            refine ends (v := .tuple #[.agg #[.bool false, .slice none 0 0, .slice none 0 0, .bool false, .slice none 0 0, .slice none 0 0], .int .i64 5]) hA rfl (.cons (res_cell hS RxG_isS_26 rfl 0 rfl (cs := [.bool false, .slice none 0 0, .slice none 0 0, .bool false, .slice none 0 0, .slice none 0 0]) rfl rfl) (.cons (res_tmp rfl) .nil)) rfl ?_
            have hm0 : btL (l.drop p) 0 = btL l p := by rw [btL_drop]; rfl
            have hm1 : btL (l.drop p) 1 = btL l (p + 1) := by rw [btL_drop]
            have hrd : radOf (btL (l.drop p) 1) = 16 := by rw [hm1]; unfold radOf; repeat (first | rfl | rw [if_pos (by omega)] | rw [if_neg (by omega)])
            have ePx : prfx false false r l = (l.drop p, k) := hinv13.1.symm.trans (prfx_stay (by rw [List.length_drop]; omega) (by omega) (Or.inr hc85) (Or.inl (by omega)))
            have hk : RadN k := by have h := prfx_rad hr false false l; rw [ePx] at h; exact h
            rw [readX_def hr ePx, if_neg (by rw [okP_hash hk (by omega)]; decide)]
            exact ⟨none, 0, none, 0, none, 0, none, 0, rfl, ⟨Sc.none _, Sc.none _, Sc.none _, Sc.none _⟩, hS.bel⟩
           ·
            refine wp_skip ?_
            refine hK83 _ _ ?_
            refine wp_seq_k (fun K88 hK88 => ?_)
            refine wp_region_lit ?_
            refine seq_do hA rfl rfl rfl (d_assign rfl) fun a hA => ?_
            refine seq_end ?_
            refine hK88 _ _ ?_
            refine wp_seq_k (fun K89 hK89 => ?_)
            refine wp_region_lit ?_
            refine mv hA rfl rfl rfl fun a hA => ?_
            refine seq_do hA rfl rfl rfl (d_assign rfl) fun a hA => ?_
            refine seq_end ?_
            refine hK89 _ _ ?_
            refine wp_region_lit ?_
            refine mv hA rfl rfl rfl fun a hA => ?_
            refine seq_do (v := .int .i64 (((p + 2 : Nat) : Int))) hA rfl rfl rfl (d_bin rfl rfl (fun w => (bin_add (i64In (by omega) (by omega)) w).trans (by rw [show (((p : Nat) : Int) + 2 : Int) = ((p + 2 : Nat) : Int) from by omega]))) fun a hA => ?_
            refine seq_do hA rfl rfl rfl (d_assign rfl) fun a hA => ?_
            refine seq_end ?_
            have hm0 : btL (l.drop p) 0 = btL l p := by rw [btL_drop]; rfl
            have hm1 : btL (l.drop p) 1 = btL l (p + 1) := by rw [btL_drop]
            have hd2 : (l.drop p).drop 2 = l.drop (p + 2) := by rw [List.drop_drop]
            have hrd : radOf (btL (l.drop p) 1) = 16 := by rw [hm1]; unfold radOf; repeat (first | rfl | rw [if_pos (by omega)] | rw [if_neg (by omega)])
            refine hK12 _ _ _ (by omega) ⟨p + 2, 16, true, ex, rfl, ⟨by have h9 := prfx_radix (told := told) (ex := ex) (k := k) (m := l.drop p) (by rw [List.length_drop]; omega) (by omega) (by omega) hc85; rw [hrd, hd2] at h9; exact h9.symm.trans hinv13.1, by omega⟩, hA.keep _ ⟨rfl, rfl, rfl, rfl, rfl, rfl, rfl, rfl, rfl, trivial⟩, hS⟩
          ·
           have hb82' := ne_of_beq_false hb82
           refine seq_do (v := .bool false) hA rfl rfl rfl (d_bin rfl rfl (fun w => (bin_eql w).trans (by rw [hb82]))) fun a hA => ?_
           refine seq_do hA rfl rfl rfl (d_assign rfl) fun a hA => ?_
           refine seq_end ?_
           refine hK81 _ _ ?_
           refine wp_cond_false (hA.ev rfl) ?_
           refine wp_region_lit ?_
           rcases Bool.eq_false_or_eq_true ((((btL l (p + 1) : Nat) : Int) == 88)) with hb90 | hb90
           ·
            have hb90' := eq_of_beq hb90
            refine seq_do (v := .bool true) hA rfl rfl rfl (d_bin rfl rfl (fun w => (bin_eql w).trans (by rw [hb90]))) fun a hA => ?_
            refine seq_do hA rfl rfl rfl (d_assign rfl) fun a hA => ?_
            refine seq_end ?_
            refine hK80 _ _ ?_
            refine wp_cond_true (hA.ev rfl) ?_
            refine wp_region_lit ?_
            refine seq_do hA rfl rfl rfl (d_assign rfl) fun a hA => ?_
            refine seq_end ?_
            refine hK24 _ _ ?_
            refine wp_seq_k (fun K91 hK91 => ?_)
            refine wp_seq_k (fun K92 hK92 => ?_)
            refine wp_region_lit ?_
            refine mv hA rfl rfl rfl fun a hA => ?_
            refine seq_do (v := .bool false) hA rfl rfl rfl (d_bin rfl rfl (fun w => by kernel_rfl)) fun a hA => ?_
            refine mv hA rfl rfl rfl fun a hA => ?_
            refine mv hA rfl rfl rfl fun a hA => ?_
            refine seq_do (v := .bool told) hA rfl rfl rfl (d_pick rfl rfl rfl rfl) fun a hA => ?_
            refine seq_end ?_
            refine hK92 _ _ ?_
            refine wp_cond_split (t := told) (hA.ev rfl) (fun hc93 => ?_) (fun hc93 => ?_)
            ·
             refine wp_seq_k (fun K94 hK94 => ?_)
             refine wp_region_lit ?_
             refine seq_do (v := .agg #[.bool false, .slice none 0 0, .slice none 0 0, .bool false, .slice none 0 0, .slice none 0 0]) hA rfl rfl rfl (d_build rfl (fun w => by kernel_rfl)) fun a hA => ?_
             refine seq_store (us := [.bool false, .slice none 0 0, .slice none 0 0, .bool false, .slice none 0 0, .slice none 0 0]) hA hS rfl rfl (sets_store rfl rfl rfl (by kernel_rfl) hS 0 rfl rfl rfl) 0 rfl rfl rfl rfl ?_
             intro w95 hS
             refine seq_do hA rfl rfl rfl (d_assign rfl) fun a hA => ?_
             refine seq_end ?_
             refine hK94 _ _ ?_
             refine wp_ret ?_
             refine hret _ _ ?_
             refine ends (v := .tuple #[.agg #[.bool false, .slice none 0 0, .slice none 0 0, .bool false, .slice none 0 0, .slice none 0 0], .int .i64 5]) hA rfl (.cons (res_cell hS RxG_isS_26 rfl 0 rfl (cs := [.bool false, .slice none 0 0, .slice none 0 0, .bool false, .slice none 0 0, .slice none 0 0]) rfl rfl) (.cons (res_tmp rfl) .nil)) rfl ?_
             have hm0 : btL (l.drop p) 0 = btL l p := by rw [btL_drop]; rfl
             have hm1 : btL (l.drop p) 1 = btL l (p + 1) := by rw [btL_drop]
             have hrd : radOf (btL (l.drop p) 1) = 16 := by rw [hm1]; unfold radOf; repeat (first | rfl | rw [if_pos (by omega)] | rw [if_neg (by omega)])
             have ePx : prfx false false r l = (l.drop p, k) := hinv13.1.symm.trans (prfx_stay (by rw [List.length_drop]; omega) (by omega) (Or.inr hc93) (Or.inl (by omega)))
             have hk : RadN k := by have h := prfx_rad hr false false l; rw [ePx] at h; exact h
             rw [readX_def hr ePx, if_neg (by rw [okP_hash hk (by omega)]; decide)]
             exact ⟨none, 0, none, 0, none, 0, none, 0, rfl, ⟨Sc.none _, Sc.none _, Sc.none _, Sc.none _⟩, hS.bel⟩
            ·
             refine wp_skip ?_
             refine hK91 _ _ ?_
             refine wp_seq_k (fun K96 hK96 => ?_)
             refine wp_region_lit ?_
             refine seq_do hA rfl rfl rfl (d_assign rfl) fun a hA => ?_
             refine seq_end ?_
             refine hK96 _ _ ?_
             refine wp_seq_k (fun K97 hK97 => ?_)
             refine wp_region_lit ?_
             refine mv hA rfl rfl rfl fun a hA => ?_
             refine seq_do hA rfl rfl rfl (d_assign rfl) fun a hA => ?_
             refine seq_end ?_
             refine hK97 _ _ ?_
             refine wp_region_lit ?_
             refine mv hA rfl rfl rfl fun a hA => ?_
             refine seq_do (v := .int .i64 (((p + 2 : Nat) : Int))) hA rfl rfl rfl (d_bin rfl rfl (fun w => (bin_add (i64In (by omega) (by omega)) w).trans (by rw [show (((p : Nat) : Int) + 2 : Int) = ((p + 2 : Nat) : Int) from by omega]))) fun a hA => ?_
             refine seq_do hA rfl rfl rfl (d_assign rfl) fun a hA => ?_
             refine seq_end ?_
             have hm0 : btL (l.drop p) 0 = btL l p := by rw [btL_drop]; rfl
             have hm1 : btL (l.drop p) 1 = btL l (p + 1) := by rw [btL_drop]
             have hd2 : (l.drop p).drop 2 = l.drop (p + 2) := by rw [List.drop_drop]
             have hrd : radOf (btL (l.drop p) 1) = 16 := by rw [hm1]; unfold radOf; repeat (first | rfl | rw [if_pos (by omega)] | rw [if_neg (by omega)])
             refine hK12 _ _ _ (by omega) ⟨p + 2, 16, true, ex, rfl, ⟨by have h9 := prfx_radix (told := told) (ex := ex) (k := k) (m := l.drop p) (by rw [List.length_drop]; omega) (by omega) (by omega) hc93; rw [hrd, hd2] at h9; exact h9.symm.trans hinv13.1, by omega⟩, hA.keep _ ⟨rfl, rfl, rfl, rfl, rfl, rfl, rfl, rfl, rfl, trivial⟩, hS⟩
           ·
            have hb90' := ne_of_beq_false hb90
            refine seq_do (v := .bool false) hA rfl rfl rfl (d_bin rfl rfl (fun w => (bin_eql w).trans (by rw [hb90]))) fun a hA => ?_
            refine seq_do hA rfl rfl rfl (d_assign rfl) fun a hA => ?_
            refine seq_end ?_
            refine hK80 _ _ ?_
            refine wp_cond_false (hA.ev rfl) ?_
            refine wp_seq_k (fun K98 hK98 => ?_)
            refine wp_seq_k (fun K99 hK99 => ?_)
            refine wp_region_lit ?_
            rcases Bool.eq_false_or_eq_true ((((btL l (p + 1) : Nat) : Int) == 101)) with hb100 | hb100
            ·
             have hb100' := eq_of_beq hb100
             refine seq_do (v := .bool true) hA rfl rfl rfl (d_bin rfl rfl (fun w => (bin_eql w).trans (by rw [hb100]))) fun a hA => ?_
             refine seq_do hA rfl rfl rfl (d_assign rfl) fun a hA => ?_
             refine seq_end ?_
             refine hK99 _ _ ?_
             refine wp_cond_true (hA.ev rfl) ?_
             refine wp_skip ?_
             refine hK98 _ _ ?_
             refine wp_cond_true (hA.ev rfl) ?_
             refine wp_seq_k (fun K101 hK101 => ?_)
             refine wp_seq_k (fun K102 hK102 => ?_)
             refine wp_region_lit ?_
             refine mv hA rfl rfl rfl fun a hA => ?_
             refine seq_end ?_
             refine hK102 _ _ ?_
             refine wp_cond_split (t := ex) (hA.ev rfl) (fun hc103 => ?_) (fun hc103 => ?_)
             ·
              refine wp_seq_k (fun K104 hK104 => ?_)
              refine wp_region_lit ?_
              refine seq_do (v := .agg #[.bool false, .slice none 0 0, .slice none 0 0, .bool false, .slice none 0 0, .slice none 0 0]) hA rfl rfl rfl (d_build rfl (fun w => by kernel_rfl)) fun a hA => ?_
              refine seq_store (us := [.bool false, .slice none 0 0, .slice none 0 0, .bool false, .slice none 0 0, .slice none 0 0]) hA hS rfl rfl (sets_store rfl rfl rfl (by kernel_rfl) hS 0 rfl rfl rfl) 0 rfl rfl rfl rfl ?_
              intro w105 hS
              refine seq_do hA rfl rfl rfl (d_assign rfl) fun a hA => ?_
              refine seq_end ?_
              refine hK104 _ _ ?_
              refine wp_ret ?_
              refine hret _ _ ?_
              refine ends (v := .tuple #[.agg #[.bool false, .slice none 0 0, .slice none 0 0, .bool false, .slice none 0 0, .slice none 0 0], .int .i64 5]) hA rfl (.cons (res_cell hS RxG_isS_26 rfl 0 rfl (cs := [.bool false, .slice none 0 0, .slice none 0 0, .bool false, .slice none 0 0, .slice none 0 0]) rfl rfl) (.cons (res_tmp rfl) .nil)) rfl ?_
              have hm0 : btL (l.drop p) 0 = btL l p := by rw [btL_drop]; rfl
              have hm1 : btL (l.drop p) 1 = btL l (p + 1) := by rw [btL_drop]
              have hrd : radOf (btL (l.drop p) 1) = 0 := by rw [hm1]; unfold radOf; repeat (first | rfl | rw [if_pos (by omega)] | rw [if_neg (by omega)])
              have ePx : prfx false false r l = (l.drop p, k) := hinv13.1.symm.trans (prfx_stay (by rw [List.length_drop]; omega) (by omega) (Or.inl hrd) (Or.inr hc103))
              have hk : RadN k := by have h := prfx_rad hr false false l; rw [ePx] at h; exact h
              rw [readX_def hr ePx, if_neg (by rw [okP_hash hk (by omega)]; decide)]
              exact ⟨none, 0, none, 0, none, 0, none, 0, rfl, ⟨Sc.none _, Sc.none _, Sc.none _, Sc.none _⟩, hS.bel⟩
             ·
              refine wp_skip ?_
              refine hK101 _ _ ?_
              refine wp_seq_k (fun K106 hK106 => ?_)
              refine wp_region_lit ?_
              refine seq_do hA rfl rfl rfl (d_assign rfl) fun a hA => ?_
              refine seq_end ?_
              refine hK106 _ _ ?_
              refine wp_seq_k (fun K107 hK107 => ?_)
              refine wp_region_lit ?_
              refine mv hA rfl rfl rfl fun a hA => ?_
              refine seq_do (v := .int .i64 (((p + 2 : Nat) : Int))) hA rfl rfl rfl (d_bin rfl rfl (fun w => (bin_add (i64In (by omega) (by omega)) w).trans (by rw [show (((p : Nat) : Int) + 2 : Int) = ((p + 2 : Nat) : Int) from by omega]))) fun a hA => ?_
              refine seq_do hA rfl rfl rfl (d_assign rfl) fun a hA => ?_
              refine seq_end ?_
              refine hK107 _ _ ?_
              refine wp_exit ?_
              have hm0 : btL (l.drop p) 0 = btL l p := by rw [btL_drop]; rfl
              have hm1 : btL (l.drop p) 1 = btL l (p + 1) := by rw [btL_drop]
              have hd2 : (l.drop p).drop 2 = l.drop (p + 2) := by rw [List.drop_drop]
              have hrd : radOf (btL (l.drop p) 1) = 0 := by rw [hm1]; unfold radOf; repeat (first | rfl | rw [if_pos (by omega)] | rw [if_neg (by omega)])
              refine hK12 _ _ _ (by omega) ⟨p + 2, k, told, true, rfl, ⟨by have h9 := prfx_exact (told := told) (ex := ex) (k := k) (m := l.drop p) (by rw [List.length_drop]; omega) (by omega) (Or.inl hrd) (by omega) hc103; rw [hd2] at h9; exact h9.symm.trans hinv13.1, by omega⟩, hA.keep _ ⟨rfl, rfl, rfl, rfl, rfl, rfl, rfl, rfl, rfl, trivial⟩, hS⟩
            ·
             have hb100' := ne_of_beq_false hb100
             refine seq_do (v := .bool false) hA rfl rfl rfl (d_bin rfl rfl (fun w => (bin_eql w).trans (by rw [hb100]))) fun a hA => ?_
             refine seq_do hA rfl rfl rfl (d_assign rfl) fun a hA => ?_
             refine seq_end ?_
             refine hK99 _ _ ?_
             refine wp_cond_false (hA.ev rfl) ?_
             refine wp_region_lit ?_
             rcases Bool.eq_false_or_eq_true ((((btL l (p + 1) : Nat) : Int) == 69)) with hb108 | hb108
             ·
              have hb108' := eq_of_beq hb108
              refine seq_do (v := .bool true) hA rfl rfl rfl (d_bin rfl rfl (fun w => (bin_eql w).trans (by rw [hb108]))) fun a hA => ?_
              refine seq_do hA rfl rfl rfl (d_assign rfl) fun a hA => ?_
              refine seq_end ?_
              refine hK98 _ _ ?_
              refine wp_cond_true (hA.ev rfl) ?_
              refine wp_seq_k (fun K109 hK109 => ?_)
              refine wp_seq_k (fun K110 hK110 => ?_)
              refine wp_region_lit ?_
              refine mv hA rfl rfl rfl fun a hA => ?_
              refine seq_end ?_
              refine hK110 _ _ ?_
              refine wp_cond_split (t := ex) (hA.ev rfl) (fun hc111 => ?_) (fun hc111 => ?_)
              ·
               refine wp_seq_k (fun K112 hK112 => ?_)
               refine wp_region_lit ?_
               refine seq_do (v := .agg #[.bool false, .slice none 0 0, .slice none 0 0, .bool false, .slice none 0 0, .slice none 0 0]) hA rfl rfl rfl (d_build rfl (fun w => by kernel_rfl)) fun a hA => ?_
               refine seq_store (us := [.bool false, .slice none 0 0, .slice none 0 0, .bool false, .slice none 0 0, .slice none 0 0]) hA hS rfl rfl (sets_store rfl rfl rfl (by kernel_rfl) hS 0 rfl rfl rfl) 0 rfl rfl rfl rfl ?_
               intro w113 hS
               refine seq_do hA rfl rfl rfl (d_assign rfl) fun a hA => ?_
               refine seq_end ?_
               refine hK112 _ _ ?_
               refine wp_ret ?_
               refine hret _ _ ?_
               refine ends (v := .tuple #[.agg #[.bool false, .slice none 0 0, .slice none 0 0, .bool false, .slice none 0 0, .slice none 0 0], .int .i64 5]) hA rfl (.cons (res_cell hS RxG_isS_26 rfl 0 rfl (cs := [.bool false, .slice none 0 0, .slice none 0 0, .bool false, .slice none 0 0, .slice none 0 0]) rfl rfl) (.cons (res_tmp rfl) .nil)) rfl ?_
               have hm0 : btL (l.drop p) 0 = btL l p := by rw [btL_drop]; rfl
               have hm1 : btL (l.drop p) 1 = btL l (p + 1) := by rw [btL_drop]
               have hrd : radOf (btL (l.drop p) 1) = 0 := by rw [hm1]; unfold radOf; repeat (first | rfl | rw [if_pos (by omega)] | rw [if_neg (by omega)])
               have ePx : prfx false false r l = (l.drop p, k) := hinv13.1.symm.trans (prfx_stay (by rw [List.length_drop]; omega) (by omega) (Or.inl hrd) (Or.inr hc111))
               have hk : RadN k := by have h := prfx_rad hr false false l; rw [ePx] at h; exact h
               rw [readX_def hr ePx, if_neg (by rw [okP_hash hk (by omega)]; decide)]
               exact ⟨none, 0, none, 0, none, 0, none, 0, rfl, ⟨Sc.none _, Sc.none _, Sc.none _, Sc.none _⟩, hS.bel⟩
              ·
               refine wp_skip ?_
               refine hK109 _ _ ?_
               refine wp_seq_k (fun K114 hK114 => ?_)
               refine wp_region_lit ?_
               refine seq_do hA rfl rfl rfl (d_assign rfl) fun a hA => ?_
               refine seq_end ?_
               refine hK114 _ _ ?_
               refine wp_seq_k (fun K115 hK115 => ?_)
               refine wp_region_lit ?_
               refine mv hA rfl rfl rfl fun a hA => ?_
               refine seq_do (v := .int .i64 (((p + 2 : Nat) : Int))) hA rfl rfl rfl (d_bin rfl rfl (fun w => (bin_add (i64In (by omega) (by omega)) w).trans (by rw [show (((p : Nat) : Int) + 2 : Int) = ((p + 2 : Nat) : Int) from by omega]))) fun a hA => ?_
               refine seq_do hA rfl rfl rfl (d_assign rfl) fun a hA => ?_
               refine seq_end ?_
               refine hK115 _ _ ?_
               refine wp_exit ?_
               have hm0 : btL (l.drop p) 0 = btL l p := by rw [btL_drop]; rfl
               have hm1 : btL (l.drop p) 1 = btL l (p + 1) := by rw [btL_drop]
               have hd2 : (l.drop p).drop 2 = l.drop (p + 2) := by rw [List.drop_drop]
               have hrd : radOf (btL (l.drop p) 1) = 0 := by rw [hm1]; unfold radOf; repeat (first | rfl | rw [if_pos (by omega)] | rw [if_neg (by omega)])
               refine hK12 _ _ _ (by omega) ⟨p + 2, k, told, true, rfl, ⟨by have h9 := prfx_exact (told := told) (ex := ex) (k := k) (m := l.drop p) (by rw [List.length_drop]; omega) (by omega) (Or.inl hrd) (by omega) hc111; rw [hd2] at h9; exact h9.symm.trans hinv13.1, by omega⟩, hA.keep _ ⟨rfl, rfl, rfl, rfl, rfl, rfl, rfl, rfl, rfl, trivial⟩, hS⟩
             ·
              have hb108' := ne_of_beq_false hb108
              refine seq_do (v := .bool false) hA rfl rfl rfl (d_bin rfl rfl (fun w => (bin_eql w).trans (by rw [hb108]))) fun a hA => ?_
              refine seq_do hA rfl rfl rfl (d_assign rfl) fun a hA => ?_
              refine seq_end ?_
              refine hK98 _ _ ?_
              refine wp_cond_false (hA.ev rfl) ?_
              refine wp_skip ?_
              refine hK24 _ _ ?_
              refine wp_seq_k (fun K116 hK116 => ?_)
              refine wp_seq_k (fun K117 hK117 => ?_)
              refine wp_region_lit ?_
              refine mv hA rfl rfl rfl fun a hA => ?_
              refine seq_do (v := .bool true) hA rfl rfl rfl (d_bin rfl rfl (fun w => by kernel_rfl)) fun a hA => ?_
              refine mv hA rfl rfl rfl fun a hA => ?_
              refine seq_skip hA rfl rfl rfl fun a hA => ?_
              refine seq_do (v := .bool true) hA rfl rfl rfl (d_pick rfl rfl rfl rfl) fun a hA => ?_
              refine seq_end ?_
              refine hK117 _ _ ?_
              refine wp_cond_true (hA.ev rfl) ?_
              refine wp_seq_k (fun K118 hK118 => ?_)
              refine wp_region_lit ?_
              refine seq_do (v := .agg #[.bool false, .slice none 0 0, .slice none 0 0, .bool false, .slice none 0 0, .slice none 0 0]) hA rfl rfl rfl (d_build rfl (fun w => by kernel_rfl)) fun a hA => ?_
              refine seq_store (us := [.bool false, .slice none 0 0, .slice none 0 0, .bool false, .slice none 0 0, .slice none 0 0]) hA hS rfl rfl (sets_store rfl rfl rfl (by kernel_rfl) hS 0 rfl rfl rfl) 0 rfl rfl rfl rfl ?_
              intro w119 hS
              refine seq_do hA rfl rfl rfl (d_assign rfl) fun a hA => ?_
              refine seq_end ?_
              refine hK118 _ _ ?_
              refine wp_ret ?_
              refine hret _ _ ?_
              refine ends (v := .tuple #[.agg #[.bool false, .slice none 0 0, .slice none 0 0, .bool false, .slice none 0 0, .slice none 0 0], .int .i64 5]) hA rfl (.cons (res_cell hS RxG_isS_26 rfl 0 rfl (cs := [.bool false, .slice none 0 0, .slice none 0 0, .bool false, .slice none 0 0, .slice none 0 0]) rfl rfl) (.cons (res_tmp rfl) .nil)) rfl ?_
              have hm0 : btL (l.drop p) 0 = btL l p := by rw [btL_drop]; rfl
              have hm1 : btL (l.drop p) 1 = btL l (p + 1) := by rw [btL_drop]
              have hrd : radOf (btL (l.drop p) 1) = 0 := by rw [hm1]; unfold radOf; repeat (first | rfl | rw [if_pos (by omega)] | rw [if_neg (by omega)])
              have ePx : prfx false false r l = (l.drop p, k) := hinv13.1.symm.trans (prfx_stay (by rw [List.length_drop]; omega) (by omega) (Or.inl hrd) (Or.inl (by omega)))
              have hk : RadN k := by have h := prfx_rad hr false false l; rw [ePx] at h; exact h
              rw [readX_def hr ePx, if_neg (by rw [okP_hash hk (by omega)]; decide)]
              exact ⟨none, 0, none, 0, none, 0, none, 0, rfl, ⟨Sc.none _, Sc.none _, Sc.none _, Sc.none _⟩, hS.bel⟩
  ·
   have hb17' := ne_of_beq_false hb17
   refine seq_do (v := .bool false) hA rfl rfl rfl (d_bin rfl rfl (fun w => (bin_eql w).trans (by rw [hb17]))) fun a hA => ?_
   refine seq_do (v := .bool false) hA rfl rfl rfl (d_pick rfl rfl rfl rfl) fun a hA => ?_
   refine seq_end ?_
   refine hK15 _ _ ?_
   refine wp_cond_false (hA.ev rfl) ?_
   refine wp_exit ?_
   refine hK10 _ _ ?_
   refine wp_seq_k (fun K120 hK120 => ?_)
   refine wp_region_lit ?_
   refine mv hA rfl rfl rfl fun a hA => ?_
   refine mv hA rfl rfl rfl fun a hA => ?_
   refine seq_do (v := .string (bsL (l.drop p))) hA rfl rfl rfl (d_slFrom (p := p) (s := l) Tryz.underlying9 rfl rfl (by first | rfl | omega) (by first | omega | (simp only [List.length_drop, List.length_take]; omega))) fun a hA => ?_
   refine mv hA rfl rfl rfl fun a hA => ?_
   have ePx : prfx false false r l = (l.drop p, k) := hinv13.1.symm.trans (prfx_other (by rw [btL_drop, Nat.add_zero]; omega))
   have hk : RadN k := by have h := prfx_rad hr false false l; rw [ePx] at h; exact h
   obtain ⟨B9, hB9⟩ : ∃ B, bodyS k (l.drop p) = B := ⟨_, rfl⟩
   refine seq_call hA rfl rfl rfl (enters_func  rfl rfl (fun w => by kernel_rfl)) (rbody_any hk (by rw [List.length_drop]; omega) hB9) ?_
   rintro _ w124 ⟨p121_1, p121_c1, p121_2, p121_c2, p121_3, p121_c3, p121_4, p121_c4, rfl, hn122, hb123⟩
   replace hS := hS.call hb123
   replace hS := hS.addR hn122.s1.rd
   replace hS := hS.addR hn122.s2.rd
   replace hS := hS.addR hn122.s3.rd
   replace hS := hS.addR hn122.s4.rd
   refine ⟨_, rfl, ?_⟩
   intro a hA
   refine mv hA rfl rfl rfl fun a hA => ?_
   refine seq_do (v := .agg #[.bool ((bodyQ B9).b1), .slice p121_1 (((bodyQ B9).t1).length) p121_c1, .slice p121_2 (((bodyQ B9).q1).length) p121_c2, .bool ((bodyQ B9).b2), .slice p121_3 (((bodyQ B9).t2).length) p121_c3, .slice p121_4 (((bodyQ B9).q2).length) p121_c4]) hA rfl rfl rfl (d_extract (vs := [.agg #[.bool ((bodyQ B9).b1), .slice p121_1 (((bodyQ B9).t1).length) p121_c1, .slice p121_2 (((bodyQ B9).q1).length) p121_c2, .bool ((bodyQ B9).b2), .slice p121_3 (((bodyQ B9).t2).length) p121_c3, .slice p121_4 (((bodyQ B9).q2).length) p121_c4], .int .i64 B9.2.2.2, .bool B9.1]) rfl rfl) fun a hA => ?_
   refine seq_do (v := .int .i64 B9.2.2.2) hA rfl rfl rfl (d_extract (vs := [.agg #[.bool ((bodyQ B9).b1), .slice p121_1 (((bodyQ B9).t1).length) p121_c1, .slice p121_2 (((bodyQ B9).q1).length) p121_c2, .bool ((bodyQ B9).b2), .slice p121_3 (((bodyQ B9).t2).length) p121_c3, .slice p121_4 (((bodyQ B9).q2).length) p121_c4], .int .i64 B9.2.2.2, .bool B9.1]) rfl rfl) fun a hA => ?_
   refine seq_do (v := .bool B9.1) hA rfl rfl rfl (d_extract (vs := [.agg #[.bool ((bodyQ B9).b1), .slice p121_1 (((bodyQ B9).t1).length) p121_c1, .slice p121_2 (((bodyQ B9).q1).length) p121_c2, .bool ((bodyQ B9).b2), .slice p121_3 (((bodyQ B9).t2).length) p121_c3, .slice p121_4 (((bodyQ B9).q2).length) p121_c4], .int .i64 B9.2.2.2, .bool B9.1]) rfl rfl) fun a hA => ?_
   refine seq_new (vs := [.bool false, .slice none 0 0, .slice none 0 0, .bool false, .slice none 0 0, .slice none 0 0]) (t := 26) hA hS rfl rfl rfl (fun g => .pointer (some ⟨g, 0, none⟩)) (d_alloc (z := .agg #[.bool false, .slice none 0 0, .slice none 0 0, .bool false, .slice none 0 0, .slice none 0 0]) (by kernel_rfl) rfl) rfl ?_
   intro g125 w126 hS a hA
   refine seq_store (us := [.bool ((bodyQ B9).b1), .slice p121_1 (((bodyQ B9).t1).length) p121_c1, .slice p121_2 (((bodyQ B9).q1).length) p121_c2, .bool ((bodyQ B9).b2), .slice p121_3 (((bodyQ B9).t2).length) p121_c3, .slice p121_4 (((bodyQ B9).q2).length) p121_c4]) hA hS rfl rfl (sets_store rfl rfl rfl (by kernel_rfl) hS 0 rfl rfl rfl) 0 rfl rfl rfl rfl ?_
   intro w127 hS
   refine seq_do hA rfl rfl rfl (d_assign rfl) fun a hA => ?_
   refine seq_do hA rfl rfl rfl (d_assign rfl) fun a hA => ?_
   refine seq_end ?_
   refine hK120 _ _ ?_
   refine wp_seq_k (fun K128 hK128 => ?_)
   refine wp_seq_k (fun K129 hK129 => ?_)
   refine wp_region_lit ?_
   refine mv hA rfl rfl rfl fun a hA => ?_
   refine seq_do (v := .bool (!B9.1)) hA rfl rfl rfl (d_un rfl un_not) fun a hA => ?_
   refine seq_end ?_
   refine hK129 _ _ ?_
   refine wp_cond_split (t := !B9.1) (hA.ev rfl) (fun hc130 => ?_) (fun hc130 => ?_)
   ·
    refine wp_seq_k (fun K131 hK131 => ?_)
    refine wp_region_lit ?_
    refine seq_do (v := .agg #[.bool false, .slice none 0 0, .slice none 0 0, .bool false, .slice none 0 0, .slice none 0 0]) hA rfl rfl rfl (d_build rfl (fun w => by kernel_rfl)) fun a hA => ?_
    refine seq_store (us := [.bool false, .slice none 0 0, .slice none 0 0, .bool false, .slice none 0 0, .slice none 0 0]) hA hS rfl rfl (sets_store rfl rfl rfl (by kernel_rfl) hS 1 rfl rfl rfl) 1 rfl rfl rfl rfl ?_
    intro w132 hS
    refine seq_do hA rfl rfl rfl (d_assign rfl) fun a hA => ?_
    refine seq_end ?_
    refine hK131 _ _ ?_
    refine wp_ret ?_
    refine hret _ _ ?_
    refine ends (v := .tuple #[.agg #[.bool false, .slice none 0 0, .slice none 0 0, .bool false, .slice none 0 0, .slice none 0 0], .int .i64 5]) hA rfl (.cons (res_cell hS RxG_isS_26 rfl 1 rfl (cs := [.bool false, .slice none 0 0, .slice none 0 0, .bool false, .slice none 0 0, .slice none 0 0]) rfl rfl) (.cons (res_tmp rfl) .nil)) rfl ?_
    rw [readX_def hr ePx, if_neg (by rw [← body_ok hk, hB9]; simpa using hc130)]
    exact ⟨none, 0, none, 0, none, 0, none, 0, rfl, ⟨Sc.none _, Sc.none _, Sc.none _, Sc.none _⟩, hS.bel⟩
   ·
    refine wp_skip ?_
    refine hK128 _ _ ?_
    refine wp_seq_k (fun K133 hK133 => ?_)
    refine wp_seq_k (fun K134 hK134 => ?_)
    refine wp_region_lit ?_
    refine mv hA rfl rfl rfl fun a hA => ?_
    refine seq_do (v := .int .i64 (((l.length : Nat) : Int))) hA rfl rfl rfl (d_lenT Tryz.underlying9 rfl) fun a hA => ?_
    rcases Bool.eq_false_or_eq_true (decide (16384 < ((l.length : Nat) : Int))) with hb135 | hb135
    ·
     have hb135' := of_decide_eq_true hb135
     refine seq_do (v := .bool true) hA rfl rfl rfl (d_bin rfl rfl (fun w => (bin_gtr w).trans (by rw [hb135]))) fun a hA => ?_
     refine seq_end ?_
     refine hK134 _ _ ?_
     refine wp_cond_true (hA.ev rfl) ?_
     refine wp_seq_k (fun K136 hK136 => ?_)
     refine wp_region_lit ?_
     refine seq_do (v := .agg #[.bool false, .slice none 0 0, .slice none 0 0, .bool false, .slice none 0 0, .slice none 0 0]) hA rfl rfl rfl (d_build rfl (fun w => by kernel_rfl)) fun a hA => ?_
     refine seq_store (us := [.bool false, .slice none 0 0, .slice none 0 0, .bool false, .slice none 0 0, .slice none 0 0]) hA hS rfl rfl (sets_store rfl rfl rfl (by kernel_rfl) hS 1 rfl rfl rfl) 1 rfl rfl rfl rfl ?_
     intro w137 hS
     refine seq_do hA rfl rfl rfl (d_assign rfl) fun a hA => ?_
     refine seq_end ?_
     refine hK136 _ _ ?_
     refine wp_ret ?_
     refine hret _ _ ?_
     refine ends (v := .tuple #[.agg #[.bool false, .slice none 0 0, .slice none 0 0, .bool false, .slice none 0 0, .slice none 0 0], .int .i64 4]) hA rfl (.cons (res_cell hS RxG_isS_26 rfl 1 rfl (cs := [.bool false, .slice none 0 0, .slice none 0 0, .bool false, .slice none 0 0, .slice none 0 0]) rfl rfl) (.cons (res_tmp rfl) .nil)) rfl ?_
     have hB1 : B9.1 = true := by simpa using hc130
     have hok : okP k (l.drop p) = true := by rw [← body_ok hk, hB9]; exact hB1
     rw [readX_def hr ePx, if_pos hok, if_neg (by omega)]
     exact ⟨none, 0, none, 0, none, 0, none, 0, rfl, ⟨Sc.none _, Sc.none _, Sc.none _, Sc.none _⟩, hS.bel⟩
    ·
     have hb135' := of_decide_eq_false hb135
     refine seq_do (v := .bool false) hA rfl rfl rfl (d_bin rfl rfl (fun w => (bin_gtr w).trans (by rw [hb135]))) fun a hA => ?_
     refine seq_end ?_
     refine hK134 _ _ ?_
     refine wp_cond_false (hA.ev rfl) ?_
     refine wp_skip ?_
     refine hK133 _ _ ?_
     refine wp_seq_k (fun K138 hK138 => ?_)
     refine wp_seq_k (fun K139 hK139 => ?_)
     refine wp_region_lit ?_
     refine mv hA rfl rfl rfl fun a hA => ?_
     rcases Bool.eq_false_or_eq_true ((B9.2.2.2 != 0)) with hb140 | hb140
     ·
      have hb140' := bne_iff_ne.1 hb140
      refine seq_do (v := .bool true) hA rfl rfl rfl (d_bin rfl rfl (fun w => (bin_neq w).trans (by rw [hb140]))) fun a hA => ?_
      refine seq_end ?_
      refine hK139 _ _ ?_
      refine wp_cond_true (hA.ev rfl) ?_
      refine wp_seq_k (fun K141 hK141 => ?_)
      refine wp_region_lit ?_
      refine seq_do (v := .agg #[.bool false, .slice none 0 0, .slice none 0 0, .bool false, .slice none 0 0, .slice none 0 0]) hA rfl rfl rfl (d_build rfl (fun w => by kernel_rfl)) fun a hA => ?_
      refine mv hA rfl rfl rfl fun a hA => ?_
      refine seq_store (us := [.bool false, .slice none 0 0, .slice none 0 0, .bool false, .slice none 0 0, .slice none 0 0]) hA hS rfl rfl (sets_store rfl rfl rfl (by kernel_rfl) hS 1 rfl rfl rfl) 1 rfl rfl rfl rfl ?_
      intro w142 hS
      refine seq_do hA rfl rfl rfl (d_assign rfl) fun a hA => ?_
      refine seq_end ?_
      refine hK141 _ _ ?_
      refine wp_ret ?_
      refine hret _ _ ?_
      refine ends (v := .tuple #[.agg #[.bool false, .slice none 0 0, .slice none 0 0, .bool false, .slice none 0 0, .slice none 0 0], .int .i64 B9.2.2.2]) hA rfl (.cons (res_cell hS RxG_isS_26 rfl 1 rfl (cs := [.bool false, .slice none 0 0, .slice none 0 0, .bool false, .slice none 0 0, .slice none 0 0]) rfl rfl) (.cons (res_tmp rfl) .nil)) rfl ?_
      have hB1 : B9.1 = true := by simpa using hc130
      have hok : okP k (l.drop p) = true := by rw [← body_ok hk, hB9]; exact hB1
      have eB : bodyS k (l.drop p) = (true, B9.2.1, B9.2.2.1, B9.2.2.2) := by rw [hB9, ← hB1]
      rw [readX_def hr ePx, if_pos hok, if_pos (by omega), body_val hk eB, if_neg hb140']
      exact ⟨none, 0, none, 0, none, 0, none, 0, rfl, ⟨Sc.none _, Sc.none _, Sc.none _, Sc.none _⟩, hS.bel⟩
     ·
      have hb140' := bne_eq_false_iff_eq.1 hb140
      refine seq_do (v := .bool false) hA rfl rfl rfl (d_bin rfl rfl (fun w => (bin_neq w).trans (by rw [hb140]))) fun a hA => ?_
      refine seq_end ?_
      refine hK139 _ _ ?_
      refine wp_cond_false (hA.ev rfl) ?_
      refine wp_skip ?_
      refine hK138 _ _ ?_
      refine wp_seq_k (fun K143 hK143 => ?_)
      refine wp_region_lit ?_
      refine seq_do hA rfl rfl rfl (d_loadS hS RxG_isS_26 rfl 0 rfl (cs := [.bool ((bodyQ B9).b1), .slice p121_1 (((bodyQ B9).t1).length) p121_c1, .slice p121_2 (((bodyQ B9).q1).length) p121_c2, .bool ((bodyQ B9).b2), .slice p121_3 (((bodyQ B9).t2).length) p121_c3, .slice p121_4 (((bodyQ B9).q2).length) p121_c4]) rfl rfl) fun a hA => ?_
      refine seq_store (us := [.bool ((bodyQ B9).b1), .slice p121_1 (((bodyQ B9).t1).length) p121_c1, .slice p121_2 (((bodyQ B9).q1).length) p121_c2, .bool ((bodyQ B9).b2), .slice p121_3 (((bodyQ B9).t2).length) p121_c3, .slice p121_4 (((bodyQ B9).q2).length) p121_c4]) hA hS rfl rfl (sets_store rfl rfl rfl (by kernel_rfl) hS 1 rfl rfl rfl) 1 rfl rfl rfl rfl ?_
      intro w144 hS
      refine seq_do hA rfl rfl rfl (d_assign rfl) fun a hA => ?_
      refine seq_end ?_
      refine hK143 _ _ ?_
      refine wp_ret ?_
      refine hret _ _ ?_
      refine ends (v := .tuple #[.agg #[.bool ((bodyQ B9).b1), .slice p121_1 (((bodyQ B9).t1).length) p121_c1, .slice p121_2 (((bodyQ B9).q1).length) p121_c2, .bool ((bodyQ B9).b2), .slice p121_3 (((bodyQ B9).t2).length) p121_c3, .slice p121_4 (((bodyQ B9).q2).length) p121_c4], .int .i64 0]) hA rfl (.cons (res_cell hS RxG_isS_26 rfl 1 rfl (cs := [.bool ((bodyQ B9).b1), .slice p121_1 (((bodyQ B9).t1).length) p121_c1, .slice p121_2 (((bodyQ B9).q1).length) p121_c2, .bool ((bodyQ B9).b2), .slice p121_3 (((bodyQ B9).t2).length) p121_c3, .slice p121_4 (((bodyQ B9).q2).length) p121_c4]) rfl rfl) (.cons (res_tmp rfl) .nil)) rfl ?_
      have hB1 : B9.1 = true := by simpa using hc130
      have hok : okP k (l.drop p) = true := by rw [← body_ok hk, hB9]; exact hB1
      have eB : bodyS k (l.drop p) = (true, B9.2.1, B9.2.2.1, B9.2.2.2) := by rw [hB9, ← hB1]
      have eQ : bodyQ B9 = Q6.rat B9.2.1 B9.2.2.1 := by unfold bodyQ; rw [hB1]; rfl
      rw [readX_def hr ePx, if_pos hok, if_pos (by omega), body_val hk eB, if_pos hb140', ← eQ]
      exact ⟨p121_1, p121_c1, p121_2, p121_c2, p121_3, p121_c3, p121_4, p121_c4, rfl, ⟨⟨(hS.rd 3 rfl), hn122.s1.nil, hn122.s1.cap⟩, ⟨(hS.rd 2 rfl), hn122.s2.nil, hn122.s2.cap⟩, ⟨(hS.rd 1 rfl), hn122.s3.nil, hn122.s3.cap⟩, ⟨(hS.rd 0 rfl), hn122.s4.nil, hn122.s4.cap⟩⟩, hS.bel⟩
 ·
  have hb16' := of_decide_eq_false hb16
  refine seq_do (v := .bool false) hA rfl rfl rfl (d_bin rfl rfl (fun w => (bin_lss w).trans (by rw [hb16]))) fun a hA => ?_
  refine mv hA rfl rfl rfl fun a hA => ?_
  refine seq_skip hA rfl rfl rfl fun a hA => ?_
  refine seq_skip hA rfl rfl rfl fun a hA => ?_
  refine seq_skip hA rfl rfl rfl fun a hA => ?_
  refine seq_skip hA rfl rfl rfl fun a hA => ?_
  refine seq_do (v := .bool false) hA rfl rfl rfl (d_pick rfl rfl rfl rfl) fun a hA => ?_
  refine seq_end ?_
  refine hK15 _ _ ?_
  refine wp_cond_false (hA.ev rfl) ?_
  refine wp_exit ?_
  refine hK10 _ _ ?_
  refine wp_seq_k (fun K145 hK145 => ?_)
  refine wp_region_lit ?_
  refine mv hA rfl rfl rfl fun a hA => ?_
  refine mv hA rfl rfl rfl fun a hA => ?_
  refine seq_do (v := .string (bsL (l.drop p))) hA rfl rfl rfl (d_slFrom (p := p) (s := l) Tryz.underlying9 rfl rfl (by first | rfl | omega) (by first | omega | (simp only [List.length_drop, List.length_take]; omega))) fun a hA => ?_
  refine mv hA rfl rfl rfl fun a hA => ?_
  have ePx : prfx false false r l = (l.drop p, k) := hinv13.1.symm.trans (prfx_short (by rw [List.length_drop]; omega))
  have hk : RadN k := by have h := prfx_rad hr false false l; rw [ePx] at h; exact h
  obtain ⟨B9, hB9⟩ : ∃ B, bodyS k (l.drop p) = B := ⟨_, rfl⟩
  refine seq_call hA rfl rfl rfl (enters_func  rfl rfl (fun w => by kernel_rfl)) (rbody_any hk (by rw [List.length_drop]; omega) hB9) ?_
  rintro _ w149 ⟨p146_1, p146_c1, p146_2, p146_c2, p146_3, p146_c3, p146_4, p146_c4, rfl, hn147, hb148⟩
  replace hS := hS.call hb148
  replace hS := hS.addR hn147.s1.rd
  replace hS := hS.addR hn147.s2.rd
  replace hS := hS.addR hn147.s3.rd
  replace hS := hS.addR hn147.s4.rd
  refine ⟨_, rfl, ?_⟩
  intro a hA
  refine mv hA rfl rfl rfl fun a hA => ?_
  refine seq_do (v := .agg #[.bool ((bodyQ B9).b1), .slice p146_1 (((bodyQ B9).t1).length) p146_c1, .slice p146_2 (((bodyQ B9).q1).length) p146_c2, .bool ((bodyQ B9).b2), .slice p146_3 (((bodyQ B9).t2).length) p146_c3, .slice p146_4 (((bodyQ B9).q2).length) p146_c4]) hA rfl rfl rfl (d_extract (vs := [.agg #[.bool ((bodyQ B9).b1), .slice p146_1 (((bodyQ B9).t1).length) p146_c1, .slice p146_2 (((bodyQ B9).q1).length) p146_c2, .bool ((bodyQ B9).b2), .slice p146_3 (((bodyQ B9).t2).length) p146_c3, .slice p146_4 (((bodyQ B9).q2).length) p146_c4], .int .i64 B9.2.2.2, .bool B9.1]) rfl rfl) fun a hA => ?_
  refine seq_do (v := .int .i64 B9.2.2.2) hA rfl rfl rfl (d_extract (vs := [.agg #[.bool ((bodyQ B9).b1), .slice p146_1 (((bodyQ B9).t1).length) p146_c1, .slice p146_2 (((bodyQ B9).q1).length) p146_c2, .bool ((bodyQ B9).b2), .slice p146_3 (((bodyQ B9).t2).length) p146_c3, .slice p146_4 (((bodyQ B9).q2).length) p146_c4], .int .i64 B9.2.2.2, .bool B9.1]) rfl rfl) fun a hA => ?_
  refine seq_do (v := .bool B9.1) hA rfl rfl rfl (d_extract (vs := [.agg #[.bool ((bodyQ B9).b1), .slice p146_1 (((bodyQ B9).t1).length) p146_c1, .slice p146_2 (((bodyQ B9).q1).length) p146_c2, .bool ((bodyQ B9).b2), .slice p146_3 (((bodyQ B9).t2).length) p146_c3, .slice p146_4 (((bodyQ B9).q2).length) p146_c4], .int .i64 B9.2.2.2, .bool B9.1]) rfl rfl) fun a hA => ?_
  refine seq_new (vs := [.bool false, .slice none 0 0, .slice none 0 0, .bool false, .slice none 0 0, .slice none 0 0]) (t := 26) hA hS rfl rfl rfl (fun g => .pointer (some ⟨g, 0, none⟩)) (d_alloc (z := .agg #[.bool false, .slice none 0 0, .slice none 0 0, .bool false, .slice none 0 0, .slice none 0 0]) (by kernel_rfl) rfl) rfl ?_
  intro g150 w151 hS a hA
  refine seq_store (us := [.bool ((bodyQ B9).b1), .slice p146_1 (((bodyQ B9).t1).length) p146_c1, .slice p146_2 (((bodyQ B9).q1).length) p146_c2, .bool ((bodyQ B9).b2), .slice p146_3 (((bodyQ B9).t2).length) p146_c3, .slice p146_4 (((bodyQ B9).q2).length) p146_c4]) hA hS rfl rfl (sets_store rfl rfl rfl (by kernel_rfl) hS 0 rfl rfl rfl) 0 rfl rfl rfl rfl ?_
  intro w152 hS
  refine seq_do hA rfl rfl rfl (d_assign rfl) fun a hA => ?_
  refine seq_do hA rfl rfl rfl (d_assign rfl) fun a hA => ?_
  refine seq_end ?_
  refine hK145 _ _ ?_
  refine wp_seq_k (fun K153 hK153 => ?_)
  refine wp_seq_k (fun K154 hK154 => ?_)
  refine wp_region_lit ?_
  refine mv hA rfl rfl rfl fun a hA => ?_
  refine seq_do (v := .bool (!B9.1)) hA rfl rfl rfl (d_un rfl un_not) fun a hA => ?_
  refine seq_end ?_
  refine hK154 _ _ ?_
  refine wp_cond_split (t := !B9.1) (hA.ev rfl) (fun hc155 => ?_) (fun hc155 => ?_)
  ·
   refine wp_seq_k (fun K156 hK156 => ?_)
   refine wp_region_lit ?_
   refine seq_do (v := .agg #[.bool false, .slice none 0 0, .slice none 0 0, .bool false, .slice none 0 0, .slice none 0 0]) hA rfl rfl rfl (d_build rfl (fun w => by kernel_rfl)) fun a hA => ?_
   refine seq_store (us := [.bool false, .slice none 0 0, .slice none 0 0, .bool false, .slice none 0 0, .slice none 0 0]) hA hS rfl rfl (sets_store rfl rfl rfl (by kernel_rfl) hS 1 rfl rfl rfl) 1 rfl rfl rfl rfl ?_
   intro w157 hS
   refine seq_do hA rfl rfl rfl (d_assign rfl) fun a hA => ?_
   refine seq_end ?_
   refine hK156 _ _ ?_
   refine wp_ret ?_
   refine hret _ _ ?_
   refine ends (v := .tuple #[.agg #[.bool false, .slice none 0 0, .slice none 0 0, .bool false, .slice none 0 0, .slice none 0 0], .int .i64 5]) hA rfl (.cons (res_cell hS RxG_isS_26 rfl 1 rfl (cs := [.bool false, .slice none 0 0, .slice none 0 0, .bool false, .slice none 0 0, .slice none 0 0]) rfl rfl) (.cons (res_tmp rfl) .nil)) rfl ?_
   rw [readX_def hr ePx, if_neg (by rw [← body_ok hk, hB9]; simpa using hc155)]
   exact ⟨none, 0, none, 0, none, 0, none, 0, rfl, ⟨Sc.none _, Sc.none _, Sc.none _, Sc.none _⟩, hS.bel⟩
  ·
   refine wp_skip ?_
   refine hK153 _ _ ?_
   refine wp_seq_k (fun K158 hK158 => ?_)
   refine wp_seq_k (fun K159 hK159 => ?_)
   refine wp_region_lit ?_
   refine mv hA rfl rfl rfl fun a hA => ?_
   refine seq_do (v := .int .i64 (((l.length : Nat) : Int))) hA rfl rfl rfl (d_lenT Tryz.underlying9 rfl) fun a hA => ?_
   rcases Bool.eq_false_or_eq_true (decide (16384 < ((l.length : Nat) : Int))) with hb160 | hb160
   ·
    have hb160' := of_decide_eq_true hb160
    refine seq_do (v := .bool true) hA rfl rfl rfl (d_bin rfl rfl (fun w => (bin_gtr w).trans (by rw [hb160]))) fun a hA => ?_
    refine seq_end ?_
    refine hK159 _ _ ?_
    refine wp_cond_true (hA.ev rfl) ?_
    refine wp_seq_k (fun K161 hK161 => ?_)
    refine wp_region_lit ?_
    refine seq_do (v := .agg #[.bool false, .slice none 0 0, .slice none 0 0, .bool false, .slice none 0 0, .slice none 0 0]) hA rfl rfl rfl (d_build rfl (fun w => by kernel_rfl)) fun a hA => ?_
    refine seq_store (us := [.bool false, .slice none 0 0, .slice none 0 0, .bool false, .slice none 0 0, .slice none 0 0]) hA hS rfl rfl (sets_store rfl rfl rfl (by kernel_rfl) hS 1 rfl rfl rfl) 1 rfl rfl rfl rfl ?_
    intro w162 hS
    refine seq_do hA rfl rfl rfl (d_assign rfl) fun a hA => ?_
    refine seq_end ?_
    refine hK161 _ _ ?_
    refine wp_ret ?_
    refine hret _ _ ?_
    refine ends (v := .tuple #[.agg #[.bool false, .slice none 0 0, .slice none 0 0, .bool false, .slice none 0 0, .slice none 0 0], .int .i64 4]) hA rfl (.cons (res_cell hS RxG_isS_26 rfl 1 rfl (cs := [.bool false, .slice none 0 0, .slice none 0 0, .bool false, .slice none 0 0, .slice none 0 0]) rfl rfl) (.cons (res_tmp rfl) .nil)) rfl ?_
    have hB1 : B9.1 = true := by simpa using hc155
    have hok : okP k (l.drop p) = true := by rw [← body_ok hk, hB9]; exact hB1
    rw [readX_def hr ePx, if_pos hok, if_neg (by omega)]
    exact ⟨none, 0, none, 0, none, 0, none, 0, rfl, ⟨Sc.none _, Sc.none _, Sc.none _, Sc.none _⟩, hS.bel⟩
   ·
    have hb160' := of_decide_eq_false hb160
    refine seq_do (v := .bool false) hA rfl rfl rfl (d_bin rfl rfl (fun w => (bin_gtr w).trans (by rw [hb160]))) fun a hA => ?_
    refine seq_end ?_
    refine hK159 _ _ ?_
    refine wp_cond_false (hA.ev rfl) ?_
    refine wp_skip ?_
    refine hK158 _ _ ?_
    refine wp_seq_k (fun K163 hK163 => ?_)
    refine wp_seq_k (fun K164 hK164 => ?_)
    refine wp_region_lit ?_
    refine mv hA rfl rfl rfl fun a hA => ?_
    rcases Bool.eq_false_or_eq_true ((B9.2.2.2 != 0)) with hb165 | hb165
    ·
     have hb165' := bne_iff_ne.1 hb165
     refine seq_do (v := .bool true) hA rfl rfl rfl (d_bin rfl rfl (fun w => (bin_neq w).trans (by rw [hb165]))) fun a hA => ?_
     refine seq_end ?_
     refine hK164 _ _ ?_
     refine wp_cond_true (hA.ev rfl) ?_
     refine wp_seq_k (fun K166 hK166 => ?_)
     refine wp_region_lit ?_
     refine seq_do (v := .agg #[.bool false, .slice none 0 0, .slice none 0 0, .bool false, .slice none 0 0, .slice none 0 0]) hA rfl rfl rfl (d_build rfl (fun w => by kernel_rfl)) fun a hA => ?_
     refine mv hA rfl rfl rfl fun a hA => ?_
     refine seq_store (us := [.bool false, .slice none 0 0, .slice none 0 0, .bool false, .slice none 0 0, .slice none 0 0]) hA hS rfl rfl (sets_store rfl rfl rfl (by kernel_rfl) hS 1 rfl rfl rfl) 1 rfl rfl rfl rfl ?_
     intro w167 hS
     refine seq_do hA rfl rfl rfl (d_assign rfl) fun a hA => ?_
     refine seq_end ?_
     refine hK166 _ _ ?_
     refine wp_ret ?_
     refine hret _ _ ?_
     refine ends (v := .tuple #[.agg #[.bool false, .slice none 0 0, .slice none 0 0, .bool false, .slice none 0 0, .slice none 0 0], .int .i64 B9.2.2.2]) hA rfl (.cons (res_cell hS RxG_isS_26 rfl 1 rfl (cs := [.bool false, .slice none 0 0, .slice none 0 0, .bool false, .slice none 0 0, .slice none 0 0]) rfl rfl) (.cons (res_tmp rfl) .nil)) rfl ?_
     have hB1 : B9.1 = true := by simpa using hc155
     have hok : okP k (l.drop p) = true := by rw [← body_ok hk, hB9]; exact hB1
     have eB : bodyS k (l.drop p) = (true, B9.2.1, B9.2.2.1, B9.2.2.2) := by rw [hB9, ← hB1]
     rw [readX_def hr ePx, if_pos hok, if_pos (by omega), body_val hk eB, if_neg hb165']
     exact ⟨none, 0, none, 0, none, 0, none, 0, rfl, ⟨Sc.none _, Sc.none _, Sc.none _, Sc.none _⟩, hS.bel⟩
    ·
     have hb165' := bne_eq_false_iff_eq.1 hb165
     refine seq_do (v := .bool false) hA rfl rfl rfl (d_bin rfl rfl (fun w => (bin_neq w).trans (by rw [hb165]))) fun a hA => ?_
     refine seq_end ?_
     refine hK164 _ _ ?_
     refine wp_cond_false (hA.ev rfl) ?_
     refine wp_skip ?_
     refine hK163 _ _ ?_
     refine wp_seq_k (fun K168 hK168 => ?_)
     refine wp_region_lit ?_
     refine seq_do hA rfl rfl rfl (d_loadS hS RxG_isS_26 rfl 0 rfl (cs := [.bool ((bodyQ B9).b1), .slice p146_1 (((bodyQ B9).t1).length) p146_c1, .slice p146_2 (((bodyQ B9).q1).length) p146_c2, .bool ((bodyQ B9).b2), .slice p146_3 (((bodyQ B9).t2).length) p146_c3, .slice p146_4 (((bodyQ B9).q2).length) p146_c4]) rfl rfl) fun a hA => ?_
     refine seq_store (us := [.bool ((bodyQ B9).b1), .slice p146_1 (((bodyQ B9).t1).length) p146_c1, .slice p146_2 (((bodyQ B9).q1).length) p146_c2, .bool ((bodyQ B9).b2), .slice p146_3 (((bodyQ B9).t2).length) p146_c3, .slice p146_4 (((bodyQ B9).q2).length) p146_c4]) hA hS rfl rfl (sets_store rfl rfl rfl (by kernel_rfl) hS 1 rfl rfl rfl) 1 rfl rfl rfl rfl ?_
     intro w169 hS
     refine seq_do hA rfl rfl rfl (d_assign rfl) fun a hA => ?_
     refine seq_end ?_
     refine hK168 _ _ ?_
     refine wp_ret ?_
     refine hret _ _ ?_
     refine ends (v := .tuple #[.agg #[.bool ((bodyQ B9).b1), .slice p146_1 (((bodyQ B9).t1).length) p146_c1, .slice p146_2 (((bodyQ B9).q1).length) p146_c2, .bool ((bodyQ B9).b2), .slice p146_3 (((bodyQ B9).t2).length) p146_c3, .slice p146_4 (((bodyQ B9).q2).length) p146_c4], .int .i64 0]) hA rfl (.cons (res_cell hS RxG_isS_26 rfl 1 rfl (cs := [.bool ((bodyQ B9).b1), .slice p146_1 (((bodyQ B9).t1).length) p146_c1, .slice p146_2 (((bodyQ B9).q1).length) p146_c2, .bool ((bodyQ B9).b2), .slice p146_3 (((bodyQ B9).t2).length) p146_c3, .slice p146_4 (((bodyQ B9).q2).length) p146_c4]) rfl rfl) (.cons (res_tmp rfl) .nil)) rfl ?_
     have hB1 : B9.1 = true := by simpa using hc155
     have hok : okP k (l.drop p) = true := by rw [← body_ok hk, hB9]; exact hB1
     have eB : bodyS k (l.drop p) = (true, B9.2.1, B9.2.2.1, B9.2.2.2) := by rw [hB9, ← hB1]
     have eQ : bodyQ B9 = Q6.rat B9.2.1 B9.2.2.1 := by unfold bodyQ; rw [hB1]; rfl
     rw [readX_def hr ePx, if_pos hok, if_pos (by omega), body_val hk eB, if_pos hb165', ← eQ]
     exact ⟨p146_1, p146_c1, p146_2, p146_c2, p146_3, p146_c3, p146_4, p146_c4, rfl, ⟨⟨(hS.rd 3 rfl), hn147.s1.nil, hn147.s1.cap⟩, ⟨(hS.rd 2 rfl), hn147.s2.nil, hn147.s2.cap⟩, ⟨(hS.rd 1 rfl), hn147.s3.nil, hn147.s3.cap⟩, ⟨(hS.rd 0 rfl), hn147.s4.nil, hn147.s4.cap⟩⟩, hS.bel⟩
theorem rread_norad {w : World} {n : Int} {l : List UInt8} (hn : radixB n = false) : Calls Tryz.prog 10 #[.string (bsL l), .int .i64 n] w (AnsN w (readX l n)) := by
 have hS : St w w [] [] [] := St.start w
 refine walk_of (l := [(0, .string (bsL l)), (1, .int .i64 n)]) Tryz.func10 rfl Tryz.ntmps10 rfl rfl ?_
 intro Q hret hnorm hP a hA
 refine wp_seq_k (fun K1 hK1 => ?_)
 refine wp_region_lit ?_
 refine seq_new (vs := [.bool false, .slice none 0 0, .slice none 0 0, .bool false, .slice none 0 0, .slice none 0 0]) (t := 26) hA hS rfl rfl rfl (fun g => .pointer (some ⟨g, 0, none⟩)) (d_alloc (z := .agg #[.bool false, .slice none 0 0, .slice none 0 0, .bool false, .slice none 0 0, .slice none 0 0]) (by kernel_rfl) rfl) rfl ?_
 intro g2 w3 hS a hA
 refine seq_do hA rfl rfl rfl (d_assign rfl) fun a hA => ?_
 refine seq_end ?_
 refine hK1 _ _ ?_
 refine wp_seq_k (fun K4 hK4 => ?_)
 refine wp_seq_k (fun K5 hK5 => ?_)
 refine wp_region_lit ?_
 refine mv hA rfl rfl rfl fun a hA => ?_
 refine seq_call hA rfl rfl rfl (enters_func  rfl rfl (fun w => by kernel_rfl)) (rradixX_any hn) ?_
 rintro _ w7 ⟨rfl, hb6⟩
 replace hS := hS.call hb6
 refine ⟨_, rfl, ?_⟩
 intro a hA
 refine seq_do (v := .bool true) hA rfl rfl rfl (d_un rfl un_not) fun a hA => ?_
 refine seq_end ?_
 refine hK5 _ _ ?_
 refine wp_cond_true (hA.ev rfl) ?_
 refine wp_seq_k (fun K8 hK8 => ?_)
 refine wp_region_lit ?_
 refine seq_do (v := .agg #[.bool false, .slice none 0 0, .slice none 0 0, .bool false, .slice none 0 0, .slice none 0 0]) hA rfl rfl rfl (d_build rfl (fun w => by kernel_rfl)) fun a hA => ?_
 refine seq_store (us := [.bool false, .slice none 0 0, .slice none 0 0, .bool false, .slice none 0 0, .slice none 0 0]) hA hS rfl rfl (sets_store rfl rfl rfl (by kernel_rfl) hS 0 rfl rfl rfl) 0 rfl rfl rfl rfl ?_
 intro w9 hS
 refine seq_do hA rfl rfl rfl (d_assign rfl) fun a hA => ?_
 refine seq_end ?_
 refine hK8 _ _ ?_
 refine wp_ret ?_
 refine hret _ _ ?_
 refine ends (v := .tuple #[.agg #[.bool false, .slice none 0 0, .slice none 0 0, .bool false, .slice none 0 0, .slice none 0 0], .int .i64 1]) hA rfl (.cons (res_cell hS RxG_isS_26 rfl 0 rfl (cs := [.bool false, .slice none 0 0, .slice none 0 0, .bool false, .slice none 0 0, .slice none 0 0]) rfl rfl) (.cons (res_tmp rfl) .nil)) rfl ?_
 rw [show readX l n = (Q6.zero, 1) from by unfold readX; rw [hn]; rfl]
 exact ⟨none, 0, none, 0, none, 0, none, 0, rfl, ⟨Sc.none _, Sc.none _, Sc.none _, Sc.none _⟩, hS.bel⟩
theorem readR_any {w : World} {n : Int} {l : List UInt8} (hl : l.length ≤ 9223372036854775807) : Calls Tryz.prog 10 #[.string (bsL l), .int .i64 n] w (AnsN w (readX l n)) := by
 cases h : radixB n with
 | false => exact rread_norad h
 | true =>
  obtain ⟨r, rfl, hr⟩ := radixB_iff h
  exact rread_rad hr hl
theorem mk_fit {b : Bool} {x d : Nat} (hd : d ≠ 0) (h1 : (words x).length ≤ 512) (h2 : (words d).length ≤ 512) : fitR (mkRat (sgn b x) d) := lenR_mk (k := 512) hd (sgn_abs_len h1) h2 rfl
theorem valX_sound (r : Nat) (n m : Nl) : LenQ (valX r n m).1 ∧ ((valX r n m).2 = 0 → soundQ (valX r n m).1 = true) := by
 by_cases h1 : errN r n ≠ 0 ∨ errN r m ≠ 0
 ·
  rw [valX_bad h1]; exact ⟨lenQ_z, fun h => by cases h⟩
 ·
  by_cases h2 : natN r n.2.2 = 0 ∨ natN r m.2.2 = 0
  ·
   rw [valX_zero (by omega) (by omega) h2]; exact ⟨lenQ_z, fun h => by cases h⟩
  ·
   have e1 : errN r n = 0 := by omega
   have e2 : errN r m = 0 := by omega
   have f1 : fitR (ratN r n) := mk_fit (by omega) (rdN_ok (errN_zero e1).1).2 (rdN_ok (errN_zero e1).2).2
   have f2 : fitR (ratN r m) := mk_fit (by omega) (rdN_ok (errN_zero e2).1).2 (rdN_ok (errN_zero e2).2).2
   have e : valX r n m = (Q6.rat (ratN r n) (ratN r m), 0) := by unfold valX; rw [if_neg h1, if_neg h2]
   rw [e]
   exact ⟨lenQ_rat f1 f2, fun _ => soundQ_rat f1 f2⟩
theorem readX_sound (l : List UInt8) (n : Int) : LenQ (readX l n).1 ∧ ((readX l n).2 = 0 → soundQ (readX l n).1 = true) := by
 unfold readX
 split
 ·
  split
  ·
   split
   ·
    exact valX_sound _ _ _
   ·
    exact ⟨lenQ_z, fun h => by cases h⟩
  ·
   exact ⟨lenQ_z, fun h => by cases h⟩
 ·
  exact ⟨lenQ_z, fun h => by cases h⟩
end Go.Proofs.YtjmhdebfpnjceaaGreat
namespace Go.Proofs.YtjmhdebfpnjceaaGreat
open Go.RowKit
set_option linter.unusedVariables false
set_option linter.unusedSimpArgs false
set_option maxRecDepth 100000
theorem RxH_isS_26 : IsS Tryz.prog 26 6 := ⟨⟨_, Tryz.underlying26⟩, by kernel_rfl⟩
theorem readsW_any {w : World} {l : List UInt8} {n : Int} (hl : l.length ≤ 9223372036854775807) {z : Q6 × Int} (hz : readX l n = z) (lz : LenQ z.1) (hs0 : z.2 = 0 → soundQ z.1 = true) : Calls Tryz.prog 4 #[.string (bsL l), .int .i64 n] w fun e w' => e = .returned (.bool true) ∧ Below w.heap.size w w' := by
 have hS : St w w [] [] [] := St.start w
 refine walk_of (l := [(0, .string (bsL l)), (1, .int .i64 n)]) Tryz.func4 rfl Tryz.ntmps4 rfl rfl ?_
 intro Q hret hnorm hP a hA
 refine wp_seq_k (fun K1 hK1 => ?_)
 refine wp_region_lit ?_
 refine seq_do hA rfl rfl rfl (d_assign rfl) fun a hA => ?_
 refine seq_end ?_
 refine hK1 _ _ ?_
 refine wp_seq_k (fun K2 hK2 => ?_)
 refine wp_region_lit ?_
 refine mv hA rfl rfl rfl fun a hA => ?_
 refine mv hA rfl rfl rfl fun a hA => ?_
 refine seq_call hA rfl rfl rfl (enters_func  rfl rfl (fun w => by kernel_rfl)) ((hz ▸ readP_any hl)) ?_
 rintro _ w6 ⟨p3_1, p3_c1, p3_2, p3_c2, p3_3, p3_c3, p3_4, p3_c4, rfl, hn4, hb5⟩
 replace hS := hS.call hb5
 replace hS := hS.addR hn4.s1.rd
 replace hS := hS.addR hn4.s2.rd
 replace hS := hS.addR hn4.s3.rd
 replace hS := hS.addR hn4.s4.rd
 refine ⟨_, rfl, ?_⟩
 intro a hA
 refine mv hA rfl rfl rfl fun a hA => ?_
 refine seq_do (v := .agg #[.bool z.1.b1, .slice p3_1 z.1.t1.length p3_c1, .slice p3_2 z.1.q1.length p3_c2, .bool z.1.b2, .slice p3_3 z.1.t2.length p3_c3, .slice p3_4 z.1.q2.length p3_c4]) hA rfl rfl rfl (d_extract (vs := [.agg #[.bool z.1.b1, .slice p3_1 z.1.t1.length p3_c1, .slice p3_2 z.1.q1.length p3_c2, .bool z.1.b2, .slice p3_3 z.1.t2.length p3_c3, .slice p3_4 z.1.q2.length p3_c4], .int .i64 z.2]) rfl rfl) fun a hA => ?_
 refine seq_do (v := .int .i64 z.2) hA rfl rfl rfl (d_extract (vs := [.agg #[.bool z.1.b1, .slice p3_1 z.1.t1.length p3_c1, .slice p3_2 z.1.q1.length p3_c2, .bool z.1.b2, .slice p3_3 z.1.t2.length p3_c3, .slice p3_4 z.1.q2.length p3_c4], .int .i64 z.2]) rfl rfl) fun a hA => ?_
 refine seq_new (vs := [.bool false, .slice none 0 0, .slice none 0 0, .bool false, .slice none 0 0, .slice none 0 0]) (t := 26) hA hS rfl rfl rfl (fun g => .pointer (some ⟨g, 0, none⟩)) (d_alloc (z := .agg #[.bool false, .slice none 0 0, .slice none 0 0, .bool false, .slice none 0 0, .slice none 0 0]) (by kernel_rfl) rfl) rfl ?_
 intro g7 w8 hS a hA
 refine seq_store (us := [.bool z.1.b1, .slice p3_1 z.1.t1.length p3_c1, .slice p3_2 z.1.q1.length p3_c2, .bool z.1.b2, .slice p3_3 z.1.t2.length p3_c3, .slice p3_4 z.1.q2.length p3_c4]) hA hS rfl rfl (sets_store rfl rfl rfl (by kernel_rfl) hS 0 rfl rfl rfl) 0 rfl rfl rfl rfl ?_
 intro w9 hS
 refine seq_do hA rfl rfl rfl (d_assign rfl) fun a hA => ?_
 refine seq_end ?_
 refine hK2 _ _ ?_
 refine wp_seq_k (fun K10 hK10 => ?_)
 refine wp_region_lit ?_
 refine mv hA rfl rfl rfl fun a hA => ?_
 refine mv hA rfl rfl rfl fun a hA => ?_
 refine seq_call hA rfl rfl rfl (enters_func  rfl rfl (fun w => by kernel_rfl)) ((hz ▸ readR_any hl)) ?_
 rintro _ w14 ⟨p11_1, p11_c1, p11_2, p11_c2, p11_3, p11_c3, p11_4, p11_c4, rfl, hn12, hb13⟩
 replace hS := hS.call hb13
 replace hS := hS.addR hn12.s1.rd
 replace hS := hS.addR hn12.s2.rd
 replace hS := hS.addR hn12.s3.rd
 replace hS := hS.addR hn12.s4.rd
 refine ⟨_, rfl, ?_⟩
 intro a hA
 refine mv hA rfl rfl rfl fun a hA => ?_
 refine seq_do (v := .agg #[.bool z.1.b1, .slice p11_1 z.1.t1.length p11_c1, .slice p11_2 z.1.q1.length p11_c2, .bool z.1.b2, .slice p11_3 z.1.t2.length p11_c3, .slice p11_4 z.1.q2.length p11_c4]) hA rfl rfl rfl (d_extract (vs := [.agg #[.bool z.1.b1, .slice p11_1 z.1.t1.length p11_c1, .slice p11_2 z.1.q1.length p11_c2, .bool z.1.b2, .slice p11_3 z.1.t2.length p11_c3, .slice p11_4 z.1.q2.length p11_c4], .int .i64 z.2]) rfl rfl) fun a hA => ?_
 refine seq_do (v := .int .i64 z.2) hA rfl rfl rfl (d_extract (vs := [.agg #[.bool z.1.b1, .slice p11_1 z.1.t1.length p11_c1, .slice p11_2 z.1.q1.length p11_c2, .bool z.1.b2, .slice p11_3 z.1.t2.length p11_c3, .slice p11_4 z.1.q2.length p11_c4], .int .i64 z.2]) rfl rfl) fun a hA => ?_
 refine seq_new (vs := [.bool false, .slice none 0 0, .slice none 0 0, .bool false, .slice none 0 0, .slice none 0 0]) (t := 26) hA hS rfl rfl rfl (fun g => .pointer (some ⟨g, 0, none⟩)) (d_alloc (z := .agg #[.bool false, .slice none 0 0, .slice none 0 0, .bool false, .slice none 0 0, .slice none 0 0]) (by kernel_rfl) rfl) rfl ?_
 intro g15 w16 hS a hA
 refine seq_store (us := [.bool z.1.b1, .slice p11_1 z.1.t1.length p11_c1, .slice p11_2 z.1.q1.length p11_c2, .bool z.1.b2, .slice p11_3 z.1.t2.length p11_c3, .slice p11_4 z.1.q2.length p11_c4]) hA hS rfl rfl (sets_store rfl rfl rfl (by kernel_rfl) hS 0 rfl rfl rfl) 0 rfl rfl rfl rfl ?_
 intro w17 hS
 refine seq_do hA rfl rfl rfl (d_assign rfl) fun a hA => ?_
 refine seq_end ?_
 refine hK10 _ _ ?_
 refine wp_seq_k (fun K18 hK18 => ?_)
 refine wp_region_lit ?_
 refine seq_call hA rfl rfl rfl (enters_func  rfl rfl (fun w => by kernel_rfl)) (awake3_any) ?_
 rintro _ w20 ⟨rfl, hb19⟩
 replace hS := hS.call hb19
 refine ⟨_, rfl, ?_⟩
 intro a hA
 refine mv hA rfl rfl rfl fun a hA => ?_
 refine seq_do hA rfl rfl rfl (d_loadS hS RxH_isS_26 rfl 1 rfl (cs := [.bool z.1.b1, .slice p3_1 z.1.t1.length p3_c1, .slice p3_2 z.1.q1.length p3_c2, .bool z.1.b2, .slice p3_3 z.1.t2.length p3_c3, .slice p3_4 z.1.q2.length p3_c4]) rfl rfl) fun a hA => ?_
 refine seq_do hA rfl rfl rfl (d_loadS hS RxH_isS_26 rfl 0 rfl (cs := [.bool z.1.b1, .slice p11_1 z.1.t1.length p11_c1, .slice p11_2 z.1.q1.length p11_c2, .bool z.1.b2, .slice p11_3 z.1.t2.length p11_c3, .slice p11_4 z.1.q2.length p11_c4]) rfl rfl) fun a hA => ?_
 refine seq_call hA rfl rfl rfl (enters_func  rfl rfl (fun w => by kernel_rfl)) (alike_any (show Nm _ _ p3_1 p3_c1 p3_2 p3_c2 p3_3 p3_c3 p3_4 p3_c4 from ⟨⟨(hS.rd 7 rfl), hn4.s1.nil, hn4.s1.cap⟩, ⟨(hS.rd 6 rfl), hn4.s2.nil, hn4.s2.cap⟩, ⟨(hS.rd 5 rfl), hn4.s3.nil, hn4.s3.cap⟩, ⟨(hS.rd 4 rfl), hn4.s4.nil, hn4.s4.cap⟩⟩) lz (show Nm _ _ p11_1 p11_c1 p11_2 p11_c2 p11_3 p11_c3 p11_4 p11_c4 from ⟨⟨(hS.rd 3 rfl), hn12.s1.nil, hn12.s1.cap⟩, ⟨(hS.rd 2 rfl), hn12.s2.nil, hn12.s2.cap⟩, ⟨(hS.rd 1 rfl), hn12.s3.nil, hn12.s3.cap⟩, ⟨(hS.rd 0 rfl), hn12.s4.nil, hn12.s4.cap⟩⟩)) ?_
 rintro _ w22 ⟨rfl, hb21⟩
 replace hS := hS.call hb21
 refine ⟨_, rfl, ?_⟩
 intro a hA
 refine seq_do (v := .bool true) hA rfl rfl rfl (d_pick rfl rfl rfl rfl) fun a hA => ?_
 refine mv hA rfl rfl rfl fun a hA => ?_
 refine mv hA rfl rfl rfl fun a hA => ?_
 refine mv hA rfl rfl rfl fun a hA => ?_
 refine seq_do (v := .bool true) hA rfl rfl rfl (d_bin rfl rfl (fun w => (bin_eql w).trans (by rw [show ((z.2 == z.2)) = true from (beq_self_eq_true _)]))) fun a hA => ?_
 refine seq_do (v := .bool true) hA rfl rfl rfl (d_pick rfl rfl rfl rfl) fun a hA => ?_
 refine mv hA rfl rfl rfl fun a hA => ?_
 refine mv hA rfl rfl rfl fun a hA => ?_
 rcases Bool.eq_false_or_eq_true ((z.2 != 0)) with hb23 | hb23
 ·
  have hb23' := bne_iff_ne.1 hb23
  refine seq_do (v := .bool true) hA rfl rfl rfl (d_bin rfl rfl (fun w => (bin_neq w).trans (by rw [hb23]))) fun a hA => ?_
  refine mv hA rfl rfl rfl fun a hA => ?_
  refine seq_skip hA rfl rfl rfl fun a hA => ?_
  refine seq_skip hA rfl rfl rfl fun a hA => ?_
  refine seq_do (v := .bool true) hA rfl rfl rfl (d_pick rfl rfl rfl rfl) fun a hA => ?_
  refine seq_do (v := .bool true) hA rfl rfl rfl (d_pick rfl rfl rfl rfl) fun a hA => ?_
  refine seq_do hA rfl rfl rfl (d_assign rfl) fun a hA => ?_
  refine seq_end ?_
  refine hK18 _ _ ?_
  refine wp_ret ?_
  refine hret _ _ ?_
  refine ends (v := .bool true) hA rfl (.cons (res_tmp rfl) .nil) rfl ?_
  exact ⟨rfl, hS.bel⟩
 ·
  have hb23' := bne_eq_false_iff_eq.1 hb23
  refine seq_do (v := .bool false) hA rfl rfl rfl (d_bin rfl rfl (fun w => (bin_neq w).trans (by rw [hb23]))) fun a hA => ?_
  refine mv hA rfl rfl rfl fun a hA => ?_
  refine seq_do hA rfl rfl rfl (d_loadS hS RxH_isS_26 rfl 1 rfl (cs := [.bool z.1.b1, .slice p3_1 z.1.t1.length p3_c1, .slice p3_2 z.1.q1.length p3_c2, .bool z.1.b2, .slice p3_3 z.1.t2.length p3_c3, .slice p3_4 z.1.q2.length p3_c4]) rfl rfl) fun a hA => ?_
  refine seq_call hA rfl rfl rfl (enters_func  rfl rfl (fun w => by kernel_rfl)) (soundQ_any (show Nm _ _ p3_1 p3_c1 p3_2 p3_c2 p3_3 p3_c3 p3_4 p3_c4 from ⟨⟨(hS.rd 7 rfl), hn4.s1.nil, hn4.s1.cap⟩, ⟨(hS.rd 6 rfl), hn4.s2.nil, hn4.s2.cap⟩, ⟨(hS.rd 5 rfl), hn4.s3.nil, hn4.s3.cap⟩, ⟨(hS.rd 4 rfl), hn4.s4.nil, hn4.s4.cap⟩⟩) lz (hs0 hb23')) ?_
  rintro _ w25 ⟨rfl, hb24⟩
  replace hS := hS.call hb24
  refine ⟨_, rfl, ?_⟩
  intro a hA
  refine seq_do (v := .bool true) hA rfl rfl rfl (d_pick rfl rfl rfl rfl) fun a hA => ?_
  refine seq_do (v := .bool true) hA rfl rfl rfl (d_pick rfl rfl rfl rfl) fun a hA => ?_
  refine seq_do hA rfl rfl rfl (d_assign rfl) fun a hA => ?_
  refine seq_end ?_
  refine hK18 _ _ ?_
  refine wp_ret ?_
  refine hret _ _ ?_
  refine ends (v := .bool true) hA rfl (.cons (res_tmp rfl) .nil) rfl ?_
  exact ⟨rfl, hS.bel⟩
theorem exactReads_any {w : World} {s : ByteArray} {n : Int} (hl : s.size ≤ 9223372036854775807) : Calls Tryz.prog 4 #[.string s, .int .i64 n] w fun e w' => e = .returned (.bool true) ∧ Below w.heap.size w w' := by
 have h := readsW_any (w := w) (l := s.data.toList) (n := n) (by rw [← bsL_size, bsL_of]; exact hl) rfl (readX_sound _ _).1 (readX_sound _ _).2
 rw [bsL_of] at h
 exact h
theorem exactReads_arg (w : World) (s : ByteArray) (hs : s.size ≤ 140737488351232) (n : Int) (h0 : -9223372036854775808 ≤ n) (h1 : n ≤ 9223372036854775807) : Calls Tryz.prog 4 #[.string s, .int .i64 n] w fun e w' => e = .returned (.bool true) ∧ Below w.heap.size w w' := exactReads_any (by omega)
end Go.Proofs.YtjmhdebfpnjceaaGreat
