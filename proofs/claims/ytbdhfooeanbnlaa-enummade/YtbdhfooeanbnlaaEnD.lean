/- Walks of sets of one universe. -/
import Derived.Test.YtbdhfooeanbnlaaEnC
namespace Go.Proofs.Ytbdhfooeanbnlaa
open Go.RowKit Go.Lib Go.Sort
set_option linter.unusedVariables false
set_option linter.unusedSimpArgs false
set_option maxRecDepth 100000
theorem EnD_is1_22 : Is1 Try.prog 22 := ⟨⟨_, Try.underlying22, rfl⟩, by kernel_rfl⟩
theorem EnD_fld_25_0 : FieldAt Try.prog 25 0 0 := ⟨_, _, Try.underlying25, rfl, rfl, by kernel_rfl⟩
theorem EnD_isS_25 : IsS Try.prog 25 2 := ⟨⟨_, Try.underlying25⟩, by kernel_rfl⟩
section
variable {P : Program} {w0 w : World} {L : List Ck} {l : List (Nat × Value)} {ops : List Oper} {Q : Exit → Act → World → Prop} {a : Act} {n : Nat} {o : Oper} {d : Nat} {S : World → Prop} {md : Region.Mode} {fuel : Nat} {listed : Array Bool}
/-- A new block, in a region that draws its order. -/
theorem g_new (hA : Sl a n l) (hM : Mg w0 w L) (i : Nat) (hi : ops[i]? = some o) (hg : passes l ops o = true) (hdst : o.dst = some d) (hd : Nat.blt d n = true) {vs : List Value} {t : TypeId} (val : Nat → Value) (he : Does P l o w (val w.heap.size) (w.alloc (.cells vs.toArray t))) (ht : t ≠ BY)
    (hk : ∀ g w', Mg w0 w' (.obj g (.cells vs.toArray t) :: L) → S w' ∧ ∀ a', Sl a' n ((d, val g) :: l) → wpAnyH P md ops.toArray Q S fuel (listed.setIfInBounds i true) a' w') : wpOp P ops.toArray Q i (fun a' w' => S w' ∧ wpAnyH P md ops.toArray Q S fuel (listed.setIfInBounds i true) a' w') a w := by
  have h := hk _ _ (hM.addObj _ (quiet_cells ht))
  exact op_do hA i hi hg hdst hd he h.1 h.2
end
theorem comb_form1 {w : World} {so si : Option Addr} {ca ci : Nat} {l : List ByteArray} {bs : List Bool} (hR : Rs w so l) (hB : Rl w si bs) {so2 si2 : Option Addr} {ca2 ci2 : Nat} {l2 : List ByteArray} {bs2 : List Bool} (hR2 : Rs w so2 l2) (hB2 : Rl w si2 bs2) {f : FuncId} (hsd : sndS l bs = false) : Calls Try.prog 37 #[.agg #[.slice so l.length ca, .slice si bs.length ci], .agg #[.slice so2 l2.length ca2, .slice si2 bs2.length ci2], .func (.func f) #[] ([] : List Value).toArray] w fun e w' => e = .returned (.tuple #[.agg #[.slice none 0 0, .slice none 0 0], .int .i64 2]) ∧ Below w.heap.size w w' := by
 have hM : Mg w w ([]) := Mg.start w
 refine walk_of (l := [(0, .agg #[.slice so l.length ca, .slice si bs.length ci]), (1, .agg #[.slice so2 l2.length ca2, .slice si2 bs2.length ci2]), (2, .func (.func f) #[] (([] : List Value)).toArray)]) Try.func37 rfl Try.ntmps37 rfl rfl ?_
 intro Q hret hnorm hP a hA
 refine wp_seq_k (fun K1 hK1 => ?_)
 refine wp_region_lit ?_
 refine s_new (vs := [.slice so l.length ca, .slice si bs.length ci]) (t := 25) hA hM rfl rfl rfl (fun g => .pointer (some ⟨g, 0, none⟩)) (does_box rfl rfl) (by decide) ?_
 intro g2 w3 hM a hA
 refine s_new (vs := [.slice so2 l2.length ca2, .slice si2 bs2.length ci2]) (t := 25) hA hM rfl rfl rfl (fun g => .pointer (some ⟨g, 0, none⟩)) (does_box rfl rfl) (by decide) ?_
 intro g4 w5 hM a hA
 refine s_new (vs := [.func (.func f) #[] (([] : List Value)).toArray]) (t := 61) hA hM rfl rfl rfl (fun g => .pointer (some ⟨g, 0, none⟩)) (does_box rfl rfl) (by decide) ?_
 intro g6 w7 hM a hA
 refine s_new (vs := [.slice none 0 0, .slice none 0 0]) (t := 25) hA hM rfl rfl rfl (fun g => .pointer (some ⟨g, 0, none⟩)) (does_alloc (z := .agg #[.slice none 0 0, .slice none 0 0]) (by kernel_rfl) rfl) (by decide) ?_
 intro g8 w9 hM a hA
 refine seq_do hA rfl rfl rfl (does_assign rfl) ?_
 intro a hA
 refine seq_end ?_
 refine hK1 _ _ ?_
 refine wp_seq_k (fun K10 hK10 => ?_)
 refine wp_block ?_
 refine wp_seq_k (fun K11 hK11 => ?_)
 refine wp_region_lit ?_
 refine seq_do hA rfl rfl rfl (m_loadS hM EnD_isS_25 rfl 3 rfl (cs := [.slice so l.length ca, .slice si bs.length ci]) rfl rfl) ?_
 intro a hA
 refine seq_call hA rfl rfl rfl (enters_func rfl rfl (fun w => by kernel_rfl)) (sound_as (hR.below hM.bel) (hB.below hM.bel) hsd) ?_
 rintro _ w13 ⟨rfl, hb12⟩
 replace hM := hM.call hb12
 refine ⟨_, rfl, ?_⟩
 intro a hA
 refine seq_do (v := .bool true) hA rfl rfl rfl (does_un rfl un_not) ?_
 intro a hA
 refine seq_do hA rfl rfl rfl (does_move rfl) ?_
 intro a hA
 refine seq_skip hA rfl rfl rfl ?_
 intro a hA
 refine seq_skip hA rfl rfl rfl ?_
 intro a hA
 refine seq_skip hA rfl rfl rfl ?_
 intro a hA
 refine seq_do (v := .bool true) hA rfl rfl rfl (does_pick rfl rfl rfl rfl) ?_
 intro a hA
 refine seq_do hA rfl rfl rfl (does_assign rfl) ?_
 intro a hA
 refine seq_end ?_
 refine hK11 _ _ ?_
 refine wp_cond_true (hA.ev rfl) ?_
 refine wp_seq_k (fun K14 hK14 => ?_)
 refine wp_region_lit ?_
 refine seq_do (v := .agg #[.slice none 0 0, .slice none 0 0]) hA rfl rfl rfl (does_build rfl (fun w => by kernel_rfl)) ?_
 intro a hA
 refine s_store (us := [.slice none 0 0, .slice none 0 0]) (L' := (.obj g8 (.cells #[.slice none 0 0, .slice none 0 0] 25) :: .obj g6 (.cells #[.func (.func f) #[] (([] : List Value)).toArray] 61) :: .obj g4 (.cells #[.slice so2 l2.length ca2, .slice si2 bs2.length ci2] 25) :: .obj g2 (.cells #[.slice so l.length ca, .slice si bs.length ci] 25) :: [])) hA hM rfl rfl (m_store rfl rfl rfl (by kernel_rfl) hM 0 rfl rfl rfl) 0 rfl rfl rfl ?_
 intro w15 hM
 refine seq_do hA rfl rfl rfl (does_assign rfl) ?_
 intro a hA
 refine seq_end ?_
 refine hK14 _ _ ?_
 refine wp_ret ?_
 refine hret _ _ ?_
 refine ends (v := .tuple #[.agg #[.slice none 0 0, .slice none 0 0], .int .i64 2]) hA rfl (.cons (res_cellS hM EnD_isS_25 rfl 0 rfl (cs := [.slice none 0 0, .slice none 0 0]) rfl rfl) (.cons (res_tmp rfl) .nil)) rfl ?_
 exact ⟨rfl, hM.bel⟩
theorem comb_form2 {w : World} {so si : Option Addr} {ca ci : Nat} {l : List ByteArray} {bs : List Bool} (hR : Rs w so l) (hB : Rl w si bs) {so2 si2 : Option Addr} {ca2 ci2 : Nat} {l2 : List ByteArray} {bs2 : List Bool} (hR2 : Rs w so2 l2) (hB2 : Rl w si2 bs2) {f : FuncId} (hsd : sndS l bs = true) (hsd2 : sndS l2 bs2 = false) : Calls Try.prog 37 #[.agg #[.slice so l.length ca, .slice si bs.length ci], .agg #[.slice so2 l2.length ca2, .slice si2 bs2.length ci2], .func (.func f) #[] ([] : List Value).toArray] w fun e w' => e = .returned (.tuple #[.agg #[.slice none 0 0, .slice none 0 0], .int .i64 2]) ∧ Below w.heap.size w w' := by
 have hM : Mg w w ([]) := Mg.start w
 refine walk_of (l := [(0, .agg #[.slice so l.length ca, .slice si bs.length ci]), (1, .agg #[.slice so2 l2.length ca2, .slice si2 bs2.length ci2]), (2, .func (.func f) #[] (([] : List Value)).toArray)]) Try.func37 rfl Try.ntmps37 rfl rfl ?_
 intro Q hret hnorm hP a hA
 refine wp_seq_k (fun K1 hK1 => ?_)
 refine wp_region_lit ?_
 refine s_new (vs := [.slice so l.length ca, .slice si bs.length ci]) (t := 25) hA hM rfl rfl rfl (fun g => .pointer (some ⟨g, 0, none⟩)) (does_box rfl rfl) (by decide) ?_
 intro g2 w3 hM a hA
 refine s_new (vs := [.slice so2 l2.length ca2, .slice si2 bs2.length ci2]) (t := 25) hA hM rfl rfl rfl (fun g => .pointer (some ⟨g, 0, none⟩)) (does_box rfl rfl) (by decide) ?_
 intro g4 w5 hM a hA
 refine s_new (vs := [.func (.func f) #[] (([] : List Value)).toArray]) (t := 61) hA hM rfl rfl rfl (fun g => .pointer (some ⟨g, 0, none⟩)) (does_box rfl rfl) (by decide) ?_
 intro g6 w7 hM a hA
 refine s_new (vs := [.slice none 0 0, .slice none 0 0]) (t := 25) hA hM rfl rfl rfl (fun g => .pointer (some ⟨g, 0, none⟩)) (does_alloc (z := .agg #[.slice none 0 0, .slice none 0 0]) (by kernel_rfl) rfl) (by decide) ?_
 intro g8 w9 hM a hA
 refine seq_do hA rfl rfl rfl (does_assign rfl) ?_
 intro a hA
 refine seq_end ?_
 refine hK1 _ _ ?_
 refine wp_seq_k (fun K10 hK10 => ?_)
 refine wp_block ?_
 refine wp_seq_k (fun K11 hK11 => ?_)
 refine wp_region_lit ?_
 refine seq_do hA rfl rfl rfl (m_loadS hM EnD_isS_25 rfl 3 rfl (cs := [.slice so l.length ca, .slice si bs.length ci]) rfl rfl) ?_
 intro a hA
 refine seq_call hA rfl rfl rfl (enters_func rfl rfl (fun w => by kernel_rfl)) (sound_as (hR.below hM.bel) (hB.below hM.bel) hsd) ?_
 rintro _ w13 ⟨rfl, hb12⟩
 replace hM := hM.call hb12
 refine ⟨_, rfl, ?_⟩
 intro a hA
 refine seq_do (v := .bool false) hA rfl rfl rfl (does_un rfl un_not) ?_
 intro a hA
 refine seq_do hA rfl rfl rfl (does_move rfl) ?_
 intro a hA
 refine seq_do hA rfl rfl rfl (m_loadS hM EnD_isS_25 rfl 2 rfl (cs := [.slice so2 l2.length ca2, .slice si2 bs2.length ci2]) rfl rfl) ?_
 intro a hA
 refine seq_call hA rfl rfl rfl (enters_func rfl rfl (fun w => by kernel_rfl)) (sound_as (hR2.below hM.bel) (hB2.below hM.bel) hsd2) ?_
 rintro _ w15 ⟨rfl, hb14⟩
 replace hM := hM.call hb14
 refine ⟨_, rfl, ?_⟩
 intro a hA
 refine seq_do (v := .bool true) hA rfl rfl rfl (does_un rfl un_not) ?_
 intro a hA
 refine seq_do (v := .bool true) hA rfl rfl rfl (does_pick rfl rfl rfl rfl) ?_
 intro a hA
 refine seq_do hA rfl rfl rfl (does_assign rfl) ?_
 intro a hA
 refine seq_end ?_
 refine hK11 _ _ ?_
 refine wp_cond_true (hA.ev rfl) ?_
 refine wp_seq_k (fun K16 hK16 => ?_)
 refine wp_region_lit ?_
 refine seq_do (v := .agg #[.slice none 0 0, .slice none 0 0]) hA rfl rfl rfl (does_build rfl (fun w => by kernel_rfl)) ?_
 intro a hA
 refine s_store (us := [.slice none 0 0, .slice none 0 0]) (L' := (.obj g8 (.cells #[.slice none 0 0, .slice none 0 0] 25) :: .obj g6 (.cells #[.func (.func f) #[] (([] : List Value)).toArray] 61) :: .obj g4 (.cells #[.slice so2 l2.length ca2, .slice si2 bs2.length ci2] 25) :: .obj g2 (.cells #[.slice so l.length ca, .slice si bs.length ci] 25) :: [])) hA hM rfl rfl (m_store rfl rfl rfl (by kernel_rfl) hM 0 rfl rfl rfl) 0 rfl rfl rfl ?_
 intro w17 hM
 refine seq_do hA rfl rfl rfl (does_assign rfl) ?_
 intro a hA
 refine seq_end ?_
 refine hK16 _ _ ?_
 refine wp_ret ?_
 refine hret _ _ ?_
 refine ends (v := .tuple #[.agg #[.slice none 0 0, .slice none 0 0], .int .i64 2]) hA rfl (.cons (res_cellS hM EnD_isS_25 rfl 0 rfl (cs := [.slice none 0 0, .slice none 0 0]) rfl rfl) (.cons (res_tmp rfl) .nil)) rfl ?_
 exact ⟨rfl, hM.bel⟩
theorem comb_type {w : World} {so si : Option Addr} {ca ci : Nat} {l : List ByteArray} {bs : List Bool} (hR : Rs w so l) (hB : Rl w si bs) {so2 si2 : Option Addr} {ca2 ci2 : Nat} {l2 : List ByteArray} {bs2 : List Bool} (hR2 : Rs w so2 l2) (hB2 : Rl w si2 bs2) {f : FuncId} (hsd : sndS l bs = true) (hsd2 : sndS l2 bs2 = true) (heq : decide (l = l2) = false) : Calls Try.prog 37 #[.agg #[.slice so l.length ca, .slice si bs.length ci], .agg #[.slice so2 l2.length ca2, .slice si2 bs2.length ci2], .func (.func f) #[] ([] : List Value).toArray] w fun e w' => e = .returned (.tuple #[.agg #[.slice none 0 0, .slice none 0 0], .int .i64 10]) ∧ Below w.heap.size w w' := by
 have hl : l.length ≤ 8796093021952 := by have := (snd_le hsd).1; omega
 have hl2 : l2.length ≤ 8796093021952 := by have := (snd_le hsd2).1; omega
 have hM : Mg w w ([]) := Mg.start w
 refine walk_of (l := [(0, .agg #[.slice so l.length ca, .slice si bs.length ci]), (1, .agg #[.slice so2 l2.length ca2, .slice si2 bs2.length ci2]), (2, .func (.func f) #[] (([] : List Value)).toArray)]) Try.func37 rfl Try.ntmps37 rfl rfl ?_
 intro Q hret hnorm hP a hA
 refine wp_seq_k (fun K1 hK1 => ?_)
 refine wp_region_lit ?_
 refine s_new (vs := [.slice so l.length ca, .slice si bs.length ci]) (t := 25) hA hM rfl rfl rfl (fun g => .pointer (some ⟨g, 0, none⟩)) (does_box rfl rfl) (by decide) ?_
 intro g2 w3 hM a hA
 refine s_new (vs := [.slice so2 l2.length ca2, .slice si2 bs2.length ci2]) (t := 25) hA hM rfl rfl rfl (fun g => .pointer (some ⟨g, 0, none⟩)) (does_box rfl rfl) (by decide) ?_
 intro g4 w5 hM a hA
 refine s_new (vs := [.func (.func f) #[] (([] : List Value)).toArray]) (t := 61) hA hM rfl rfl rfl (fun g => .pointer (some ⟨g, 0, none⟩)) (does_box rfl rfl) (by decide) ?_
 intro g6 w7 hM a hA
 refine s_new (vs := [.slice none 0 0, .slice none 0 0]) (t := 25) hA hM rfl rfl rfl (fun g => .pointer (some ⟨g, 0, none⟩)) (does_alloc (z := .agg #[.slice none 0 0, .slice none 0 0]) (by kernel_rfl) rfl) (by decide) ?_
 intro g8 w9 hM a hA
 refine seq_do hA rfl rfl rfl (does_assign rfl) ?_
 intro a hA
 refine seq_end ?_
 refine hK1 _ _ ?_
 refine wp_seq_k (fun K10 hK10 => ?_)
 refine wp_block ?_
 refine wp_seq_k (fun K11 hK11 => ?_)
 refine wp_region_lit ?_
 refine seq_do hA rfl rfl rfl (m_loadS hM EnD_isS_25 rfl 3 rfl (cs := [.slice so l.length ca, .slice si bs.length ci]) rfl rfl) ?_
 intro a hA
 refine seq_call hA rfl rfl rfl (enters_func rfl rfl (fun w => by kernel_rfl)) (sound_as (hR.below hM.bel) (hB.below hM.bel) hsd) ?_
 rintro _ w13 ⟨rfl, hb12⟩
 replace hM := hM.call hb12
 refine ⟨_, rfl, ?_⟩
 intro a hA
 refine seq_do (v := .bool false) hA rfl rfl rfl (does_un rfl un_not) ?_
 intro a hA
 refine seq_do hA rfl rfl rfl (does_move rfl) ?_
 intro a hA
 refine seq_do hA rfl rfl rfl (m_loadS hM EnD_isS_25 rfl 2 rfl (cs := [.slice so2 l2.length ca2, .slice si2 bs2.length ci2]) rfl rfl) ?_
 intro a hA
 refine seq_call hA rfl rfl rfl (enters_func rfl rfl (fun w => by kernel_rfl)) (sound_as (hR2.below hM.bel) (hB2.below hM.bel) hsd2) ?_
 rintro _ w15 ⟨rfl, hb14⟩
 replace hM := hM.call hb14
 refine ⟨_, rfl, ?_⟩
 intro a hA
 refine seq_do (v := .bool false) hA rfl rfl rfl (does_un rfl un_not) ?_
 intro a hA
 refine seq_do (v := .bool false) hA rfl rfl rfl (does_pick rfl rfl rfl rfl) ?_
 intro a hA
 refine seq_do hA rfl rfl rfl (does_assign rfl) ?_
 intro a hA
 refine seq_end ?_
 refine hK11 _ _ ?_
 refine wp_cond_false (hA.ev rfl) ?_
 refine wp_seq_k (fun K16 hK16 => ?_)
 refine wp_region_lit ?_
 refine seq_do (v := .pointer (some ⟨g2, 0, none⟩)) hA rfl rfl rfl (does_field EnD_fld_25_0 rfl rfl) ?_
 intro a hA
 refine seq_do hA rfl rfl rfl (m_load1 hM EnD_is1_22 rfl 3 rfl rfl) ?_
 intro a hA
 refine seq_do (v := .pointer (some ⟨g4, 0, none⟩)) hA rfl rfl rfl (does_field EnD_fld_25_0 rfl rfl) ?_
 intro a hA
 refine seq_do hA rfl rfl rfl (m_load1 hM EnD_is1_22 rfl 2 rfl rfl) ?_
 intro a hA
 refine seq_call hA rfl rfl rfl (enters_func rfl rfl (fun w => by kernel_rfl)) (equalS_as (hR.below hM.bel) hl (hR2.below hM.bel) hl2 heq) ?_
 rintro _ w18 ⟨rfl, hb17⟩
 replace hM := hM.call hb17
 refine ⟨_, rfl, ?_⟩
 intro a hA
 refine seq_do (v := .bool true) hA rfl rfl rfl (does_un rfl un_not) ?_
 intro a hA
 refine seq_do hA rfl rfl rfl (does_assign rfl) ?_
 intro a hA
 refine seq_end ?_
 refine hK16 _ _ ?_
 refine wp_cond_true (hA.ev rfl) ?_
 refine wp_seq_k (fun K19 hK19 => ?_)
 refine wp_region_lit ?_
 refine seq_do (v := .agg #[.slice none 0 0, .slice none 0 0]) hA rfl rfl rfl (does_build rfl (fun w => by kernel_rfl)) ?_
 intro a hA
 refine s_store (us := [.slice none 0 0, .slice none 0 0]) (L' := (.obj g8 (.cells #[.slice none 0 0, .slice none 0 0] 25) :: .obj g6 (.cells #[.func (.func f) #[] (([] : List Value)).toArray] 61) :: .obj g4 (.cells #[.slice so2 l2.length ca2, .slice si2 bs2.length ci2] 25) :: .obj g2 (.cells #[.slice so l.length ca, .slice si bs.length ci] 25) :: [])) hA hM rfl rfl (m_store rfl rfl rfl (by kernel_rfl) hM 0 rfl rfl rfl) 0 rfl rfl rfl ?_
 intro w20 hM
 refine seq_do hA rfl rfl rfl (does_assign rfl) ?_
 intro a hA
 refine seq_end ?_
 refine hK19 _ _ ?_
 refine wp_ret ?_
 refine hret _ _ ?_
 refine ends (v := .tuple #[.agg #[.slice none 0 0, .slice none 0 0], .int .i64 10]) hA rfl (.cons (res_cellS hM EnD_isS_25 rfl 0 rfl (cs := [.slice none 0 0, .slice none 0 0]) rfl rfl) (.cons (res_tmp rfl) .nil)) rfl ?_
 exact ⟨rfl, hM.bel⟩
set_option maxHeartbeats 1000000 in
theorem comb_ok {w : World} {so si : Option Addr} {ca ci : Nat} {l : List ByteArray} {bs : List Bool} (hR : Rs w so l) (hB : Rl w si bs) {so2 si2 : Option Addr} {ca2 ci2 : Nat} {l2 : List ByteArray} {bs2 : List Bool} (hR2 : Rs w so2 l2) (hB2 : Rl w si2 bs2) (hs : ∀ s ∈ l, s.size ≤ 281474976710656) {f : FuncId} {r : Bool → Bool → Bool} (hK : ∀ {w}, Ask2 Try.prog f w r) (hsd : sndS l bs = true) (hsd2 : sndS l2 bs2 = true) (heq : decide (l = l2) = true) : Calls Try.prog 37 #[.agg #[.slice so l.length ca, .slice si bs.length ci], .agg #[.slice so2 l2.length ca2, .slice si2 bs2.length ci2], .func (.func f) #[] ([] : List Value).toArray] w fun e w' => ∃ so' ca' si' ci', e = .returned (.tuple #[.agg #[.slice so' l.length ca', .slice si' l.length ci'], .int .i64 0]) ∧ Mg w w' [.row 9 1 (.slice so' l.length ca') l.length (strC l), .row 4 1 (.slice si' l.length ci') l.length (boolC (l.map fun s => r (hasS l bs s) (hasS l2 bs2 s)))] := by
 have hl : l.length ≤ 8796093021952 := by have := (snd_le hsd).1; omega
 have hl2 : l2.length ≤ 8796093021952 := by have := (snd_le hsd2).1; omega
 have hM : Mg w w ([]) := Mg.start w
 refine walk_of (l := [(0, .agg #[.slice so l.length ca, .slice si bs.length ci]), (1, .agg #[.slice so2 l2.length ca2, .slice si2 bs2.length ci2]), (2, .func (.func f) #[] (([] : List Value)).toArray)]) Try.func37 rfl Try.ntmps37 rfl rfl ?_
 intro Q hret hnorm hP a hA
 refine wp_seq_k (fun K1 hK1 => ?_)
 refine wp_region_lit ?_
 refine s_new (vs := [.slice so l.length ca, .slice si bs.length ci]) (t := 25) hA hM rfl rfl rfl (fun g => .pointer (some ⟨g, 0, none⟩)) (does_box rfl rfl) (by decide) ?_
 intro g2 w3 hM a hA
 refine s_new (vs := [.slice so2 l2.length ca2, .slice si2 bs2.length ci2]) (t := 25) hA hM rfl rfl rfl (fun g => .pointer (some ⟨g, 0, none⟩)) (does_box rfl rfl) (by decide) ?_
 intro g4 w5 hM a hA
 refine s_new (vs := [.func (.func f) #[] (([] : List Value)).toArray]) (t := 61) hA hM rfl rfl rfl (fun g => .pointer (some ⟨g, 0, none⟩)) (does_box rfl rfl) (by decide) ?_
 intro g6 w7 hM a hA
 refine s_new (vs := [.slice none 0 0, .slice none 0 0]) (t := 25) hA hM rfl rfl rfl (fun g => .pointer (some ⟨g, 0, none⟩)) (does_alloc (z := .agg #[.slice none 0 0, .slice none 0 0]) (by kernel_rfl) rfl) (by decide) ?_
 intro g8 w9 hM a hA
 refine seq_do hA rfl rfl rfl (does_assign rfl) ?_
 intro a hA
 refine seq_end ?_
 refine hK1 _ _ ?_
 refine wp_seq_k (fun K10 hK10 => ?_)
 refine wp_block ?_
 refine wp_seq_k (fun K11 hK11 => ?_)
 refine wp_region_lit ?_
 refine seq_do hA rfl rfl rfl (m_loadS hM EnD_isS_25 rfl 3 rfl (cs := [.slice so l.length ca, .slice si bs.length ci]) rfl rfl) ?_
 intro a hA
 refine seq_call hA rfl rfl rfl (enters_func rfl rfl (fun w => by kernel_rfl)) (sound_as (hR.below hM.bel) (hB.below hM.bel) hsd) ?_
 rintro _ w13 ⟨rfl, hb12⟩
 replace hM := hM.call hb12
 refine ⟨_, rfl, ?_⟩
 intro a hA
 refine seq_do (v := .bool false) hA rfl rfl rfl (does_un rfl un_not) ?_
 intro a hA
 refine seq_do hA rfl rfl rfl (does_move rfl) ?_
 intro a hA
 refine seq_do hA rfl rfl rfl (m_loadS hM EnD_isS_25 rfl 2 rfl (cs := [.slice so2 l2.length ca2, .slice si2 bs2.length ci2]) rfl rfl) ?_
 intro a hA
 refine seq_call hA rfl rfl rfl (enters_func rfl rfl (fun w => by kernel_rfl)) (sound_as (hR2.below hM.bel) (hB2.below hM.bel) hsd2) ?_
 rintro _ w15 ⟨rfl, hb14⟩
 replace hM := hM.call hb14
 refine ⟨_, rfl, ?_⟩
 intro a hA
 refine seq_do (v := .bool false) hA rfl rfl rfl (does_un rfl un_not) ?_
 intro a hA
 refine seq_do (v := .bool false) hA rfl rfl rfl (does_pick rfl rfl rfl rfl) ?_
 intro a hA
 refine seq_do hA rfl rfl rfl (does_assign rfl) ?_
 intro a hA
 refine seq_end ?_
 refine hK11 _ _ ?_
 refine wp_cond_false (hA.ev rfl) ?_
 refine wp_seq_k (fun K16 hK16 => ?_)
 refine wp_region_lit ?_
 refine seq_do (v := .pointer (some ⟨g2, 0, none⟩)) hA rfl rfl rfl (does_field EnD_fld_25_0 rfl rfl) ?_
 intro a hA
 refine seq_do hA rfl rfl rfl (m_load1 hM EnD_is1_22 rfl 3 rfl rfl) ?_
 intro a hA
 refine seq_do (v := .pointer (some ⟨g4, 0, none⟩)) hA rfl rfl rfl (does_field EnD_fld_25_0 rfl rfl) ?_
 intro a hA
 refine seq_do hA rfl rfl rfl (m_load1 hM EnD_is1_22 rfl 2 rfl rfl) ?_
 intro a hA
 refine seq_call hA rfl rfl rfl (enters_func rfl rfl (fun w => by kernel_rfl)) (equalS_as (hR.below hM.bel) hl (hR2.below hM.bel) hl2 heq) ?_
 rintro _ w18 ⟨rfl, hb17⟩
 replace hM := hM.call hb17
 refine ⟨_, rfl, ?_⟩
 intro a hA
 refine seq_do (v := .bool false) hA rfl rfl rfl (does_un rfl un_not) ?_
 intro a hA
 refine seq_do hA rfl rfl rfl (does_assign rfl) ?_
 intro a hA
 refine seq_end ?_
 refine hK16 _ _ ?_
 refine wp_cond_false (hA.ev rfl) ?_
 refine wp_skip ?_
 refine hK10 _ _ ?_
 refine wp_seq_k (fun K19 hK19 => ?_)
 refine wp_draw (S := fun w1 => Mg w w1 (.obj g4 (.cells #[.slice so2 l2.length ca2, .slice si2 bs2.length ci2] 25) :: .obj g2 (.cells #[.slice so l.length ca, .slice si bs.length ci] 25) :: [])) (by kernel_rfl) ?_
 replace hM := hM.drew
 refine any_tk hA 0 rfl rfl rfl rfl hP (hM.sub (.cons _ (.cons _ (.cons_cons _ (.cons_cons _ (List.nil_sublist _)))))) (fun w1 hM => m_loadS hM EnD_isS_25 rfl 1 rfl (cs := [.slice so l.length ca, .slice si bs.length ci]) rfl rfl) ?_
 intro a hA
 refine any_tk hA 2 rfl rfl rfl rfl hP (hM.sub (.cons _ (.cons _ (.cons_cons _ (.cons_cons _ (List.nil_sublist _)))))) (fun w1 hM => m_loadS hM EnD_isS_25 rfl 0 rfl (cs := [.slice so2 l2.length ca2, .slice si2 bs2.length ci2]) rfl rfl) ?_
 intro a hA
 refine any_many (rs := [1, 4, 5]) (by kernel_rfl) (by simp) ⟨?_, ?_, ?_, trivial⟩
 · refine op_call hA 1 rfl rfl rfl rfl (enters_func rfl rfl (fun w => by kernel_rfl)) (membership_any) ?_
   rintro _ w22 ⟨g20, rfl, hM21⟩
   replace hM : Mg w w22 (.obj g20 (.cells #[.slice so l.length ca, .slice si bs.length ci] 25) :: .obj g8 (.cells #[.slice none 0 0, .slice none 0 0] 25) :: .obj g6 (.cells #[.func (.func f) #[] (([] : List Value)).toArray] 61) :: .obj g4 (.cells #[.slice so2 l2.length ca2, .slice si2 bs2.length ci2] 25) :: .obj g2 (.cells #[.slice so l.length ca, .slice si bs.length ci] 25) :: []) := (hM.both hM21 (noBld_cons (by simp) (noBld_cons (by simp) (noBld_cons (by simp) (noBld_cons (by simp) (noBld_quiet quietL_nil))))) (noBld_cons (by simp) (noBld_quiet quietL_nil)))
   refine ⟨_, rfl, (hM.sub (.cons _ (.cons _ (.cons _ (.cons_cons _ (.cons_cons _ (List.nil_sublist _))))))), ?_⟩
   intro a hA
   refine any_many (rs := [3, 4, 5]) (by kernel_rfl) (by simp) ⟨?_, ?_, ?_, trivial⟩
   · refine op_call hA 3 rfl rfl rfl rfl (enters_func rfl rfl (fun w => by kernel_rfl)) (membership_any) ?_
     rintro _ w25 ⟨g23, rfl, hM24⟩
     replace hM : Mg w w25 (.obj g23 (.cells #[.slice so2 l2.length ca2, .slice si2 bs2.length ci2] 25) :: .obj g20 (.cells #[.slice so l.length ca, .slice si bs.length ci] 25) :: .obj g8 (.cells #[.slice none 0 0, .slice none 0 0] 25) :: .obj g6 (.cells #[.func (.func f) #[] (([] : List Value)).toArray] 61) :: .obj g4 (.cells #[.slice so2 l2.length ca2, .slice si2 bs2.length ci2] 25) :: .obj g2 (.cells #[.slice so l.length ca, .slice si bs.length ci] 25) :: []) := (hM.both hM24 (noBld_cons (by simp) (noBld_cons (by simp) (noBld_cons (by simp) (noBld_cons (by simp) (noBld_cons (by simp) (noBld_quiet quietL_nil)))))) (noBld_cons (by simp) (noBld_quiet quietL_nil)))
     refine ⟨_, rfl, (hM.sub (.cons _ (.cons _ (.cons _ (.cons _ (.cons_cons _ (.cons_cons _ (List.nil_sublist _)))))))), ?_⟩
     intro a hA
     refine any_many (rs := [4, 5]) (by kernel_rfl) (by simp) ⟨?_, ?_, trivial⟩
     · refine g_new (vs := [.nilFunc]) (t := 55) hA hM 4 rfl rfl rfl rfl (fun g => .pointer (some ⟨g, 0, none⟩)) (does_alloc (z := .nilFunc) (by kernel_rfl) rfl) (by decide) ?_
       intro g26 w27 hM
       refine ⟨(hM.sub (.cons _ (.cons _ (.cons _ (.cons _ (.cons _ (.cons_cons _ (.cons_cons _ (List.nil_sublist _))))))))), ?_⟩
       intro a hA
       refine any_one (by kernel_rfl) (g_new (vs := [.nilFunc]) (t := 55) hA hM 5 rfl rfl rfl rfl (fun g => .pointer (some ⟨g, 0, none⟩)) (does_alloc (z := .nilFunc) (by kernel_rfl) rfl) (by decide) ?_)
       intro g28 w29 hM
       refine ⟨(hM.sub (.cons _ (.cons _ (.cons _ (.cons _ (.cons _ (.cons _ (.cons_cons _ (.cons_cons _ (List.nil_sublist _)))))))))), ?_⟩
       intro a hA
       refine any_one (by kernel_rfl) (g_store (us := [.func (.func 52) #[] [.pointer (some ⟨g20, 0, none⟩)].toArray]) (L' := (.obj g28 (.cells #[.nilFunc] 55) :: .obj g26 (.cells #[.func (.func 52) #[] [.pointer (some ⟨g20, 0, none⟩)].toArray] 55) :: .obj g23 (.cells #[.slice so2 l2.length ca2, .slice si2 bs2.length ci2] 25) :: .obj g20 (.cells #[.slice so l.length ca, .slice si bs.length ci] 25) :: .obj g8 (.cells #[.slice none 0 0, .slice none 0 0] 25) :: .obj g6 (.cells #[.func (.func f) #[] (([] : List Value)).toArray] 61) :: .obj g4 (.cells #[.slice so2 l2.length ca2, .slice si2 bs2.length ci2] 25) :: .obj g2 (.cells #[.slice so l.length ca, .slice si bs.length ci] 25) :: [])) hA hM 6 rfl rfl rfl (m_store rfl rfl rfl (by kernel_rfl) hM 1 rfl rfl rfl) 1 rfl rfl rfl ?_)
       intro w30 hM
       refine ⟨(hM.sub (.cons _ (.cons _ (.cons _ (.cons _ (.cons _ (.cons _ (.cons_cons _ (.cons_cons _ (List.nil_sublist _)))))))))), ?_⟩
       refine any_one (by kernel_rfl) (g_store (us := [.func (.func 52) #[] [.pointer (some ⟨g23, 0, none⟩)].toArray]) (L' := (.obj g28 (.cells #[.func (.func 52) #[] [.pointer (some ⟨g23, 0, none⟩)].toArray] 55) :: .obj g26 (.cells #[.func (.func 52) #[] [.pointer (some ⟨g20, 0, none⟩)].toArray] 55) :: .obj g23 (.cells #[.slice so2 l2.length ca2, .slice si2 bs2.length ci2] 25) :: .obj g20 (.cells #[.slice so l.length ca, .slice si bs.length ci] 25) :: .obj g8 (.cells #[.slice none 0 0, .slice none 0 0] 25) :: .obj g6 (.cells #[.func (.func f) #[] (([] : List Value)).toArray] 61) :: .obj g4 (.cells #[.slice so2 l2.length ca2, .slice si2 bs2.length ci2] 25) :: .obj g2 (.cells #[.slice so l.length ca, .slice si bs.length ci] 25) :: [])) hA hM 7 rfl rfl rfl (m_store rfl rfl rfl (by kernel_rfl) hM 0 rfl rfl rfl) 0 rfl rfl rfl ?_)
       intro w31 hM
       refine ⟨(hM.sub (.cons _ (.cons _ (.cons _ (.cons _ (.cons _ (.cons _ (.cons_cons _ (.cons_cons _ (List.nil_sublist _)))))))))), ?_⟩
       refine any_end (by kernel_rfl) ?_
       refine hK19 _ _ ?_
       refine wp_seq_k (fun K32 hK32 => ?_)
       refine wp_region_lit ?_
       refine seq_do (v := .pointer (some ⟨g2, 0, none⟩)) hA rfl rfl rfl (does_field EnD_fld_25_0 rfl rfl) ?_
       intro a hA
       refine seq_do hA rfl rfl rfl (m_load1 hM EnD_is1_22 rfl 7 rfl rfl) ?_
       intro a hA
       refine seq_do (v := .func (.func 51) #[] [.pointer (some ⟨g6, 0, none⟩), .pointer (some ⟨g26, 0, none⟩), .pointer (some ⟨g28, 0, none⟩)].toArray) hA rfl rfl rfl (does_makeFunc rfl) ?_
       intro a hA
       refine seq_call hA rfl rfl rfl (enters_func rfl rfl (fun w => by kernel_rfl)) (where_any (hR.below hM.bel) hl hs (asks_comb (asks_memb (hR.below hM.bel) (hB.below hM.bel) hl (snd_le hsd).2.1 (hM.cell 3 rfl 0 rfl) (hM.cell 3 rfl 1 rfl)) (asks_memb (hR2.below hM.bel) (hB2.below hM.bel) hl2 (snd_le hsd2).2.1 (hM.cell 2 rfl 0 rfl) (hM.cell 2 rfl 1 rfl)) hK (hM.cell 5 rfl 0 rfl) (hM.cell 1 rfl 0 rfl) (hM.cell 0 rfl 0 rfl))) ?_
       rintro _ w38 ⟨so33, ca34, si35, ci36, rfl, hM37⟩
       replace hM : Mg w w38 (.row 9 1 (.slice so33 l.length ca34) l.length (strC l) :: .row 4 1 (.slice si35 l.length ci36) l.length (boolC (l.map (fun s => r (hasS l bs s) (hasS l2 bs2 s)))) :: .obj g28 (.cells #[.func (.func 52) #[] [.pointer (some ⟨g23, 0, none⟩)].toArray] 55) :: .obj g26 (.cells #[.func (.func 52) #[] [.pointer (some ⟨g20, 0, none⟩)].toArray] 55) :: .obj g23 (.cells #[.slice so2 l2.length ca2, .slice si2 bs2.length ci2] 25) :: .obj g20 (.cells #[.slice so l.length ca, .slice si bs.length ci] 25) :: .obj g8 (.cells #[.slice none 0 0, .slice none 0 0] 25) :: .obj g6 (.cells #[.func (.func f) #[] (([] : List Value)).toArray] 61) :: .obj g4 (.cells #[.slice so2 l2.length ca2, .slice si2 bs2.length ci2] 25) :: .obj g2 (.cells #[.slice so l.length ca, .slice si bs.length ci] 25) :: []) := (hM.both hM37 (noBld_cons (by simp) (noBld_cons (by simp) (noBld_cons (by simp) (noBld_cons (by simp) (noBld_cons (by simp) (noBld_cons (by simp) (noBld_cons (by simp) (noBld_cons (by simp) (noBld_quiet quietL_nil))))))))) (noBld_cons (by simp) (noBld_cons (by simp) (noBld_quiet quietL_nil))))
       refine ⟨_, rfl, ?_⟩
       intro a hA
       refine s_store (us := [.slice so33 l.length ca34, .slice si35 l.length ci36]) (L' := (.row 9 1 (.slice so33 l.length ca34) l.length (strC l) :: .row 4 1 (.slice si35 l.length ci36) l.length (boolC (l.map (fun s => r (hasS l bs s) (hasS l2 bs2 s)))) :: .obj g28 (.cells #[.func (.func 52) #[] [.pointer (some ⟨g23, 0, none⟩)].toArray] 55) :: .obj g26 (.cells #[.func (.func 52) #[] [.pointer (some ⟨g20, 0, none⟩)].toArray] 55) :: .obj g23 (.cells #[.slice so2 l2.length ca2, .slice si2 bs2.length ci2] 25) :: .obj g20 (.cells #[.slice so l.length ca, .slice si bs.length ci] 25) :: .obj g8 (.cells #[.slice so33 l.length ca34, .slice si35 l.length ci36] 25) :: .obj g6 (.cells #[.func (.func f) #[] (([] : List Value)).toArray] 61) :: .obj g4 (.cells #[.slice so2 l2.length ca2, .slice si2 bs2.length ci2] 25) :: .obj g2 (.cells #[.slice so l.length ca, .slice si bs.length ci] 25) :: [])) hA hM rfl rfl (m_store rfl rfl rfl (by kernel_rfl) hM 6 rfl rfl rfl) 6 rfl rfl rfl ?_
       intro w39 hM
       refine seq_do hA rfl rfl rfl (does_assign rfl) ?_
       intro a hA
       refine seq_end ?_
       refine hK32 _ _ ?_
       refine wp_ret ?_
       refine hret _ _ ?_
       refine ends (v := .tuple #[.agg #[.slice so33 l.length ca34, .slice si35 l.length ci36], .int .i64 0]) hA rfl (.cons (res_cellS hM EnD_isS_25 rfl 6 rfl (cs := [.slice so33 l.length ca34, .slice si35 l.length ci36]) rfl rfl) (.cons (res_tmp rfl) .nil)) rfl ?_
       replace hM : Mg w w39 (.row 9 1 (.slice so33 l.length ca34) l.length (strC l) :: .row 4 1 (.slice si35 l.length ci36) l.length (boolC (l.map (fun s => r (hasS l bs s) (hasS l2 bs2 s)))) :: []) := by
         have h9 := hM.sub (.cons_cons _ (.cons_cons _ (.cons _ (.cons _ (.cons _ (.cons _ (.cons _ (.cons _ (.cons _ (.cons _ (.refl _)))))))))))
         exact h9
       exact ⟨_, _, _, _, rfl, hM⟩
     · refine g_new (vs := [.nilFunc]) (t := 55) hA hM 5 rfl rfl rfl rfl (fun g => .pointer (some ⟨g, 0, none⟩)) (does_alloc (z := .nilFunc) (by kernel_rfl) rfl) (by decide) ?_
       intro g40 w41 hM
       refine ⟨(hM.sub (.cons _ (.cons _ (.cons _ (.cons _ (.cons _ (.cons_cons _ (.cons_cons _ (List.nil_sublist _))))))))), ?_⟩
       intro a hA
       refine any_one (by kernel_rfl) (g_new (vs := [.nilFunc]) (t := 55) hA hM 4 rfl rfl rfl rfl (fun g => .pointer (some ⟨g, 0, none⟩)) (does_alloc (z := .nilFunc) (by kernel_rfl) rfl) (by decide) ?_)
       intro g42 w43 hM
       refine ⟨(hM.sub (.cons _ (.cons _ (.cons _ (.cons _ (.cons _ (.cons _ (.cons_cons _ (.cons_cons _ (List.nil_sublist _)))))))))), ?_⟩
       intro a hA
       refine any_one (by kernel_rfl) (g_store (us := [.func (.func 52) #[] [.pointer (some ⟨g20, 0, none⟩)].toArray]) (L' := (.obj g42 (.cells #[.func (.func 52) #[] [.pointer (some ⟨g20, 0, none⟩)].toArray] 55) :: .obj g40 (.cells #[.nilFunc] 55) :: .obj g23 (.cells #[.slice so2 l2.length ca2, .slice si2 bs2.length ci2] 25) :: .obj g20 (.cells #[.slice so l.length ca, .slice si bs.length ci] 25) :: .obj g8 (.cells #[.slice none 0 0, .slice none 0 0] 25) :: .obj g6 (.cells #[.func (.func f) #[] (([] : List Value)).toArray] 61) :: .obj g4 (.cells #[.slice so2 l2.length ca2, .slice si2 bs2.length ci2] 25) :: .obj g2 (.cells #[.slice so l.length ca, .slice si bs.length ci] 25) :: [])) hA hM 6 rfl rfl rfl (m_store rfl rfl rfl (by kernel_rfl) hM 0 rfl rfl rfl) 0 rfl rfl rfl ?_)
       intro w44 hM
       refine ⟨(hM.sub (.cons _ (.cons _ (.cons _ (.cons _ (.cons _ (.cons _ (.cons_cons _ (.cons_cons _ (List.nil_sublist _)))))))))), ?_⟩
       refine any_one (by kernel_rfl) (g_store (us := [.func (.func 52) #[] [.pointer (some ⟨g23, 0, none⟩)].toArray]) (L' := (.obj g42 (.cells #[.func (.func 52) #[] [.pointer (some ⟨g20, 0, none⟩)].toArray] 55) :: .obj g40 (.cells #[.func (.func 52) #[] [.pointer (some ⟨g23, 0, none⟩)].toArray] 55) :: .obj g23 (.cells #[.slice so2 l2.length ca2, .slice si2 bs2.length ci2] 25) :: .obj g20 (.cells #[.slice so l.length ca, .slice si bs.length ci] 25) :: .obj g8 (.cells #[.slice none 0 0, .slice none 0 0] 25) :: .obj g6 (.cells #[.func (.func f) #[] (([] : List Value)).toArray] 61) :: .obj g4 (.cells #[.slice so2 l2.length ca2, .slice si2 bs2.length ci2] 25) :: .obj g2 (.cells #[.slice so l.length ca, .slice si bs.length ci] 25) :: [])) hA hM 7 rfl rfl rfl (m_store rfl rfl rfl (by kernel_rfl) hM 1 rfl rfl rfl) 1 rfl rfl rfl ?_)
       intro w45 hM
       refine ⟨(hM.sub (.cons _ (.cons _ (.cons _ (.cons _ (.cons _ (.cons _ (.cons_cons _ (.cons_cons _ (List.nil_sublist _)))))))))), ?_⟩
       refine any_end (by kernel_rfl) ?_
       refine hK19 _ _ ?_
       refine wp_seq_k (fun K46 hK46 => ?_)
       refine wp_region_lit ?_
       refine seq_do (v := .pointer (some ⟨g2, 0, none⟩)) hA rfl rfl rfl (does_field EnD_fld_25_0 rfl rfl) ?_
       intro a hA
       refine seq_do hA rfl rfl rfl (m_load1 hM EnD_is1_22 rfl 7 rfl rfl) ?_
       intro a hA
       refine seq_do (v := .func (.func 51) #[] [.pointer (some ⟨g6, 0, none⟩), .pointer (some ⟨g42, 0, none⟩), .pointer (some ⟨g40, 0, none⟩)].toArray) hA rfl rfl rfl (does_makeFunc rfl) ?_
       intro a hA
       refine seq_call hA rfl rfl rfl (enters_func rfl rfl (fun w => by kernel_rfl)) (where_any (hR.below hM.bel) hl hs (asks_comb (asks_memb (hR.below hM.bel) (hB.below hM.bel) hl (snd_le hsd).2.1 (hM.cell 3 rfl 0 rfl) (hM.cell 3 rfl 1 rfl)) (asks_memb (hR2.below hM.bel) (hB2.below hM.bel) hl2 (snd_le hsd2).2.1 (hM.cell 2 rfl 0 rfl) (hM.cell 2 rfl 1 rfl)) hK (hM.cell 5 rfl 0 rfl) (hM.cell 0 rfl 0 rfl) (hM.cell 1 rfl 0 rfl))) ?_
       rintro _ w52 ⟨so47, ca48, si49, ci50, rfl, hM51⟩
       replace hM : Mg w w52 (.row 9 1 (.slice so47 l.length ca48) l.length (strC l) :: .row 4 1 (.slice si49 l.length ci50) l.length (boolC (l.map (fun s => r (hasS l bs s) (hasS l2 bs2 s)))) :: .obj g42 (.cells #[.func (.func 52) #[] [.pointer (some ⟨g20, 0, none⟩)].toArray] 55) :: .obj g40 (.cells #[.func (.func 52) #[] [.pointer (some ⟨g23, 0, none⟩)].toArray] 55) :: .obj g23 (.cells #[.slice so2 l2.length ca2, .slice si2 bs2.length ci2] 25) :: .obj g20 (.cells #[.slice so l.length ca, .slice si bs.length ci] 25) :: .obj g8 (.cells #[.slice none 0 0, .slice none 0 0] 25) :: .obj g6 (.cells #[.func (.func f) #[] (([] : List Value)).toArray] 61) :: .obj g4 (.cells #[.slice so2 l2.length ca2, .slice si2 bs2.length ci2] 25) :: .obj g2 (.cells #[.slice so l.length ca, .slice si bs.length ci] 25) :: []) := (hM.both hM51 (noBld_cons (by simp) (noBld_cons (by simp) (noBld_cons (by simp) (noBld_cons (by simp) (noBld_cons (by simp) (noBld_cons (by simp) (noBld_cons (by simp) (noBld_cons (by simp) (noBld_quiet quietL_nil))))))))) (noBld_cons (by simp) (noBld_cons (by simp) (noBld_quiet quietL_nil))))
       refine ⟨_, rfl, ?_⟩
       intro a hA
       refine s_store (us := [.slice so47 l.length ca48, .slice si49 l.length ci50]) (L' := (.row 9 1 (.slice so47 l.length ca48) l.length (strC l) :: .row 4 1 (.slice si49 l.length ci50) l.length (boolC (l.map (fun s => r (hasS l bs s) (hasS l2 bs2 s)))) :: .obj g42 (.cells #[.func (.func 52) #[] [.pointer (some ⟨g20, 0, none⟩)].toArray] 55) :: .obj g40 (.cells #[.func (.func 52) #[] [.pointer (some ⟨g23, 0, none⟩)].toArray] 55) :: .obj g23 (.cells #[.slice so2 l2.length ca2, .slice si2 bs2.length ci2] 25) :: .obj g20 (.cells #[.slice so l.length ca, .slice si bs.length ci] 25) :: .obj g8 (.cells #[.slice so47 l.length ca48, .slice si49 l.length ci50] 25) :: .obj g6 (.cells #[.func (.func f) #[] (([] : List Value)).toArray] 61) :: .obj g4 (.cells #[.slice so2 l2.length ca2, .slice si2 bs2.length ci2] 25) :: .obj g2 (.cells #[.slice so l.length ca, .slice si bs.length ci] 25) :: [])) hA hM rfl rfl (m_store rfl rfl rfl (by kernel_rfl) hM 6 rfl rfl rfl) 6 rfl rfl rfl ?_
       intro w53 hM
       refine seq_do hA rfl rfl rfl (does_assign rfl) ?_
       intro a hA
       refine seq_end ?_
       refine hK46 _ _ ?_
       refine wp_ret ?_
       refine hret _ _ ?_
       refine ends (v := .tuple #[.agg #[.slice so47 l.length ca48, .slice si49 l.length ci50], .int .i64 0]) hA rfl (.cons (res_cellS hM EnD_isS_25 rfl 6 rfl (cs := [.slice so47 l.length ca48, .slice si49 l.length ci50]) rfl rfl) (.cons (res_tmp rfl) .nil)) rfl ?_
       replace hM : Mg w w53 (.row 9 1 (.slice so47 l.length ca48) l.length (strC l) :: .row 4 1 (.slice si49 l.length ci50) l.length (boolC (l.map (fun s => r (hasS l bs s) (hasS l2 bs2 s)))) :: []) := by
         have h9 := hM.sub (.cons_cons _ (.cons_cons _ (.cons _ (.cons _ (.cons _ (.cons _ (.cons _ (.cons _ (.cons _ (.cons _ (.refl _)))))))))))
         exact h9
       exact ⟨_, _, _, _, rfl, hM⟩
   · refine g_new (vs := [.nilFunc]) (t := 55) hA hM 4 rfl rfl rfl rfl (fun g => .pointer (some ⟨g, 0, none⟩)) (does_alloc (z := .nilFunc) (by kernel_rfl) rfl) (by decide) ?_
     intro g54 w55 hM
     refine ⟨(hM.sub (.cons _ (.cons _ (.cons _ (.cons _ (.cons_cons _ (.cons_cons _ (List.nil_sublist _)))))))), ?_⟩
     intro a hA
     refine any_many (rs := [3, 5]) (by kernel_rfl) (by simp) ⟨?_, ?_, trivial⟩
     · refine op_call hA 3 rfl rfl rfl rfl (enters_func rfl rfl (fun w => by kernel_rfl)) (membership_any) ?_
       rintro _ w58 ⟨g56, rfl, hM57⟩
       replace hM : Mg w w58 (.obj g56 (.cells #[.slice so2 l2.length ca2, .slice si2 bs2.length ci2] 25) :: .obj g54 (.cells #[.nilFunc] 55) :: .obj g20 (.cells #[.slice so l.length ca, .slice si bs.length ci] 25) :: .obj g8 (.cells #[.slice none 0 0, .slice none 0 0] 25) :: .obj g6 (.cells #[.func (.func f) #[] (([] : List Value)).toArray] 61) :: .obj g4 (.cells #[.slice so2 l2.length ca2, .slice si2 bs2.length ci2] 25) :: .obj g2 (.cells #[.slice so l.length ca, .slice si bs.length ci] 25) :: []) := (hM.both hM57 (noBld_cons (by simp) (noBld_cons (by simp) (noBld_cons (by simp) (noBld_cons (by simp) (noBld_cons (by simp) (noBld_cons (by simp) (noBld_quiet quietL_nil))))))) (noBld_cons (by simp) (noBld_quiet quietL_nil)))
       refine ⟨_, rfl, (hM.sub (.cons _ (.cons _ (.cons _ (.cons _ (.cons _ (.cons_cons _ (.cons_cons _ (List.nil_sublist _))))))))), ?_⟩
       intro a hA
       refine any_one (by kernel_rfl) (g_new (vs := [.nilFunc]) (t := 55) hA hM 5 rfl rfl rfl rfl (fun g => .pointer (some ⟨g, 0, none⟩)) (does_alloc (z := .nilFunc) (by kernel_rfl) rfl) (by decide) ?_)
       intro g59 w60 hM
       refine ⟨(hM.sub (.cons _ (.cons _ (.cons _ (.cons _ (.cons _ (.cons _ (.cons_cons _ (.cons_cons _ (List.nil_sublist _)))))))))), ?_⟩
       intro a hA
       refine any_one (by kernel_rfl) (g_store (us := [.func (.func 52) #[] [.pointer (some ⟨g20, 0, none⟩)].toArray]) (L' := (.obj g59 (.cells #[.nilFunc] 55) :: .obj g56 (.cells #[.slice so2 l2.length ca2, .slice si2 bs2.length ci2] 25) :: .obj g54 (.cells #[.func (.func 52) #[] [.pointer (some ⟨g20, 0, none⟩)].toArray] 55) :: .obj g20 (.cells #[.slice so l.length ca, .slice si bs.length ci] 25) :: .obj g8 (.cells #[.slice none 0 0, .slice none 0 0] 25) :: .obj g6 (.cells #[.func (.func f) #[] (([] : List Value)).toArray] 61) :: .obj g4 (.cells #[.slice so2 l2.length ca2, .slice si2 bs2.length ci2] 25) :: .obj g2 (.cells #[.slice so l.length ca, .slice si bs.length ci] 25) :: [])) hA hM 6 rfl rfl rfl (m_store rfl rfl rfl (by kernel_rfl) hM 2 rfl rfl rfl) 2 rfl rfl rfl ?_)
       intro w61 hM
       refine ⟨(hM.sub (.cons _ (.cons _ (.cons _ (.cons _ (.cons _ (.cons _ (.cons_cons _ (.cons_cons _ (List.nil_sublist _)))))))))), ?_⟩
       refine any_one (by kernel_rfl) (g_store (us := [.func (.func 52) #[] [.pointer (some ⟨g56, 0, none⟩)].toArray]) (L' := (.obj g59 (.cells #[.func (.func 52) #[] [.pointer (some ⟨g56, 0, none⟩)].toArray] 55) :: .obj g56 (.cells #[.slice so2 l2.length ca2, .slice si2 bs2.length ci2] 25) :: .obj g54 (.cells #[.func (.func 52) #[] [.pointer (some ⟨g20, 0, none⟩)].toArray] 55) :: .obj g20 (.cells #[.slice so l.length ca, .slice si bs.length ci] 25) :: .obj g8 (.cells #[.slice none 0 0, .slice none 0 0] 25) :: .obj g6 (.cells #[.func (.func f) #[] (([] : List Value)).toArray] 61) :: .obj g4 (.cells #[.slice so2 l2.length ca2, .slice si2 bs2.length ci2] 25) :: .obj g2 (.cells #[.slice so l.length ca, .slice si bs.length ci] 25) :: [])) hA hM 7 rfl rfl rfl (m_store rfl rfl rfl (by kernel_rfl) hM 0 rfl rfl rfl) 0 rfl rfl rfl ?_)
       intro w62 hM
       refine ⟨(hM.sub (.cons _ (.cons _ (.cons _ (.cons _ (.cons _ (.cons _ (.cons_cons _ (.cons_cons _ (List.nil_sublist _)))))))))), ?_⟩
       refine any_end (by kernel_rfl) ?_
       refine hK19 _ _ ?_
       refine wp_seq_k (fun K63 hK63 => ?_)
       refine wp_region_lit ?_
       refine seq_do (v := .pointer (some ⟨g2, 0, none⟩)) hA rfl rfl rfl (does_field EnD_fld_25_0 rfl rfl) ?_
       intro a hA
       refine seq_do hA rfl rfl rfl (m_load1 hM EnD_is1_22 rfl 7 rfl rfl) ?_
       intro a hA
       refine seq_do (v := .func (.func 51) #[] [.pointer (some ⟨g6, 0, none⟩), .pointer (some ⟨g54, 0, none⟩), .pointer (some ⟨g59, 0, none⟩)].toArray) hA rfl rfl rfl (does_makeFunc rfl) ?_
       intro a hA
       refine seq_call hA rfl rfl rfl (enters_func rfl rfl (fun w => by kernel_rfl)) (where_any (hR.below hM.bel) hl hs (asks_comb (asks_memb (hR.below hM.bel) (hB.below hM.bel) hl (snd_le hsd).2.1 (hM.cell 3 rfl 0 rfl) (hM.cell 3 rfl 1 rfl)) (asks_memb (hR2.below hM.bel) (hB2.below hM.bel) hl2 (snd_le hsd2).2.1 (hM.cell 1 rfl 0 rfl) (hM.cell 1 rfl 1 rfl)) hK (hM.cell 5 rfl 0 rfl) (hM.cell 2 rfl 0 rfl) (hM.cell 0 rfl 0 rfl))) ?_
       rintro _ w69 ⟨so64, ca65, si66, ci67, rfl, hM68⟩
       replace hM : Mg w w69 (.row 9 1 (.slice so64 l.length ca65) l.length (strC l) :: .row 4 1 (.slice si66 l.length ci67) l.length (boolC (l.map (fun s => r (hasS l bs s) (hasS l2 bs2 s)))) :: .obj g59 (.cells #[.func (.func 52) #[] [.pointer (some ⟨g56, 0, none⟩)].toArray] 55) :: .obj g56 (.cells #[.slice so2 l2.length ca2, .slice si2 bs2.length ci2] 25) :: .obj g54 (.cells #[.func (.func 52) #[] [.pointer (some ⟨g20, 0, none⟩)].toArray] 55) :: .obj g20 (.cells #[.slice so l.length ca, .slice si bs.length ci] 25) :: .obj g8 (.cells #[.slice none 0 0, .slice none 0 0] 25) :: .obj g6 (.cells #[.func (.func f) #[] (([] : List Value)).toArray] 61) :: .obj g4 (.cells #[.slice so2 l2.length ca2, .slice si2 bs2.length ci2] 25) :: .obj g2 (.cells #[.slice so l.length ca, .slice si bs.length ci] 25) :: []) := (hM.both hM68 (noBld_cons (by simp) (noBld_cons (by simp) (noBld_cons (by simp) (noBld_cons (by simp) (noBld_cons (by simp) (noBld_cons (by simp) (noBld_cons (by simp) (noBld_cons (by simp) (noBld_quiet quietL_nil))))))))) (noBld_cons (by simp) (noBld_cons (by simp) (noBld_quiet quietL_nil))))
       refine ⟨_, rfl, ?_⟩
       intro a hA
       refine s_store (us := [.slice so64 l.length ca65, .slice si66 l.length ci67]) (L' := (.row 9 1 (.slice so64 l.length ca65) l.length (strC l) :: .row 4 1 (.slice si66 l.length ci67) l.length (boolC (l.map (fun s => r (hasS l bs s) (hasS l2 bs2 s)))) :: .obj g59 (.cells #[.func (.func 52) #[] [.pointer (some ⟨g56, 0, none⟩)].toArray] 55) :: .obj g56 (.cells #[.slice so2 l2.length ca2, .slice si2 bs2.length ci2] 25) :: .obj g54 (.cells #[.func (.func 52) #[] [.pointer (some ⟨g20, 0, none⟩)].toArray] 55) :: .obj g20 (.cells #[.slice so l.length ca, .slice si bs.length ci] 25) :: .obj g8 (.cells #[.slice so64 l.length ca65, .slice si66 l.length ci67] 25) :: .obj g6 (.cells #[.func (.func f) #[] (([] : List Value)).toArray] 61) :: .obj g4 (.cells #[.slice so2 l2.length ca2, .slice si2 bs2.length ci2] 25) :: .obj g2 (.cells #[.slice so l.length ca, .slice si bs.length ci] 25) :: [])) hA hM rfl rfl (m_store rfl rfl rfl (by kernel_rfl) hM 6 rfl rfl rfl) 6 rfl rfl rfl ?_
       intro w70 hM
       refine seq_do hA rfl rfl rfl (does_assign rfl) ?_
       intro a hA
       refine seq_end ?_
       refine hK63 _ _ ?_
       refine wp_ret ?_
       refine hret _ _ ?_
       refine ends (v := .tuple #[.agg #[.slice so64 l.length ca65, .slice si66 l.length ci67], .int .i64 0]) hA rfl (.cons (res_cellS hM EnD_isS_25 rfl 6 rfl (cs := [.slice so64 l.length ca65, .slice si66 l.length ci67]) rfl rfl) (.cons (res_tmp rfl) .nil)) rfl ?_
       replace hM : Mg w w70 (.row 9 1 (.slice so64 l.length ca65) l.length (strC l) :: .row 4 1 (.slice si66 l.length ci67) l.length (boolC (l.map (fun s => r (hasS l bs s) (hasS l2 bs2 s)))) :: []) := by
         have h9 := hM.sub (.cons_cons _ (.cons_cons _ (.cons _ (.cons _ (.cons _ (.cons _ (.cons _ (.cons _ (.cons _ (.cons _ (.refl _)))))))))))
         exact h9
       exact ⟨_, _, _, _, rfl, hM⟩
     · refine g_new (vs := [.nilFunc]) (t := 55) hA hM 5 rfl rfl rfl rfl (fun g => .pointer (some ⟨g, 0, none⟩)) (does_alloc (z := .nilFunc) (by kernel_rfl) rfl) (by decide) ?_
       intro g71 w72 hM
       refine ⟨(hM.sub (.cons _ (.cons _ (.cons _ (.cons _ (.cons _ (.cons_cons _ (.cons_cons _ (List.nil_sublist _))))))))), ?_⟩
       intro a hA
       refine any_one (by kernel_rfl) (op_call hA 3 rfl rfl rfl rfl (enters_func rfl rfl (fun w => by kernel_rfl)) (membership_any) ?_)
       rintro _ w75 ⟨g73, rfl, hM74⟩
       replace hM : Mg w w75 (.obj g73 (.cells #[.slice so2 l2.length ca2, .slice si2 bs2.length ci2] 25) :: .obj g71 (.cells #[.nilFunc] 55) :: .obj g54 (.cells #[.nilFunc] 55) :: .obj g20 (.cells #[.slice so l.length ca, .slice si bs.length ci] 25) :: .obj g8 (.cells #[.slice none 0 0, .slice none 0 0] 25) :: .obj g6 (.cells #[.func (.func f) #[] (([] : List Value)).toArray] 61) :: .obj g4 (.cells #[.slice so2 l2.length ca2, .slice si2 bs2.length ci2] 25) :: .obj g2 (.cells #[.slice so l.length ca, .slice si bs.length ci] 25) :: []) := (hM.both hM74 (noBld_cons (by simp) (noBld_cons (by simp) (noBld_cons (by simp) (noBld_cons (by simp) (noBld_cons (by simp) (noBld_cons (by simp) (noBld_cons (by simp) (noBld_quiet quietL_nil)))))))) (noBld_cons (by simp) (noBld_quiet quietL_nil)))
       refine ⟨_, rfl, (hM.sub (.cons _ (.cons _ (.cons _ (.cons _ (.cons _ (.cons _ (.cons_cons _ (.cons_cons _ (List.nil_sublist _)))))))))), ?_⟩
       intro a hA
       refine any_one (by kernel_rfl) (g_store (us := [.func (.func 52) #[] [.pointer (some ⟨g20, 0, none⟩)].toArray]) (L' := (.obj g73 (.cells #[.slice so2 l2.length ca2, .slice si2 bs2.length ci2] 25) :: .obj g71 (.cells #[.nilFunc] 55) :: .obj g54 (.cells #[.func (.func 52) #[] [.pointer (some ⟨g20, 0, none⟩)].toArray] 55) :: .obj g20 (.cells #[.slice so l.length ca, .slice si bs.length ci] 25) :: .obj g8 (.cells #[.slice none 0 0, .slice none 0 0] 25) :: .obj g6 (.cells #[.func (.func f) #[] (([] : List Value)).toArray] 61) :: .obj g4 (.cells #[.slice so2 l2.length ca2, .slice si2 bs2.length ci2] 25) :: .obj g2 (.cells #[.slice so l.length ca, .slice si bs.length ci] 25) :: [])) hA hM 6 rfl rfl rfl (m_store rfl rfl rfl (by kernel_rfl) hM 2 rfl rfl rfl) 2 rfl rfl rfl ?_)
       intro w76 hM
       refine ⟨(hM.sub (.cons _ (.cons _ (.cons _ (.cons _ (.cons _ (.cons _ (.cons_cons _ (.cons_cons _ (List.nil_sublist _)))))))))), ?_⟩
       refine any_one (by kernel_rfl) (g_store (us := [.func (.func 52) #[] [.pointer (some ⟨g73, 0, none⟩)].toArray]) (L' := (.obj g73 (.cells #[.slice so2 l2.length ca2, .slice si2 bs2.length ci2] 25) :: .obj g71 (.cells #[.func (.func 52) #[] [.pointer (some ⟨g73, 0, none⟩)].toArray] 55) :: .obj g54 (.cells #[.func (.func 52) #[] [.pointer (some ⟨g20, 0, none⟩)].toArray] 55) :: .obj g20 (.cells #[.slice so l.length ca, .slice si bs.length ci] 25) :: .obj g8 (.cells #[.slice none 0 0, .slice none 0 0] 25) :: .obj g6 (.cells #[.func (.func f) #[] (([] : List Value)).toArray] 61) :: .obj g4 (.cells #[.slice so2 l2.length ca2, .slice si2 bs2.length ci2] 25) :: .obj g2 (.cells #[.slice so l.length ca, .slice si bs.length ci] 25) :: [])) hA hM 7 rfl rfl rfl (m_store rfl rfl rfl (by kernel_rfl) hM 1 rfl rfl rfl) 1 rfl rfl rfl ?_)
       intro w77 hM
       refine ⟨(hM.sub (.cons _ (.cons _ (.cons _ (.cons _ (.cons _ (.cons _ (.cons_cons _ (.cons_cons _ (List.nil_sublist _)))))))))), ?_⟩
       refine any_end (by kernel_rfl) ?_
       refine hK19 _ _ ?_
       refine wp_seq_k (fun K78 hK78 => ?_)
       refine wp_region_lit ?_
       refine seq_do (v := .pointer (some ⟨g2, 0, none⟩)) hA rfl rfl rfl (does_field EnD_fld_25_0 rfl rfl) ?_
       intro a hA
       refine seq_do hA rfl rfl rfl (m_load1 hM EnD_is1_22 rfl 7 rfl rfl) ?_
       intro a hA
       refine seq_do (v := .func (.func 51) #[] [.pointer (some ⟨g6, 0, none⟩), .pointer (some ⟨g54, 0, none⟩), .pointer (some ⟨g71, 0, none⟩)].toArray) hA rfl rfl rfl (does_makeFunc rfl) ?_
       intro a hA
       refine seq_call hA rfl rfl rfl (enters_func rfl rfl (fun w => by kernel_rfl)) (where_any (hR.below hM.bel) hl hs (asks_comb (asks_memb (hR.below hM.bel) (hB.below hM.bel) hl (snd_le hsd).2.1 (hM.cell 3 rfl 0 rfl) (hM.cell 3 rfl 1 rfl)) (asks_memb (hR2.below hM.bel) (hB2.below hM.bel) hl2 (snd_le hsd2).2.1 (hM.cell 0 rfl 0 rfl) (hM.cell 0 rfl 1 rfl)) hK (hM.cell 5 rfl 0 rfl) (hM.cell 2 rfl 0 rfl) (hM.cell 1 rfl 0 rfl))) ?_
       rintro _ w84 ⟨so79, ca80, si81, ci82, rfl, hM83⟩
       replace hM : Mg w w84 (.row 9 1 (.slice so79 l.length ca80) l.length (strC l) :: .row 4 1 (.slice si81 l.length ci82) l.length (boolC (l.map (fun s => r (hasS l bs s) (hasS l2 bs2 s)))) :: .obj g73 (.cells #[.slice so2 l2.length ca2, .slice si2 bs2.length ci2] 25) :: .obj g71 (.cells #[.func (.func 52) #[] [.pointer (some ⟨g73, 0, none⟩)].toArray] 55) :: .obj g54 (.cells #[.func (.func 52) #[] [.pointer (some ⟨g20, 0, none⟩)].toArray] 55) :: .obj g20 (.cells #[.slice so l.length ca, .slice si bs.length ci] 25) :: .obj g8 (.cells #[.slice none 0 0, .slice none 0 0] 25) :: .obj g6 (.cells #[.func (.func f) #[] (([] : List Value)).toArray] 61) :: .obj g4 (.cells #[.slice so2 l2.length ca2, .slice si2 bs2.length ci2] 25) :: .obj g2 (.cells #[.slice so l.length ca, .slice si bs.length ci] 25) :: []) := (hM.both hM83 (noBld_cons (by simp) (noBld_cons (by simp) (noBld_cons (by simp) (noBld_cons (by simp) (noBld_cons (by simp) (noBld_cons (by simp) (noBld_cons (by simp) (noBld_cons (by simp) (noBld_quiet quietL_nil))))))))) (noBld_cons (by simp) (noBld_cons (by simp) (noBld_quiet quietL_nil))))
       refine ⟨_, rfl, ?_⟩
       intro a hA
       refine s_store (us := [.slice so79 l.length ca80, .slice si81 l.length ci82]) (L' := (.row 9 1 (.slice so79 l.length ca80) l.length (strC l) :: .row 4 1 (.slice si81 l.length ci82) l.length (boolC (l.map (fun s => r (hasS l bs s) (hasS l2 bs2 s)))) :: .obj g73 (.cells #[.slice so2 l2.length ca2, .slice si2 bs2.length ci2] 25) :: .obj g71 (.cells #[.func (.func 52) #[] [.pointer (some ⟨g73, 0, none⟩)].toArray] 55) :: .obj g54 (.cells #[.func (.func 52) #[] [.pointer (some ⟨g20, 0, none⟩)].toArray] 55) :: .obj g20 (.cells #[.slice so l.length ca, .slice si bs.length ci] 25) :: .obj g8 (.cells #[.slice so79 l.length ca80, .slice si81 l.length ci82] 25) :: .obj g6 (.cells #[.func (.func f) #[] (([] : List Value)).toArray] 61) :: .obj g4 (.cells #[.slice so2 l2.length ca2, .slice si2 bs2.length ci2] 25) :: .obj g2 (.cells #[.slice so l.length ca, .slice si bs.length ci] 25) :: [])) hA hM rfl rfl (m_store rfl rfl rfl (by kernel_rfl) hM 6 rfl rfl rfl) 6 rfl rfl rfl ?_
       intro w85 hM
       refine seq_do hA rfl rfl rfl (does_assign rfl) ?_
       intro a hA
       refine seq_end ?_
       refine hK78 _ _ ?_
       refine wp_ret ?_
       refine hret _ _ ?_
       refine ends (v := .tuple #[.agg #[.slice so79 l.length ca80, .slice si81 l.length ci82], .int .i64 0]) hA rfl (.cons (res_cellS hM EnD_isS_25 rfl 6 rfl (cs := [.slice so79 l.length ca80, .slice si81 l.length ci82]) rfl rfl) (.cons (res_tmp rfl) .nil)) rfl ?_
       replace hM : Mg w w85 (.row 9 1 (.slice so79 l.length ca80) l.length (strC l) :: .row 4 1 (.slice si81 l.length ci82) l.length (boolC (l.map (fun s => r (hasS l bs s) (hasS l2 bs2 s)))) :: []) := by
         have h9 := hM.sub (.cons_cons _ (.cons_cons _ (.cons _ (.cons _ (.cons _ (.cons _ (.cons _ (.cons _ (.cons _ (.cons _ (.refl _)))))))))))
         exact h9
       exact ⟨_, _, _, _, rfl, hM⟩
   · refine g_new (vs := [.nilFunc]) (t := 55) hA hM 5 rfl rfl rfl rfl (fun g => .pointer (some ⟨g, 0, none⟩)) (does_alloc (z := .nilFunc) (by kernel_rfl) rfl) (by decide) ?_
     intro g86 w87 hM
     refine ⟨(hM.sub (.cons _ (.cons _ (.cons _ (.cons _ (.cons_cons _ (.cons_cons _ (List.nil_sublist _)))))))), ?_⟩
     intro a hA
     refine any_many (rs := [3, 4]) (by kernel_rfl) (by simp) ⟨?_, ?_, trivial⟩
     · refine op_call hA 3 rfl rfl rfl rfl (enters_func rfl rfl (fun w => by kernel_rfl)) (membership_any) ?_
       rintro _ w90 ⟨g88, rfl, hM89⟩
       replace hM : Mg w w90 (.obj g88 (.cells #[.slice so2 l2.length ca2, .slice si2 bs2.length ci2] 25) :: .obj g86 (.cells #[.nilFunc] 55) :: .obj g20 (.cells #[.slice so l.length ca, .slice si bs.length ci] 25) :: .obj g8 (.cells #[.slice none 0 0, .slice none 0 0] 25) :: .obj g6 (.cells #[.func (.func f) #[] (([] : List Value)).toArray] 61) :: .obj g4 (.cells #[.slice so2 l2.length ca2, .slice si2 bs2.length ci2] 25) :: .obj g2 (.cells #[.slice so l.length ca, .slice si bs.length ci] 25) :: []) := (hM.both hM89 (noBld_cons (by simp) (noBld_cons (by simp) (noBld_cons (by simp) (noBld_cons (by simp) (noBld_cons (by simp) (noBld_cons (by simp) (noBld_quiet quietL_nil))))))) (noBld_cons (by simp) (noBld_quiet quietL_nil)))
       refine ⟨_, rfl, (hM.sub (.cons _ (.cons _ (.cons _ (.cons _ (.cons _ (.cons_cons _ (.cons_cons _ (List.nil_sublist _))))))))), ?_⟩
       intro a hA
       refine any_one (by kernel_rfl) (g_new (vs := [.nilFunc]) (t := 55) hA hM 4 rfl rfl rfl rfl (fun g => .pointer (some ⟨g, 0, none⟩)) (does_alloc (z := .nilFunc) (by kernel_rfl) rfl) (by decide) ?_)
       intro g91 w92 hM
       refine ⟨(hM.sub (.cons _ (.cons _ (.cons _ (.cons _ (.cons _ (.cons _ (.cons_cons _ (.cons_cons _ (List.nil_sublist _)))))))))), ?_⟩
       intro a hA
       refine any_one (by kernel_rfl) (g_store (us := [.func (.func 52) #[] [.pointer (some ⟨g20, 0, none⟩)].toArray]) (L' := (.obj g91 (.cells #[.func (.func 52) #[] [.pointer (some ⟨g20, 0, none⟩)].toArray] 55) :: .obj g88 (.cells #[.slice so2 l2.length ca2, .slice si2 bs2.length ci2] 25) :: .obj g86 (.cells #[.nilFunc] 55) :: .obj g20 (.cells #[.slice so l.length ca, .slice si bs.length ci] 25) :: .obj g8 (.cells #[.slice none 0 0, .slice none 0 0] 25) :: .obj g6 (.cells #[.func (.func f) #[] (([] : List Value)).toArray] 61) :: .obj g4 (.cells #[.slice so2 l2.length ca2, .slice si2 bs2.length ci2] 25) :: .obj g2 (.cells #[.slice so l.length ca, .slice si bs.length ci] 25) :: [])) hA hM 6 rfl rfl rfl (m_store rfl rfl rfl (by kernel_rfl) hM 0 rfl rfl rfl) 0 rfl rfl rfl ?_)
       intro w93 hM
       refine ⟨(hM.sub (.cons _ (.cons _ (.cons _ (.cons _ (.cons _ (.cons _ (.cons_cons _ (.cons_cons _ (List.nil_sublist _)))))))))), ?_⟩
       refine any_one (by kernel_rfl) (g_store (us := [.func (.func 52) #[] [.pointer (some ⟨g88, 0, none⟩)].toArray]) (L' := (.obj g91 (.cells #[.func (.func 52) #[] [.pointer (some ⟨g20, 0, none⟩)].toArray] 55) :: .obj g88 (.cells #[.slice so2 l2.length ca2, .slice si2 bs2.length ci2] 25) :: .obj g86 (.cells #[.func (.func 52) #[] [.pointer (some ⟨g88, 0, none⟩)].toArray] 55) :: .obj g20 (.cells #[.slice so l.length ca, .slice si bs.length ci] 25) :: .obj g8 (.cells #[.slice none 0 0, .slice none 0 0] 25) :: .obj g6 (.cells #[.func (.func f) #[] (([] : List Value)).toArray] 61) :: .obj g4 (.cells #[.slice so2 l2.length ca2, .slice si2 bs2.length ci2] 25) :: .obj g2 (.cells #[.slice so l.length ca, .slice si bs.length ci] 25) :: [])) hA hM 7 rfl rfl rfl (m_store rfl rfl rfl (by kernel_rfl) hM 2 rfl rfl rfl) 2 rfl rfl rfl ?_)
       intro w94 hM
       refine ⟨(hM.sub (.cons _ (.cons _ (.cons _ (.cons _ (.cons _ (.cons _ (.cons_cons _ (.cons_cons _ (List.nil_sublist _)))))))))), ?_⟩
       refine any_end (by kernel_rfl) ?_
       refine hK19 _ _ ?_
       refine wp_seq_k (fun K95 hK95 => ?_)
       refine wp_region_lit ?_
       refine seq_do (v := .pointer (some ⟨g2, 0, none⟩)) hA rfl rfl rfl (does_field EnD_fld_25_0 rfl rfl) ?_
       intro a hA
       refine seq_do hA rfl rfl rfl (m_load1 hM EnD_is1_22 rfl 7 rfl rfl) ?_
       intro a hA
       refine seq_do (v := .func (.func 51) #[] [.pointer (some ⟨g6, 0, none⟩), .pointer (some ⟨g91, 0, none⟩), .pointer (some ⟨g86, 0, none⟩)].toArray) hA rfl rfl rfl (does_makeFunc rfl) ?_
       intro a hA
       refine seq_call hA rfl rfl rfl (enters_func rfl rfl (fun w => by kernel_rfl)) (where_any (hR.below hM.bel) hl hs (asks_comb (asks_memb (hR.below hM.bel) (hB.below hM.bel) hl (snd_le hsd).2.1 (hM.cell 3 rfl 0 rfl) (hM.cell 3 rfl 1 rfl)) (asks_memb (hR2.below hM.bel) (hB2.below hM.bel) hl2 (snd_le hsd2).2.1 (hM.cell 1 rfl 0 rfl) (hM.cell 1 rfl 1 rfl)) hK (hM.cell 5 rfl 0 rfl) (hM.cell 0 rfl 0 rfl) (hM.cell 2 rfl 0 rfl))) ?_
       rintro _ w101 ⟨so96, ca97, si98, ci99, rfl, hM100⟩
       replace hM : Mg w w101 (.row 9 1 (.slice so96 l.length ca97) l.length (strC l) :: .row 4 1 (.slice si98 l.length ci99) l.length (boolC (l.map (fun s => r (hasS l bs s) (hasS l2 bs2 s)))) :: .obj g91 (.cells #[.func (.func 52) #[] [.pointer (some ⟨g20, 0, none⟩)].toArray] 55) :: .obj g88 (.cells #[.slice so2 l2.length ca2, .slice si2 bs2.length ci2] 25) :: .obj g86 (.cells #[.func (.func 52) #[] [.pointer (some ⟨g88, 0, none⟩)].toArray] 55) :: .obj g20 (.cells #[.slice so l.length ca, .slice si bs.length ci] 25) :: .obj g8 (.cells #[.slice none 0 0, .slice none 0 0] 25) :: .obj g6 (.cells #[.func (.func f) #[] (([] : List Value)).toArray] 61) :: .obj g4 (.cells #[.slice so2 l2.length ca2, .slice si2 bs2.length ci2] 25) :: .obj g2 (.cells #[.slice so l.length ca, .slice si bs.length ci] 25) :: []) := (hM.both hM100 (noBld_cons (by simp) (noBld_cons (by simp) (noBld_cons (by simp) (noBld_cons (by simp) (noBld_cons (by simp) (noBld_cons (by simp) (noBld_cons (by simp) (noBld_cons (by simp) (noBld_quiet quietL_nil))))))))) (noBld_cons (by simp) (noBld_cons (by simp) (noBld_quiet quietL_nil))))
       refine ⟨_, rfl, ?_⟩
       intro a hA
       refine s_store (us := [.slice so96 l.length ca97, .slice si98 l.length ci99]) (L' := (.row 9 1 (.slice so96 l.length ca97) l.length (strC l) :: .row 4 1 (.slice si98 l.length ci99) l.length (boolC (l.map (fun s => r (hasS l bs s) (hasS l2 bs2 s)))) :: .obj g91 (.cells #[.func (.func 52) #[] [.pointer (some ⟨g20, 0, none⟩)].toArray] 55) :: .obj g88 (.cells #[.slice so2 l2.length ca2, .slice si2 bs2.length ci2] 25) :: .obj g86 (.cells #[.func (.func 52) #[] [.pointer (some ⟨g88, 0, none⟩)].toArray] 55) :: .obj g20 (.cells #[.slice so l.length ca, .slice si bs.length ci] 25) :: .obj g8 (.cells #[.slice so96 l.length ca97, .slice si98 l.length ci99] 25) :: .obj g6 (.cells #[.func (.func f) #[] (([] : List Value)).toArray] 61) :: .obj g4 (.cells #[.slice so2 l2.length ca2, .slice si2 bs2.length ci2] 25) :: .obj g2 (.cells #[.slice so l.length ca, .slice si bs.length ci] 25) :: [])) hA hM rfl rfl (m_store rfl rfl rfl (by kernel_rfl) hM 6 rfl rfl rfl) 6 rfl rfl rfl ?_
       intro w102 hM
       refine seq_do hA rfl rfl rfl (does_assign rfl) ?_
       intro a hA
       refine seq_end ?_
       refine hK95 _ _ ?_
       refine wp_ret ?_
       refine hret _ _ ?_
       refine ends (v := .tuple #[.agg #[.slice so96 l.length ca97, .slice si98 l.length ci99], .int .i64 0]) hA rfl (.cons (res_cellS hM EnD_isS_25 rfl 6 rfl (cs := [.slice so96 l.length ca97, .slice si98 l.length ci99]) rfl rfl) (.cons (res_tmp rfl) .nil)) rfl ?_
       replace hM : Mg w w102 (.row 9 1 (.slice so96 l.length ca97) l.length (strC l) :: .row 4 1 (.slice si98 l.length ci99) l.length (boolC (l.map (fun s => r (hasS l bs s) (hasS l2 bs2 s)))) :: []) := by
         have h9 := hM.sub (.cons_cons _ (.cons_cons _ (.cons _ (.cons _ (.cons _ (.cons _ (.cons _ (.cons _ (.cons _ (.cons _ (.refl _)))))))))))
         exact h9
       exact ⟨_, _, _, _, rfl, hM⟩
     · refine g_new (vs := [.nilFunc]) (t := 55) hA hM 4 rfl rfl rfl rfl (fun g => .pointer (some ⟨g, 0, none⟩)) (does_alloc (z := .nilFunc) (by kernel_rfl) rfl) (by decide) ?_
       intro g103 w104 hM
       refine ⟨(hM.sub (.cons _ (.cons _ (.cons _ (.cons _ (.cons _ (.cons_cons _ (.cons_cons _ (List.nil_sublist _))))))))), ?_⟩
       intro a hA
       refine any_one (by kernel_rfl) (op_call hA 3 rfl rfl rfl rfl (enters_func rfl rfl (fun w => by kernel_rfl)) (membership_any) ?_)
       rintro _ w107 ⟨g105, rfl, hM106⟩
       replace hM : Mg w w107 (.obj g105 (.cells #[.slice so2 l2.length ca2, .slice si2 bs2.length ci2] 25) :: .obj g103 (.cells #[.nilFunc] 55) :: .obj g86 (.cells #[.nilFunc] 55) :: .obj g20 (.cells #[.slice so l.length ca, .slice si bs.length ci] 25) :: .obj g8 (.cells #[.slice none 0 0, .slice none 0 0] 25) :: .obj g6 (.cells #[.func (.func f) #[] (([] : List Value)).toArray] 61) :: .obj g4 (.cells #[.slice so2 l2.length ca2, .slice si2 bs2.length ci2] 25) :: .obj g2 (.cells #[.slice so l.length ca, .slice si bs.length ci] 25) :: []) := (hM.both hM106 (noBld_cons (by simp) (noBld_cons (by simp) (noBld_cons (by simp) (noBld_cons (by simp) (noBld_cons (by simp) (noBld_cons (by simp) (noBld_cons (by simp) (noBld_quiet quietL_nil)))))))) (noBld_cons (by simp) (noBld_quiet quietL_nil)))
       refine ⟨_, rfl, (hM.sub (.cons _ (.cons _ (.cons _ (.cons _ (.cons _ (.cons _ (.cons_cons _ (.cons_cons _ (List.nil_sublist _)))))))))), ?_⟩
       intro a hA
       refine any_one (by kernel_rfl) (g_store (us := [.func (.func 52) #[] [.pointer (some ⟨g20, 0, none⟩)].toArray]) (L' := (.obj g105 (.cells #[.slice so2 l2.length ca2, .slice si2 bs2.length ci2] 25) :: .obj g103 (.cells #[.func (.func 52) #[] [.pointer (some ⟨g20, 0, none⟩)].toArray] 55) :: .obj g86 (.cells #[.nilFunc] 55) :: .obj g20 (.cells #[.slice so l.length ca, .slice si bs.length ci] 25) :: .obj g8 (.cells #[.slice none 0 0, .slice none 0 0] 25) :: .obj g6 (.cells #[.func (.func f) #[] (([] : List Value)).toArray] 61) :: .obj g4 (.cells #[.slice so2 l2.length ca2, .slice si2 bs2.length ci2] 25) :: .obj g2 (.cells #[.slice so l.length ca, .slice si bs.length ci] 25) :: [])) hA hM 6 rfl rfl rfl (m_store rfl rfl rfl (by kernel_rfl) hM 1 rfl rfl rfl) 1 rfl rfl rfl ?_)
       intro w108 hM
       refine ⟨(hM.sub (.cons _ (.cons _ (.cons _ (.cons _ (.cons _ (.cons _ (.cons_cons _ (.cons_cons _ (List.nil_sublist _)))))))))), ?_⟩
       refine any_one (by kernel_rfl) (g_store (us := [.func (.func 52) #[] [.pointer (some ⟨g105, 0, none⟩)].toArray]) (L' := (.obj g105 (.cells #[.slice so2 l2.length ca2, .slice si2 bs2.length ci2] 25) :: .obj g103 (.cells #[.func (.func 52) #[] [.pointer (some ⟨g20, 0, none⟩)].toArray] 55) :: .obj g86 (.cells #[.func (.func 52) #[] [.pointer (some ⟨g105, 0, none⟩)].toArray] 55) :: .obj g20 (.cells #[.slice so l.length ca, .slice si bs.length ci] 25) :: .obj g8 (.cells #[.slice none 0 0, .slice none 0 0] 25) :: .obj g6 (.cells #[.func (.func f) #[] (([] : List Value)).toArray] 61) :: .obj g4 (.cells #[.slice so2 l2.length ca2, .slice si2 bs2.length ci2] 25) :: .obj g2 (.cells #[.slice so l.length ca, .slice si bs.length ci] 25) :: [])) hA hM 7 rfl rfl rfl (m_store rfl rfl rfl (by kernel_rfl) hM 2 rfl rfl rfl) 2 rfl rfl rfl ?_)
       intro w109 hM
       refine ⟨(hM.sub (.cons _ (.cons _ (.cons _ (.cons _ (.cons _ (.cons _ (.cons_cons _ (.cons_cons _ (List.nil_sublist _)))))))))), ?_⟩
       refine any_end (by kernel_rfl) ?_
       refine hK19 _ _ ?_
       refine wp_seq_k (fun K110 hK110 => ?_)
       refine wp_region_lit ?_
       refine seq_do (v := .pointer (some ⟨g2, 0, none⟩)) hA rfl rfl rfl (does_field EnD_fld_25_0 rfl rfl) ?_
       intro a hA
       refine seq_do hA rfl rfl rfl (m_load1 hM EnD_is1_22 rfl 7 rfl rfl) ?_
       intro a hA
       refine seq_do (v := .func (.func 51) #[] [.pointer (some ⟨g6, 0, none⟩), .pointer (some ⟨g103, 0, none⟩), .pointer (some ⟨g86, 0, none⟩)].toArray) hA rfl rfl rfl (does_makeFunc rfl) ?_
       intro a hA
       refine seq_call hA rfl rfl rfl (enters_func rfl rfl (fun w => by kernel_rfl)) (where_any (hR.below hM.bel) hl hs (asks_comb (asks_memb (hR.below hM.bel) (hB.below hM.bel) hl (snd_le hsd).2.1 (hM.cell 3 rfl 0 rfl) (hM.cell 3 rfl 1 rfl)) (asks_memb (hR2.below hM.bel) (hB2.below hM.bel) hl2 (snd_le hsd2).2.1 (hM.cell 0 rfl 0 rfl) (hM.cell 0 rfl 1 rfl)) hK (hM.cell 5 rfl 0 rfl) (hM.cell 1 rfl 0 rfl) (hM.cell 2 rfl 0 rfl))) ?_
       rintro _ w116 ⟨so111, ca112, si113, ci114, rfl, hM115⟩
       replace hM : Mg w w116 (.row 9 1 (.slice so111 l.length ca112) l.length (strC l) :: .row 4 1 (.slice si113 l.length ci114) l.length (boolC (l.map (fun s => r (hasS l bs s) (hasS l2 bs2 s)))) :: .obj g105 (.cells #[.slice so2 l2.length ca2, .slice si2 bs2.length ci2] 25) :: .obj g103 (.cells #[.func (.func 52) #[] [.pointer (some ⟨g20, 0, none⟩)].toArray] 55) :: .obj g86 (.cells #[.func (.func 52) #[] [.pointer (some ⟨g105, 0, none⟩)].toArray] 55) :: .obj g20 (.cells #[.slice so l.length ca, .slice si bs.length ci] 25) :: .obj g8 (.cells #[.slice none 0 0, .slice none 0 0] 25) :: .obj g6 (.cells #[.func (.func f) #[] (([] : List Value)).toArray] 61) :: .obj g4 (.cells #[.slice so2 l2.length ca2, .slice si2 bs2.length ci2] 25) :: .obj g2 (.cells #[.slice so l.length ca, .slice si bs.length ci] 25) :: []) := (hM.both hM115 (noBld_cons (by simp) (noBld_cons (by simp) (noBld_cons (by simp) (noBld_cons (by simp) (noBld_cons (by simp) (noBld_cons (by simp) (noBld_cons (by simp) (noBld_cons (by simp) (noBld_quiet quietL_nil))))))))) (noBld_cons (by simp) (noBld_cons (by simp) (noBld_quiet quietL_nil))))
       refine ⟨_, rfl, ?_⟩
       intro a hA
       refine s_store (us := [.slice so111 l.length ca112, .slice si113 l.length ci114]) (L' := (.row 9 1 (.slice so111 l.length ca112) l.length (strC l) :: .row 4 1 (.slice si113 l.length ci114) l.length (boolC (l.map (fun s => r (hasS l bs s) (hasS l2 bs2 s)))) :: .obj g105 (.cells #[.slice so2 l2.length ca2, .slice si2 bs2.length ci2] 25) :: .obj g103 (.cells #[.func (.func 52) #[] [.pointer (some ⟨g20, 0, none⟩)].toArray] 55) :: .obj g86 (.cells #[.func (.func 52) #[] [.pointer (some ⟨g105, 0, none⟩)].toArray] 55) :: .obj g20 (.cells #[.slice so l.length ca, .slice si bs.length ci] 25) :: .obj g8 (.cells #[.slice so111 l.length ca112, .slice si113 l.length ci114] 25) :: .obj g6 (.cells #[.func (.func f) #[] (([] : List Value)).toArray] 61) :: .obj g4 (.cells #[.slice so2 l2.length ca2, .slice si2 bs2.length ci2] 25) :: .obj g2 (.cells #[.slice so l.length ca, .slice si bs.length ci] 25) :: [])) hA hM rfl rfl (m_store rfl rfl rfl (by kernel_rfl) hM 6 rfl rfl rfl) 6 rfl rfl rfl ?_
       intro w117 hM
       refine seq_do hA rfl rfl rfl (does_assign rfl) ?_
       intro a hA
       refine seq_end ?_
       refine hK110 _ _ ?_
       refine wp_ret ?_
       refine hret _ _ ?_
       refine ends (v := .tuple #[.agg #[.slice so111 l.length ca112, .slice si113 l.length ci114], .int .i64 0]) hA rfl (.cons (res_cellS hM EnD_isS_25 rfl 6 rfl (cs := [.slice so111 l.length ca112, .slice si113 l.length ci114]) rfl rfl) (.cons (res_tmp rfl) .nil)) rfl ?_
       replace hM : Mg w w117 (.row 9 1 (.slice so111 l.length ca112) l.length (strC l) :: .row 4 1 (.slice si113 l.length ci114) l.length (boolC (l.map (fun s => r (hasS l bs s) (hasS l2 bs2 s)))) :: []) := by
         have h9 := hM.sub (.cons_cons _ (.cons_cons _ (.cons _ (.cons _ (.cons _ (.cons _ (.cons _ (.cons _ (.cons _ (.cons _ (.refl _)))))))))))
         exact h9
       exact ⟨_, _, _, _, rfl, hM⟩
 · refine g_new (vs := [.nilFunc]) (t := 55) hA hM 4 rfl rfl rfl rfl (fun g => .pointer (some ⟨g, 0, none⟩)) (does_alloc (z := .nilFunc) (by kernel_rfl) rfl) (by decide) ?_
   intro g118 w119 hM
   refine ⟨(hM.sub (.cons _ (.cons _ (.cons _ (.cons_cons _ (.cons_cons _ (List.nil_sublist _))))))), ?_⟩
   intro a hA
   refine any_many (rs := [1, 5]) (by kernel_rfl) (by simp) ⟨?_, ?_, trivial⟩
   · refine op_call hA 1 rfl rfl rfl rfl (enters_func rfl rfl (fun w => by kernel_rfl)) (membership_any) ?_
     rintro _ w122 ⟨g120, rfl, hM121⟩
     replace hM : Mg w w122 (.obj g120 (.cells #[.slice so l.length ca, .slice si bs.length ci] 25) :: .obj g118 (.cells #[.nilFunc] 55) :: .obj g8 (.cells #[.slice none 0 0, .slice none 0 0] 25) :: .obj g6 (.cells #[.func (.func f) #[] (([] : List Value)).toArray] 61) :: .obj g4 (.cells #[.slice so2 l2.length ca2, .slice si2 bs2.length ci2] 25) :: .obj g2 (.cells #[.slice so l.length ca, .slice si bs.length ci] 25) :: []) := (hM.both hM121 (noBld_cons (by simp) (noBld_cons (by simp) (noBld_cons (by simp) (noBld_cons (by simp) (noBld_cons (by simp) (noBld_quiet quietL_nil)))))) (noBld_cons (by simp) (noBld_quiet quietL_nil)))
     refine ⟨_, rfl, (hM.sub (.cons _ (.cons _ (.cons _ (.cons _ (.cons_cons _ (.cons_cons _ (List.nil_sublist _)))))))), ?_⟩
     intro a hA
     refine any_many (rs := [3, 5]) (by kernel_rfl) (by simp) ⟨?_, ?_, trivial⟩
     · refine op_call hA 3 rfl rfl rfl rfl (enters_func rfl rfl (fun w => by kernel_rfl)) (membership_any) ?_
       rintro _ w125 ⟨g123, rfl, hM124⟩
       replace hM : Mg w w125 (.obj g123 (.cells #[.slice so2 l2.length ca2, .slice si2 bs2.length ci2] 25) :: .obj g120 (.cells #[.slice so l.length ca, .slice si bs.length ci] 25) :: .obj g118 (.cells #[.nilFunc] 55) :: .obj g8 (.cells #[.slice none 0 0, .slice none 0 0] 25) :: .obj g6 (.cells #[.func (.func f) #[] (([] : List Value)).toArray] 61) :: .obj g4 (.cells #[.slice so2 l2.length ca2, .slice si2 bs2.length ci2] 25) :: .obj g2 (.cells #[.slice so l.length ca, .slice si bs.length ci] 25) :: []) := (hM.both hM124 (noBld_cons (by simp) (noBld_cons (by simp) (noBld_cons (by simp) (noBld_cons (by simp) (noBld_cons (by simp) (noBld_cons (by simp) (noBld_quiet quietL_nil))))))) (noBld_cons (by simp) (noBld_quiet quietL_nil)))
       refine ⟨_, rfl, (hM.sub (.cons _ (.cons _ (.cons _ (.cons _ (.cons _ (.cons_cons _ (.cons_cons _ (List.nil_sublist _))))))))), ?_⟩
       intro a hA
       refine any_one (by kernel_rfl) (g_new (vs := [.nilFunc]) (t := 55) hA hM 5 rfl rfl rfl rfl (fun g => .pointer (some ⟨g, 0, none⟩)) (does_alloc (z := .nilFunc) (by kernel_rfl) rfl) (by decide) ?_)
       intro g126 w127 hM
       refine ⟨(hM.sub (.cons _ (.cons _ (.cons _ (.cons _ (.cons _ (.cons _ (.cons_cons _ (.cons_cons _ (List.nil_sublist _)))))))))), ?_⟩
       intro a hA
       refine any_one (by kernel_rfl) (g_store (us := [.func (.func 52) #[] [.pointer (some ⟨g120, 0, none⟩)].toArray]) (L' := (.obj g126 (.cells #[.nilFunc] 55) :: .obj g123 (.cells #[.slice so2 l2.length ca2, .slice si2 bs2.length ci2] 25) :: .obj g120 (.cells #[.slice so l.length ca, .slice si bs.length ci] 25) :: .obj g118 (.cells #[.func (.func 52) #[] [.pointer (some ⟨g120, 0, none⟩)].toArray] 55) :: .obj g8 (.cells #[.slice none 0 0, .slice none 0 0] 25) :: .obj g6 (.cells #[.func (.func f) #[] (([] : List Value)).toArray] 61) :: .obj g4 (.cells #[.slice so2 l2.length ca2, .slice si2 bs2.length ci2] 25) :: .obj g2 (.cells #[.slice so l.length ca, .slice si bs.length ci] 25) :: [])) hA hM 6 rfl rfl rfl (m_store rfl rfl rfl (by kernel_rfl) hM 3 rfl rfl rfl) 3 rfl rfl rfl ?_)
       intro w128 hM
       refine ⟨(hM.sub (.cons _ (.cons _ (.cons _ (.cons _ (.cons _ (.cons _ (.cons_cons _ (.cons_cons _ (List.nil_sublist _)))))))))), ?_⟩
       refine any_one (by kernel_rfl) (g_store (us := [.func (.func 52) #[] [.pointer (some ⟨g123, 0, none⟩)].toArray]) (L' := (.obj g126 (.cells #[.func (.func 52) #[] [.pointer (some ⟨g123, 0, none⟩)].toArray] 55) :: .obj g123 (.cells #[.slice so2 l2.length ca2, .slice si2 bs2.length ci2] 25) :: .obj g120 (.cells #[.slice so l.length ca, .slice si bs.length ci] 25) :: .obj g118 (.cells #[.func (.func 52) #[] [.pointer (some ⟨g120, 0, none⟩)].toArray] 55) :: .obj g8 (.cells #[.slice none 0 0, .slice none 0 0] 25) :: .obj g6 (.cells #[.func (.func f) #[] (([] : List Value)).toArray] 61) :: .obj g4 (.cells #[.slice so2 l2.length ca2, .slice si2 bs2.length ci2] 25) :: .obj g2 (.cells #[.slice so l.length ca, .slice si bs.length ci] 25) :: [])) hA hM 7 rfl rfl rfl (m_store rfl rfl rfl (by kernel_rfl) hM 0 rfl rfl rfl) 0 rfl rfl rfl ?_)
       intro w129 hM
       refine ⟨(hM.sub (.cons _ (.cons _ (.cons _ (.cons _ (.cons _ (.cons _ (.cons_cons _ (.cons_cons _ (List.nil_sublist _)))))))))), ?_⟩
       refine any_end (by kernel_rfl) ?_
       refine hK19 _ _ ?_
       refine wp_seq_k (fun K130 hK130 => ?_)
       refine wp_region_lit ?_
       refine seq_do (v := .pointer (some ⟨g2, 0, none⟩)) hA rfl rfl rfl (does_field EnD_fld_25_0 rfl rfl) ?_
       intro a hA
       refine seq_do hA rfl rfl rfl (m_load1 hM EnD_is1_22 rfl 7 rfl rfl) ?_
       intro a hA
       refine seq_do (v := .func (.func 51) #[] [.pointer (some ⟨g6, 0, none⟩), .pointer (some ⟨g118, 0, none⟩), .pointer (some ⟨g126, 0, none⟩)].toArray) hA rfl rfl rfl (does_makeFunc rfl) ?_
       intro a hA
       refine seq_call hA rfl rfl rfl (enters_func rfl rfl (fun w => by kernel_rfl)) (where_any (hR.below hM.bel) hl hs (asks_comb (asks_memb (hR.below hM.bel) (hB.below hM.bel) hl (snd_le hsd).2.1 (hM.cell 2 rfl 0 rfl) (hM.cell 2 rfl 1 rfl)) (asks_memb (hR2.below hM.bel) (hB2.below hM.bel) hl2 (snd_le hsd2).2.1 (hM.cell 1 rfl 0 rfl) (hM.cell 1 rfl 1 rfl)) hK (hM.cell 5 rfl 0 rfl) (hM.cell 3 rfl 0 rfl) (hM.cell 0 rfl 0 rfl))) ?_
       rintro _ w136 ⟨so131, ca132, si133, ci134, rfl, hM135⟩
       replace hM : Mg w w136 (.row 9 1 (.slice so131 l.length ca132) l.length (strC l) :: .row 4 1 (.slice si133 l.length ci134) l.length (boolC (l.map (fun s => r (hasS l bs s) (hasS l2 bs2 s)))) :: .obj g126 (.cells #[.func (.func 52) #[] [.pointer (some ⟨g123, 0, none⟩)].toArray] 55) :: .obj g123 (.cells #[.slice so2 l2.length ca2, .slice si2 bs2.length ci2] 25) :: .obj g120 (.cells #[.slice so l.length ca, .slice si bs.length ci] 25) :: .obj g118 (.cells #[.func (.func 52) #[] [.pointer (some ⟨g120, 0, none⟩)].toArray] 55) :: .obj g8 (.cells #[.slice none 0 0, .slice none 0 0] 25) :: .obj g6 (.cells #[.func (.func f) #[] (([] : List Value)).toArray] 61) :: .obj g4 (.cells #[.slice so2 l2.length ca2, .slice si2 bs2.length ci2] 25) :: .obj g2 (.cells #[.slice so l.length ca, .slice si bs.length ci] 25) :: []) := (hM.both hM135 (noBld_cons (by simp) (noBld_cons (by simp) (noBld_cons (by simp) (noBld_cons (by simp) (noBld_cons (by simp) (noBld_cons (by simp) (noBld_cons (by simp) (noBld_cons (by simp) (noBld_quiet quietL_nil))))))))) (noBld_cons (by simp) (noBld_cons (by simp) (noBld_quiet quietL_nil))))
       refine ⟨_, rfl, ?_⟩
       intro a hA
       refine s_store (us := [.slice so131 l.length ca132, .slice si133 l.length ci134]) (L' := (.row 9 1 (.slice so131 l.length ca132) l.length (strC l) :: .row 4 1 (.slice si133 l.length ci134) l.length (boolC (l.map (fun s => r (hasS l bs s) (hasS l2 bs2 s)))) :: .obj g126 (.cells #[.func (.func 52) #[] [.pointer (some ⟨g123, 0, none⟩)].toArray] 55) :: .obj g123 (.cells #[.slice so2 l2.length ca2, .slice si2 bs2.length ci2] 25) :: .obj g120 (.cells #[.slice so l.length ca, .slice si bs.length ci] 25) :: .obj g118 (.cells #[.func (.func 52) #[] [.pointer (some ⟨g120, 0, none⟩)].toArray] 55) :: .obj g8 (.cells #[.slice so131 l.length ca132, .slice si133 l.length ci134] 25) :: .obj g6 (.cells #[.func (.func f) #[] (([] : List Value)).toArray] 61) :: .obj g4 (.cells #[.slice so2 l2.length ca2, .slice si2 bs2.length ci2] 25) :: .obj g2 (.cells #[.slice so l.length ca, .slice si bs.length ci] 25) :: [])) hA hM rfl rfl (m_store rfl rfl rfl (by kernel_rfl) hM 6 rfl rfl rfl) 6 rfl rfl rfl ?_
       intro w137 hM
       refine seq_do hA rfl rfl rfl (does_assign rfl) ?_
       intro a hA
       refine seq_end ?_
       refine hK130 _ _ ?_
       refine wp_ret ?_
       refine hret _ _ ?_
       refine ends (v := .tuple #[.agg #[.slice so131 l.length ca132, .slice si133 l.length ci134], .int .i64 0]) hA rfl (.cons (res_cellS hM EnD_isS_25 rfl 6 rfl (cs := [.slice so131 l.length ca132, .slice si133 l.length ci134]) rfl rfl) (.cons (res_tmp rfl) .nil)) rfl ?_
       replace hM : Mg w w137 (.row 9 1 (.slice so131 l.length ca132) l.length (strC l) :: .row 4 1 (.slice si133 l.length ci134) l.length (boolC (l.map (fun s => r (hasS l bs s) (hasS l2 bs2 s)))) :: []) := by
         have h9 := hM.sub (.cons_cons _ (.cons_cons _ (.cons _ (.cons _ (.cons _ (.cons _ (.cons _ (.cons _ (.cons _ (.cons _ (.refl _)))))))))))
         exact h9
       exact ⟨_, _, _, _, rfl, hM⟩
     · refine g_new (vs := [.nilFunc]) (t := 55) hA hM 5 rfl rfl rfl rfl (fun g => .pointer (some ⟨g, 0, none⟩)) (does_alloc (z := .nilFunc) (by kernel_rfl) rfl) (by decide) ?_
       intro g138 w139 hM
       refine ⟨(hM.sub (.cons _ (.cons _ (.cons _ (.cons _ (.cons _ (.cons_cons _ (.cons_cons _ (List.nil_sublist _))))))))), ?_⟩
       intro a hA
       refine any_one (by kernel_rfl) (op_call hA 3 rfl rfl rfl rfl (enters_func rfl rfl (fun w => by kernel_rfl)) (membership_any) ?_)
       rintro _ w142 ⟨g140, rfl, hM141⟩
       replace hM : Mg w w142 (.obj g140 (.cells #[.slice so2 l2.length ca2, .slice si2 bs2.length ci2] 25) :: .obj g138 (.cells #[.nilFunc] 55) :: .obj g120 (.cells #[.slice so l.length ca, .slice si bs.length ci] 25) :: .obj g118 (.cells #[.nilFunc] 55) :: .obj g8 (.cells #[.slice none 0 0, .slice none 0 0] 25) :: .obj g6 (.cells #[.func (.func f) #[] (([] : List Value)).toArray] 61) :: .obj g4 (.cells #[.slice so2 l2.length ca2, .slice si2 bs2.length ci2] 25) :: .obj g2 (.cells #[.slice so l.length ca, .slice si bs.length ci] 25) :: []) := (hM.both hM141 (noBld_cons (by simp) (noBld_cons (by simp) (noBld_cons (by simp) (noBld_cons (by simp) (noBld_cons (by simp) (noBld_cons (by simp) (noBld_cons (by simp) (noBld_quiet quietL_nil)))))))) (noBld_cons (by simp) (noBld_quiet quietL_nil)))
       refine ⟨_, rfl, (hM.sub (.cons _ (.cons _ (.cons _ (.cons _ (.cons _ (.cons _ (.cons_cons _ (.cons_cons _ (List.nil_sublist _)))))))))), ?_⟩
       intro a hA
       refine any_one (by kernel_rfl) (g_store (us := [.func (.func 52) #[] [.pointer (some ⟨g120, 0, none⟩)].toArray]) (L' := (.obj g140 (.cells #[.slice so2 l2.length ca2, .slice si2 bs2.length ci2] 25) :: .obj g138 (.cells #[.nilFunc] 55) :: .obj g120 (.cells #[.slice so l.length ca, .slice si bs.length ci] 25) :: .obj g118 (.cells #[.func (.func 52) #[] [.pointer (some ⟨g120, 0, none⟩)].toArray] 55) :: .obj g8 (.cells #[.slice none 0 0, .slice none 0 0] 25) :: .obj g6 (.cells #[.func (.func f) #[] (([] : List Value)).toArray] 61) :: .obj g4 (.cells #[.slice so2 l2.length ca2, .slice si2 bs2.length ci2] 25) :: .obj g2 (.cells #[.slice so l.length ca, .slice si bs.length ci] 25) :: [])) hA hM 6 rfl rfl rfl (m_store rfl rfl rfl (by kernel_rfl) hM 3 rfl rfl rfl) 3 rfl rfl rfl ?_)
       intro w143 hM
       refine ⟨(hM.sub (.cons _ (.cons _ (.cons _ (.cons _ (.cons _ (.cons _ (.cons_cons _ (.cons_cons _ (List.nil_sublist _)))))))))), ?_⟩
       refine any_one (by kernel_rfl) (g_store (us := [.func (.func 52) #[] [.pointer (some ⟨g140, 0, none⟩)].toArray]) (L' := (.obj g140 (.cells #[.slice so2 l2.length ca2, .slice si2 bs2.length ci2] 25) :: .obj g138 (.cells #[.func (.func 52) #[] [.pointer (some ⟨g140, 0, none⟩)].toArray] 55) :: .obj g120 (.cells #[.slice so l.length ca, .slice si bs.length ci] 25) :: .obj g118 (.cells #[.func (.func 52) #[] [.pointer (some ⟨g120, 0, none⟩)].toArray] 55) :: .obj g8 (.cells #[.slice none 0 0, .slice none 0 0] 25) :: .obj g6 (.cells #[.func (.func f) #[] (([] : List Value)).toArray] 61) :: .obj g4 (.cells #[.slice so2 l2.length ca2, .slice si2 bs2.length ci2] 25) :: .obj g2 (.cells #[.slice so l.length ca, .slice si bs.length ci] 25) :: [])) hA hM 7 rfl rfl rfl (m_store rfl rfl rfl (by kernel_rfl) hM 1 rfl rfl rfl) 1 rfl rfl rfl ?_)
       intro w144 hM
       refine ⟨(hM.sub (.cons _ (.cons _ (.cons _ (.cons _ (.cons _ (.cons _ (.cons_cons _ (.cons_cons _ (List.nil_sublist _)))))))))), ?_⟩
       refine any_end (by kernel_rfl) ?_
       refine hK19 _ _ ?_
       refine wp_seq_k (fun K145 hK145 => ?_)
       refine wp_region_lit ?_
       refine seq_do (v := .pointer (some ⟨g2, 0, none⟩)) hA rfl rfl rfl (does_field EnD_fld_25_0 rfl rfl) ?_
       intro a hA
       refine seq_do hA rfl rfl rfl (m_load1 hM EnD_is1_22 rfl 7 rfl rfl) ?_
       intro a hA
       refine seq_do (v := .func (.func 51) #[] [.pointer (some ⟨g6, 0, none⟩), .pointer (some ⟨g118, 0, none⟩), .pointer (some ⟨g138, 0, none⟩)].toArray) hA rfl rfl rfl (does_makeFunc rfl) ?_
       intro a hA
       refine seq_call hA rfl rfl rfl (enters_func rfl rfl (fun w => by kernel_rfl)) (where_any (hR.below hM.bel) hl hs (asks_comb (asks_memb (hR.below hM.bel) (hB.below hM.bel) hl (snd_le hsd).2.1 (hM.cell 2 rfl 0 rfl) (hM.cell 2 rfl 1 rfl)) (asks_memb (hR2.below hM.bel) (hB2.below hM.bel) hl2 (snd_le hsd2).2.1 (hM.cell 0 rfl 0 rfl) (hM.cell 0 rfl 1 rfl)) hK (hM.cell 5 rfl 0 rfl) (hM.cell 3 rfl 0 rfl) (hM.cell 1 rfl 0 rfl))) ?_
       rintro _ w151 ⟨so146, ca147, si148, ci149, rfl, hM150⟩
       replace hM : Mg w w151 (.row 9 1 (.slice so146 l.length ca147) l.length (strC l) :: .row 4 1 (.slice si148 l.length ci149) l.length (boolC (l.map (fun s => r (hasS l bs s) (hasS l2 bs2 s)))) :: .obj g140 (.cells #[.slice so2 l2.length ca2, .slice si2 bs2.length ci2] 25) :: .obj g138 (.cells #[.func (.func 52) #[] [.pointer (some ⟨g140, 0, none⟩)].toArray] 55) :: .obj g120 (.cells #[.slice so l.length ca, .slice si bs.length ci] 25) :: .obj g118 (.cells #[.func (.func 52) #[] [.pointer (some ⟨g120, 0, none⟩)].toArray] 55) :: .obj g8 (.cells #[.slice none 0 0, .slice none 0 0] 25) :: .obj g6 (.cells #[.func (.func f) #[] (([] : List Value)).toArray] 61) :: .obj g4 (.cells #[.slice so2 l2.length ca2, .slice si2 bs2.length ci2] 25) :: .obj g2 (.cells #[.slice so l.length ca, .slice si bs.length ci] 25) :: []) := (hM.both hM150 (noBld_cons (by simp) (noBld_cons (by simp) (noBld_cons (by simp) (noBld_cons (by simp) (noBld_cons (by simp) (noBld_cons (by simp) (noBld_cons (by simp) (noBld_cons (by simp) (noBld_quiet quietL_nil))))))))) (noBld_cons (by simp) (noBld_cons (by simp) (noBld_quiet quietL_nil))))
       refine ⟨_, rfl, ?_⟩
       intro a hA
       refine s_store (us := [.slice so146 l.length ca147, .slice si148 l.length ci149]) (L' := (.row 9 1 (.slice so146 l.length ca147) l.length (strC l) :: .row 4 1 (.slice si148 l.length ci149) l.length (boolC (l.map (fun s => r (hasS l bs s) (hasS l2 bs2 s)))) :: .obj g140 (.cells #[.slice so2 l2.length ca2, .slice si2 bs2.length ci2] 25) :: .obj g138 (.cells #[.func (.func 52) #[] [.pointer (some ⟨g140, 0, none⟩)].toArray] 55) :: .obj g120 (.cells #[.slice so l.length ca, .slice si bs.length ci] 25) :: .obj g118 (.cells #[.func (.func 52) #[] [.pointer (some ⟨g120, 0, none⟩)].toArray] 55) :: .obj g8 (.cells #[.slice so146 l.length ca147, .slice si148 l.length ci149] 25) :: .obj g6 (.cells #[.func (.func f) #[] (([] : List Value)).toArray] 61) :: .obj g4 (.cells #[.slice so2 l2.length ca2, .slice si2 bs2.length ci2] 25) :: .obj g2 (.cells #[.slice so l.length ca, .slice si bs.length ci] 25) :: [])) hA hM rfl rfl (m_store rfl rfl rfl (by kernel_rfl) hM 6 rfl rfl rfl) 6 rfl rfl rfl ?_
       intro w152 hM
       refine seq_do hA rfl rfl rfl (does_assign rfl) ?_
       intro a hA
       refine seq_end ?_
       refine hK145 _ _ ?_
       refine wp_ret ?_
       refine hret _ _ ?_
       refine ends (v := .tuple #[.agg #[.slice so146 l.length ca147, .slice si148 l.length ci149], .int .i64 0]) hA rfl (.cons (res_cellS hM EnD_isS_25 rfl 6 rfl (cs := [.slice so146 l.length ca147, .slice si148 l.length ci149]) rfl rfl) (.cons (res_tmp rfl) .nil)) rfl ?_
       replace hM : Mg w w152 (.row 9 1 (.slice so146 l.length ca147) l.length (strC l) :: .row 4 1 (.slice si148 l.length ci149) l.length (boolC (l.map (fun s => r (hasS l bs s) (hasS l2 bs2 s)))) :: []) := by
         have h9 := hM.sub (.cons_cons _ (.cons_cons _ (.cons _ (.cons _ (.cons _ (.cons _ (.cons _ (.cons _ (.cons _ (.cons _ (.refl _)))))))))))
         exact h9
       exact ⟨_, _, _, _, rfl, hM⟩
   · refine g_new (vs := [.nilFunc]) (t := 55) hA hM 5 rfl rfl rfl rfl (fun g => .pointer (some ⟨g, 0, none⟩)) (does_alloc (z := .nilFunc) (by kernel_rfl) rfl) (by decide) ?_
     intro g153 w154 hM
     refine ⟨(hM.sub (.cons _ (.cons _ (.cons _ (.cons _ (.cons_cons _ (.cons_cons _ (List.nil_sublist _)))))))), ?_⟩
     intro a hA
     refine any_one (by kernel_rfl) (op_call hA 1 rfl rfl rfl rfl (enters_func rfl rfl (fun w => by kernel_rfl)) (membership_any) ?_)
     rintro _ w157 ⟨g155, rfl, hM156⟩
     replace hM : Mg w w157 (.obj g155 (.cells #[.slice so l.length ca, .slice si bs.length ci] 25) :: .obj g153 (.cells #[.nilFunc] 55) :: .obj g118 (.cells #[.nilFunc] 55) :: .obj g8 (.cells #[.slice none 0 0, .slice none 0 0] 25) :: .obj g6 (.cells #[.func (.func f) #[] (([] : List Value)).toArray] 61) :: .obj g4 (.cells #[.slice so2 l2.length ca2, .slice si2 bs2.length ci2] 25) :: .obj g2 (.cells #[.slice so l.length ca, .slice si bs.length ci] 25) :: []) := (hM.both hM156 (noBld_cons (by simp) (noBld_cons (by simp) (noBld_cons (by simp) (noBld_cons (by simp) (noBld_cons (by simp) (noBld_cons (by simp) (noBld_quiet quietL_nil))))))) (noBld_cons (by simp) (noBld_quiet quietL_nil)))
     refine ⟨_, rfl, (hM.sub (.cons _ (.cons _ (.cons _ (.cons _ (.cons _ (.cons_cons _ (.cons_cons _ (List.nil_sublist _))))))))), ?_⟩
     intro a hA
     refine any_one (by kernel_rfl) (op_call hA 3 rfl rfl rfl rfl (enters_func rfl rfl (fun w => by kernel_rfl)) (membership_any) ?_)
     rintro _ w160 ⟨g158, rfl, hM159⟩
     replace hM : Mg w w160 (.obj g158 (.cells #[.slice so2 l2.length ca2, .slice si2 bs2.length ci2] 25) :: .obj g155 (.cells #[.slice so l.length ca, .slice si bs.length ci] 25) :: .obj g153 (.cells #[.nilFunc] 55) :: .obj g118 (.cells #[.nilFunc] 55) :: .obj g8 (.cells #[.slice none 0 0, .slice none 0 0] 25) :: .obj g6 (.cells #[.func (.func f) #[] (([] : List Value)).toArray] 61) :: .obj g4 (.cells #[.slice so2 l2.length ca2, .slice si2 bs2.length ci2] 25) :: .obj g2 (.cells #[.slice so l.length ca, .slice si bs.length ci] 25) :: []) := (hM.both hM159 (noBld_cons (by simp) (noBld_cons (by simp) (noBld_cons (by simp) (noBld_cons (by simp) (noBld_cons (by simp) (noBld_cons (by simp) (noBld_cons (by simp) (noBld_quiet quietL_nil)))))))) (noBld_cons (by simp) (noBld_quiet quietL_nil)))
     refine ⟨_, rfl, (hM.sub (.cons _ (.cons _ (.cons _ (.cons _ (.cons _ (.cons _ (.cons_cons _ (.cons_cons _ (List.nil_sublist _)))))))))), ?_⟩
     intro a hA
     refine any_one (by kernel_rfl) (g_store (us := [.func (.func 52) #[] [.pointer (some ⟨g155, 0, none⟩)].toArray]) (L' := (.obj g158 (.cells #[.slice so2 l2.length ca2, .slice si2 bs2.length ci2] 25) :: .obj g155 (.cells #[.slice so l.length ca, .slice si bs.length ci] 25) :: .obj g153 (.cells #[.nilFunc] 55) :: .obj g118 (.cells #[.func (.func 52) #[] [.pointer (some ⟨g155, 0, none⟩)].toArray] 55) :: .obj g8 (.cells #[.slice none 0 0, .slice none 0 0] 25) :: .obj g6 (.cells #[.func (.func f) #[] (([] : List Value)).toArray] 61) :: .obj g4 (.cells #[.slice so2 l2.length ca2, .slice si2 bs2.length ci2] 25) :: .obj g2 (.cells #[.slice so l.length ca, .slice si bs.length ci] 25) :: [])) hA hM 6 rfl rfl rfl (m_store rfl rfl rfl (by kernel_rfl) hM 3 rfl rfl rfl) 3 rfl rfl rfl ?_)
     intro w161 hM
     refine ⟨(hM.sub (.cons _ (.cons _ (.cons _ (.cons _ (.cons _ (.cons _ (.cons_cons _ (.cons_cons _ (List.nil_sublist _)))))))))), ?_⟩
     refine any_one (by kernel_rfl) (g_store (us := [.func (.func 52) #[] [.pointer (some ⟨g158, 0, none⟩)].toArray]) (L' := (.obj g158 (.cells #[.slice so2 l2.length ca2, .slice si2 bs2.length ci2] 25) :: .obj g155 (.cells #[.slice so l.length ca, .slice si bs.length ci] 25) :: .obj g153 (.cells #[.func (.func 52) #[] [.pointer (some ⟨g158, 0, none⟩)].toArray] 55) :: .obj g118 (.cells #[.func (.func 52) #[] [.pointer (some ⟨g155, 0, none⟩)].toArray] 55) :: .obj g8 (.cells #[.slice none 0 0, .slice none 0 0] 25) :: .obj g6 (.cells #[.func (.func f) #[] (([] : List Value)).toArray] 61) :: .obj g4 (.cells #[.slice so2 l2.length ca2, .slice si2 bs2.length ci2] 25) :: .obj g2 (.cells #[.slice so l.length ca, .slice si bs.length ci] 25) :: [])) hA hM 7 rfl rfl rfl (m_store rfl rfl rfl (by kernel_rfl) hM 2 rfl rfl rfl) 2 rfl rfl rfl ?_)
     intro w162 hM
     refine ⟨(hM.sub (.cons _ (.cons _ (.cons _ (.cons _ (.cons _ (.cons _ (.cons_cons _ (.cons_cons _ (List.nil_sublist _)))))))))), ?_⟩
     refine any_end (by kernel_rfl) ?_
     refine hK19 _ _ ?_
     refine wp_seq_k (fun K163 hK163 => ?_)
     refine wp_region_lit ?_
     refine seq_do (v := .pointer (some ⟨g2, 0, none⟩)) hA rfl rfl rfl (does_field EnD_fld_25_0 rfl rfl) ?_
     intro a hA
     refine seq_do hA rfl rfl rfl (m_load1 hM EnD_is1_22 rfl 7 rfl rfl) ?_
     intro a hA
     refine seq_do (v := .func (.func 51) #[] [.pointer (some ⟨g6, 0, none⟩), .pointer (some ⟨g118, 0, none⟩), .pointer (some ⟨g153, 0, none⟩)].toArray) hA rfl rfl rfl (does_makeFunc rfl) ?_
     intro a hA
     refine seq_call hA rfl rfl rfl (enters_func rfl rfl (fun w => by kernel_rfl)) (where_any (hR.below hM.bel) hl hs (asks_comb (asks_memb (hR.below hM.bel) (hB.below hM.bel) hl (snd_le hsd).2.1 (hM.cell 1 rfl 0 rfl) (hM.cell 1 rfl 1 rfl)) (asks_memb (hR2.below hM.bel) (hB2.below hM.bel) hl2 (snd_le hsd2).2.1 (hM.cell 0 rfl 0 rfl) (hM.cell 0 rfl 1 rfl)) hK (hM.cell 5 rfl 0 rfl) (hM.cell 3 rfl 0 rfl) (hM.cell 2 rfl 0 rfl))) ?_
     rintro _ w169 ⟨so164, ca165, si166, ci167, rfl, hM168⟩
     replace hM : Mg w w169 (.row 9 1 (.slice so164 l.length ca165) l.length (strC l) :: .row 4 1 (.slice si166 l.length ci167) l.length (boolC (l.map (fun s => r (hasS l bs s) (hasS l2 bs2 s)))) :: .obj g158 (.cells #[.slice so2 l2.length ca2, .slice si2 bs2.length ci2] 25) :: .obj g155 (.cells #[.slice so l.length ca, .slice si bs.length ci] 25) :: .obj g153 (.cells #[.func (.func 52) #[] [.pointer (some ⟨g158, 0, none⟩)].toArray] 55) :: .obj g118 (.cells #[.func (.func 52) #[] [.pointer (some ⟨g155, 0, none⟩)].toArray] 55) :: .obj g8 (.cells #[.slice none 0 0, .slice none 0 0] 25) :: .obj g6 (.cells #[.func (.func f) #[] (([] : List Value)).toArray] 61) :: .obj g4 (.cells #[.slice so2 l2.length ca2, .slice si2 bs2.length ci2] 25) :: .obj g2 (.cells #[.slice so l.length ca, .slice si bs.length ci] 25) :: []) := (hM.both hM168 (noBld_cons (by simp) (noBld_cons (by simp) (noBld_cons (by simp) (noBld_cons (by simp) (noBld_cons (by simp) (noBld_cons (by simp) (noBld_cons (by simp) (noBld_cons (by simp) (noBld_quiet quietL_nil))))))))) (noBld_cons (by simp) (noBld_cons (by simp) (noBld_quiet quietL_nil))))
     refine ⟨_, rfl, ?_⟩
     intro a hA
     refine s_store (us := [.slice so164 l.length ca165, .slice si166 l.length ci167]) (L' := (.row 9 1 (.slice so164 l.length ca165) l.length (strC l) :: .row 4 1 (.slice si166 l.length ci167) l.length (boolC (l.map (fun s => r (hasS l bs s) (hasS l2 bs2 s)))) :: .obj g158 (.cells #[.slice so2 l2.length ca2, .slice si2 bs2.length ci2] 25) :: .obj g155 (.cells #[.slice so l.length ca, .slice si bs.length ci] 25) :: .obj g153 (.cells #[.func (.func 52) #[] [.pointer (some ⟨g158, 0, none⟩)].toArray] 55) :: .obj g118 (.cells #[.func (.func 52) #[] [.pointer (some ⟨g155, 0, none⟩)].toArray] 55) :: .obj g8 (.cells #[.slice so164 l.length ca165, .slice si166 l.length ci167] 25) :: .obj g6 (.cells #[.func (.func f) #[] (([] : List Value)).toArray] 61) :: .obj g4 (.cells #[.slice so2 l2.length ca2, .slice si2 bs2.length ci2] 25) :: .obj g2 (.cells #[.slice so l.length ca, .slice si bs.length ci] 25) :: [])) hA hM rfl rfl (m_store rfl rfl rfl (by kernel_rfl) hM 6 rfl rfl rfl) 6 rfl rfl rfl ?_
     intro w170 hM
     refine seq_do hA rfl rfl rfl (does_assign rfl) ?_
     intro a hA
     refine seq_end ?_
     refine hK163 _ _ ?_
     refine wp_ret ?_
     refine hret _ _ ?_
     refine ends (v := .tuple #[.agg #[.slice so164 l.length ca165, .slice si166 l.length ci167], .int .i64 0]) hA rfl (.cons (res_cellS hM EnD_isS_25 rfl 6 rfl (cs := [.slice so164 l.length ca165, .slice si166 l.length ci167]) rfl rfl) (.cons (res_tmp rfl) .nil)) rfl ?_
     replace hM : Mg w w170 (.row 9 1 (.slice so164 l.length ca165) l.length (strC l) :: .row 4 1 (.slice si166 l.length ci167) l.length (boolC (l.map (fun s => r (hasS l bs s) (hasS l2 bs2 s)))) :: []) := by
       have h9 := hM.sub (.cons_cons _ (.cons_cons _ (.cons _ (.cons _ (.cons _ (.cons _ (.cons _ (.cons _ (.cons _ (.cons _ (.refl _)))))))))))
       exact h9
     exact ⟨_, _, _, _, rfl, hM⟩
 · refine g_new (vs := [.nilFunc]) (t := 55) hA hM 5 rfl rfl rfl rfl (fun g => .pointer (some ⟨g, 0, none⟩)) (does_alloc (z := .nilFunc) (by kernel_rfl) rfl) (by decide) ?_
   intro g171 w172 hM
   refine ⟨(hM.sub (.cons _ (.cons _ (.cons _ (.cons_cons _ (.cons_cons _ (List.nil_sublist _))))))), ?_⟩
   intro a hA
   refine any_many (rs := [1, 4]) (by kernel_rfl) (by simp) ⟨?_, ?_, trivial⟩
   · refine op_call hA 1 rfl rfl rfl rfl (enters_func rfl rfl (fun w => by kernel_rfl)) (membership_any) ?_
     rintro _ w175 ⟨g173, rfl, hM174⟩
     replace hM : Mg w w175 (.obj g173 (.cells #[.slice so l.length ca, .slice si bs.length ci] 25) :: .obj g171 (.cells #[.nilFunc] 55) :: .obj g8 (.cells #[.slice none 0 0, .slice none 0 0] 25) :: .obj g6 (.cells #[.func (.func f) #[] (([] : List Value)).toArray] 61) :: .obj g4 (.cells #[.slice so2 l2.length ca2, .slice si2 bs2.length ci2] 25) :: .obj g2 (.cells #[.slice so l.length ca, .slice si bs.length ci] 25) :: []) := (hM.both hM174 (noBld_cons (by simp) (noBld_cons (by simp) (noBld_cons (by simp) (noBld_cons (by simp) (noBld_cons (by simp) (noBld_quiet quietL_nil)))))) (noBld_cons (by simp) (noBld_quiet quietL_nil)))
     refine ⟨_, rfl, (hM.sub (.cons _ (.cons _ (.cons _ (.cons _ (.cons_cons _ (.cons_cons _ (List.nil_sublist _)))))))), ?_⟩
     intro a hA
     refine any_many (rs := [3, 4]) (by kernel_rfl) (by simp) ⟨?_, ?_, trivial⟩
     · refine op_call hA 3 rfl rfl rfl rfl (enters_func rfl rfl (fun w => by kernel_rfl)) (membership_any) ?_
       rintro _ w178 ⟨g176, rfl, hM177⟩
       replace hM : Mg w w178 (.obj g176 (.cells #[.slice so2 l2.length ca2, .slice si2 bs2.length ci2] 25) :: .obj g173 (.cells #[.slice so l.length ca, .slice si bs.length ci] 25) :: .obj g171 (.cells #[.nilFunc] 55) :: .obj g8 (.cells #[.slice none 0 0, .slice none 0 0] 25) :: .obj g6 (.cells #[.func (.func f) #[] (([] : List Value)).toArray] 61) :: .obj g4 (.cells #[.slice so2 l2.length ca2, .slice si2 bs2.length ci2] 25) :: .obj g2 (.cells #[.slice so l.length ca, .slice si bs.length ci] 25) :: []) := (hM.both hM177 (noBld_cons (by simp) (noBld_cons (by simp) (noBld_cons (by simp) (noBld_cons (by simp) (noBld_cons (by simp) (noBld_cons (by simp) (noBld_quiet quietL_nil))))))) (noBld_cons (by simp) (noBld_quiet quietL_nil)))
       refine ⟨_, rfl, (hM.sub (.cons _ (.cons _ (.cons _ (.cons _ (.cons _ (.cons_cons _ (.cons_cons _ (List.nil_sublist _))))))))), ?_⟩
       intro a hA
       refine any_one (by kernel_rfl) (g_new (vs := [.nilFunc]) (t := 55) hA hM 4 rfl rfl rfl rfl (fun g => .pointer (some ⟨g, 0, none⟩)) (does_alloc (z := .nilFunc) (by kernel_rfl) rfl) (by decide) ?_)
       intro g179 w180 hM
       refine ⟨(hM.sub (.cons _ (.cons _ (.cons _ (.cons _ (.cons _ (.cons _ (.cons_cons _ (.cons_cons _ (List.nil_sublist _)))))))))), ?_⟩
       intro a hA
       refine any_one (by kernel_rfl) (g_store (us := [.func (.func 52) #[] [.pointer (some ⟨g173, 0, none⟩)].toArray]) (L' := (.obj g179 (.cells #[.func (.func 52) #[] [.pointer (some ⟨g173, 0, none⟩)].toArray] 55) :: .obj g176 (.cells #[.slice so2 l2.length ca2, .slice si2 bs2.length ci2] 25) :: .obj g173 (.cells #[.slice so l.length ca, .slice si bs.length ci] 25) :: .obj g171 (.cells #[.nilFunc] 55) :: .obj g8 (.cells #[.slice none 0 0, .slice none 0 0] 25) :: .obj g6 (.cells #[.func (.func f) #[] (([] : List Value)).toArray] 61) :: .obj g4 (.cells #[.slice so2 l2.length ca2, .slice si2 bs2.length ci2] 25) :: .obj g2 (.cells #[.slice so l.length ca, .slice si bs.length ci] 25) :: [])) hA hM 6 rfl rfl rfl (m_store rfl rfl rfl (by kernel_rfl) hM 0 rfl rfl rfl) 0 rfl rfl rfl ?_)
       intro w181 hM
       refine ⟨(hM.sub (.cons _ (.cons _ (.cons _ (.cons _ (.cons _ (.cons _ (.cons_cons _ (.cons_cons _ (List.nil_sublist _)))))))))), ?_⟩
       refine any_one (by kernel_rfl) (g_store (us := [.func (.func 52) #[] [.pointer (some ⟨g176, 0, none⟩)].toArray]) (L' := (.obj g179 (.cells #[.func (.func 52) #[] [.pointer (some ⟨g173, 0, none⟩)].toArray] 55) :: .obj g176 (.cells #[.slice so2 l2.length ca2, .slice si2 bs2.length ci2] 25) :: .obj g173 (.cells #[.slice so l.length ca, .slice si bs.length ci] 25) :: .obj g171 (.cells #[.func (.func 52) #[] [.pointer (some ⟨g176, 0, none⟩)].toArray] 55) :: .obj g8 (.cells #[.slice none 0 0, .slice none 0 0] 25) :: .obj g6 (.cells #[.func (.func f) #[] (([] : List Value)).toArray] 61) :: .obj g4 (.cells #[.slice so2 l2.length ca2, .slice si2 bs2.length ci2] 25) :: .obj g2 (.cells #[.slice so l.length ca, .slice si bs.length ci] 25) :: [])) hA hM 7 rfl rfl rfl (m_store rfl rfl rfl (by kernel_rfl) hM 3 rfl rfl rfl) 3 rfl rfl rfl ?_)
       intro w182 hM
       refine ⟨(hM.sub (.cons _ (.cons _ (.cons _ (.cons _ (.cons _ (.cons _ (.cons_cons _ (.cons_cons _ (List.nil_sublist _)))))))))), ?_⟩
       refine any_end (by kernel_rfl) ?_
       refine hK19 _ _ ?_
       refine wp_seq_k (fun K183 hK183 => ?_)
       refine wp_region_lit ?_
       refine seq_do (v := .pointer (some ⟨g2, 0, none⟩)) hA rfl rfl rfl (does_field EnD_fld_25_0 rfl rfl) ?_
       intro a hA
       refine seq_do hA rfl rfl rfl (m_load1 hM EnD_is1_22 rfl 7 rfl rfl) ?_
       intro a hA
       refine seq_do (v := .func (.func 51) #[] [.pointer (some ⟨g6, 0, none⟩), .pointer (some ⟨g179, 0, none⟩), .pointer (some ⟨g171, 0, none⟩)].toArray) hA rfl rfl rfl (does_makeFunc rfl) ?_
       intro a hA
       refine seq_call hA rfl rfl rfl (enters_func rfl rfl (fun w => by kernel_rfl)) (where_any (hR.below hM.bel) hl hs (asks_comb (asks_memb (hR.below hM.bel) (hB.below hM.bel) hl (snd_le hsd).2.1 (hM.cell 2 rfl 0 rfl) (hM.cell 2 rfl 1 rfl)) (asks_memb (hR2.below hM.bel) (hB2.below hM.bel) hl2 (snd_le hsd2).2.1 (hM.cell 1 rfl 0 rfl) (hM.cell 1 rfl 1 rfl)) hK (hM.cell 5 rfl 0 rfl) (hM.cell 0 rfl 0 rfl) (hM.cell 3 rfl 0 rfl))) ?_
       rintro _ w189 ⟨so184, ca185, si186, ci187, rfl, hM188⟩
       replace hM : Mg w w189 (.row 9 1 (.slice so184 l.length ca185) l.length (strC l) :: .row 4 1 (.slice si186 l.length ci187) l.length (boolC (l.map (fun s => r (hasS l bs s) (hasS l2 bs2 s)))) :: .obj g179 (.cells #[.func (.func 52) #[] [.pointer (some ⟨g173, 0, none⟩)].toArray] 55) :: .obj g176 (.cells #[.slice so2 l2.length ca2, .slice si2 bs2.length ci2] 25) :: .obj g173 (.cells #[.slice so l.length ca, .slice si bs.length ci] 25) :: .obj g171 (.cells #[.func (.func 52) #[] [.pointer (some ⟨g176, 0, none⟩)].toArray] 55) :: .obj g8 (.cells #[.slice none 0 0, .slice none 0 0] 25) :: .obj g6 (.cells #[.func (.func f) #[] (([] : List Value)).toArray] 61) :: .obj g4 (.cells #[.slice so2 l2.length ca2, .slice si2 bs2.length ci2] 25) :: .obj g2 (.cells #[.slice so l.length ca, .slice si bs.length ci] 25) :: []) := (hM.both hM188 (noBld_cons (by simp) (noBld_cons (by simp) (noBld_cons (by simp) (noBld_cons (by simp) (noBld_cons (by simp) (noBld_cons (by simp) (noBld_cons (by simp) (noBld_cons (by simp) (noBld_quiet quietL_nil))))))))) (noBld_cons (by simp) (noBld_cons (by simp) (noBld_quiet quietL_nil))))
       refine ⟨_, rfl, ?_⟩
       intro a hA
       refine s_store (us := [.slice so184 l.length ca185, .slice si186 l.length ci187]) (L' := (.row 9 1 (.slice so184 l.length ca185) l.length (strC l) :: .row 4 1 (.slice si186 l.length ci187) l.length (boolC (l.map (fun s => r (hasS l bs s) (hasS l2 bs2 s)))) :: .obj g179 (.cells #[.func (.func 52) #[] [.pointer (some ⟨g173, 0, none⟩)].toArray] 55) :: .obj g176 (.cells #[.slice so2 l2.length ca2, .slice si2 bs2.length ci2] 25) :: .obj g173 (.cells #[.slice so l.length ca, .slice si bs.length ci] 25) :: .obj g171 (.cells #[.func (.func 52) #[] [.pointer (some ⟨g176, 0, none⟩)].toArray] 55) :: .obj g8 (.cells #[.slice so184 l.length ca185, .slice si186 l.length ci187] 25) :: .obj g6 (.cells #[.func (.func f) #[] (([] : List Value)).toArray] 61) :: .obj g4 (.cells #[.slice so2 l2.length ca2, .slice si2 bs2.length ci2] 25) :: .obj g2 (.cells #[.slice so l.length ca, .slice si bs.length ci] 25) :: [])) hA hM rfl rfl (m_store rfl rfl rfl (by kernel_rfl) hM 6 rfl rfl rfl) 6 rfl rfl rfl ?_
       intro w190 hM
       refine seq_do hA rfl rfl rfl (does_assign rfl) ?_
       intro a hA
       refine seq_end ?_
       refine hK183 _ _ ?_
       refine wp_ret ?_
       refine hret _ _ ?_
       refine ends (v := .tuple #[.agg #[.slice so184 l.length ca185, .slice si186 l.length ci187], .int .i64 0]) hA rfl (.cons (res_cellS hM EnD_isS_25 rfl 6 rfl (cs := [.slice so184 l.length ca185, .slice si186 l.length ci187]) rfl rfl) (.cons (res_tmp rfl) .nil)) rfl ?_
       replace hM : Mg w w190 (.row 9 1 (.slice so184 l.length ca185) l.length (strC l) :: .row 4 1 (.slice si186 l.length ci187) l.length (boolC (l.map (fun s => r (hasS l bs s) (hasS l2 bs2 s)))) :: []) := by
         have h9 := hM.sub (.cons_cons _ (.cons_cons _ (.cons _ (.cons _ (.cons _ (.cons _ (.cons _ (.cons _ (.cons _ (.cons _ (.refl _)))))))))))
         exact h9
       exact ⟨_, _, _, _, rfl, hM⟩
     · refine g_new (vs := [.nilFunc]) (t := 55) hA hM 4 rfl rfl rfl rfl (fun g => .pointer (some ⟨g, 0, none⟩)) (does_alloc (z := .nilFunc) (by kernel_rfl) rfl) (by decide) ?_
       intro g191 w192 hM
       refine ⟨(hM.sub (.cons _ (.cons _ (.cons _ (.cons _ (.cons _ (.cons_cons _ (.cons_cons _ (List.nil_sublist _))))))))), ?_⟩
       intro a hA
       refine any_one (by kernel_rfl) (op_call hA 3 rfl rfl rfl rfl (enters_func rfl rfl (fun w => by kernel_rfl)) (membership_any) ?_)
       rintro _ w195 ⟨g193, rfl, hM194⟩
       replace hM : Mg w w195 (.obj g193 (.cells #[.slice so2 l2.length ca2, .slice si2 bs2.length ci2] 25) :: .obj g191 (.cells #[.nilFunc] 55) :: .obj g173 (.cells #[.slice so l.length ca, .slice si bs.length ci] 25) :: .obj g171 (.cells #[.nilFunc] 55) :: .obj g8 (.cells #[.slice none 0 0, .slice none 0 0] 25) :: .obj g6 (.cells #[.func (.func f) #[] (([] : List Value)).toArray] 61) :: .obj g4 (.cells #[.slice so2 l2.length ca2, .slice si2 bs2.length ci2] 25) :: .obj g2 (.cells #[.slice so l.length ca, .slice si bs.length ci] 25) :: []) := (hM.both hM194 (noBld_cons (by simp) (noBld_cons (by simp) (noBld_cons (by simp) (noBld_cons (by simp) (noBld_cons (by simp) (noBld_cons (by simp) (noBld_cons (by simp) (noBld_quiet quietL_nil)))))))) (noBld_cons (by simp) (noBld_quiet quietL_nil)))
       refine ⟨_, rfl, (hM.sub (.cons _ (.cons _ (.cons _ (.cons _ (.cons _ (.cons _ (.cons_cons _ (.cons_cons _ (List.nil_sublist _)))))))))), ?_⟩
       intro a hA
       refine any_one (by kernel_rfl) (g_store (us := [.func (.func 52) #[] [.pointer (some ⟨g173, 0, none⟩)].toArray]) (L' := (.obj g193 (.cells #[.slice so2 l2.length ca2, .slice si2 bs2.length ci2] 25) :: .obj g191 (.cells #[.func (.func 52) #[] [.pointer (some ⟨g173, 0, none⟩)].toArray] 55) :: .obj g173 (.cells #[.slice so l.length ca, .slice si bs.length ci] 25) :: .obj g171 (.cells #[.nilFunc] 55) :: .obj g8 (.cells #[.slice none 0 0, .slice none 0 0] 25) :: .obj g6 (.cells #[.func (.func f) #[] (([] : List Value)).toArray] 61) :: .obj g4 (.cells #[.slice so2 l2.length ca2, .slice si2 bs2.length ci2] 25) :: .obj g2 (.cells #[.slice so l.length ca, .slice si bs.length ci] 25) :: [])) hA hM 6 rfl rfl rfl (m_store rfl rfl rfl (by kernel_rfl) hM 1 rfl rfl rfl) 1 rfl rfl rfl ?_)
       intro w196 hM
       refine ⟨(hM.sub (.cons _ (.cons _ (.cons _ (.cons _ (.cons _ (.cons _ (.cons_cons _ (.cons_cons _ (List.nil_sublist _)))))))))), ?_⟩
       refine any_one (by kernel_rfl) (g_store (us := [.func (.func 52) #[] [.pointer (some ⟨g193, 0, none⟩)].toArray]) (L' := (.obj g193 (.cells #[.slice so2 l2.length ca2, .slice si2 bs2.length ci2] 25) :: .obj g191 (.cells #[.func (.func 52) #[] [.pointer (some ⟨g173, 0, none⟩)].toArray] 55) :: .obj g173 (.cells #[.slice so l.length ca, .slice si bs.length ci] 25) :: .obj g171 (.cells #[.func (.func 52) #[] [.pointer (some ⟨g193, 0, none⟩)].toArray] 55) :: .obj g8 (.cells #[.slice none 0 0, .slice none 0 0] 25) :: .obj g6 (.cells #[.func (.func f) #[] (([] : List Value)).toArray] 61) :: .obj g4 (.cells #[.slice so2 l2.length ca2, .slice si2 bs2.length ci2] 25) :: .obj g2 (.cells #[.slice so l.length ca, .slice si bs.length ci] 25) :: [])) hA hM 7 rfl rfl rfl (m_store rfl rfl rfl (by kernel_rfl) hM 3 rfl rfl rfl) 3 rfl rfl rfl ?_)
       intro w197 hM
       refine ⟨(hM.sub (.cons _ (.cons _ (.cons _ (.cons _ (.cons _ (.cons _ (.cons_cons _ (.cons_cons _ (List.nil_sublist _)))))))))), ?_⟩
       refine any_end (by kernel_rfl) ?_
       refine hK19 _ _ ?_
       refine wp_seq_k (fun K198 hK198 => ?_)
       refine wp_region_lit ?_
       refine seq_do (v := .pointer (some ⟨g2, 0, none⟩)) hA rfl rfl rfl (does_field EnD_fld_25_0 rfl rfl) ?_
       intro a hA
       refine seq_do hA rfl rfl rfl (m_load1 hM EnD_is1_22 rfl 7 rfl rfl) ?_
       intro a hA
       refine seq_do (v := .func (.func 51) #[] [.pointer (some ⟨g6, 0, none⟩), .pointer (some ⟨g191, 0, none⟩), .pointer (some ⟨g171, 0, none⟩)].toArray) hA rfl rfl rfl (does_makeFunc rfl) ?_
       intro a hA
       refine seq_call hA rfl rfl rfl (enters_func rfl rfl (fun w => by kernel_rfl)) (where_any (hR.below hM.bel) hl hs (asks_comb (asks_memb (hR.below hM.bel) (hB.below hM.bel) hl (snd_le hsd).2.1 (hM.cell 2 rfl 0 rfl) (hM.cell 2 rfl 1 rfl)) (asks_memb (hR2.below hM.bel) (hB2.below hM.bel) hl2 (snd_le hsd2).2.1 (hM.cell 0 rfl 0 rfl) (hM.cell 0 rfl 1 rfl)) hK (hM.cell 5 rfl 0 rfl) (hM.cell 1 rfl 0 rfl) (hM.cell 3 rfl 0 rfl))) ?_
       rintro _ w204 ⟨so199, ca200, si201, ci202, rfl, hM203⟩
       replace hM : Mg w w204 (.row 9 1 (.slice so199 l.length ca200) l.length (strC l) :: .row 4 1 (.slice si201 l.length ci202) l.length (boolC (l.map (fun s => r (hasS l bs s) (hasS l2 bs2 s)))) :: .obj g193 (.cells #[.slice so2 l2.length ca2, .slice si2 bs2.length ci2] 25) :: .obj g191 (.cells #[.func (.func 52) #[] [.pointer (some ⟨g173, 0, none⟩)].toArray] 55) :: .obj g173 (.cells #[.slice so l.length ca, .slice si bs.length ci] 25) :: .obj g171 (.cells #[.func (.func 52) #[] [.pointer (some ⟨g193, 0, none⟩)].toArray] 55) :: .obj g8 (.cells #[.slice none 0 0, .slice none 0 0] 25) :: .obj g6 (.cells #[.func (.func f) #[] (([] : List Value)).toArray] 61) :: .obj g4 (.cells #[.slice so2 l2.length ca2, .slice si2 bs2.length ci2] 25) :: .obj g2 (.cells #[.slice so l.length ca, .slice si bs.length ci] 25) :: []) := (hM.both hM203 (noBld_cons (by simp) (noBld_cons (by simp) (noBld_cons (by simp) (noBld_cons (by simp) (noBld_cons (by simp) (noBld_cons (by simp) (noBld_cons (by simp) (noBld_cons (by simp) (noBld_quiet quietL_nil))))))))) (noBld_cons (by simp) (noBld_cons (by simp) (noBld_quiet quietL_nil))))
       refine ⟨_, rfl, ?_⟩
       intro a hA
       refine s_store (us := [.slice so199 l.length ca200, .slice si201 l.length ci202]) (L' := (.row 9 1 (.slice so199 l.length ca200) l.length (strC l) :: .row 4 1 (.slice si201 l.length ci202) l.length (boolC (l.map (fun s => r (hasS l bs s) (hasS l2 bs2 s)))) :: .obj g193 (.cells #[.slice so2 l2.length ca2, .slice si2 bs2.length ci2] 25) :: .obj g191 (.cells #[.func (.func 52) #[] [.pointer (some ⟨g173, 0, none⟩)].toArray] 55) :: .obj g173 (.cells #[.slice so l.length ca, .slice si bs.length ci] 25) :: .obj g171 (.cells #[.func (.func 52) #[] [.pointer (some ⟨g193, 0, none⟩)].toArray] 55) :: .obj g8 (.cells #[.slice so199 l.length ca200, .slice si201 l.length ci202] 25) :: .obj g6 (.cells #[.func (.func f) #[] (([] : List Value)).toArray] 61) :: .obj g4 (.cells #[.slice so2 l2.length ca2, .slice si2 bs2.length ci2] 25) :: .obj g2 (.cells #[.slice so l.length ca, .slice si bs.length ci] 25) :: [])) hA hM rfl rfl (m_store rfl rfl rfl (by kernel_rfl) hM 6 rfl rfl rfl) 6 rfl rfl rfl ?_
       intro w205 hM
       refine seq_do hA rfl rfl rfl (does_assign rfl) ?_
       intro a hA
       refine seq_end ?_
       refine hK198 _ _ ?_
       refine wp_ret ?_
       refine hret _ _ ?_
       refine ends (v := .tuple #[.agg #[.slice so199 l.length ca200, .slice si201 l.length ci202], .int .i64 0]) hA rfl (.cons (res_cellS hM EnD_isS_25 rfl 6 rfl (cs := [.slice so199 l.length ca200, .slice si201 l.length ci202]) rfl rfl) (.cons (res_tmp rfl) .nil)) rfl ?_
       replace hM : Mg w w205 (.row 9 1 (.slice so199 l.length ca200) l.length (strC l) :: .row 4 1 (.slice si201 l.length ci202) l.length (boolC (l.map (fun s => r (hasS l bs s) (hasS l2 bs2 s)))) :: []) := by
         have h9 := hM.sub (.cons_cons _ (.cons_cons _ (.cons _ (.cons _ (.cons _ (.cons _ (.cons _ (.cons _ (.cons _ (.cons _ (.refl _)))))))))))
         exact h9
       exact ⟨_, _, _, _, rfl, hM⟩
   · refine g_new (vs := [.nilFunc]) (t := 55) hA hM 4 rfl rfl rfl rfl (fun g => .pointer (some ⟨g, 0, none⟩)) (does_alloc (z := .nilFunc) (by kernel_rfl) rfl) (by decide) ?_
     intro g206 w207 hM
     refine ⟨(hM.sub (.cons _ (.cons _ (.cons _ (.cons _ (.cons_cons _ (.cons_cons _ (List.nil_sublist _)))))))), ?_⟩
     intro a hA
     refine any_one (by kernel_rfl) (op_call hA 1 rfl rfl rfl rfl (enters_func rfl rfl (fun w => by kernel_rfl)) (membership_any) ?_)
     rintro _ w210 ⟨g208, rfl, hM209⟩
     replace hM : Mg w w210 (.obj g208 (.cells #[.slice so l.length ca, .slice si bs.length ci] 25) :: .obj g206 (.cells #[.nilFunc] 55) :: .obj g171 (.cells #[.nilFunc] 55) :: .obj g8 (.cells #[.slice none 0 0, .slice none 0 0] 25) :: .obj g6 (.cells #[.func (.func f) #[] (([] : List Value)).toArray] 61) :: .obj g4 (.cells #[.slice so2 l2.length ca2, .slice si2 bs2.length ci2] 25) :: .obj g2 (.cells #[.slice so l.length ca, .slice si bs.length ci] 25) :: []) := (hM.both hM209 (noBld_cons (by simp) (noBld_cons (by simp) (noBld_cons (by simp) (noBld_cons (by simp) (noBld_cons (by simp) (noBld_cons (by simp) (noBld_quiet quietL_nil))))))) (noBld_cons (by simp) (noBld_quiet quietL_nil)))
     refine ⟨_, rfl, (hM.sub (.cons _ (.cons _ (.cons _ (.cons _ (.cons _ (.cons_cons _ (.cons_cons _ (List.nil_sublist _))))))))), ?_⟩
     intro a hA
     refine any_one (by kernel_rfl) (op_call hA 3 rfl rfl rfl rfl (enters_func rfl rfl (fun w => by kernel_rfl)) (membership_any) ?_)
     rintro _ w213 ⟨g211, rfl, hM212⟩
     replace hM : Mg w w213 (.obj g211 (.cells #[.slice so2 l2.length ca2, .slice si2 bs2.length ci2] 25) :: .obj g208 (.cells #[.slice so l.length ca, .slice si bs.length ci] 25) :: .obj g206 (.cells #[.nilFunc] 55) :: .obj g171 (.cells #[.nilFunc] 55) :: .obj g8 (.cells #[.slice none 0 0, .slice none 0 0] 25) :: .obj g6 (.cells #[.func (.func f) #[] (([] : List Value)).toArray] 61) :: .obj g4 (.cells #[.slice so2 l2.length ca2, .slice si2 bs2.length ci2] 25) :: .obj g2 (.cells #[.slice so l.length ca, .slice si bs.length ci] 25) :: []) := (hM.both hM212 (noBld_cons (by simp) (noBld_cons (by simp) (noBld_cons (by simp) (noBld_cons (by simp) (noBld_cons (by simp) (noBld_cons (by simp) (noBld_cons (by simp) (noBld_quiet quietL_nil)))))))) (noBld_cons (by simp) (noBld_quiet quietL_nil)))
     refine ⟨_, rfl, (hM.sub (.cons _ (.cons _ (.cons _ (.cons _ (.cons _ (.cons _ (.cons_cons _ (.cons_cons _ (List.nil_sublist _)))))))))), ?_⟩
     intro a hA
     refine any_one (by kernel_rfl) (g_store (us := [.func (.func 52) #[] [.pointer (some ⟨g208, 0, none⟩)].toArray]) (L' := (.obj g211 (.cells #[.slice so2 l2.length ca2, .slice si2 bs2.length ci2] 25) :: .obj g208 (.cells #[.slice so l.length ca, .slice si bs.length ci] 25) :: .obj g206 (.cells #[.func (.func 52) #[] [.pointer (some ⟨g208, 0, none⟩)].toArray] 55) :: .obj g171 (.cells #[.nilFunc] 55) :: .obj g8 (.cells #[.slice none 0 0, .slice none 0 0] 25) :: .obj g6 (.cells #[.func (.func f) #[] (([] : List Value)).toArray] 61) :: .obj g4 (.cells #[.slice so2 l2.length ca2, .slice si2 bs2.length ci2] 25) :: .obj g2 (.cells #[.slice so l.length ca, .slice si bs.length ci] 25) :: [])) hA hM 6 rfl rfl rfl (m_store rfl rfl rfl (by kernel_rfl) hM 2 rfl rfl rfl) 2 rfl rfl rfl ?_)
     intro w214 hM
     refine ⟨(hM.sub (.cons _ (.cons _ (.cons _ (.cons _ (.cons _ (.cons _ (.cons_cons _ (.cons_cons _ (List.nil_sublist _)))))))))), ?_⟩
     refine any_one (by kernel_rfl) (g_store (us := [.func (.func 52) #[] [.pointer (some ⟨g211, 0, none⟩)].toArray]) (L' := (.obj g211 (.cells #[.slice so2 l2.length ca2, .slice si2 bs2.length ci2] 25) :: .obj g208 (.cells #[.slice so l.length ca, .slice si bs.length ci] 25) :: .obj g206 (.cells #[.func (.func 52) #[] [.pointer (some ⟨g208, 0, none⟩)].toArray] 55) :: .obj g171 (.cells #[.func (.func 52) #[] [.pointer (some ⟨g211, 0, none⟩)].toArray] 55) :: .obj g8 (.cells #[.slice none 0 0, .slice none 0 0] 25) :: .obj g6 (.cells #[.func (.func f) #[] (([] : List Value)).toArray] 61) :: .obj g4 (.cells #[.slice so2 l2.length ca2, .slice si2 bs2.length ci2] 25) :: .obj g2 (.cells #[.slice so l.length ca, .slice si bs.length ci] 25) :: [])) hA hM 7 rfl rfl rfl (m_store rfl rfl rfl (by kernel_rfl) hM 3 rfl rfl rfl) 3 rfl rfl rfl ?_)
     intro w215 hM
     refine ⟨(hM.sub (.cons _ (.cons _ (.cons _ (.cons _ (.cons _ (.cons _ (.cons_cons _ (.cons_cons _ (List.nil_sublist _)))))))))), ?_⟩
     refine any_end (by kernel_rfl) ?_
     refine hK19 _ _ ?_
     refine wp_seq_k (fun K216 hK216 => ?_)
     refine wp_region_lit ?_
     refine seq_do (v := .pointer (some ⟨g2, 0, none⟩)) hA rfl rfl rfl (does_field EnD_fld_25_0 rfl rfl) ?_
     intro a hA
     refine seq_do hA rfl rfl rfl (m_load1 hM EnD_is1_22 rfl 7 rfl rfl) ?_
     intro a hA
     refine seq_do (v := .func (.func 51) #[] [.pointer (some ⟨g6, 0, none⟩), .pointer (some ⟨g206, 0, none⟩), .pointer (some ⟨g171, 0, none⟩)].toArray) hA rfl rfl rfl (does_makeFunc rfl) ?_
     intro a hA
     refine seq_call hA rfl rfl rfl (enters_func rfl rfl (fun w => by kernel_rfl)) (where_any (hR.below hM.bel) hl hs (asks_comb (asks_memb (hR.below hM.bel) (hB.below hM.bel) hl (snd_le hsd).2.1 (hM.cell 1 rfl 0 rfl) (hM.cell 1 rfl 1 rfl)) (asks_memb (hR2.below hM.bel) (hB2.below hM.bel) hl2 (snd_le hsd2).2.1 (hM.cell 0 rfl 0 rfl) (hM.cell 0 rfl 1 rfl)) hK (hM.cell 5 rfl 0 rfl) (hM.cell 2 rfl 0 rfl) (hM.cell 3 rfl 0 rfl))) ?_
     rintro _ w222 ⟨so217, ca218, si219, ci220, rfl, hM221⟩
     replace hM : Mg w w222 (.row 9 1 (.slice so217 l.length ca218) l.length (strC l) :: .row 4 1 (.slice si219 l.length ci220) l.length (boolC (l.map (fun s => r (hasS l bs s) (hasS l2 bs2 s)))) :: .obj g211 (.cells #[.slice so2 l2.length ca2, .slice si2 bs2.length ci2] 25) :: .obj g208 (.cells #[.slice so l.length ca, .slice si bs.length ci] 25) :: .obj g206 (.cells #[.func (.func 52) #[] [.pointer (some ⟨g208, 0, none⟩)].toArray] 55) :: .obj g171 (.cells #[.func (.func 52) #[] [.pointer (some ⟨g211, 0, none⟩)].toArray] 55) :: .obj g8 (.cells #[.slice none 0 0, .slice none 0 0] 25) :: .obj g6 (.cells #[.func (.func f) #[] (([] : List Value)).toArray] 61) :: .obj g4 (.cells #[.slice so2 l2.length ca2, .slice si2 bs2.length ci2] 25) :: .obj g2 (.cells #[.slice so l.length ca, .slice si bs.length ci] 25) :: []) := (hM.both hM221 (noBld_cons (by simp) (noBld_cons (by simp) (noBld_cons (by simp) (noBld_cons (by simp) (noBld_cons (by simp) (noBld_cons (by simp) (noBld_cons (by simp) (noBld_cons (by simp) (noBld_quiet quietL_nil))))))))) (noBld_cons (by simp) (noBld_cons (by simp) (noBld_quiet quietL_nil))))
     refine ⟨_, rfl, ?_⟩
     intro a hA
     refine s_store (us := [.slice so217 l.length ca218, .slice si219 l.length ci220]) (L' := (.row 9 1 (.slice so217 l.length ca218) l.length (strC l) :: .row 4 1 (.slice si219 l.length ci220) l.length (boolC (l.map (fun s => r (hasS l bs s) (hasS l2 bs2 s)))) :: .obj g211 (.cells #[.slice so2 l2.length ca2, .slice si2 bs2.length ci2] 25) :: .obj g208 (.cells #[.slice so l.length ca, .slice si bs.length ci] 25) :: .obj g206 (.cells #[.func (.func 52) #[] [.pointer (some ⟨g208, 0, none⟩)].toArray] 55) :: .obj g171 (.cells #[.func (.func 52) #[] [.pointer (some ⟨g211, 0, none⟩)].toArray] 55) :: .obj g8 (.cells #[.slice so217 l.length ca218, .slice si219 l.length ci220] 25) :: .obj g6 (.cells #[.func (.func f) #[] (([] : List Value)).toArray] 61) :: .obj g4 (.cells #[.slice so2 l2.length ca2, .slice si2 bs2.length ci2] 25) :: .obj g2 (.cells #[.slice so l.length ca, .slice si bs.length ci] 25) :: [])) hA hM rfl rfl (m_store rfl rfl rfl (by kernel_rfl) hM 6 rfl rfl rfl) 6 rfl rfl rfl ?_
     intro w223 hM
     refine seq_do hA rfl rfl rfl (does_assign rfl) ?_
     intro a hA
     refine seq_end ?_
     refine hK216 _ _ ?_
     refine wp_ret ?_
     refine hret _ _ ?_
     refine ends (v := .tuple #[.agg #[.slice so217 l.length ca218, .slice si219 l.length ci220], .int .i64 0]) hA rfl (.cons (res_cellS hM EnD_isS_25 rfl 6 rfl (cs := [.slice so217 l.length ca218, .slice si219 l.length ci220]) rfl rfl) (.cons (res_tmp rfl) .nil)) rfl ?_
     replace hM : Mg w w223 (.row 9 1 (.slice so217 l.length ca218) l.length (strC l) :: .row 4 1 (.slice si219 l.length ci220) l.length (boolC (l.map (fun s => r (hasS l bs s) (hasS l2 bs2 s)))) :: []) := by
       have h9 := hM.sub (.cons_cons _ (.cons_cons _ (.cons _ (.cons _ (.cons _ (.cons _ (.cons _ (.cons _ (.cons _ (.cons _ (.refl _)))))))))))
       exact h9
     exact ⟨_, _, _, _, rfl, hM⟩
theorem union_form1 {w : World} {so si : Option Addr} {ca ci : Nat} {l : List ByteArray} {bs : List Bool} (hR : Rs w so l) (hB : Rl w si bs) {so2 si2 : Option Addr} {ca2 ci2 : Nat} {l2 : List ByteArray} {bs2 : List Bool} (hR2 : Rs w so2 l2) (hB2 : Rl w si2 bs2) (hsd : sndS l bs = false) : Calls Try.prog 18 #[.agg #[.slice so l.length ca, .slice si bs.length ci], .agg #[.slice so2 l2.length ca2, .slice si2 bs2.length ci2]] w fun e w' => e = .returned (.tuple #[.agg #[.slice none 0 0, .slice none 0 0], .int .i64 2]) ∧ Below w.heap.size w w' := by
 have hM : Mg w w ([]) := Mg.start w
 refine walk_of (l := [(0, .agg #[.slice so l.length ca, .slice si bs.length ci]), (1, .agg #[.slice so2 l2.length ca2, .slice si2 bs2.length ci2])]) Try.func18 rfl Try.ntmps18 rfl rfl ?_
 intro Q hret hnorm hP a hA
 refine wp_seq_k (fun K1 hK1 => ?_)
 refine wp_region_lit ?_
 refine s_new (vs := [.slice so l.length ca, .slice si bs.length ci]) (t := 25) hA hM rfl rfl rfl (fun g => .pointer (some ⟨g, 0, none⟩)) (does_box rfl rfl) (by decide) ?_
 intro g2 w3 hM a hA
 refine s_new (vs := [.slice so2 l2.length ca2, .slice si2 bs2.length ci2]) (t := 25) hA hM rfl rfl rfl (fun g => .pointer (some ⟨g, 0, none⟩)) (does_box rfl rfl) (by decide) ?_
 intro g4 w5 hM a hA
 refine s_new (vs := [.slice none 0 0, .slice none 0 0]) (t := 25) hA hM rfl rfl rfl (fun g => .pointer (some ⟨g, 0, none⟩)) (does_alloc (z := .agg #[.slice none 0 0, .slice none 0 0]) (by kernel_rfl) rfl) (by decide) ?_
 intro g6 w7 hM a hA
 refine seq_do hA rfl rfl rfl (does_assign rfl) ?_
 intro a hA
 refine seq_end ?_
 refine hK1 _ _ ?_
 refine wp_seq_k (fun K8 hK8 => ?_)
 refine wp_region_lit ?_
 refine seq_do hA rfl rfl rfl (m_loadS hM EnD_isS_25 rfl 2 rfl (cs := [.slice so l.length ca, .slice si bs.length ci]) rfl rfl) ?_
 intro a hA
 refine seq_do hA rfl rfl rfl (m_loadS hM EnD_isS_25 rfl 1 rfl (cs := [.slice so2 l2.length ca2, .slice si2 bs2.length ci2]) rfl rfl) ?_
 intro a hA
 refine seq_call hA rfl rfl rfl (enters_func rfl rfl (fun w => by kernel_rfl)) (comb_form1 (hR.below hM.bel) (hB.below hM.bel) (hR2.below hM.bel) (hB2.below hM.bel) hsd) ?_
 rintro _ w10 ⟨rfl, hb9⟩
 replace hM := hM.call hb9
 refine ⟨_, rfl, ?_⟩
 intro a hA
 refine seq_do (v := .agg #[.slice none 0 0, .slice none 0 0]) hA rfl rfl rfl (does_extract (vs := [.agg #[.slice none 0 0, .slice none 0 0], .int .i64 2]) rfl rfl) ?_
 intro a hA
 refine seq_do (v := .int .i64 2) hA rfl rfl rfl (does_extract (vs := [.agg #[.slice none 0 0, .slice none 0 0], .int .i64 2]) rfl rfl) ?_
 intro a hA
 refine s_store (us := [.slice none 0 0, .slice none 0 0]) (L' := (.obj g6 (.cells #[.slice none 0 0, .slice none 0 0] 25) :: .obj g4 (.cells #[.slice so2 l2.length ca2, .slice si2 bs2.length ci2] 25) :: .obj g2 (.cells #[.slice so l.length ca, .slice si bs.length ci] 25) :: [])) hA hM rfl rfl (m_store rfl rfl rfl (by kernel_rfl) hM 0 rfl rfl rfl) 0 rfl rfl rfl ?_
 intro w11 hM
 refine seq_do hA rfl rfl rfl (does_assign rfl) ?_
 intro a hA
 refine seq_end ?_
 refine hK8 _ _ ?_
 refine wp_ret ?_
 refine hret _ _ ?_
 refine ends (v := .tuple #[.agg #[.slice none 0 0, .slice none 0 0], .int .i64 2]) hA rfl (.cons (res_cellS hM EnD_isS_25 rfl 0 rfl (cs := [.slice none 0 0, .slice none 0 0]) rfl rfl) (.cons (res_tmp rfl) .nil)) rfl ?_
 exact ⟨rfl, hM.bel⟩
theorem union_form2 {w : World} {so si : Option Addr} {ca ci : Nat} {l : List ByteArray} {bs : List Bool} (hR : Rs w so l) (hB : Rl w si bs) {so2 si2 : Option Addr} {ca2 ci2 : Nat} {l2 : List ByteArray} {bs2 : List Bool} (hR2 : Rs w so2 l2) (hB2 : Rl w si2 bs2) (hsd : sndS l bs = true) (hsd2 : sndS l2 bs2 = false) : Calls Try.prog 18 #[.agg #[.slice so l.length ca, .slice si bs.length ci], .agg #[.slice so2 l2.length ca2, .slice si2 bs2.length ci2]] w fun e w' => e = .returned (.tuple #[.agg #[.slice none 0 0, .slice none 0 0], .int .i64 2]) ∧ Below w.heap.size w w' := by
 have hM : Mg w w ([]) := Mg.start w
 refine walk_of (l := [(0, .agg #[.slice so l.length ca, .slice si bs.length ci]), (1, .agg #[.slice so2 l2.length ca2, .slice si2 bs2.length ci2])]) Try.func18 rfl Try.ntmps18 rfl rfl ?_
 intro Q hret hnorm hP a hA
 refine wp_seq_k (fun K1 hK1 => ?_)
 refine wp_region_lit ?_
 refine s_new (vs := [.slice so l.length ca, .slice si bs.length ci]) (t := 25) hA hM rfl rfl rfl (fun g => .pointer (some ⟨g, 0, none⟩)) (does_box rfl rfl) (by decide) ?_
 intro g2 w3 hM a hA
 refine s_new (vs := [.slice so2 l2.length ca2, .slice si2 bs2.length ci2]) (t := 25) hA hM rfl rfl rfl (fun g => .pointer (some ⟨g, 0, none⟩)) (does_box rfl rfl) (by decide) ?_
 intro g4 w5 hM a hA
 refine s_new (vs := [.slice none 0 0, .slice none 0 0]) (t := 25) hA hM rfl rfl rfl (fun g => .pointer (some ⟨g, 0, none⟩)) (does_alloc (z := .agg #[.slice none 0 0, .slice none 0 0]) (by kernel_rfl) rfl) (by decide) ?_
 intro g6 w7 hM a hA
 refine seq_do hA rfl rfl rfl (does_assign rfl) ?_
 intro a hA
 refine seq_end ?_
 refine hK1 _ _ ?_
 refine wp_seq_k (fun K8 hK8 => ?_)
 refine wp_region_lit ?_
 refine seq_do hA rfl rfl rfl (m_loadS hM EnD_isS_25 rfl 2 rfl (cs := [.slice so l.length ca, .slice si bs.length ci]) rfl rfl) ?_
 intro a hA
 refine seq_do hA rfl rfl rfl (m_loadS hM EnD_isS_25 rfl 1 rfl (cs := [.slice so2 l2.length ca2, .slice si2 bs2.length ci2]) rfl rfl) ?_
 intro a hA
 refine seq_call hA rfl rfl rfl (enters_func rfl rfl (fun w => by kernel_rfl)) (comb_form2 (hR.below hM.bel) (hB.below hM.bel) (hR2.below hM.bel) (hB2.below hM.bel) hsd hsd2) ?_
 rintro _ w10 ⟨rfl, hb9⟩
 replace hM := hM.call hb9
 refine ⟨_, rfl, ?_⟩
 intro a hA
 refine seq_do (v := .agg #[.slice none 0 0, .slice none 0 0]) hA rfl rfl rfl (does_extract (vs := [.agg #[.slice none 0 0, .slice none 0 0], .int .i64 2]) rfl rfl) ?_
 intro a hA
 refine seq_do (v := .int .i64 2) hA rfl rfl rfl (does_extract (vs := [.agg #[.slice none 0 0, .slice none 0 0], .int .i64 2]) rfl rfl) ?_
 intro a hA
 refine s_store (us := [.slice none 0 0, .slice none 0 0]) (L' := (.obj g6 (.cells #[.slice none 0 0, .slice none 0 0] 25) :: .obj g4 (.cells #[.slice so2 l2.length ca2, .slice si2 bs2.length ci2] 25) :: .obj g2 (.cells #[.slice so l.length ca, .slice si bs.length ci] 25) :: [])) hA hM rfl rfl (m_store rfl rfl rfl (by kernel_rfl) hM 0 rfl rfl rfl) 0 rfl rfl rfl ?_
 intro w11 hM
 refine seq_do hA rfl rfl rfl (does_assign rfl) ?_
 intro a hA
 refine seq_end ?_
 refine hK8 _ _ ?_
 refine wp_ret ?_
 refine hret _ _ ?_
 refine ends (v := .tuple #[.agg #[.slice none 0 0, .slice none 0 0], .int .i64 2]) hA rfl (.cons (res_cellS hM EnD_isS_25 rfl 0 rfl (cs := [.slice none 0 0, .slice none 0 0]) rfl rfl) (.cons (res_tmp rfl) .nil)) rfl ?_
 exact ⟨rfl, hM.bel⟩
theorem union_type {w : World} {so si : Option Addr} {ca ci : Nat} {l : List ByteArray} {bs : List Bool} (hR : Rs w so l) (hB : Rl w si bs) {so2 si2 : Option Addr} {ca2 ci2 : Nat} {l2 : List ByteArray} {bs2 : List Bool} (hR2 : Rs w so2 l2) (hB2 : Rl w si2 bs2) (hsd : sndS l bs = true) (hsd2 : sndS l2 bs2 = true) (heq : decide (l = l2) = false) : Calls Try.prog 18 #[.agg #[.slice so l.length ca, .slice si bs.length ci], .agg #[.slice so2 l2.length ca2, .slice si2 bs2.length ci2]] w fun e w' => e = .returned (.tuple #[.agg #[.slice none 0 0, .slice none 0 0], .int .i64 10]) ∧ Below w.heap.size w w' := by
 have hM : Mg w w ([]) := Mg.start w
 refine walk_of (l := [(0, .agg #[.slice so l.length ca, .slice si bs.length ci]), (1, .agg #[.slice so2 l2.length ca2, .slice si2 bs2.length ci2])]) Try.func18 rfl Try.ntmps18 rfl rfl ?_
 intro Q hret hnorm hP a hA
 refine wp_seq_k (fun K1 hK1 => ?_)
 refine wp_region_lit ?_
 refine s_new (vs := [.slice so l.length ca, .slice si bs.length ci]) (t := 25) hA hM rfl rfl rfl (fun g => .pointer (some ⟨g, 0, none⟩)) (does_box rfl rfl) (by decide) ?_
 intro g2 w3 hM a hA
 refine s_new (vs := [.slice so2 l2.length ca2, .slice si2 bs2.length ci2]) (t := 25) hA hM rfl rfl rfl (fun g => .pointer (some ⟨g, 0, none⟩)) (does_box rfl rfl) (by decide) ?_
 intro g4 w5 hM a hA
 refine s_new (vs := [.slice none 0 0, .slice none 0 0]) (t := 25) hA hM rfl rfl rfl (fun g => .pointer (some ⟨g, 0, none⟩)) (does_alloc (z := .agg #[.slice none 0 0, .slice none 0 0]) (by kernel_rfl) rfl) (by decide) ?_
 intro g6 w7 hM a hA
 refine seq_do hA rfl rfl rfl (does_assign rfl) ?_
 intro a hA
 refine seq_end ?_
 refine hK1 _ _ ?_
 refine wp_seq_k (fun K8 hK8 => ?_)
 refine wp_region_lit ?_
 refine seq_do hA rfl rfl rfl (m_loadS hM EnD_isS_25 rfl 2 rfl (cs := [.slice so l.length ca, .slice si bs.length ci]) rfl rfl) ?_
 intro a hA
 refine seq_do hA rfl rfl rfl (m_loadS hM EnD_isS_25 rfl 1 rfl (cs := [.slice so2 l2.length ca2, .slice si2 bs2.length ci2]) rfl rfl) ?_
 intro a hA
 refine seq_call hA rfl rfl rfl (enters_func rfl rfl (fun w => by kernel_rfl)) (comb_type (hR.below hM.bel) (hB.below hM.bel) (hR2.below hM.bel) (hB2.below hM.bel) hsd hsd2 heq) ?_
 rintro _ w10 ⟨rfl, hb9⟩
 replace hM := hM.call hb9
 refine ⟨_, rfl, ?_⟩
 intro a hA
 refine seq_do (v := .agg #[.slice none 0 0, .slice none 0 0]) hA rfl rfl rfl (does_extract (vs := [.agg #[.slice none 0 0, .slice none 0 0], .int .i64 10]) rfl rfl) ?_
 intro a hA
 refine seq_do (v := .int .i64 10) hA rfl rfl rfl (does_extract (vs := [.agg #[.slice none 0 0, .slice none 0 0], .int .i64 10]) rfl rfl) ?_
 intro a hA
 refine s_store (us := [.slice none 0 0, .slice none 0 0]) (L' := (.obj g6 (.cells #[.slice none 0 0, .slice none 0 0] 25) :: .obj g4 (.cells #[.slice so2 l2.length ca2, .slice si2 bs2.length ci2] 25) :: .obj g2 (.cells #[.slice so l.length ca, .slice si bs.length ci] 25) :: [])) hA hM rfl rfl (m_store rfl rfl rfl (by kernel_rfl) hM 0 rfl rfl rfl) 0 rfl rfl rfl ?_
 intro w11 hM
 refine seq_do hA rfl rfl rfl (does_assign rfl) ?_
 intro a hA
 refine seq_end ?_
 refine hK8 _ _ ?_
 refine wp_ret ?_
 refine hret _ _ ?_
 refine ends (v := .tuple #[.agg #[.slice none 0 0, .slice none 0 0], .int .i64 10]) hA rfl (.cons (res_cellS hM EnD_isS_25 rfl 0 rfl (cs := [.slice none 0 0, .slice none 0 0]) rfl rfl) (.cons (res_tmp rfl) .nil)) rfl ?_
 exact ⟨rfl, hM.bel⟩
theorem union_ok {w : World} {so si : Option Addr} {ca ci : Nat} {l : List ByteArray} {bs : List Bool} (hR : Rs w so l) (hB : Rl w si bs) {so2 si2 : Option Addr} {ca2 ci2 : Nat} {l2 : List ByteArray} {bs2 : List Bool} (hR2 : Rs w so2 l2) (hB2 : Rl w si2 bs2) (hs : ∀ s ∈ l, s.size ≤ 281474976710656) (hsd : sndS l bs = true) (hsd2 : sndS l2 bs2 = true) (heq : decide (l = l2) = true) : Calls Try.prog 18 #[.agg #[.slice so l.length ca, .slice si bs.length ci], .agg #[.slice so2 l2.length ca2, .slice si2 bs2.length ci2]] w fun e w' => ∃ so' ca' si' ci', e = .returned (.tuple #[.agg #[.slice so' l.length ca', .slice si' l.length ci'], .int .i64 0]) ∧ Mg w w' [.row 9 1 (.slice so' l.length ca') l.length (strC l), .row 4 1 (.slice si' l.length ci') l.length (boolC (l.map fun s => hasS l bs s || hasS l2 bs2 s))] := by
 have hM : Mg w w ([]) := Mg.start w
 refine walk_of (l := [(0, .agg #[.slice so l.length ca, .slice si bs.length ci]), (1, .agg #[.slice so2 l2.length ca2, .slice si2 bs2.length ci2])]) Try.func18 rfl Try.ntmps18 rfl rfl ?_
 intro Q hret hnorm hP a hA
 refine wp_seq_k (fun K1 hK1 => ?_)
 refine wp_region_lit ?_
 refine s_new (vs := [.slice so l.length ca, .slice si bs.length ci]) (t := 25) hA hM rfl rfl rfl (fun g => .pointer (some ⟨g, 0, none⟩)) (does_box rfl rfl) (by decide) ?_
 intro g2 w3 hM a hA
 refine s_new (vs := [.slice so2 l2.length ca2, .slice si2 bs2.length ci2]) (t := 25) hA hM rfl rfl rfl (fun g => .pointer (some ⟨g, 0, none⟩)) (does_box rfl rfl) (by decide) ?_
 intro g4 w5 hM a hA
 refine s_new (vs := [.slice none 0 0, .slice none 0 0]) (t := 25) hA hM rfl rfl rfl (fun g => .pointer (some ⟨g, 0, none⟩)) (does_alloc (z := .agg #[.slice none 0 0, .slice none 0 0]) (by kernel_rfl) rfl) (by decide) ?_
 intro g6 w7 hM a hA
 refine seq_do hA rfl rfl rfl (does_assign rfl) ?_
 intro a hA
 refine seq_end ?_
 refine hK1 _ _ ?_
 refine wp_seq_k (fun K8 hK8 => ?_)
 refine wp_region_lit ?_
 refine seq_do hA rfl rfl rfl (m_loadS hM EnD_isS_25 rfl 2 rfl (cs := [.slice so l.length ca, .slice si bs.length ci]) rfl rfl) ?_
 intro a hA
 refine seq_do hA rfl rfl rfl (m_loadS hM EnD_isS_25 rfl 1 rfl (cs := [.slice so2 l2.length ca2, .slice si2 bs2.length ci2]) rfl rfl) ?_
 intro a hA
 refine seq_call hA rfl rfl rfl (enters_func rfl rfl (fun w => by kernel_rfl)) (comb_ok (r := fun a b => a || b) (hR.below hM.bel) (hB.below hM.bel) (hR2.below hM.bel) (hB2.below hM.bel) hs ask_or1 hsd hsd2 heq) ?_
 rintro _ w14 ⟨so9, ca10, si11, ci12, rfl, hM13⟩
 replace hM : Mg w w14 (.row 9 1 (.slice so9 l.length ca10) l.length (strC l) :: .row 4 1 (.slice si11 l.length ci12) l.length (boolC (l.map fun s => hasS l bs s || hasS l2 bs2 s)) :: .obj g6 (.cells #[.slice none 0 0, .slice none 0 0] 25) :: .obj g4 (.cells #[.slice so2 l2.length ca2, .slice si2 bs2.length ci2] 25) :: .obj g2 (.cells #[.slice so l.length ca, .slice si bs.length ci] 25) :: []) := (hM.both hM13 (noBld_cons (by simp) (noBld_cons (by simp) (noBld_cons (by simp) (noBld_quiet quietL_nil)))) (noBld_cons (by simp) (noBld_cons (by simp) (noBld_quiet quietL_nil))))
 refine ⟨_, rfl, ?_⟩
 intro a hA
 refine seq_do (v := .agg #[.slice so9 l.length ca10, .slice si11 l.length ci12]) hA rfl rfl rfl (does_extract (vs := [.agg #[.slice so9 l.length ca10, .slice si11 l.length ci12], .int .i64 0]) rfl rfl) ?_
 intro a hA
 refine seq_do (v := .int .i64 0) hA rfl rfl rfl (does_extract (vs := [.agg #[.slice so9 l.length ca10, .slice si11 l.length ci12], .int .i64 0]) rfl rfl) ?_
 intro a hA
 refine s_store (us := [.slice so9 l.length ca10, .slice si11 l.length ci12]) (L' := (.row 9 1 (.slice so9 l.length ca10) l.length (strC l) :: .row 4 1 (.slice si11 l.length ci12) l.length (boolC (l.map fun s => hasS l bs s || hasS l2 bs2 s)) :: .obj g6 (.cells #[.slice so9 l.length ca10, .slice si11 l.length ci12] 25) :: .obj g4 (.cells #[.slice so2 l2.length ca2, .slice si2 bs2.length ci2] 25) :: .obj g2 (.cells #[.slice so l.length ca, .slice si bs.length ci] 25) :: [])) hA hM rfl rfl (m_store rfl rfl rfl (by kernel_rfl) hM 2 rfl rfl rfl) 2 rfl rfl rfl ?_
 intro w15 hM
 refine seq_do hA rfl rfl rfl (does_assign rfl) ?_
 intro a hA
 refine seq_end ?_
 refine hK8 _ _ ?_
 refine wp_ret ?_
 refine hret _ _ ?_
 refine ends (v := .tuple #[.agg #[.slice so9 l.length ca10, .slice si11 l.length ci12], .int .i64 0]) hA rfl (.cons (res_cellS hM EnD_isS_25 rfl 2 rfl (cs := [.slice so9 l.length ca10, .slice si11 l.length ci12]) rfl rfl) (.cons (res_tmp rfl) .nil)) rfl ?_
 replace hM : Mg w w15 (.row 9 1 (.slice so9 l.length ca10) l.length (strC l) :: .row 4 1 (.slice si11 l.length ci12) l.length (boolC (l.map fun s => hasS l bs s || hasS l2 bs2 s)) :: []) := by
   have h9 := hM.sub (.cons_cons _ (.cons_cons _ (.cons _ (.cons _ (.cons _ (.refl _))))))
   exact h9
 exact ⟨_, _, _, _, rfl, hM⟩
theorem meet_form1 {w : World} {so si : Option Addr} {ca ci : Nat} {l : List ByteArray} {bs : List Bool} (hR : Rs w so l) (hB : Rl w si bs) {so2 si2 : Option Addr} {ca2 ci2 : Nat} {l2 : List ByteArray} {bs2 : List Bool} (hR2 : Rs w so2 l2) (hB2 : Rl w si2 bs2) (hsd : sndS l bs = false) : Calls Try.prog 19 #[.agg #[.slice so l.length ca, .slice si bs.length ci], .agg #[.slice so2 l2.length ca2, .slice si2 bs2.length ci2]] w fun e w' => e = .returned (.tuple #[.agg #[.slice none 0 0, .slice none 0 0], .int .i64 2]) ∧ Below w.heap.size w w' := by
 have hM : Mg w w ([]) := Mg.start w
 refine walk_of (l := [(0, .agg #[.slice so l.length ca, .slice si bs.length ci]), (1, .agg #[.slice so2 l2.length ca2, .slice si2 bs2.length ci2])]) Try.func19 rfl Try.ntmps19 rfl rfl ?_
 intro Q hret hnorm hP a hA
 refine wp_seq_k (fun K1 hK1 => ?_)
 refine wp_region_lit ?_
 refine s_new (vs := [.slice so l.length ca, .slice si bs.length ci]) (t := 25) hA hM rfl rfl rfl (fun g => .pointer (some ⟨g, 0, none⟩)) (does_box rfl rfl) (by decide) ?_
 intro g2 w3 hM a hA
 refine s_new (vs := [.slice so2 l2.length ca2, .slice si2 bs2.length ci2]) (t := 25) hA hM rfl rfl rfl (fun g => .pointer (some ⟨g, 0, none⟩)) (does_box rfl rfl) (by decide) ?_
 intro g4 w5 hM a hA
 refine s_new (vs := [.slice none 0 0, .slice none 0 0]) (t := 25) hA hM rfl rfl rfl (fun g => .pointer (some ⟨g, 0, none⟩)) (does_alloc (z := .agg #[.slice none 0 0, .slice none 0 0]) (by kernel_rfl) rfl) (by decide) ?_
 intro g6 w7 hM a hA
 refine seq_do hA rfl rfl rfl (does_assign rfl) ?_
 intro a hA
 refine seq_end ?_
 refine hK1 _ _ ?_
 refine wp_seq_k (fun K8 hK8 => ?_)
 refine wp_region_lit ?_
 refine seq_do hA rfl rfl rfl (m_loadS hM EnD_isS_25 rfl 2 rfl (cs := [.slice so l.length ca, .slice si bs.length ci]) rfl rfl) ?_
 intro a hA
 refine seq_do hA rfl rfl rfl (m_loadS hM EnD_isS_25 rfl 1 rfl (cs := [.slice so2 l2.length ca2, .slice si2 bs2.length ci2]) rfl rfl) ?_
 intro a hA
 refine seq_call hA rfl rfl rfl (enters_func rfl rfl (fun w => by kernel_rfl)) (comb_form1 (hR.below hM.bel) (hB.below hM.bel) (hR2.below hM.bel) (hB2.below hM.bel) hsd) ?_
 rintro _ w10 ⟨rfl, hb9⟩
 replace hM := hM.call hb9
 refine ⟨_, rfl, ?_⟩
 intro a hA
 refine seq_do (v := .agg #[.slice none 0 0, .slice none 0 0]) hA rfl rfl rfl (does_extract (vs := [.agg #[.slice none 0 0, .slice none 0 0], .int .i64 2]) rfl rfl) ?_
 intro a hA
 refine seq_do (v := .int .i64 2) hA rfl rfl rfl (does_extract (vs := [.agg #[.slice none 0 0, .slice none 0 0], .int .i64 2]) rfl rfl) ?_
 intro a hA
 refine s_store (us := [.slice none 0 0, .slice none 0 0]) (L' := (.obj g6 (.cells #[.slice none 0 0, .slice none 0 0] 25) :: .obj g4 (.cells #[.slice so2 l2.length ca2, .slice si2 bs2.length ci2] 25) :: .obj g2 (.cells #[.slice so l.length ca, .slice si bs.length ci] 25) :: [])) hA hM rfl rfl (m_store rfl rfl rfl (by kernel_rfl) hM 0 rfl rfl rfl) 0 rfl rfl rfl ?_
 intro w11 hM
 refine seq_do hA rfl rfl rfl (does_assign rfl) ?_
 intro a hA
 refine seq_end ?_
 refine hK8 _ _ ?_
 refine wp_ret ?_
 refine hret _ _ ?_
 refine ends (v := .tuple #[.agg #[.slice none 0 0, .slice none 0 0], .int .i64 2]) hA rfl (.cons (res_cellS hM EnD_isS_25 rfl 0 rfl (cs := [.slice none 0 0, .slice none 0 0]) rfl rfl) (.cons (res_tmp rfl) .nil)) rfl ?_
 exact ⟨rfl, hM.bel⟩
theorem meet_form2 {w : World} {so si : Option Addr} {ca ci : Nat} {l : List ByteArray} {bs : List Bool} (hR : Rs w so l) (hB : Rl w si bs) {so2 si2 : Option Addr} {ca2 ci2 : Nat} {l2 : List ByteArray} {bs2 : List Bool} (hR2 : Rs w so2 l2) (hB2 : Rl w si2 bs2) (hsd : sndS l bs = true) (hsd2 : sndS l2 bs2 = false) : Calls Try.prog 19 #[.agg #[.slice so l.length ca, .slice si bs.length ci], .agg #[.slice so2 l2.length ca2, .slice si2 bs2.length ci2]] w fun e w' => e = .returned (.tuple #[.agg #[.slice none 0 0, .slice none 0 0], .int .i64 2]) ∧ Below w.heap.size w w' := by
 have hM : Mg w w ([]) := Mg.start w
 refine walk_of (l := [(0, .agg #[.slice so l.length ca, .slice si bs.length ci]), (1, .agg #[.slice so2 l2.length ca2, .slice si2 bs2.length ci2])]) Try.func19 rfl Try.ntmps19 rfl rfl ?_
 intro Q hret hnorm hP a hA
 refine wp_seq_k (fun K1 hK1 => ?_)
 refine wp_region_lit ?_
 refine s_new (vs := [.slice so l.length ca, .slice si bs.length ci]) (t := 25) hA hM rfl rfl rfl (fun g => .pointer (some ⟨g, 0, none⟩)) (does_box rfl rfl) (by decide) ?_
 intro g2 w3 hM a hA
 refine s_new (vs := [.slice so2 l2.length ca2, .slice si2 bs2.length ci2]) (t := 25) hA hM rfl rfl rfl (fun g => .pointer (some ⟨g, 0, none⟩)) (does_box rfl rfl) (by decide) ?_
 intro g4 w5 hM a hA
 refine s_new (vs := [.slice none 0 0, .slice none 0 0]) (t := 25) hA hM rfl rfl rfl (fun g => .pointer (some ⟨g, 0, none⟩)) (does_alloc (z := .agg #[.slice none 0 0, .slice none 0 0]) (by kernel_rfl) rfl) (by decide) ?_
 intro g6 w7 hM a hA
 refine seq_do hA rfl rfl rfl (does_assign rfl) ?_
 intro a hA
 refine seq_end ?_
 refine hK1 _ _ ?_
 refine wp_seq_k (fun K8 hK8 => ?_)
 refine wp_region_lit ?_
 refine seq_do hA rfl rfl rfl (m_loadS hM EnD_isS_25 rfl 2 rfl (cs := [.slice so l.length ca, .slice si bs.length ci]) rfl rfl) ?_
 intro a hA
 refine seq_do hA rfl rfl rfl (m_loadS hM EnD_isS_25 rfl 1 rfl (cs := [.slice so2 l2.length ca2, .slice si2 bs2.length ci2]) rfl rfl) ?_
 intro a hA
 refine seq_call hA rfl rfl rfl (enters_func rfl rfl (fun w => by kernel_rfl)) (comb_form2 (hR.below hM.bel) (hB.below hM.bel) (hR2.below hM.bel) (hB2.below hM.bel) hsd hsd2) ?_
 rintro _ w10 ⟨rfl, hb9⟩
 replace hM := hM.call hb9
 refine ⟨_, rfl, ?_⟩
 intro a hA
 refine seq_do (v := .agg #[.slice none 0 0, .slice none 0 0]) hA rfl rfl rfl (does_extract (vs := [.agg #[.slice none 0 0, .slice none 0 0], .int .i64 2]) rfl rfl) ?_
 intro a hA
 refine seq_do (v := .int .i64 2) hA rfl rfl rfl (does_extract (vs := [.agg #[.slice none 0 0, .slice none 0 0], .int .i64 2]) rfl rfl) ?_
 intro a hA
 refine s_store (us := [.slice none 0 0, .slice none 0 0]) (L' := (.obj g6 (.cells #[.slice none 0 0, .slice none 0 0] 25) :: .obj g4 (.cells #[.slice so2 l2.length ca2, .slice si2 bs2.length ci2] 25) :: .obj g2 (.cells #[.slice so l.length ca, .slice si bs.length ci] 25) :: [])) hA hM rfl rfl (m_store rfl rfl rfl (by kernel_rfl) hM 0 rfl rfl rfl) 0 rfl rfl rfl ?_
 intro w11 hM
 refine seq_do hA rfl rfl rfl (does_assign rfl) ?_
 intro a hA
 refine seq_end ?_
 refine hK8 _ _ ?_
 refine wp_ret ?_
 refine hret _ _ ?_
 refine ends (v := .tuple #[.agg #[.slice none 0 0, .slice none 0 0], .int .i64 2]) hA rfl (.cons (res_cellS hM EnD_isS_25 rfl 0 rfl (cs := [.slice none 0 0, .slice none 0 0]) rfl rfl) (.cons (res_tmp rfl) .nil)) rfl ?_
 exact ⟨rfl, hM.bel⟩
theorem meet_type {w : World} {so si : Option Addr} {ca ci : Nat} {l : List ByteArray} {bs : List Bool} (hR : Rs w so l) (hB : Rl w si bs) {so2 si2 : Option Addr} {ca2 ci2 : Nat} {l2 : List ByteArray} {bs2 : List Bool} (hR2 : Rs w so2 l2) (hB2 : Rl w si2 bs2) (hsd : sndS l bs = true) (hsd2 : sndS l2 bs2 = true) (heq : decide (l = l2) = false) : Calls Try.prog 19 #[.agg #[.slice so l.length ca, .slice si bs.length ci], .agg #[.slice so2 l2.length ca2, .slice si2 bs2.length ci2]] w fun e w' => e = .returned (.tuple #[.agg #[.slice none 0 0, .slice none 0 0], .int .i64 10]) ∧ Below w.heap.size w w' := by
 have hM : Mg w w ([]) := Mg.start w
 refine walk_of (l := [(0, .agg #[.slice so l.length ca, .slice si bs.length ci]), (1, .agg #[.slice so2 l2.length ca2, .slice si2 bs2.length ci2])]) Try.func19 rfl Try.ntmps19 rfl rfl ?_
 intro Q hret hnorm hP a hA
 refine wp_seq_k (fun K1 hK1 => ?_)
 refine wp_region_lit ?_
 refine s_new (vs := [.slice so l.length ca, .slice si bs.length ci]) (t := 25) hA hM rfl rfl rfl (fun g => .pointer (some ⟨g, 0, none⟩)) (does_box rfl rfl) (by decide) ?_
 intro g2 w3 hM a hA
 refine s_new (vs := [.slice so2 l2.length ca2, .slice si2 bs2.length ci2]) (t := 25) hA hM rfl rfl rfl (fun g => .pointer (some ⟨g, 0, none⟩)) (does_box rfl rfl) (by decide) ?_
 intro g4 w5 hM a hA
 refine s_new (vs := [.slice none 0 0, .slice none 0 0]) (t := 25) hA hM rfl rfl rfl (fun g => .pointer (some ⟨g, 0, none⟩)) (does_alloc (z := .agg #[.slice none 0 0, .slice none 0 0]) (by kernel_rfl) rfl) (by decide) ?_
 intro g6 w7 hM a hA
 refine seq_do hA rfl rfl rfl (does_assign rfl) ?_
 intro a hA
 refine seq_end ?_
 refine hK1 _ _ ?_
 refine wp_seq_k (fun K8 hK8 => ?_)
 refine wp_region_lit ?_
 refine seq_do hA rfl rfl rfl (m_loadS hM EnD_isS_25 rfl 2 rfl (cs := [.slice so l.length ca, .slice si bs.length ci]) rfl rfl) ?_
 intro a hA
 refine seq_do hA rfl rfl rfl (m_loadS hM EnD_isS_25 rfl 1 rfl (cs := [.slice so2 l2.length ca2, .slice si2 bs2.length ci2]) rfl rfl) ?_
 intro a hA
 refine seq_call hA rfl rfl rfl (enters_func rfl rfl (fun w => by kernel_rfl)) (comb_type (hR.below hM.bel) (hB.below hM.bel) (hR2.below hM.bel) (hB2.below hM.bel) hsd hsd2 heq) ?_
 rintro _ w10 ⟨rfl, hb9⟩
 replace hM := hM.call hb9
 refine ⟨_, rfl, ?_⟩
 intro a hA
 refine seq_do (v := .agg #[.slice none 0 0, .slice none 0 0]) hA rfl rfl rfl (does_extract (vs := [.agg #[.slice none 0 0, .slice none 0 0], .int .i64 10]) rfl rfl) ?_
 intro a hA
 refine seq_do (v := .int .i64 10) hA rfl rfl rfl (does_extract (vs := [.agg #[.slice none 0 0, .slice none 0 0], .int .i64 10]) rfl rfl) ?_
 intro a hA
 refine s_store (us := [.slice none 0 0, .slice none 0 0]) (L' := (.obj g6 (.cells #[.slice none 0 0, .slice none 0 0] 25) :: .obj g4 (.cells #[.slice so2 l2.length ca2, .slice si2 bs2.length ci2] 25) :: .obj g2 (.cells #[.slice so l.length ca, .slice si bs.length ci] 25) :: [])) hA hM rfl rfl (m_store rfl rfl rfl (by kernel_rfl) hM 0 rfl rfl rfl) 0 rfl rfl rfl ?_
 intro w11 hM
 refine seq_do hA rfl rfl rfl (does_assign rfl) ?_
 intro a hA
 refine seq_end ?_
 refine hK8 _ _ ?_
 refine wp_ret ?_
 refine hret _ _ ?_
 refine ends (v := .tuple #[.agg #[.slice none 0 0, .slice none 0 0], .int .i64 10]) hA rfl (.cons (res_cellS hM EnD_isS_25 rfl 0 rfl (cs := [.slice none 0 0, .slice none 0 0]) rfl rfl) (.cons (res_tmp rfl) .nil)) rfl ?_
 exact ⟨rfl, hM.bel⟩
theorem meet_ok {w : World} {so si : Option Addr} {ca ci : Nat} {l : List ByteArray} {bs : List Bool} (hR : Rs w so l) (hB : Rl w si bs) {so2 si2 : Option Addr} {ca2 ci2 : Nat} {l2 : List ByteArray} {bs2 : List Bool} (hR2 : Rs w so2 l2) (hB2 : Rl w si2 bs2) (hs : ∀ s ∈ l, s.size ≤ 281474976710656) (hsd : sndS l bs = true) (hsd2 : sndS l2 bs2 = true) (heq : decide (l = l2) = true) : Calls Try.prog 19 #[.agg #[.slice so l.length ca, .slice si bs.length ci], .agg #[.slice so2 l2.length ca2, .slice si2 bs2.length ci2]] w fun e w' => ∃ so' ca' si' ci', e = .returned (.tuple #[.agg #[.slice so' l.length ca', .slice si' l.length ci'], .int .i64 0]) ∧ Mg w w' [.row 9 1 (.slice so' l.length ca') l.length (strC l), .row 4 1 (.slice si' l.length ci') l.length (boolC (l.map fun s => hasS l bs s && hasS l2 bs2 s))] := by
 have hM : Mg w w ([]) := Mg.start w
 refine walk_of (l := [(0, .agg #[.slice so l.length ca, .slice si bs.length ci]), (1, .agg #[.slice so2 l2.length ca2, .slice si2 bs2.length ci2])]) Try.func19 rfl Try.ntmps19 rfl rfl ?_
 intro Q hret hnorm hP a hA
 refine wp_seq_k (fun K1 hK1 => ?_)
 refine wp_region_lit ?_
 refine s_new (vs := [.slice so l.length ca, .slice si bs.length ci]) (t := 25) hA hM rfl rfl rfl (fun g => .pointer (some ⟨g, 0, none⟩)) (does_box rfl rfl) (by decide) ?_
 intro g2 w3 hM a hA
 refine s_new (vs := [.slice so2 l2.length ca2, .slice si2 bs2.length ci2]) (t := 25) hA hM rfl rfl rfl (fun g => .pointer (some ⟨g, 0, none⟩)) (does_box rfl rfl) (by decide) ?_
 intro g4 w5 hM a hA
 refine s_new (vs := [.slice none 0 0, .slice none 0 0]) (t := 25) hA hM rfl rfl rfl (fun g => .pointer (some ⟨g, 0, none⟩)) (does_alloc (z := .agg #[.slice none 0 0, .slice none 0 0]) (by kernel_rfl) rfl) (by decide) ?_
 intro g6 w7 hM a hA
 refine seq_do hA rfl rfl rfl (does_assign rfl) ?_
 intro a hA
 refine seq_end ?_
 refine hK1 _ _ ?_
 refine wp_seq_k (fun K8 hK8 => ?_)
 refine wp_region_lit ?_
 refine seq_do hA rfl rfl rfl (m_loadS hM EnD_isS_25 rfl 2 rfl (cs := [.slice so l.length ca, .slice si bs.length ci]) rfl rfl) ?_
 intro a hA
 refine seq_do hA rfl rfl rfl (m_loadS hM EnD_isS_25 rfl 1 rfl (cs := [.slice so2 l2.length ca2, .slice si2 bs2.length ci2]) rfl rfl) ?_
 intro a hA
 refine seq_call hA rfl rfl rfl (enters_func rfl rfl (fun w => by kernel_rfl)) (comb_ok (r := fun a b => a && b) (hR.below hM.bel) (hB.below hM.bel) (hR2.below hM.bel) (hB2.below hM.bel) hs ask_and1 hsd hsd2 heq) ?_
 rintro _ w14 ⟨so9, ca10, si11, ci12, rfl, hM13⟩
 replace hM : Mg w w14 (.row 9 1 (.slice so9 l.length ca10) l.length (strC l) :: .row 4 1 (.slice si11 l.length ci12) l.length (boolC (l.map fun s => hasS l bs s && hasS l2 bs2 s)) :: .obj g6 (.cells #[.slice none 0 0, .slice none 0 0] 25) :: .obj g4 (.cells #[.slice so2 l2.length ca2, .slice si2 bs2.length ci2] 25) :: .obj g2 (.cells #[.slice so l.length ca, .slice si bs.length ci] 25) :: []) := (hM.both hM13 (noBld_cons (by simp) (noBld_cons (by simp) (noBld_cons (by simp) (noBld_quiet quietL_nil)))) (noBld_cons (by simp) (noBld_cons (by simp) (noBld_quiet quietL_nil))))
 refine ⟨_, rfl, ?_⟩
 intro a hA
 refine seq_do (v := .agg #[.slice so9 l.length ca10, .slice si11 l.length ci12]) hA rfl rfl rfl (does_extract (vs := [.agg #[.slice so9 l.length ca10, .slice si11 l.length ci12], .int .i64 0]) rfl rfl) ?_
 intro a hA
 refine seq_do (v := .int .i64 0) hA rfl rfl rfl (does_extract (vs := [.agg #[.slice so9 l.length ca10, .slice si11 l.length ci12], .int .i64 0]) rfl rfl) ?_
 intro a hA
 refine s_store (us := [.slice so9 l.length ca10, .slice si11 l.length ci12]) (L' := (.row 9 1 (.slice so9 l.length ca10) l.length (strC l) :: .row 4 1 (.slice si11 l.length ci12) l.length (boolC (l.map fun s => hasS l bs s && hasS l2 bs2 s)) :: .obj g6 (.cells #[.slice so9 l.length ca10, .slice si11 l.length ci12] 25) :: .obj g4 (.cells #[.slice so2 l2.length ca2, .slice si2 bs2.length ci2] 25) :: .obj g2 (.cells #[.slice so l.length ca, .slice si bs.length ci] 25) :: [])) hA hM rfl rfl (m_store rfl rfl rfl (by kernel_rfl) hM 2 rfl rfl rfl) 2 rfl rfl rfl ?_
 intro w15 hM
 refine seq_do hA rfl rfl rfl (does_assign rfl) ?_
 intro a hA
 refine seq_end ?_
 refine hK8 _ _ ?_
 refine wp_ret ?_
 refine hret _ _ ?_
 refine ends (v := .tuple #[.agg #[.slice so9 l.length ca10, .slice si11 l.length ci12], .int .i64 0]) hA rfl (.cons (res_cellS hM EnD_isS_25 rfl 2 rfl (cs := [.slice so9 l.length ca10, .slice si11 l.length ci12]) rfl rfl) (.cons (res_tmp rfl) .nil)) rfl ?_
 replace hM : Mg w w15 (.row 9 1 (.slice so9 l.length ca10) l.length (strC l) :: .row 4 1 (.slice si11 l.length ci12) l.length (boolC (l.map fun s => hasS l bs s && hasS l2 bs2 s)) :: []) := by
   have h9 := hM.sub (.cons_cons _ (.cons_cons _ (.cons _ (.cons _ (.cons _ (.refl _))))))
   exact h9
 exact ⟨_, _, _, _, rfl, hM⟩
theorem minus_form1 {w : World} {so si : Option Addr} {ca ci : Nat} {l : List ByteArray} {bs : List Bool} (hR : Rs w so l) (hB : Rl w si bs) {so2 si2 : Option Addr} {ca2 ci2 : Nat} {l2 : List ByteArray} {bs2 : List Bool} (hR2 : Rs w so2 l2) (hB2 : Rl w si2 bs2) (hsd : sndS l bs = false) : Calls Try.prog 20 #[.agg #[.slice so l.length ca, .slice si bs.length ci], .agg #[.slice so2 l2.length ca2, .slice si2 bs2.length ci2]] w fun e w' => e = .returned (.tuple #[.agg #[.slice none 0 0, .slice none 0 0], .int .i64 2]) ∧ Below w.heap.size w w' := by
 have hM : Mg w w ([]) := Mg.start w
 refine walk_of (l := [(0, .agg #[.slice so l.length ca, .slice si bs.length ci]), (1, .agg #[.slice so2 l2.length ca2, .slice si2 bs2.length ci2])]) Try.func20 rfl Try.ntmps20 rfl rfl ?_
 intro Q hret hnorm hP a hA
 refine wp_seq_k (fun K1 hK1 => ?_)
 refine wp_region_lit ?_
 refine s_new (vs := [.slice so l.length ca, .slice si bs.length ci]) (t := 25) hA hM rfl rfl rfl (fun g => .pointer (some ⟨g, 0, none⟩)) (does_box rfl rfl) (by decide) ?_
 intro g2 w3 hM a hA
 refine s_new (vs := [.slice so2 l2.length ca2, .slice si2 bs2.length ci2]) (t := 25) hA hM rfl rfl rfl (fun g => .pointer (some ⟨g, 0, none⟩)) (does_box rfl rfl) (by decide) ?_
 intro g4 w5 hM a hA
 refine s_new (vs := [.slice none 0 0, .slice none 0 0]) (t := 25) hA hM rfl rfl rfl (fun g => .pointer (some ⟨g, 0, none⟩)) (does_alloc (z := .agg #[.slice none 0 0, .slice none 0 0]) (by kernel_rfl) rfl) (by decide) ?_
 intro g6 w7 hM a hA
 refine seq_do hA rfl rfl rfl (does_assign rfl) ?_
 intro a hA
 refine seq_end ?_
 refine hK1 _ _ ?_
 refine wp_seq_k (fun K8 hK8 => ?_)
 refine wp_region_lit ?_
 refine seq_do hA rfl rfl rfl (m_loadS hM EnD_isS_25 rfl 2 rfl (cs := [.slice so l.length ca, .slice si bs.length ci]) rfl rfl) ?_
 intro a hA
 refine seq_do hA rfl rfl rfl (m_loadS hM EnD_isS_25 rfl 1 rfl (cs := [.slice so2 l2.length ca2, .slice si2 bs2.length ci2]) rfl rfl) ?_
 intro a hA
 refine seq_call hA rfl rfl rfl (enters_func rfl rfl (fun w => by kernel_rfl)) (comb_form1 (hR.below hM.bel) (hB.below hM.bel) (hR2.below hM.bel) (hB2.below hM.bel) hsd) ?_
 rintro _ w10 ⟨rfl, hb9⟩
 replace hM := hM.call hb9
 refine ⟨_, rfl, ?_⟩
 intro a hA
 refine seq_do (v := .agg #[.slice none 0 0, .slice none 0 0]) hA rfl rfl rfl (does_extract (vs := [.agg #[.slice none 0 0, .slice none 0 0], .int .i64 2]) rfl rfl) ?_
 intro a hA
 refine seq_do (v := .int .i64 2) hA rfl rfl rfl (does_extract (vs := [.agg #[.slice none 0 0, .slice none 0 0], .int .i64 2]) rfl rfl) ?_
 intro a hA
 refine s_store (us := [.slice none 0 0, .slice none 0 0]) (L' := (.obj g6 (.cells #[.slice none 0 0, .slice none 0 0] 25) :: .obj g4 (.cells #[.slice so2 l2.length ca2, .slice si2 bs2.length ci2] 25) :: .obj g2 (.cells #[.slice so l.length ca, .slice si bs.length ci] 25) :: [])) hA hM rfl rfl (m_store rfl rfl rfl (by kernel_rfl) hM 0 rfl rfl rfl) 0 rfl rfl rfl ?_
 intro w11 hM
 refine seq_do hA rfl rfl rfl (does_assign rfl) ?_
 intro a hA
 refine seq_end ?_
 refine hK8 _ _ ?_
 refine wp_ret ?_
 refine hret _ _ ?_
 refine ends (v := .tuple #[.agg #[.slice none 0 0, .slice none 0 0], .int .i64 2]) hA rfl (.cons (res_cellS hM EnD_isS_25 rfl 0 rfl (cs := [.slice none 0 0, .slice none 0 0]) rfl rfl) (.cons (res_tmp rfl) .nil)) rfl ?_
 exact ⟨rfl, hM.bel⟩
theorem minus_form2 {w : World} {so si : Option Addr} {ca ci : Nat} {l : List ByteArray} {bs : List Bool} (hR : Rs w so l) (hB : Rl w si bs) {so2 si2 : Option Addr} {ca2 ci2 : Nat} {l2 : List ByteArray} {bs2 : List Bool} (hR2 : Rs w so2 l2) (hB2 : Rl w si2 bs2) (hsd : sndS l bs = true) (hsd2 : sndS l2 bs2 = false) : Calls Try.prog 20 #[.agg #[.slice so l.length ca, .slice si bs.length ci], .agg #[.slice so2 l2.length ca2, .slice si2 bs2.length ci2]] w fun e w' => e = .returned (.tuple #[.agg #[.slice none 0 0, .slice none 0 0], .int .i64 2]) ∧ Below w.heap.size w w' := by
 have hM : Mg w w ([]) := Mg.start w
 refine walk_of (l := [(0, .agg #[.slice so l.length ca, .slice si bs.length ci]), (1, .agg #[.slice so2 l2.length ca2, .slice si2 bs2.length ci2])]) Try.func20 rfl Try.ntmps20 rfl rfl ?_
 intro Q hret hnorm hP a hA
 refine wp_seq_k (fun K1 hK1 => ?_)
 refine wp_region_lit ?_
 refine s_new (vs := [.slice so l.length ca, .slice si bs.length ci]) (t := 25) hA hM rfl rfl rfl (fun g => .pointer (some ⟨g, 0, none⟩)) (does_box rfl rfl) (by decide) ?_
 intro g2 w3 hM a hA
 refine s_new (vs := [.slice so2 l2.length ca2, .slice si2 bs2.length ci2]) (t := 25) hA hM rfl rfl rfl (fun g => .pointer (some ⟨g, 0, none⟩)) (does_box rfl rfl) (by decide) ?_
 intro g4 w5 hM a hA
 refine s_new (vs := [.slice none 0 0, .slice none 0 0]) (t := 25) hA hM rfl rfl rfl (fun g => .pointer (some ⟨g, 0, none⟩)) (does_alloc (z := .agg #[.slice none 0 0, .slice none 0 0]) (by kernel_rfl) rfl) (by decide) ?_
 intro g6 w7 hM a hA
 refine seq_do hA rfl rfl rfl (does_assign rfl) ?_
 intro a hA
 refine seq_end ?_
 refine hK1 _ _ ?_
 refine wp_seq_k (fun K8 hK8 => ?_)
 refine wp_region_lit ?_
 refine seq_do hA rfl rfl rfl (m_loadS hM EnD_isS_25 rfl 2 rfl (cs := [.slice so l.length ca, .slice si bs.length ci]) rfl rfl) ?_
 intro a hA
 refine seq_do hA rfl rfl rfl (m_loadS hM EnD_isS_25 rfl 1 rfl (cs := [.slice so2 l2.length ca2, .slice si2 bs2.length ci2]) rfl rfl) ?_
 intro a hA
 refine seq_call hA rfl rfl rfl (enters_func rfl rfl (fun w => by kernel_rfl)) (comb_form2 (hR.below hM.bel) (hB.below hM.bel) (hR2.below hM.bel) (hB2.below hM.bel) hsd hsd2) ?_
 rintro _ w10 ⟨rfl, hb9⟩
 replace hM := hM.call hb9
 refine ⟨_, rfl, ?_⟩
 intro a hA
 refine seq_do (v := .agg #[.slice none 0 0, .slice none 0 0]) hA rfl rfl rfl (does_extract (vs := [.agg #[.slice none 0 0, .slice none 0 0], .int .i64 2]) rfl rfl) ?_
 intro a hA
 refine seq_do (v := .int .i64 2) hA rfl rfl rfl (does_extract (vs := [.agg #[.slice none 0 0, .slice none 0 0], .int .i64 2]) rfl rfl) ?_
 intro a hA
 refine s_store (us := [.slice none 0 0, .slice none 0 0]) (L' := (.obj g6 (.cells #[.slice none 0 0, .slice none 0 0] 25) :: .obj g4 (.cells #[.slice so2 l2.length ca2, .slice si2 bs2.length ci2] 25) :: .obj g2 (.cells #[.slice so l.length ca, .slice si bs.length ci] 25) :: [])) hA hM rfl rfl (m_store rfl rfl rfl (by kernel_rfl) hM 0 rfl rfl rfl) 0 rfl rfl rfl ?_
 intro w11 hM
 refine seq_do hA rfl rfl rfl (does_assign rfl) ?_
 intro a hA
 refine seq_end ?_
 refine hK8 _ _ ?_
 refine wp_ret ?_
 refine hret _ _ ?_
 refine ends (v := .tuple #[.agg #[.slice none 0 0, .slice none 0 0], .int .i64 2]) hA rfl (.cons (res_cellS hM EnD_isS_25 rfl 0 rfl (cs := [.slice none 0 0, .slice none 0 0]) rfl rfl) (.cons (res_tmp rfl) .nil)) rfl ?_
 exact ⟨rfl, hM.bel⟩
theorem minus_type {w : World} {so si : Option Addr} {ca ci : Nat} {l : List ByteArray} {bs : List Bool} (hR : Rs w so l) (hB : Rl w si bs) {so2 si2 : Option Addr} {ca2 ci2 : Nat} {l2 : List ByteArray} {bs2 : List Bool} (hR2 : Rs w so2 l2) (hB2 : Rl w si2 bs2) (hsd : sndS l bs = true) (hsd2 : sndS l2 bs2 = true) (heq : decide (l = l2) = false) : Calls Try.prog 20 #[.agg #[.slice so l.length ca, .slice si bs.length ci], .agg #[.slice so2 l2.length ca2, .slice si2 bs2.length ci2]] w fun e w' => e = .returned (.tuple #[.agg #[.slice none 0 0, .slice none 0 0], .int .i64 10]) ∧ Below w.heap.size w w' := by
 have hM : Mg w w ([]) := Mg.start w
 refine walk_of (l := [(0, .agg #[.slice so l.length ca, .slice si bs.length ci]), (1, .agg #[.slice so2 l2.length ca2, .slice si2 bs2.length ci2])]) Try.func20 rfl Try.ntmps20 rfl rfl ?_
 intro Q hret hnorm hP a hA
 refine wp_seq_k (fun K1 hK1 => ?_)
 refine wp_region_lit ?_
 refine s_new (vs := [.slice so l.length ca, .slice si bs.length ci]) (t := 25) hA hM rfl rfl rfl (fun g => .pointer (some ⟨g, 0, none⟩)) (does_box rfl rfl) (by decide) ?_
 intro g2 w3 hM a hA
 refine s_new (vs := [.slice so2 l2.length ca2, .slice si2 bs2.length ci2]) (t := 25) hA hM rfl rfl rfl (fun g => .pointer (some ⟨g, 0, none⟩)) (does_box rfl rfl) (by decide) ?_
 intro g4 w5 hM a hA
 refine s_new (vs := [.slice none 0 0, .slice none 0 0]) (t := 25) hA hM rfl rfl rfl (fun g => .pointer (some ⟨g, 0, none⟩)) (does_alloc (z := .agg #[.slice none 0 0, .slice none 0 0]) (by kernel_rfl) rfl) (by decide) ?_
 intro g6 w7 hM a hA
 refine seq_do hA rfl rfl rfl (does_assign rfl) ?_
 intro a hA
 refine seq_end ?_
 refine hK1 _ _ ?_
 refine wp_seq_k (fun K8 hK8 => ?_)
 refine wp_region_lit ?_
 refine seq_do hA rfl rfl rfl (m_loadS hM EnD_isS_25 rfl 2 rfl (cs := [.slice so l.length ca, .slice si bs.length ci]) rfl rfl) ?_
 intro a hA
 refine seq_do hA rfl rfl rfl (m_loadS hM EnD_isS_25 rfl 1 rfl (cs := [.slice so2 l2.length ca2, .slice si2 bs2.length ci2]) rfl rfl) ?_
 intro a hA
 refine seq_call hA rfl rfl rfl (enters_func rfl rfl (fun w => by kernel_rfl)) (comb_type (hR.below hM.bel) (hB.below hM.bel) (hR2.below hM.bel) (hB2.below hM.bel) hsd hsd2 heq) ?_
 rintro _ w10 ⟨rfl, hb9⟩
 replace hM := hM.call hb9
 refine ⟨_, rfl, ?_⟩
 intro a hA
 refine seq_do (v := .agg #[.slice none 0 0, .slice none 0 0]) hA rfl rfl rfl (does_extract (vs := [.agg #[.slice none 0 0, .slice none 0 0], .int .i64 10]) rfl rfl) ?_
 intro a hA
 refine seq_do (v := .int .i64 10) hA rfl rfl rfl (does_extract (vs := [.agg #[.slice none 0 0, .slice none 0 0], .int .i64 10]) rfl rfl) ?_
 intro a hA
 refine s_store (us := [.slice none 0 0, .slice none 0 0]) (L' := (.obj g6 (.cells #[.slice none 0 0, .slice none 0 0] 25) :: .obj g4 (.cells #[.slice so2 l2.length ca2, .slice si2 bs2.length ci2] 25) :: .obj g2 (.cells #[.slice so l.length ca, .slice si bs.length ci] 25) :: [])) hA hM rfl rfl (m_store rfl rfl rfl (by kernel_rfl) hM 0 rfl rfl rfl) 0 rfl rfl rfl ?_
 intro w11 hM
 refine seq_do hA rfl rfl rfl (does_assign rfl) ?_
 intro a hA
 refine seq_end ?_
 refine hK8 _ _ ?_
 refine wp_ret ?_
 refine hret _ _ ?_
 refine ends (v := .tuple #[.agg #[.slice none 0 0, .slice none 0 0], .int .i64 10]) hA rfl (.cons (res_cellS hM EnD_isS_25 rfl 0 rfl (cs := [.slice none 0 0, .slice none 0 0]) rfl rfl) (.cons (res_tmp rfl) .nil)) rfl ?_
 exact ⟨rfl, hM.bel⟩
theorem minus_ok {w : World} {so si : Option Addr} {ca ci : Nat} {l : List ByteArray} {bs : List Bool} (hR : Rs w so l) (hB : Rl w si bs) {so2 si2 : Option Addr} {ca2 ci2 : Nat} {l2 : List ByteArray} {bs2 : List Bool} (hR2 : Rs w so2 l2) (hB2 : Rl w si2 bs2) (hs : ∀ s ∈ l, s.size ≤ 281474976710656) (hsd : sndS l bs = true) (hsd2 : sndS l2 bs2 = true) (heq : decide (l = l2) = true) : Calls Try.prog 20 #[.agg #[.slice so l.length ca, .slice si bs.length ci], .agg #[.slice so2 l2.length ca2, .slice si2 bs2.length ci2]] w fun e w' => ∃ so' ca' si' ci', e = .returned (.tuple #[.agg #[.slice so' l.length ca', .slice si' l.length ci'], .int .i64 0]) ∧ Mg w w' [.row 9 1 (.slice so' l.length ca') l.length (strC l), .row 4 1 (.slice si' l.length ci') l.length (boolC (l.map fun s => hasS l bs s && !hasS l2 bs2 s))] := by
 have hM : Mg w w ([]) := Mg.start w
 refine walk_of (l := [(0, .agg #[.slice so l.length ca, .slice si bs.length ci]), (1, .agg #[.slice so2 l2.length ca2, .slice si2 bs2.length ci2])]) Try.func20 rfl Try.ntmps20 rfl rfl ?_
 intro Q hret hnorm hP a hA
 refine wp_seq_k (fun K1 hK1 => ?_)
 refine wp_region_lit ?_
 refine s_new (vs := [.slice so l.length ca, .slice si bs.length ci]) (t := 25) hA hM rfl rfl rfl (fun g => .pointer (some ⟨g, 0, none⟩)) (does_box rfl rfl) (by decide) ?_
 intro g2 w3 hM a hA
 refine s_new (vs := [.slice so2 l2.length ca2, .slice si2 bs2.length ci2]) (t := 25) hA hM rfl rfl rfl (fun g => .pointer (some ⟨g, 0, none⟩)) (does_box rfl rfl) (by decide) ?_
 intro g4 w5 hM a hA
 refine s_new (vs := [.slice none 0 0, .slice none 0 0]) (t := 25) hA hM rfl rfl rfl (fun g => .pointer (some ⟨g, 0, none⟩)) (does_alloc (z := .agg #[.slice none 0 0, .slice none 0 0]) (by kernel_rfl) rfl) (by decide) ?_
 intro g6 w7 hM a hA
 refine seq_do hA rfl rfl rfl (does_assign rfl) ?_
 intro a hA
 refine seq_end ?_
 refine hK1 _ _ ?_
 refine wp_seq_k (fun K8 hK8 => ?_)
 refine wp_region_lit ?_
 refine seq_do hA rfl rfl rfl (m_loadS hM EnD_isS_25 rfl 2 rfl (cs := [.slice so l.length ca, .slice si bs.length ci]) rfl rfl) ?_
 intro a hA
 refine seq_do hA rfl rfl rfl (m_loadS hM EnD_isS_25 rfl 1 rfl (cs := [.slice so2 l2.length ca2, .slice si2 bs2.length ci2]) rfl rfl) ?_
 intro a hA
 refine seq_call hA rfl rfl rfl (enters_func rfl rfl (fun w => by kernel_rfl)) (comb_ok (r := fun a b => a && !b) (hR.below hM.bel) (hB.below hM.bel) (hR2.below hM.bel) (hB2.below hM.bel) hs ask_less1 hsd hsd2 heq) ?_
 rintro _ w14 ⟨so9, ca10, si11, ci12, rfl, hM13⟩
 replace hM : Mg w w14 (.row 9 1 (.slice so9 l.length ca10) l.length (strC l) :: .row 4 1 (.slice si11 l.length ci12) l.length (boolC (l.map fun s => hasS l bs s && !hasS l2 bs2 s)) :: .obj g6 (.cells #[.slice none 0 0, .slice none 0 0] 25) :: .obj g4 (.cells #[.slice so2 l2.length ca2, .slice si2 bs2.length ci2] 25) :: .obj g2 (.cells #[.slice so l.length ca, .slice si bs.length ci] 25) :: []) := (hM.both hM13 (noBld_cons (by simp) (noBld_cons (by simp) (noBld_cons (by simp) (noBld_quiet quietL_nil)))) (noBld_cons (by simp) (noBld_cons (by simp) (noBld_quiet quietL_nil))))
 refine ⟨_, rfl, ?_⟩
 intro a hA
 refine seq_do (v := .agg #[.slice so9 l.length ca10, .slice si11 l.length ci12]) hA rfl rfl rfl (does_extract (vs := [.agg #[.slice so9 l.length ca10, .slice si11 l.length ci12], .int .i64 0]) rfl rfl) ?_
 intro a hA
 refine seq_do (v := .int .i64 0) hA rfl rfl rfl (does_extract (vs := [.agg #[.slice so9 l.length ca10, .slice si11 l.length ci12], .int .i64 0]) rfl rfl) ?_
 intro a hA
 refine s_store (us := [.slice so9 l.length ca10, .slice si11 l.length ci12]) (L' := (.row 9 1 (.slice so9 l.length ca10) l.length (strC l) :: .row 4 1 (.slice si11 l.length ci12) l.length (boolC (l.map fun s => hasS l bs s && !hasS l2 bs2 s)) :: .obj g6 (.cells #[.slice so9 l.length ca10, .slice si11 l.length ci12] 25) :: .obj g4 (.cells #[.slice so2 l2.length ca2, .slice si2 bs2.length ci2] 25) :: .obj g2 (.cells #[.slice so l.length ca, .slice si bs.length ci] 25) :: [])) hA hM rfl rfl (m_store rfl rfl rfl (by kernel_rfl) hM 2 rfl rfl rfl) 2 rfl rfl rfl ?_
 intro w15 hM
 refine seq_do hA rfl rfl rfl (does_assign rfl) ?_
 intro a hA
 refine seq_end ?_
 refine hK8 _ _ ?_
 refine wp_ret ?_
 refine hret _ _ ?_
 refine ends (v := .tuple #[.agg #[.slice so9 l.length ca10, .slice si11 l.length ci12], .int .i64 0]) hA rfl (.cons (res_cellS hM EnD_isS_25 rfl 2 rfl (cs := [.slice so9 l.length ca10, .slice si11 l.length ci12]) rfl rfl) (.cons (res_tmp rfl) .nil)) rfl ?_
 replace hM : Mg w w15 (.row 9 1 (.slice so9 l.length ca10) l.length (strC l) :: .row 4 1 (.slice si11 l.length ci12) l.length (boolC (l.map fun s => hasS l bs s && !hasS l2 bs2 s)) :: []) := by
   have h9 := hM.sub (.cons_cons _ (.cons_cons _ (.cons _ (.cons _ (.cons _ (.refl _))))))
   exact h9
 exact ⟨_, _, _, _, rfl, hM⟩
end Go.Proofs.Ytbdhfooeanbnlaa
