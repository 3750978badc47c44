/- The law of two sets. -/
import Derived.Test.YtbdhfooeanbnlaaEnE
namespace Go.Proofs.Ytbdhfooeanbnlaa
open Go.RowKit Go.Lib Go.Sort
set_option linter.unusedVariables false
set_option linter.unusedSimpArgs false
set_option maxRecDepth 100000
theorem EnF_is1_4 : Is1 Try.prog 4 := ⟨⟨_, Try.underlying4, rfl⟩, by kernel_rfl⟩
theorem EnF_is1_9 : Is1 Try.prog 9 := ⟨⟨_, Try.underlying9, rfl⟩, by kernel_rfl⟩
theorem EnF_isS_25 : IsS Try.prog 25 2 := ⟨⟨_, Try.underlying25⟩, by kernel_rfl⟩
theorem snd_map {l : List ByteArray} {bs : List Bool} (h : sndS l bs = true) {q : List Bool} {f : ByteArray → Bool} (hq : q = l.map f) : sndS l q = true := by
  obtain ⟨a, _, c⟩ := snd_le h
  exact snd_of a (by rw [hq]; simp) c
theorem fil_step {l : List ByteArray} {i : Nat} {s : ByteArray} {p : ByteArray → Bool} (h : l[i]? = some s) : (l.take (i + 1)).filter p = (l.take i).filter p ++ (if p s then [s] else []) := by
  rw [List.take_add_one, h, List.filter_append, Option.toList_some, List.filter_cons, List.filter_nil]
theorem fil_full {l : List ByteArray} {i : Nat} {p : ByteArray → Bool} (h : l.length ≤ i) : (l.take i).filter p = l.filter p := by rw [List.take_of_length_le h]
theorem fil_len {l : List ByteArray} {i : Nat} {p : ByteArray → Bool} : ((l.take i).filter p).length ≤ i := Nat.le_trans (List.length_filter_le _ _) (by rw [List.length_take]; omega)
theorem any_step {l : List ByteArray} {i : Nat} {s : ByteArray} {p : ByteArray → Bool} (h : l[i]? = some s) : (l.take (i + 1)).any p = ((l.take i).any p || p s) := by
  rw [List.take_add_one, h, List.any_append, Option.toList_some, List.any_cons, List.any_nil, Bool.or_false]
theorem sub_eq {l : List ByteArray} {bs : List Bool} (h : sndS l bs = true) (q : ByteArray → Bool) : (memS l bs).any q = l.any fun s => hasS l bs s && q s := by
  obtain ⟨_, h2, h3⟩ := snd_le h
  rw [mem_has h3 h2, List.any_filter]
theorem named {l : List ByteArray} {q : List Bool} (hq : q.length = l.length) {w w' : World} {e : Ending} (h : ∃ so' ca' si' ci', e = .returned (.tuple #[.agg #[.slice so' l.length ca', .slice si' l.length ci'], .int .i64 0]) ∧ Mg w w' [.row 9 1 (.slice so' l.length ca') l.length (strC l), .row 4 1 (.slice si' l.length ci') l.length (boolC q)]) :
    ∃ so' ca' si' ci' bs', bs' = q ∧ e = .returned (.tuple #[.agg #[.slice so' l.length ca', .slice si' (bs' : List Bool).length ci'], .int .i64 0]) ∧ Mg w w' [.row 9 1 (.slice so' l.length ca') l.length (strC l), .row 4 1 (.slice si' bs'.length ci') bs'.length (boolC bs')] := by
  obtain ⟨so, ca, si, ci, rfl, h⟩ := h
  exact ⟨so, ca, si, ci, q, rfl, by rw [hq], by rw [hq]; exact h⟩
theorem union_okN {w : World} {so si : Option Addr} {ca ci : Nat} {l : List ByteArray} {bs : List Bool} (hR : Rs w so l) (hB : Rl w si bs) {so2 si2 : Option Addr} {ca2 ci2 : Nat} {l2 : List ByteArray} {bs2 : List Bool} (hR2 : Rs w so2 l2) (hB2 : Rl w si2 bs2) (hs : ∀ s ∈ l, s.size ≤ 281474976710656) (hsd : sndS l bs = true) (hsd2 : sndS l2 bs2 = true) (heq : decide (l = l2) = true) : Calls Try.prog 18 #[.agg #[.slice so l.length ca, .slice si bs.length ci], .agg #[.slice so2 l2.length ca2, .slice si2 bs2.length ci2]] w fun e w' => ∃ so' ca' si' ci' bs', bs' = (l.map fun s => hasS l bs s || hasS l2 bs2 s) ∧ e = .returned (.tuple #[.agg #[.slice so' l.length ca', .slice si' (bs' : List Bool).length ci'], .int .i64 0]) ∧ Mg w w' [.row 9 1 (.slice so' l.length ca') l.length (strC l), .row 4 1 (.slice si' bs'.length ci') bs'.length (boolC bs')] := (union_ok hR hB hR2 hB2 hs hsd hsd2 heq).mono fun _ _ h => named (by simp) h
theorem meet_okN {w : World} {so si : Option Addr} {ca ci : Nat} {l : List ByteArray} {bs : List Bool} (hR : Rs w so l) (hB : Rl w si bs) {so2 si2 : Option Addr} {ca2 ci2 : Nat} {l2 : List ByteArray} {bs2 : List Bool} (hR2 : Rs w so2 l2) (hB2 : Rl w si2 bs2) (hs : ∀ s ∈ l, s.size ≤ 281474976710656) (hsd : sndS l bs = true) (hsd2 : sndS l2 bs2 = true) (heq : decide (l = l2) = true) : Calls Try.prog 19 #[.agg #[.slice so l.length ca, .slice si bs.length ci], .agg #[.slice so2 l2.length ca2, .slice si2 bs2.length ci2]] w fun e w' => ∃ so' ca' si' ci' bs', bs' = (l.map fun s => hasS l bs s && hasS l2 bs2 s) ∧ e = .returned (.tuple #[.agg #[.slice so' l.length ca', .slice si' (bs' : List Bool).length ci'], .int .i64 0]) ∧ Mg w w' [.row 9 1 (.slice so' l.length ca') l.length (strC l), .row 4 1 (.slice si' bs'.length ci') bs'.length (boolC bs')] := (meet_ok hR hB hR2 hB2 hs hsd hsd2 heq).mono fun _ _ h => named (by simp) h
theorem minus_okN {w : World} {so si : Option Addr} {ca ci : Nat} {l : List ByteArray} {bs : List Bool} (hR : Rs w so l) (hB : Rl w si bs) {so2 si2 : Option Addr} {ca2 ci2 : Nat} {l2 : List ByteArray} {bs2 : List Bool} (hR2 : Rs w so2 l2) (hB2 : Rl w si2 bs2) (hs : ∀ s ∈ l, s.size ≤ 281474976710656) (hsd : sndS l bs = true) (hsd2 : sndS l2 bs2 = true) (heq : decide (l = l2) = true) : Calls Try.prog 20 #[.agg #[.slice so l.length ca, .slice si bs.length ci], .agg #[.slice so2 l2.length ca2, .slice si2 bs2.length ci2]] w fun e w' => ∃ so' ca' si' ci' bs', bs' = (l.map fun s => hasS l bs s && !hasS l2 bs2 s) ∧ e = .returned (.tuple #[.agg #[.slice so' l.length ca', .slice si' (bs' : List Bool).length ci'], .int .i64 0]) ∧ Mg w w' [.row 9 1 (.slice so' l.length ca') l.length (strC l), .row 4 1 (.slice si' bs'.length ci') bs'.length (boolC bs')] := (minus_ok hR hB hR2 hB2 hs hsd hsd2 heq).mono fun _ _ h => named (by simp) h
theorem comp_okN {w : World} {so si : Option Addr} {ca ci : Nat} {l : List ByteArray} {bs : List Bool} (hR : Rs w so l) (hB : Rl w si bs) (hs : ∀ s ∈ l, s.size ≤ 281474976710656) (hsd : sndS l bs = true) : Calls Try.prog 21 #[.agg #[.slice so l.length ca, .slice si bs.length ci]] w fun e w' => ∃ so' ca' si' ci' bs', bs' = (l.map fun s => !hasS l bs s) ∧ e = .returned (.tuple #[.agg #[.slice so' l.length ca', .slice si' (bs' : List Bool).length ci'], .int .i64 0]) ∧ Mg w w' [.row 9 1 (.slice so' l.length ca') l.length (strC l), .row 4 1 (.slice si' bs'.length ci') bs'.length (boolC bs')] := (comp_ok hR hB hs hsd).mono fun _ _ h => named (by simp) h
theorem proj_okN {w : World} {so si : Option Addr} {ca ci : Nat} {l : List ByteArray} {bs : List Bool} (hR : Rs w so l) (hB : Rl w si bs) {so2 si2 : Option Addr} {ca2 ci2 : Nat} {l2 : List ByteArray} {bs2 : List Bool} (hR2 : Rs w so2 l2) (hB2 : Rl w si2 bs2) (hs2 : ∀ s ∈ l2, s.size ≤ 281474976710656) (hsd : sndS l bs = true) (hsd2 : sndS l2 bs2 = true) : Calls Try.prog 23 #[.agg #[.slice so l.length ca, .slice si bs.length ci], .agg #[.slice so2 l2.length ca2, .slice si2 bs2.length ci2]] w fun e w' => ∃ so' ca' si' ci' bs', bs' = (l2.map (hasS l bs)) ∧ e = .returned (.tuple #[.agg #[.slice so' l2.length ca', .slice si' (bs' : List Bool).length ci'], .int .i64 0]) ∧ Mg w w' [.row 9 1 (.slice so' l2.length ca') l2.length (strC l2), .row 4 1 (.slice si' bs'.length ci') bs'.length (boolC bs')] := (proj_ok hR hB hR2 hB2 hs2 hsd hsd2).mono fun _ _ h => named (by simp) h
theorem new_okN {w : World} {so : Option Addr} {ca : Nat} {l : List ByteArray} (hR : Rs w so l) (hs : ∀ s ∈ l, s.size ≤ 281474976710656) (ht : twS l = false) (h64 : l.length ≤ 64) : Calls Try.prog 7 #[.slice so l.length ca] w fun e w' => ∃ so' ca' si' ci' bs', bs' = (l.map fun _ => true) ∧ e = .returned (.tuple #[.agg #[.slice so' l.length ca', .slice si' (bs' : List Bool).length ci'], .int .i64 0]) ∧ Mg w w' [.row 9 1 (.slice so' l.length ca') l.length (strC l), .row 4 1 (.slice si' bs'.length ci') bs'.length (boolC bs')] := (new_ok hR hs ht h64).mono fun _ _ h => named (by simp) h
theorem of_okN {w : World} {so si : Option Addr} {ca ci : Nat} {l : List ByteArray} {bs : List Bool} (hR : Rs w so l) (hB : Rl w si bs) {sy : Option Addr} {cy : Nat} {ys : List ByteArray} (hY : Rs w sy ys) (hly : ys.length ≤ 8796093021952) (hs : ∀ s ∈ l, s.size ≤ 281474976710656) (hsd : sndS l bs = true) (hany : (ys.any fun s => !decide (0 ≤ idxOfS l s)) = false) : Calls Try.prog 8 #[.agg #[.slice so l.length ca, .slice si bs.length ci], .slice sy ys.length cy] w fun e w' => ∃ so' ca' si' ci' bs', bs' = (l.map fun s => decide (0 ≤ idxOfS ys s)) ∧ e = .returned (.tuple #[.agg #[.slice so' l.length ca', .slice si' (bs' : List Bool).length ci'], .int .i64 0]) ∧ Mg w w' [.row 9 1 (.slice so' l.length ca') l.length (strC l), .row 4 1 (.slice si' bs'.length ci') bs'.length (boolC bs')] := (of_ok hR hB hY hly hs hsd hany).mono fun _ _ h => named (by simp) h
set_option maxHeartbeats 1000000 in
theorem sets_f1 {w : World} {so si : Option Addr} {ca ci : Nat} {l : List ByteArray} {bs : List Bool} (hR : Rs w so l) (hB : Rl w si bs) {so2 si2 : Option Addr} {ca2 ci2 : Nat} {l2 : List ByteArray} {bs2 : List Bool} (hR2 : Rs w so2 l2) (hB2 : Rl w si2 bs2) (hs : ∀ s ∈ l, s.size ≤ 281474976710656) (hs2 : ∀ s ∈ l2, s.size ≤ 281474976710656) (hsd : sndS l bs = false) : Calls Try.prog 4 #[.slice so l.length ca, .slice si bs.length ci, .slice so2 l2.length ca2, .slice si2 bs2.length ci2] w fun e w' => e = .returned (.bool true) ∧ Below w.heap.size w w' := by
 have hM : Mg w w ([]) := Mg.start w
 refine walk_of (l := [(0, .slice so l.length ca), (1, .slice si bs.length ci), (2, .slice so2 l2.length ca2), (3, .slice si2 bs2.length ci2)]) Try.func4 rfl Try.ntmps4 rfl rfl ?_
 intro Q hret hnorm hP a hA
 refine wp_seq_k (fun K1 hK1 => ?_)
 refine wp_region_lit ?_
 refine seq_do hA rfl rfl rfl (does_assign rfl) ?_
 intro a hA
 refine seq_end ?_
 refine hK1 _ _ ?_
 refine wp_seq_k (fun K2 hK2 => ?_)
 refine wp_region_lit ?_
 refine seq_do hA rfl rfl rfl (does_move rfl) ?_
 intro a hA
 refine seq_do hA rfl rfl rfl (does_move rfl) ?_
 intro a hA
 refine seq_do (v := .agg #[.slice so l.length ca, .slice si bs.length ci]) hA rfl rfl rfl (does_build rfl (fun w => by kernel_rfl)) ?_
 intro a hA
 refine seq_do hA rfl rfl rfl (does_move rfl) ?_
 intro a hA
 refine seq_do hA rfl rfl rfl (does_move rfl) ?_
 intro a hA
 refine seq_do (v := .agg #[.slice so2 l2.length ca2, .slice si2 bs2.length ci2]) hA rfl rfl rfl (does_build rfl (fun w => by kernel_rfl)) ?_
 intro a hA
 refine s_new (vs := [.slice none 0 0, .slice none 0 0]) (t := 25) hA hM rfl rfl rfl (fun g => .pointer (some ⟨g, 0, none⟩)) (does_alloc (z := .agg #[.slice none 0 0, .slice none 0 0]) (by kernel_rfl) rfl) (by decide) ?_
 intro g3 w4 hM a hA
 refine s_new (vs := [.slice none 0 0, .slice none 0 0]) (t := 25) hA hM rfl rfl rfl (fun g => .pointer (some ⟨g, 0, none⟩)) (does_alloc (z := .agg #[.slice none 0 0, .slice none 0 0]) (by kernel_rfl) rfl) (by decide) ?_
 intro g5 w6 hM a hA
 refine s_store (us := [.slice so l.length ca, .slice si bs.length ci]) (L' := (.obj g5 (.cells #[.slice none 0 0, .slice none 0 0] 25) :: .obj g3 (.cells #[.slice so l.length ca, .slice si bs.length ci] 25) :: [])) hA hM rfl rfl (m_store rfl rfl rfl (by kernel_rfl) hM 1 rfl rfl rfl) 1 rfl rfl rfl ?_
 intro w7 hM
 refine s_store (us := [.slice so2 l2.length ca2, .slice si2 bs2.length ci2]) (L' := (.obj g5 (.cells #[.slice so2 l2.length ca2, .slice si2 bs2.length ci2] 25) :: .obj g3 (.cells #[.slice so l.length ca, .slice si bs.length ci] 25) :: [])) hA hM rfl rfl (m_store rfl rfl rfl (by kernel_rfl) hM 0 rfl rfl rfl) 0 rfl rfl rfl ?_
 intro w8 hM
 refine seq_end ?_
 refine hK2 _ _ ?_
 refine wp_seq_k (fun K9 hK9 => ?_)
 refine wp_region_lit ?_
 refine seq_do hA rfl rfl rfl (m_loadS hM EnF_isS_25 rfl 1 rfl (cs := [.slice so l.length ca, .slice si bs.length ci]) rfl rfl) ?_
 intro a hA
 refine seq_do hA rfl rfl rfl (m_loadS hM EnF_isS_25 rfl 0 rfl (cs := [.slice so2 l2.length ca2, .slice si2 bs2.length ci2]) rfl rfl) ?_
 intro a hA
 refine seq_call hA rfl rfl rfl (enters_func rfl rfl (fun w => by kernel_rfl)) (union_form1 (hR.below hM.bel) (hB.below hM.bel) (hR2.below hM.bel) (hB2.below hM.bel) hsd) ?_
 rintro _ w11 ⟨rfl, hb10⟩
 replace hM := hM.call hb10
 refine ⟨_, rfl, ?_⟩
 intro a hA
 refine seq_do hA rfl rfl rfl (does_move rfl) ?_
 intro a hA
 refine seq_do (v := .agg #[.slice none 0 0, .slice none 0 0]) hA rfl rfl rfl (does_extract (vs := [.agg #[.slice none 0 0, .slice none 0 0], .int .i64 2]) rfl rfl) ?_
 intro a hA
 refine seq_do (v := .int .i64 2) hA rfl rfl rfl (does_extract (vs := [.agg #[.slice none 0 0, .slice none 0 0], .int .i64 2]) rfl rfl) ?_
 intro a hA
 refine s_new (vs := [.slice none 0 0, .slice none 0 0]) (t := 25) hA hM rfl rfl rfl (fun g => .pointer (some ⟨g, 0, none⟩)) (does_alloc (z := .agg #[.slice none 0 0, .slice none 0 0]) (by kernel_rfl) rfl) (by decide) ?_
 intro g12 w13 hM a hA
 refine s_store (us := [.slice none 0 0, .slice none 0 0]) (L' := (.obj g12 (.cells #[.slice none 0 0, .slice none 0 0] 25) :: .obj g5 (.cells #[.slice so2 l2.length ca2, .slice si2 bs2.length ci2] 25) :: .obj g3 (.cells #[.slice so l.length ca, .slice si bs.length ci] 25) :: [])) hA hM rfl rfl (m_store rfl rfl rfl (by kernel_rfl) hM 0 rfl rfl rfl) 0 rfl rfl rfl ?_
 intro w14 hM
 refine seq_do hA rfl rfl rfl (does_assign rfl) ?_
 intro a hA
 refine seq_end ?_
 refine hK9 _ _ ?_
 refine wp_seq_k (fun K15 hK15 => ?_)
 refine wp_region_lit ?_
 refine seq_do hA rfl rfl rfl (m_loadS hM EnF_isS_25 rfl 2 rfl (cs := [.slice so l.length ca, .slice si bs.length ci]) rfl rfl) ?_
 intro a hA
 refine seq_do hA rfl rfl rfl (m_loadS hM EnF_isS_25 rfl 1 rfl (cs := [.slice so2 l2.length ca2, .slice si2 bs2.length ci2]) rfl rfl) ?_
 intro a hA
 refine seq_call hA rfl rfl rfl (enters_func rfl rfl (fun w => by kernel_rfl)) (meet_form1 (hR.below hM.bel) (hB.below hM.bel) (hR2.below hM.bel) (hB2.below hM.bel) hsd) ?_
 rintro _ w17 ⟨rfl, hb16⟩
 replace hM := hM.call hb16
 refine ⟨_, rfl, ?_⟩
 intro a hA
 refine seq_do hA rfl rfl rfl (does_move rfl) ?_
 intro a hA
 refine seq_do (v := .agg #[.slice none 0 0, .slice none 0 0]) hA rfl rfl rfl (does_extract (vs := [.agg #[.slice none 0 0, .slice none 0 0], .int .i64 2]) rfl rfl) ?_
 intro a hA
 refine seq_do (v := .int .i64 2) hA rfl rfl rfl (does_extract (vs := [.agg #[.slice none 0 0, .slice none 0 0], .int .i64 2]) rfl rfl) ?_
 intro a hA
 refine s_new (vs := [.slice none 0 0, .slice none 0 0]) (t := 25) hA hM rfl rfl rfl (fun g => .pointer (some ⟨g, 0, none⟩)) (does_alloc (z := .agg #[.slice none 0 0, .slice none 0 0]) (by kernel_rfl) rfl) (by decide) ?_
 intro g18 w19 hM a hA
 refine s_store (us := [.slice none 0 0, .slice none 0 0]) (L' := (.obj g18 (.cells #[.slice none 0 0, .slice none 0 0] 25) :: .obj g12 (.cells #[.slice none 0 0, .slice none 0 0] 25) :: .obj g5 (.cells #[.slice so2 l2.length ca2, .slice si2 bs2.length ci2] 25) :: .obj g3 (.cells #[.slice so l.length ca, .slice si bs.length ci] 25) :: [])) hA hM rfl rfl (m_store rfl rfl rfl (by kernel_rfl) hM 0 rfl rfl rfl) 0 rfl rfl rfl ?_
 intro w20 hM
 refine seq_do hA rfl rfl rfl (does_assign rfl) ?_
 intro a hA
 refine seq_end ?_
 refine hK15 _ _ ?_
 refine wp_seq_k (fun K21 hK21 => ?_)
 refine wp_region_lit ?_
 refine seq_do hA rfl rfl rfl (m_loadS hM EnF_isS_25 rfl 3 rfl (cs := [.slice so l.length ca, .slice si bs.length ci]) rfl rfl) ?_
 intro a hA
 refine seq_do hA rfl rfl rfl (m_loadS hM EnF_isS_25 rfl 2 rfl (cs := [.slice so2 l2.length ca2, .slice si2 bs2.length ci2]) rfl rfl) ?_
 intro a hA
 refine seq_call hA rfl rfl rfl (enters_func rfl rfl (fun w => by kernel_rfl)) (minus_form1 (hR.below hM.bel) (hB.below hM.bel) (hR2.below hM.bel) (hB2.below hM.bel) hsd) ?_
 rintro _ w23 ⟨rfl, hb22⟩
 replace hM := hM.call hb22
 refine ⟨_, rfl, ?_⟩
 intro a hA
 refine seq_do hA rfl rfl rfl (does_move rfl) ?_
 intro a hA
 refine seq_do (v := .agg #[.slice none 0 0, .slice none 0 0]) hA rfl rfl rfl (does_extract (vs := [.agg #[.slice none 0 0, .slice none 0 0], .int .i64 2]) rfl rfl) ?_
 intro a hA
 refine seq_do (v := .int .i64 2) hA rfl rfl rfl (does_extract (vs := [.agg #[.slice none 0 0, .slice none 0 0], .int .i64 2]) rfl rfl) ?_
 intro a hA
 refine s_new (vs := [.slice none 0 0, .slice none 0 0]) (t := 25) hA hM rfl rfl rfl (fun g => .pointer (some ⟨g, 0, none⟩)) (does_alloc (z := .agg #[.slice none 0 0, .slice none 0 0]) (by kernel_rfl) rfl) (by decide) ?_
 intro g24 w25 hM a hA
 refine s_store (us := [.slice none 0 0, .slice none 0 0]) (L' := (.obj g24 (.cells #[.slice none 0 0, .slice none 0 0] 25) :: .obj g18 (.cells #[.slice none 0 0, .slice none 0 0] 25) :: .obj g12 (.cells #[.slice none 0 0, .slice none 0 0] 25) :: .obj g5 (.cells #[.slice so2 l2.length ca2, .slice si2 bs2.length ci2] 25) :: .obj g3 (.cells #[.slice so l.length ca, .slice si bs.length ci] 25) :: [])) hA hM rfl rfl (m_store rfl rfl rfl (by kernel_rfl) hM 0 rfl rfl rfl) 0 rfl rfl rfl ?_
 intro w26 hM
 refine seq_do hA rfl rfl rfl (does_assign rfl) ?_
 intro a hA
 refine seq_end ?_
 refine hK21 _ _ ?_
 refine wp_seq_k (fun K27 hK27 => ?_)
 refine wp_region_lit ?_
 refine seq_do hA rfl rfl rfl (m_loadS hM EnF_isS_25 rfl 4 rfl (cs := [.slice so l.length ca, .slice si bs.length ci]) rfl rfl) ?_
 intro a hA
 refine seq_call hA rfl rfl rfl (enters_func rfl rfl (fun w => by kernel_rfl)) (comp_form (hR.below hM.bel) (hB.below hM.bel) hsd) ?_
 rintro _ w29 ⟨rfl, hb28⟩
 replace hM := hM.call hb28
 refine ⟨_, rfl, ?_⟩
 intro a hA
 refine seq_do hA rfl rfl rfl (does_move rfl) ?_
 intro a hA
 refine seq_do (v := .agg #[.slice none 0 0, .slice none 0 0]) hA rfl rfl rfl (does_extract (vs := [.agg #[.slice none 0 0, .slice none 0 0], .int .i64 2]) rfl rfl) ?_
 intro a hA
 refine seq_do (v := .int .i64 2) hA rfl rfl rfl (does_extract (vs := [.agg #[.slice none 0 0, .slice none 0 0], .int .i64 2]) rfl rfl) ?_
 intro a hA
 refine s_new (vs := [.slice none 0 0, .slice none 0 0]) (t := 25) hA hM rfl rfl rfl (fun g => .pointer (some ⟨g, 0, none⟩)) (does_alloc (z := .agg #[.slice none 0 0, .slice none 0 0]) (by kernel_rfl) rfl) (by decide) ?_
 intro g30 w31 hM a hA
 refine s_store (us := [.slice none 0 0, .slice none 0 0]) (L' := (.obj g30 (.cells #[.slice none 0 0, .slice none 0 0] 25) :: .obj g24 (.cells #[.slice none 0 0, .slice none 0 0] 25) :: .obj g18 (.cells #[.slice none 0 0, .slice none 0 0] 25) :: .obj g12 (.cells #[.slice none 0 0, .slice none 0 0] 25) :: .obj g5 (.cells #[.slice so2 l2.length ca2, .slice si2 bs2.length ci2] 25) :: .obj g3 (.cells #[.slice so l.length ca, .slice si bs.length ci] 25) :: [])) hA hM rfl rfl (m_store rfl rfl rfl (by kernel_rfl) hM 0 rfl rfl rfl) 0 rfl rfl rfl ?_
 intro w32 hM
 refine seq_do hA rfl rfl rfl (does_assign rfl) ?_
 intro a hA
 refine seq_end ?_
 refine hK27 _ _ ?_
 refine wp_seq_k (fun K33 hK33 => ?_)
 refine wp_region_lit ?_
 refine seq_do hA rfl rfl rfl (m_loadS hM EnF_isS_25 rfl 5 rfl (cs := [.slice so l.length ca, .slice si bs.length ci]) rfl rfl) ?_
 intro a hA
 refine seq_do hA rfl rfl rfl (m_loadS hM EnF_isS_25 rfl 4 rfl (cs := [.slice so2 l2.length ca2, .slice si2 bs2.length ci2]) rfl rfl) ?_
 intro a hA
 refine seq_call hA rfl rfl rfl (enters_func rfl rfl (fun w => by kernel_rfl)) (sub_form1 (hR.below hM.bel) (hB.below hM.bel) (hR2.below hM.bel) (hB2.below hM.bel) hsd) ?_
 rintro _ w35 ⟨rfl, hb34⟩
 replace hM := hM.call hb34
 refine ⟨_, rfl, ?_⟩
 intro a hA
 refine seq_do hA rfl rfl rfl (does_move rfl) ?_
 intro a hA
 refine seq_do (v := .bool false) hA rfl rfl rfl (does_extract (vs := [.bool false, .int .i64 2]) rfl rfl) ?_
 intro a hA
 refine seq_do (v := .int .i64 2) hA rfl rfl rfl (does_extract (vs := [.bool false, .int .i64 2]) rfl rfl) ?_
 intro a hA
 refine seq_do hA rfl rfl rfl (does_assign rfl) ?_
 intro a hA
 refine seq_do hA rfl rfl rfl (does_assign rfl) ?_
 intro a hA
 refine seq_end ?_
 refine hK33 _ _ ?_
 refine wp_seq_k (fun K36 hK36 => ?_)
 refine wp_region_lit ?_
 refine seq_do hA rfl rfl rfl (m_loadS hM EnF_isS_25 rfl 5 rfl (cs := [.slice so l.length ca, .slice si bs.length ci]) rfl rfl) ?_
 intro a hA
 refine seq_do hA rfl rfl rfl (m_loadS hM EnF_isS_25 rfl 4 rfl (cs := [.slice so2 l2.length ca2, .slice si2 bs2.length ci2]) rfl rfl) ?_
 intro a hA
 refine seq_call hA rfl rfl rfl (enters_func rfl rfl (fun w => by kernel_rfl)) (proj_form1 (hR.below hM.bel) (hB.below hM.bel) (hR2.below hM.bel) (hB2.below hM.bel) hsd) ?_
 rintro _ w38 ⟨rfl, hb37⟩
 replace hM := hM.call hb37
 refine ⟨_, rfl, ?_⟩
 intro a hA
 refine seq_do hA rfl rfl rfl (does_move rfl) ?_
 intro a hA
 refine seq_do (v := .agg #[.slice none 0 0, .slice none 0 0]) hA rfl rfl rfl (does_extract (vs := [.agg #[.slice none 0 0, .slice none 0 0], .int .i64 2]) rfl rfl) ?_
 intro a hA
 refine seq_do (v := .int .i64 2) hA rfl rfl rfl (does_extract (vs := [.agg #[.slice none 0 0, .slice none 0 0], .int .i64 2]) rfl rfl) ?_
 intro a hA
 refine s_new (vs := [.slice none 0 0, .slice none 0 0]) (t := 25) hA hM rfl rfl rfl (fun g => .pointer (some ⟨g, 0, none⟩)) (does_alloc (z := .agg #[.slice none 0 0, .slice none 0 0]) (by kernel_rfl) rfl) (by decide) ?_
 intro g39 w40 hM a hA
 refine s_store (us := [.slice none 0 0, .slice none 0 0]) (L' := (.obj g39 (.cells #[.slice none 0 0, .slice none 0 0] 25) :: .obj g30 (.cells #[.slice none 0 0, .slice none 0 0] 25) :: .obj g24 (.cells #[.slice none 0 0, .slice none 0 0] 25) :: .obj g18 (.cells #[.slice none 0 0, .slice none 0 0] 25) :: .obj g12 (.cells #[.slice none 0 0, .slice none 0 0] 25) :: .obj g5 (.cells #[.slice so2 l2.length ca2, .slice si2 bs2.length ci2] 25) :: .obj g3 (.cells #[.slice so l.length ca, .slice si bs.length ci] 25) :: [])) hA hM rfl rfl (m_store rfl rfl rfl (by kernel_rfl) hM 0 rfl rfl rfl) 0 rfl rfl rfl ?_
 intro w41 hM
 refine seq_do hA rfl rfl rfl (does_assign rfl) ?_
 intro a hA
 refine seq_end ?_
 refine hK36 _ _ ?_
 refine wp_seq_k (fun K42 hK42 => ?_)
 refine wp_seq_k (fun K43 hK43 => ?_)
 refine wp_region_lit ?_
 refine seq_call hA rfl rfl rfl (enters_func rfl rfl (fun w => by kernel_rfl)) (awake_any) ?_
 rintro _ w45 ⟨rfl, hb44⟩
 replace hM := hM.call hb44
 refine ⟨_, rfl, ?_⟩
 intro a hA
 refine seq_do (v := .bool false) hA rfl rfl rfl (does_un rfl un_not) ?_
 intro a hA
 refine seq_end ?_
 refine hK43 _ _ ?_
 refine wp_cond_false (hA.ev rfl) ?_
 refine wp_skip ?_
 refine hK42 _ _ ?_
 refine wp_seq_k (fun K46 hK46 => ?_)
 refine wp_seq_k (fun K47 hK47 => ?_)
 refine wp_region_lit ?_
 refine seq_do hA rfl rfl rfl (does_move rfl) ?_
 intro a hA
 refine seq_do hA rfl rfl rfl (does_move rfl) ?_
 intro a hA
 refine seq_call hA rfl rfl rfl (enters_func rfl rfl (fun w => by kernel_rfl)) (rsound_as (hR.below hM.bel) (hB.below hM.bel) hsd) ?_
 rintro _ w49 ⟨rfl, hb48⟩
 replace hM := hM.call hb48
 refine ⟨_, rfl, ?_⟩
 intro a hA
 refine seq_do (v := .bool true) hA rfl rfl rfl (does_un rfl un_not) ?_
 intro a hA
 refine seq_do hA rfl rfl rfl (does_move rfl) ?_
 intro a hA
 refine seq_skip hA rfl rfl rfl ?_
 intro a hA
 refine seq_skip hA rfl rfl rfl ?_
 intro a hA
 refine seq_skip hA rfl rfl rfl ?_
 intro a hA
 refine seq_skip hA rfl rfl rfl ?_
 intro a hA
 refine seq_do (v := .bool true) hA rfl rfl rfl (does_pick rfl rfl rfl rfl) ?_
 intro a hA
 refine seq_end ?_
 refine hK47 _ _ ?_
 refine wp_cond_true (hA.ev rfl) ?_
 refine wp_seq_k (fun K50 hK50 => ?_)
 refine wp_region_lit ?_
 refine seq_do hA rfl rfl rfl (does_move rfl) ?_
 intro a hA
 refine seq_do (v := .bool true) hA rfl rfl rfl (does_bin rfl rfl (fun w => by kernel_rfl)) ?_
 intro a hA
 refine seq_do hA rfl rfl rfl (does_move rfl) ?_
 intro a hA
 refine seq_do hA rfl rfl rfl (does_move rfl) ?_
 intro a hA
 refine seq_do (v := .bool true) hA rfl rfl rfl (does_bin rfl rfl (fun w => by kernel_rfl)) ?_
 intro a hA
 refine seq_do (v := .bool true) hA rfl rfl rfl (does_pick rfl rfl rfl rfl) ?_
 intro a hA
 refine seq_do hA rfl rfl rfl (does_move rfl) ?_
 intro a hA
 refine seq_do hA rfl rfl rfl (does_move rfl) ?_
 intro a hA
 refine seq_do (v := .bool true) hA rfl rfl rfl (does_bin rfl rfl (fun w => by kernel_rfl)) ?_
 intro a hA
 refine seq_do (v := .bool true) hA rfl rfl rfl (does_pick rfl rfl rfl rfl) ?_
 intro a hA
 refine seq_do hA rfl rfl rfl (does_move rfl) ?_
 intro a hA
 refine seq_do hA rfl rfl rfl (does_move rfl) ?_
 intro a hA
 refine seq_do (v := .bool true) hA rfl rfl rfl (does_bin rfl rfl (fun w => by kernel_rfl)) ?_
 intro a hA
 refine seq_do (v := .bool true) hA rfl rfl rfl (does_pick rfl rfl rfl rfl) ?_
 intro a hA
 refine seq_do hA rfl rfl rfl (does_move rfl) ?_
 intro a hA
 refine seq_do hA rfl rfl rfl (does_move rfl) ?_
 intro a hA
 refine seq_do (v := .bool true) hA rfl rfl rfl (does_bin rfl rfl (fun w => by kernel_rfl)) ?_
 intro a hA
 refine seq_do (v := .bool true) hA rfl rfl rfl (does_pick rfl rfl rfl rfl) ?_
 intro a hA
 refine seq_do hA rfl rfl rfl (does_move rfl) ?_
 intro a hA
 refine seq_do hA rfl rfl rfl (does_move rfl) ?_
 intro a hA
 refine seq_do (v := .bool true) hA rfl rfl rfl (does_un rfl un_not) ?_
 intro a hA
 refine seq_do (v := .bool true) hA rfl rfl rfl (does_pick rfl rfl rfl rfl) ?_
 intro a hA
 refine seq_do hA rfl rfl rfl (does_move rfl) ?_
 intro a hA
 refine seq_do hA rfl rfl rfl (does_move rfl) ?_
 intro a hA
 refine seq_do (v := .bool true) hA rfl rfl rfl (does_bin rfl rfl (fun w => by kernel_rfl)) ?_
 intro a hA
 refine seq_do hA rfl rfl rfl (does_move rfl) ?_
 intro a hA
 refine seq_do hA rfl rfl rfl (does_move rfl) ?_
 intro a hA
 refine seq_call hA rfl rfl rfl (enters_func rfl rfl (fun w => by kernel_rfl)) (rsound_as (hR.below hM.bel) (hB.below hM.bel) hsd) ?_
 rintro _ w52 ⟨rfl, hb51⟩
 replace hM := hM.call hb51
 refine ⟨_, rfl, ?_⟩
 intro a hA
 refine seq_do (v := .bool true) hA rfl rfl rfl (does_un rfl un_not) ?_
 intro a hA
 refine seq_do (v := .bool true) hA rfl rfl rfl (does_bin rfl rfl (bin_eqlB Try.underlying4)) ?_
 intro a hA
 refine seq_do (v := .bool true) hA rfl rfl rfl (does_pick rfl rfl rfl rfl) ?_
 intro a hA
 refine seq_do hA rfl rfl rfl (does_assign rfl) ?_
 intro a hA
 refine seq_end ?_
 refine hK50 _ _ ?_
 refine wp_ret ?_
 refine hret _ _ ?_
 refine ends (v := .bool true) hA rfl (.cons (res_tmp rfl) .nil) rfl ?_
 exact ⟨rfl, hM.bel⟩
set_option maxHeartbeats 1000000 in
theorem sets_f2 {w : World} {so si : Option Addr} {ca ci : Nat} {l : List ByteArray} {bs : List Bool} (hR : Rs w so l) (hB : Rl w si bs) {so2 si2 : Option Addr} {ca2 ci2 : Nat} {l2 : List ByteArray} {bs2 : List Bool} (hR2 : Rs w so2 l2) (hB2 : Rl w si2 bs2) (hs : ∀ s ∈ l, s.size ≤ 281474976710656) (hs2 : ∀ s ∈ l2, s.size ≤ 281474976710656) (hsd : sndS l bs = true) (hsd2 : sndS l2 bs2 = false) : Calls Try.prog 4 #[.slice so l.length ca, .slice si bs.length ci, .slice so2 l2.length ca2, .slice si2 bs2.length ci2] w fun e w' => e = .returned (.bool true) ∧ Below w.heap.size w w' := by
 have hl : l.length ≤ 8796093021952 := by have := (snd_le hsd).1; omega
 have hM : Mg w w ([]) := Mg.start w
 refine walk_of (l := [(0, .slice so l.length ca), (1, .slice si bs.length ci), (2, .slice so2 l2.length ca2), (3, .slice si2 bs2.length ci2)]) Try.func4 rfl Try.ntmps4 rfl rfl ?_
 intro Q hret hnorm hP a hA
 refine wp_seq_k (fun K1 hK1 => ?_)
 refine wp_region_lit ?_
 refine seq_do hA rfl rfl rfl (does_assign rfl) ?_
 intro a hA
 refine seq_end ?_
 refine hK1 _ _ ?_
 refine wp_seq_k (fun K2 hK2 => ?_)
 refine wp_region_lit ?_
 refine seq_do hA rfl rfl rfl (does_move rfl) ?_
 intro a hA
 refine seq_do hA rfl rfl rfl (does_move rfl) ?_
 intro a hA
 refine seq_do (v := .agg #[.slice so l.length ca, .slice si bs.length ci]) hA rfl rfl rfl (does_build rfl (fun w => by kernel_rfl)) ?_
 intro a hA
 refine seq_do hA rfl rfl rfl (does_move rfl) ?_
 intro a hA
 refine seq_do hA rfl rfl rfl (does_move rfl) ?_
 intro a hA
 refine seq_do (v := .agg #[.slice so2 l2.length ca2, .slice si2 bs2.length ci2]) hA rfl rfl rfl (does_build rfl (fun w => by kernel_rfl)) ?_
 intro a hA
 refine s_new (vs := [.slice none 0 0, .slice none 0 0]) (t := 25) hA hM rfl rfl rfl (fun g => .pointer (some ⟨g, 0, none⟩)) (does_alloc (z := .agg #[.slice none 0 0, .slice none 0 0]) (by kernel_rfl) rfl) (by decide) ?_
 intro g3 w4 hM a hA
 refine s_new (vs := [.slice none 0 0, .slice none 0 0]) (t := 25) hA hM rfl rfl rfl (fun g => .pointer (some ⟨g, 0, none⟩)) (does_alloc (z := .agg #[.slice none 0 0, .slice none 0 0]) (by kernel_rfl) rfl) (by decide) ?_
 intro g5 w6 hM a hA
 refine s_store (us := [.slice so l.length ca, .slice si bs.length ci]) (L' := (.obj g5 (.cells #[.slice none 0 0, .slice none 0 0] 25) :: .obj g3 (.cells #[.slice so l.length ca, .slice si bs.length ci] 25) :: [])) hA hM rfl rfl (m_store rfl rfl rfl (by kernel_rfl) hM 1 rfl rfl rfl) 1 rfl rfl rfl ?_
 intro w7 hM
 refine s_store (us := [.slice so2 l2.length ca2, .slice si2 bs2.length ci2]) (L' := (.obj g5 (.cells #[.slice so2 l2.length ca2, .slice si2 bs2.length ci2] 25) :: .obj g3 (.cells #[.slice so l.length ca, .slice si bs.length ci] 25) :: [])) hA hM rfl rfl (m_store rfl rfl rfl (by kernel_rfl) hM 0 rfl rfl rfl) 0 rfl rfl rfl ?_
 intro w8 hM
 refine seq_end ?_
 refine hK2 _ _ ?_
 refine wp_seq_k (fun K9 hK9 => ?_)
 refine wp_region_lit ?_
 refine seq_do hA rfl rfl rfl (m_loadS hM EnF_isS_25 rfl 1 rfl (cs := [.slice so l.length ca, .slice si bs.length ci]) rfl rfl) ?_
 intro a hA
 refine seq_do hA rfl rfl rfl (m_loadS hM EnF_isS_25 rfl 0 rfl (cs := [.slice so2 l2.length ca2, .slice si2 bs2.length ci2]) rfl rfl) ?_
 intro a hA
 refine seq_call hA rfl rfl rfl (enters_func rfl rfl (fun w => by kernel_rfl)) (union_form2 (hR.below hM.bel) (hB.below hM.bel) (hR2.below hM.bel) (hB2.below hM.bel) hsd hsd2) ?_
 rintro _ w11 ⟨rfl, hb10⟩
 replace hM := hM.call hb10
 refine ⟨_, rfl, ?_⟩
 intro a hA
 refine seq_do hA rfl rfl rfl (does_move rfl) ?_
 intro a hA
 refine seq_do (v := .agg #[.slice none 0 0, .slice none 0 0]) hA rfl rfl rfl (does_extract (vs := [.agg #[.slice none 0 0, .slice none 0 0], .int .i64 2]) rfl rfl) ?_
 intro a hA
 refine seq_do (v := .int .i64 2) hA rfl rfl rfl (does_extract (vs := [.agg #[.slice none 0 0, .slice none 0 0], .int .i64 2]) rfl rfl) ?_
 intro a hA
 refine s_new (vs := [.slice none 0 0, .slice none 0 0]) (t := 25) hA hM rfl rfl rfl (fun g => .pointer (some ⟨g, 0, none⟩)) (does_alloc (z := .agg #[.slice none 0 0, .slice none 0 0]) (by kernel_rfl) rfl) (by decide) ?_
 intro g12 w13 hM a hA
 refine s_store (us := [.slice none 0 0, .slice none 0 0]) (L' := (.obj g12 (.cells #[.slice none 0 0, .slice none 0 0] 25) :: .obj g5 (.cells #[.slice so2 l2.length ca2, .slice si2 bs2.length ci2] 25) :: .obj g3 (.cells #[.slice so l.length ca, .slice si bs.length ci] 25) :: [])) hA hM rfl rfl (m_store rfl rfl rfl (by kernel_rfl) hM 0 rfl rfl rfl) 0 rfl rfl rfl ?_
 intro w14 hM
 refine seq_do hA rfl rfl rfl (does_assign rfl) ?_
 intro a hA
 refine seq_end ?_
 refine hK9 _ _ ?_
 refine wp_seq_k (fun K15 hK15 => ?_)
 refine wp_region_lit ?_
 refine seq_do hA rfl rfl rfl (m_loadS hM EnF_isS_25 rfl 2 rfl (cs := [.slice so l.length ca, .slice si bs.length ci]) rfl rfl) ?_
 intro a hA
 refine seq_do hA rfl rfl rfl (m_loadS hM EnF_isS_25 rfl 1 rfl (cs := [.slice so2 l2.length ca2, .slice si2 bs2.length ci2]) rfl rfl) ?_
 intro a hA
 refine seq_call hA rfl rfl rfl (enters_func rfl rfl (fun w => by kernel_rfl)) (meet_form2 (hR.below hM.bel) (hB.below hM.bel) (hR2.below hM.bel) (hB2.below hM.bel) hsd hsd2) ?_
 rintro _ w17 ⟨rfl, hb16⟩
 replace hM := hM.call hb16
 refine ⟨_, rfl, ?_⟩
 intro a hA
 refine seq_do hA rfl rfl rfl (does_move rfl) ?_
 intro a hA
 refine seq_do (v := .agg #[.slice none 0 0, .slice none 0 0]) hA rfl rfl rfl (does_extract (vs := [.agg #[.slice none 0 0, .slice none 0 0], .int .i64 2]) rfl rfl) ?_
 intro a hA
 refine seq_do (v := .int .i64 2) hA rfl rfl rfl (does_extract (vs := [.agg #[.slice none 0 0, .slice none 0 0], .int .i64 2]) rfl rfl) ?_
 intro a hA
 refine s_new (vs := [.slice none 0 0, .slice none 0 0]) (t := 25) hA hM rfl rfl rfl (fun g => .pointer (some ⟨g, 0, none⟩)) (does_alloc (z := .agg #[.slice none 0 0, .slice none 0 0]) (by kernel_rfl) rfl) (by decide) ?_
 intro g18 w19 hM a hA
 refine s_store (us := [.slice none 0 0, .slice none 0 0]) (L' := (.obj g18 (.cells #[.slice none 0 0, .slice none 0 0] 25) :: .obj g12 (.cells #[.slice none 0 0, .slice none 0 0] 25) :: .obj g5 (.cells #[.slice so2 l2.length ca2, .slice si2 bs2.length ci2] 25) :: .obj g3 (.cells #[.slice so l.length ca, .slice si bs.length ci] 25) :: [])) hA hM rfl rfl (m_store rfl rfl rfl (by kernel_rfl) hM 0 rfl rfl rfl) 0 rfl rfl rfl ?_
 intro w20 hM
 refine seq_do hA rfl rfl rfl (does_assign rfl) ?_
 intro a hA
 refine seq_end ?_
 refine hK15 _ _ ?_
 refine wp_seq_k (fun K21 hK21 => ?_)
 refine wp_region_lit ?_
 refine seq_do hA rfl rfl rfl (m_loadS hM EnF_isS_25 rfl 3 rfl (cs := [.slice so l.length ca, .slice si bs.length ci]) rfl rfl) ?_
 intro a hA
 refine seq_do hA rfl rfl rfl (m_loadS hM EnF_isS_25 rfl 2 rfl (cs := [.slice so2 l2.length ca2, .slice si2 bs2.length ci2]) rfl rfl) ?_
 intro a hA
 refine seq_call hA rfl rfl rfl (enters_func rfl rfl (fun w => by kernel_rfl)) (minus_form2 (hR.below hM.bel) (hB.below hM.bel) (hR2.below hM.bel) (hB2.below hM.bel) hsd hsd2) ?_
 rintro _ w23 ⟨rfl, hb22⟩
 replace hM := hM.call hb22
 refine ⟨_, rfl, ?_⟩
 intro a hA
 refine seq_do hA rfl rfl rfl (does_move rfl) ?_
 intro a hA
 refine seq_do (v := .agg #[.slice none 0 0, .slice none 0 0]) hA rfl rfl rfl (does_extract (vs := [.agg #[.slice none 0 0, .slice none 0 0], .int .i64 2]) rfl rfl) ?_
 intro a hA
 refine seq_do (v := .int .i64 2) hA rfl rfl rfl (does_extract (vs := [.agg #[.slice none 0 0, .slice none 0 0], .int .i64 2]) rfl rfl) ?_
 intro a hA
 refine s_new (vs := [.slice none 0 0, .slice none 0 0]) (t := 25) hA hM rfl rfl rfl (fun g => .pointer (some ⟨g, 0, none⟩)) (does_alloc (z := .agg #[.slice none 0 0, .slice none 0 0]) (by kernel_rfl) rfl) (by decide) ?_
 intro g24 w25 hM a hA
 refine s_store (us := [.slice none 0 0, .slice none 0 0]) (L' := (.obj g24 (.cells #[.slice none 0 0, .slice none 0 0] 25) :: .obj g18 (.cells #[.slice none 0 0, .slice none 0 0] 25) :: .obj g12 (.cells #[.slice none 0 0, .slice none 0 0] 25) :: .obj g5 (.cells #[.slice so2 l2.length ca2, .slice si2 bs2.length ci2] 25) :: .obj g3 (.cells #[.slice so l.length ca, .slice si bs.length ci] 25) :: [])) hA hM rfl rfl (m_store rfl rfl rfl (by kernel_rfl) hM 0 rfl rfl rfl) 0 rfl rfl rfl ?_
 intro w26 hM
 refine seq_do hA rfl rfl rfl (does_assign rfl) ?_
 intro a hA
 refine seq_end ?_
 refine hK21 _ _ ?_
 refine wp_seq_k (fun K27 hK27 => ?_)
 refine wp_region_lit ?_
 refine seq_do hA rfl rfl rfl (m_loadS hM EnF_isS_25 rfl 4 rfl (cs := [.slice so l.length ca, .slice si bs.length ci]) rfl rfl) ?_
 intro a hA
 refine seq_call hA rfl rfl rfl (enters_func rfl rfl (fun w => by kernel_rfl)) (comp_okN (hR.below hM.bel) (hB.below hM.bel) hs hsd) ?_
 rintro _ w35 ⟨so28, ca29, si30, ci31, q32, hq33, rfl, hM34⟩
 replace hM : Mg w w35 (.row 9 1 (.slice so28 l.length ca29) l.length (strC l) :: .row 4 1 (.slice si30 q32.length ci31) q32.length (boolC q32) :: .obj g24 (.cells #[.slice none 0 0, .slice none 0 0] 25) :: .obj g18 (.cells #[.slice none 0 0, .slice none 0 0] 25) :: .obj g12 (.cells #[.slice none 0 0, .slice none 0 0] 25) :: .obj g5 (.cells #[.slice so2 l2.length ca2, .slice si2 bs2.length ci2] 25) :: .obj g3 (.cells #[.slice so l.length ca, .slice si bs.length ci] 25) :: []) := (hM.both hM34 (noBld_cons (by simp) (noBld_cons (by simp) (noBld_cons (by simp) (noBld_cons (by simp) (noBld_cons (by simp) (noBld_quiet quietL_nil)))))) (noBld_cons (by simp) (noBld_cons (by simp) (noBld_quiet quietL_nil))))
 refine ⟨_, rfl, ?_⟩
 intro a hA
 refine seq_do hA rfl rfl rfl (does_move rfl) ?_
 intro a hA
 refine seq_do (v := .agg #[.slice so28 l.length ca29, .slice si30 q32.length ci31]) hA rfl rfl rfl (does_extract (vs := [.agg #[.slice so28 l.length ca29, .slice si30 q32.length ci31], .int .i64 0]) rfl rfl) ?_
 intro a hA
 refine seq_do (v := .int .i64 0) hA rfl rfl rfl (does_extract (vs := [.agg #[.slice so28 l.length ca29, .slice si30 q32.length ci31], .int .i64 0]) rfl rfl) ?_
 intro a hA
 refine s_new (vs := [.slice none 0 0, .slice none 0 0]) (t := 25) hA hM rfl rfl rfl (fun g => .pointer (some ⟨g, 0, none⟩)) (does_alloc (z := .agg #[.slice none 0 0, .slice none 0 0]) (by kernel_rfl) rfl) (by decide) ?_
 intro g36 w37 hM a hA
 refine s_store (us := [.slice so28 l.length ca29, .slice si30 q32.length ci31]) (L' := (.obj g36 (.cells #[.slice so28 l.length ca29, .slice si30 q32.length ci31] 25) :: .row 9 1 (.slice so28 l.length ca29) l.length (strC l) :: .row 4 1 (.slice si30 q32.length ci31) q32.length (boolC q32) :: .obj g24 (.cells #[.slice none 0 0, .slice none 0 0] 25) :: .obj g18 (.cells #[.slice none 0 0, .slice none 0 0] 25) :: .obj g12 (.cells #[.slice none 0 0, .slice none 0 0] 25) :: .obj g5 (.cells #[.slice so2 l2.length ca2, .slice si2 bs2.length ci2] 25) :: .obj g3 (.cells #[.slice so l.length ca, .slice si bs.length ci] 25) :: [])) hA hM rfl rfl (m_store rfl rfl rfl (by kernel_rfl) hM 0 rfl rfl rfl) 0 rfl rfl rfl ?_
 intro w38 hM
 refine seq_do hA rfl rfl rfl (does_assign rfl) ?_
 intro a hA
 refine seq_end ?_
 refine hK27 _ _ ?_
 refine wp_seq_k (fun K39 hK39 => ?_)
 refine wp_region_lit ?_
 refine seq_do hA rfl rfl rfl (m_loadS hM EnF_isS_25 rfl 7 rfl (cs := [.slice so l.length ca, .slice si bs.length ci]) rfl rfl) ?_
 intro a hA
 refine seq_do hA rfl rfl rfl (m_loadS hM EnF_isS_25 rfl 6 rfl (cs := [.slice so2 l2.length ca2, .slice si2 bs2.length ci2]) rfl rfl) ?_
 intro a hA
 refine seq_call hA rfl rfl rfl (enters_func rfl rfl (fun w => by kernel_rfl)) (sub_form2 (hR.below hM.bel) (hB.below hM.bel) (hR2.below hM.bel) (hB2.below hM.bel) hsd hsd2) ?_
 rintro _ w41 ⟨rfl, hb40⟩
 replace hM := hM.call hb40
 refine ⟨_, rfl, ?_⟩
 intro a hA
 refine seq_do hA rfl rfl rfl (does_move rfl) ?_
 intro a hA
 refine seq_do (v := .bool false) hA rfl rfl rfl (does_extract (vs := [.bool false, .int .i64 2]) rfl rfl) ?_
 intro a hA
 refine seq_do (v := .int .i64 2) hA rfl rfl rfl (does_extract (vs := [.bool false, .int .i64 2]) rfl rfl) ?_
 intro a hA
 refine seq_do hA rfl rfl rfl (does_assign rfl) ?_
 intro a hA
 refine seq_do hA rfl rfl rfl (does_assign rfl) ?_
 intro a hA
 refine seq_end ?_
 refine hK39 _ _ ?_
 refine wp_seq_k (fun K42 hK42 => ?_)
 refine wp_region_lit ?_
 refine seq_do hA rfl rfl rfl (m_loadS hM EnF_isS_25 rfl 7 rfl (cs := [.slice so l.length ca, .slice si bs.length ci]) rfl rfl) ?_
 intro a hA
 refine seq_do hA rfl rfl rfl (m_loadS hM EnF_isS_25 rfl 6 rfl (cs := [.slice so2 l2.length ca2, .slice si2 bs2.length ci2]) rfl rfl) ?_
 intro a hA
 refine seq_call hA rfl rfl rfl (enters_func rfl rfl (fun w => by kernel_rfl)) (proj_form2 (hR.below hM.bel) (hB.below hM.bel) (hR2.below hM.bel) (hB2.below hM.bel) hsd hsd2) ?_
 rintro _ w44 ⟨rfl, hb43⟩
 replace hM := hM.call hb43
 refine ⟨_, rfl, ?_⟩
 intro a hA
 refine seq_do hA rfl rfl rfl (does_move rfl) ?_
 intro a hA
 refine seq_do (v := .agg #[.slice none 0 0, .slice none 0 0]) hA rfl rfl rfl (does_extract (vs := [.agg #[.slice none 0 0, .slice none 0 0], .int .i64 2]) rfl rfl) ?_
 intro a hA
 refine seq_do (v := .int .i64 2) hA rfl rfl rfl (does_extract (vs := [.agg #[.slice none 0 0, .slice none 0 0], .int .i64 2]) rfl rfl) ?_
 intro a hA
 refine s_new (vs := [.slice none 0 0, .slice none 0 0]) (t := 25) hA hM rfl rfl rfl (fun g => .pointer (some ⟨g, 0, none⟩)) (does_alloc (z := .agg #[.slice none 0 0, .slice none 0 0]) (by kernel_rfl) rfl) (by decide) ?_
 intro g45 w46 hM a hA
 refine s_store (us := [.slice none 0 0, .slice none 0 0]) (L' := (.obj g45 (.cells #[.slice none 0 0, .slice none 0 0] 25) :: .obj g36 (.cells #[.slice so28 l.length ca29, .slice si30 q32.length ci31] 25) :: .row 9 1 (.slice so28 l.length ca29) l.length (strC l) :: .row 4 1 (.slice si30 q32.length ci31) q32.length (boolC q32) :: .obj g24 (.cells #[.slice none 0 0, .slice none 0 0] 25) :: .obj g18 (.cells #[.slice none 0 0, .slice none 0 0] 25) :: .obj g12 (.cells #[.slice none 0 0, .slice none 0 0] 25) :: .obj g5 (.cells #[.slice so2 l2.length ca2, .slice si2 bs2.length ci2] 25) :: .obj g3 (.cells #[.slice so l.length ca, .slice si bs.length ci] 25) :: [])) hA hM rfl rfl (m_store rfl rfl rfl (by kernel_rfl) hM 0 rfl rfl rfl) 0 rfl rfl rfl ?_
 intro w47 hM
 refine seq_do hA rfl rfl rfl (does_assign rfl) ?_
 intro a hA
 refine seq_end ?_
 refine hK42 _ _ ?_
 refine wp_seq_k (fun K48 hK48 => ?_)
 refine wp_seq_k (fun K49 hK49 => ?_)
 refine wp_region_lit ?_
 refine seq_call hA rfl rfl rfl (enters_func rfl rfl (fun w => by kernel_rfl)) (awake_any) ?_
 rintro _ w51 ⟨rfl, hb50⟩
 replace hM := hM.call hb50
 refine ⟨_, rfl, ?_⟩
 intro a hA
 refine seq_do (v := .bool false) hA rfl rfl rfl (does_un rfl un_not) ?_
 intro a hA
 refine seq_end ?_
 refine hK49 _ _ ?_
 refine wp_cond_false (hA.ev rfl) ?_
 refine wp_skip ?_
 refine hK48 _ _ ?_
 refine wp_seq_k (fun K52 hK52 => ?_)
 refine wp_seq_k (fun K53 hK53 => ?_)
 refine wp_region_lit ?_
 refine seq_do hA rfl rfl rfl (does_move rfl) ?_
 intro a hA
 refine seq_do hA rfl rfl rfl (does_move rfl) ?_
 intro a hA
 refine seq_call hA rfl rfl rfl (enters_func rfl rfl (fun w => by kernel_rfl)) (rsound_as (hR.below hM.bel) (hB.below hM.bel) hsd) ?_
 rintro _ w55 ⟨rfl, hb54⟩
 replace hM := hM.call hb54
 refine ⟨_, rfl, ?_⟩
 intro a hA
 refine seq_do (v := .bool false) hA rfl rfl rfl (does_un rfl un_not) ?_
 intro a hA
 refine seq_do hA rfl rfl rfl (does_move rfl) ?_
 intro a hA
 refine seq_do hA rfl rfl rfl (does_move rfl) ?_
 intro a hA
 refine seq_do hA rfl rfl rfl (does_move rfl) ?_
 intro a hA
 refine seq_call hA rfl rfl rfl (enters_func rfl rfl (fun w => by kernel_rfl)) (rsound_as (hR2.below hM.bel) (hB2.below hM.bel) hsd2) ?_
 rintro _ w57 ⟨rfl, hb56⟩
 replace hM := hM.call hb56
 refine ⟨_, rfl, ?_⟩
 intro a hA
 refine seq_do (v := .bool true) hA rfl rfl rfl (does_un rfl un_not) ?_
 intro a hA
 refine seq_do (v := .bool true) hA rfl rfl rfl (does_pick rfl rfl rfl rfl) ?_
 intro a hA
 refine seq_end ?_
 refine hK53 _ _ ?_
 refine wp_cond_true (hA.ev rfl) ?_
 refine wp_seq_k (fun K58 hK58 => ?_)
 refine wp_region_lit ?_
 refine seq_do hA rfl rfl rfl (does_move rfl) ?_
 intro a hA
 refine seq_do (v := .bool true) hA rfl rfl rfl (does_bin rfl rfl (fun w => by kernel_rfl)) ?_
 intro a hA
 refine seq_do hA rfl rfl rfl (does_move rfl) ?_
 intro a hA
 refine seq_do hA rfl rfl rfl (does_move rfl) ?_
 intro a hA
 refine seq_do (v := .bool true) hA rfl rfl rfl (does_bin rfl rfl (fun w => by kernel_rfl)) ?_
 intro a hA
 refine seq_do (v := .bool true) hA rfl rfl rfl (does_pick rfl rfl rfl rfl) ?_
 intro a hA
 refine seq_do hA rfl rfl rfl (does_move rfl) ?_
 intro a hA
 refine seq_do hA rfl rfl rfl (does_move rfl) ?_
 intro a hA
 refine seq_do (v := .bool true) hA rfl rfl rfl (does_bin rfl rfl (fun w => by kernel_rfl)) ?_
 intro a hA
 refine seq_do (v := .bool true) hA rfl rfl rfl (does_pick rfl rfl rfl rfl) ?_
 intro a hA
 refine seq_do hA rfl rfl rfl (does_move rfl) ?_
 intro a hA
 refine seq_do hA rfl rfl rfl (does_move rfl) ?_
 intro a hA
 refine seq_do (v := .bool true) hA rfl rfl rfl (does_bin rfl rfl (fun w => by kernel_rfl)) ?_
 intro a hA
 refine seq_do (v := .bool true) hA rfl rfl rfl (does_pick rfl rfl rfl rfl) ?_
 intro a hA
 refine seq_do hA rfl rfl rfl (does_move rfl) ?_
 intro a hA
 refine seq_do hA rfl rfl rfl (does_move rfl) ?_
 intro a hA
 refine seq_do (v := .bool true) hA rfl rfl rfl (does_bin rfl rfl (fun w => by kernel_rfl)) ?_
 intro a hA
 refine seq_do (v := .bool true) hA rfl rfl rfl (does_pick rfl rfl rfl rfl) ?_
 intro a hA
 refine seq_do hA rfl rfl rfl (does_move rfl) ?_
 intro a hA
 refine seq_do hA rfl rfl rfl (does_move rfl) ?_
 intro a hA
 refine seq_do (v := .bool true) hA rfl rfl rfl (does_un rfl un_not) ?_
 intro a hA
 refine seq_do (v := .bool true) hA rfl rfl rfl (does_pick rfl rfl rfl rfl) ?_
 intro a hA
 refine seq_do hA rfl rfl rfl (does_move rfl) ?_
 intro a hA
 refine seq_do hA rfl rfl rfl (does_move rfl) ?_
 intro a hA
 refine seq_do (v := .bool false) hA rfl rfl rfl (does_bin rfl rfl (fun w => by kernel_rfl)) ?_
 intro a hA
 refine seq_do hA rfl rfl rfl (does_move rfl) ?_
 intro a hA
 refine seq_do hA rfl rfl rfl (does_move rfl) ?_
 intro a hA
 refine seq_call hA rfl rfl rfl (enters_func rfl rfl (fun w => by kernel_rfl)) (rsound_as (hR.below hM.bel) (hB.below hM.bel) hsd) ?_
 rintro _ w60 ⟨rfl, hb59⟩
 replace hM := hM.call hb59
 refine ⟨_, rfl, ?_⟩
 intro a hA
 refine seq_do (v := .bool false) hA rfl rfl rfl (does_un rfl un_not) ?_
 intro a hA
 refine seq_do (v := .bool true) hA rfl rfl rfl (does_bin rfl rfl (bin_eqlB Try.underlying4)) ?_
 intro a hA
 refine seq_do (v := .bool true) hA rfl rfl rfl (does_pick rfl rfl rfl rfl) ?_
 intro a hA
 refine seq_do hA rfl rfl rfl (does_assign rfl) ?_
 intro a hA
 refine seq_end ?_
 refine hK58 _ _ ?_
 refine wp_ret ?_
 refine hret _ _ ?_
 refine ends (v := .bool true) hA rfl (.cons (res_tmp rfl) .nil) rfl ?_
 exact ⟨rfl, hM.bel⟩
set_option maxHeartbeats 1000000 in
theorem sets_ty {w : World} {so si : Option Addr} {ca ci : Nat} {l : List ByteArray} {bs : List Bool} (hR : Rs w so l) (hB : Rl w si bs) {so2 si2 : Option Addr} {ca2 ci2 : Nat} {l2 : List ByteArray} {bs2 : List Bool} (hR2 : Rs w so2 l2) (hB2 : Rl w si2 bs2) (hs : ∀ s ∈ l, s.size ≤ 281474976710656) (hs2 : ∀ s ∈ l2, s.size ≤ 281474976710656) (hsd : sndS l bs = true) (hsd2 : sndS l2 bs2 = true) (heq : decide (l = l2) = false) : Calls Try.prog 4 #[.slice so l.length ca, .slice si bs.length ci, .slice so2 l2.length ca2, .slice si2 bs2.length ci2] w fun e w' => e = .returned (.bool true) ∧ Below w.heap.size w w' := by
 have hl : l.length ≤ 8796093021952 := by have := (snd_le hsd).1; omega
 have hl2 : l2.length ≤ 8796093021952 := by have := (snd_le hsd2).1; omega
 have h64 := (snd_le hsd).1
 have hbl := (snd_le hsd).2.1
 have h642 := (snd_le hsd2).1
 have hbl2 := (snd_le hsd2).2.1
 have hM : Mg w w ([]) := Mg.start w
 refine walk_of (l := [(0, .slice so l.length ca), (1, .slice si bs.length ci), (2, .slice so2 l2.length ca2), (3, .slice si2 bs2.length ci2)]) Try.func4 rfl Try.ntmps4 rfl rfl ?_
 intro Q hret hnorm hP a hA
 refine wp_seq_k (fun K1 hK1 => ?_)
 refine wp_region_lit ?_
 refine seq_do hA rfl rfl rfl (does_assign rfl) ?_
 intro a hA
 refine seq_end ?_
 refine hK1 _ _ ?_
 refine wp_seq_k (fun K2 hK2 => ?_)
 refine wp_region_lit ?_
 refine seq_do hA rfl rfl rfl (does_move rfl) ?_
 intro a hA
 refine seq_do hA rfl rfl rfl (does_move rfl) ?_
 intro a hA
 refine seq_do (v := .agg #[.slice so l.length ca, .slice si bs.length ci]) hA rfl rfl rfl (does_build rfl (fun w => by kernel_rfl)) ?_
 intro a hA
 refine seq_do hA rfl rfl rfl (does_move rfl) ?_
 intro a hA
 refine seq_do hA rfl rfl rfl (does_move rfl) ?_
 intro a hA
 refine seq_do (v := .agg #[.slice so2 l2.length ca2, .slice si2 bs2.length ci2]) hA rfl rfl rfl (does_build rfl (fun w => by kernel_rfl)) ?_
 intro a hA
 refine s_new (vs := [.slice none 0 0, .slice none 0 0]) (t := 25) hA hM rfl rfl rfl (fun g => .pointer (some ⟨g, 0, none⟩)) (does_alloc (z := .agg #[.slice none 0 0, .slice none 0 0]) (by kernel_rfl) rfl) (by decide) ?_
 intro g3 w4 hM a hA
 refine s_new (vs := [.slice none 0 0, .slice none 0 0]) (t := 25) hA hM rfl rfl rfl (fun g => .pointer (some ⟨g, 0, none⟩)) (does_alloc (z := .agg #[.slice none 0 0, .slice none 0 0]) (by kernel_rfl) rfl) (by decide) ?_
 intro g5 w6 hM a hA
 refine s_store (us := [.slice so l.length ca, .slice si bs.length ci]) (L' := (.obj g5 (.cells #[.slice none 0 0, .slice none 0 0] 25) :: .obj g3 (.cells #[.slice so l.length ca, .slice si bs.length ci] 25) :: [])) hA hM rfl rfl (m_store rfl rfl rfl (by kernel_rfl) hM 1 rfl rfl rfl) 1 rfl rfl rfl ?_
 intro w7 hM
 refine s_store (us := [.slice so2 l2.length ca2, .slice si2 bs2.length ci2]) (L' := (.obj g5 (.cells #[.slice so2 l2.length ca2, .slice si2 bs2.length ci2] 25) :: .obj g3 (.cells #[.slice so l.length ca, .slice si bs.length ci] 25) :: [])) hA hM rfl rfl (m_store rfl rfl rfl (by kernel_rfl) hM 0 rfl rfl rfl) 0 rfl rfl rfl ?_
 intro w8 hM
 refine seq_end ?_
 refine hK2 _ _ ?_
 refine wp_seq_k (fun K9 hK9 => ?_)
 refine wp_region_lit ?_
 refine seq_do hA rfl rfl rfl (m_loadS hM EnF_isS_25 rfl 1 rfl (cs := [.slice so l.length ca, .slice si bs.length ci]) rfl rfl) ?_
 intro a hA
 refine seq_do hA rfl rfl rfl (m_loadS hM EnF_isS_25 rfl 0 rfl (cs := [.slice so2 l2.length ca2, .slice si2 bs2.length ci2]) rfl rfl) ?_
 intro a hA
 refine seq_call hA rfl rfl rfl (enters_func rfl rfl (fun w => by kernel_rfl)) (union_type (hR.below hM.bel) (hB.below hM.bel) (hR2.below hM.bel) (hB2.below hM.bel) hsd hsd2 heq) ?_
 rintro _ w11 ⟨rfl, hb10⟩
 replace hM := hM.call hb10
 refine ⟨_, rfl, ?_⟩
 intro a hA
 refine seq_do hA rfl rfl rfl (does_move rfl) ?_
 intro a hA
 refine seq_do (v := .agg #[.slice none 0 0, .slice none 0 0]) hA rfl rfl rfl (does_extract (vs := [.agg #[.slice none 0 0, .slice none 0 0], .int .i64 10]) rfl rfl) ?_
 intro a hA
 refine seq_do (v := .int .i64 10) hA rfl rfl rfl (does_extract (vs := [.agg #[.slice none 0 0, .slice none 0 0], .int .i64 10]) rfl rfl) ?_
 intro a hA
 refine s_new (vs := [.slice none 0 0, .slice none 0 0]) (t := 25) hA hM rfl rfl rfl (fun g => .pointer (some ⟨g, 0, none⟩)) (does_alloc (z := .agg #[.slice none 0 0, .slice none 0 0]) (by kernel_rfl) rfl) (by decide) ?_
 intro g12 w13 hM a hA
 refine s_store (us := [.slice none 0 0, .slice none 0 0]) (L' := (.obj g12 (.cells #[.slice none 0 0, .slice none 0 0] 25) :: .obj g5 (.cells #[.slice so2 l2.length ca2, .slice si2 bs2.length ci2] 25) :: .obj g3 (.cells #[.slice so l.length ca, .slice si bs.length ci] 25) :: [])) hA hM rfl rfl (m_store rfl rfl rfl (by kernel_rfl) hM 0 rfl rfl rfl) 0 rfl rfl rfl ?_
 intro w14 hM
 refine seq_do hA rfl rfl rfl (does_assign rfl) ?_
 intro a hA
 refine seq_end ?_
 refine hK9 _ _ ?_
 refine wp_seq_k (fun K15 hK15 => ?_)
 refine wp_region_lit ?_
 refine seq_do hA rfl rfl rfl (m_loadS hM EnF_isS_25 rfl 2 rfl (cs := [.slice so l.length ca, .slice si bs.length ci]) rfl rfl) ?_
 intro a hA
 refine seq_do hA rfl rfl rfl (m_loadS hM EnF_isS_25 rfl 1 rfl (cs := [.slice so2 l2.length ca2, .slice si2 bs2.length ci2]) rfl rfl) ?_
 intro a hA
 refine seq_call hA rfl rfl rfl (enters_func rfl rfl (fun w => by kernel_rfl)) (meet_type (hR.below hM.bel) (hB.below hM.bel) (hR2.below hM.bel) (hB2.below hM.bel) hsd hsd2 heq) ?_
 rintro _ w17 ⟨rfl, hb16⟩
 replace hM := hM.call hb16
 refine ⟨_, rfl, ?_⟩
 intro a hA
 refine seq_do hA rfl rfl rfl (does_move rfl) ?_
 intro a hA
 refine seq_do (v := .agg #[.slice none 0 0, .slice none 0 0]) hA rfl rfl rfl (does_extract (vs := [.agg #[.slice none 0 0, .slice none 0 0], .int .i64 10]) rfl rfl) ?_
 intro a hA
 refine seq_do (v := .int .i64 10) hA rfl rfl rfl (does_extract (vs := [.agg #[.slice none 0 0, .slice none 0 0], .int .i64 10]) rfl rfl) ?_
 intro a hA
 refine s_new (vs := [.slice none 0 0, .slice none 0 0]) (t := 25) hA hM rfl rfl rfl (fun g => .pointer (some ⟨g, 0, none⟩)) (does_alloc (z := .agg #[.slice none 0 0, .slice none 0 0]) (by kernel_rfl) rfl) (by decide) ?_
 intro g18 w19 hM a hA
 refine s_store (us := [.slice none 0 0, .slice none 0 0]) (L' := (.obj g18 (.cells #[.slice none 0 0, .slice none 0 0] 25) :: .obj g12 (.cells #[.slice none 0 0, .slice none 0 0] 25) :: .obj g5 (.cells #[.slice so2 l2.length ca2, .slice si2 bs2.length ci2] 25) :: .obj g3 (.cells #[.slice so l.length ca, .slice si bs.length ci] 25) :: [])) hA hM rfl rfl (m_store rfl rfl rfl (by kernel_rfl) hM 0 rfl rfl rfl) 0 rfl rfl rfl ?_
 intro w20 hM
 refine seq_do hA rfl rfl rfl (does_assign rfl) ?_
 intro a hA
 refine seq_end ?_
 refine hK15 _ _ ?_
 refine wp_seq_k (fun K21 hK21 => ?_)
 refine wp_region_lit ?_
 refine seq_do hA rfl rfl rfl (m_loadS hM EnF_isS_25 rfl 3 rfl (cs := [.slice so l.length ca, .slice si bs.length ci]) rfl rfl) ?_
 intro a hA
 refine seq_do hA rfl rfl rfl (m_loadS hM EnF_isS_25 rfl 2 rfl (cs := [.slice so2 l2.length ca2, .slice si2 bs2.length ci2]) rfl rfl) ?_
 intro a hA
 refine seq_call hA rfl rfl rfl (enters_func rfl rfl (fun w => by kernel_rfl)) (minus_type (hR.below hM.bel) (hB.below hM.bel) (hR2.below hM.bel) (hB2.below hM.bel) hsd hsd2 heq) ?_
 rintro _ w23 ⟨rfl, hb22⟩
 replace hM := hM.call hb22
 refine ⟨_, rfl, ?_⟩
 intro a hA
 refine seq_do hA rfl rfl rfl (does_move rfl) ?_
 intro a hA
 refine seq_do (v := .agg #[.slice none 0 0, .slice none 0 0]) hA rfl rfl rfl (does_extract (vs := [.agg #[.slice none 0 0, .slice none 0 0], .int .i64 10]) rfl rfl) ?_
 intro a hA
 refine seq_do (v := .int .i64 10) hA rfl rfl rfl (does_extract (vs := [.agg #[.slice none 0 0, .slice none 0 0], .int .i64 10]) rfl rfl) ?_
 intro a hA
 refine s_new (vs := [.slice none 0 0, .slice none 0 0]) (t := 25) hA hM rfl rfl rfl (fun g => .pointer (some ⟨g, 0, none⟩)) (does_alloc (z := .agg #[.slice none 0 0, .slice none 0 0]) (by kernel_rfl) rfl) (by decide) ?_
 intro g24 w25 hM a hA
 refine s_store (us := [.slice none 0 0, .slice none 0 0]) (L' := (.obj g24 (.cells #[.slice none 0 0, .slice none 0 0] 25) :: .obj g18 (.cells #[.slice none 0 0, .slice none 0 0] 25) :: .obj g12 (.cells #[.slice none 0 0, .slice none 0 0] 25) :: .obj g5 (.cells #[.slice so2 l2.length ca2, .slice si2 bs2.length ci2] 25) :: .obj g3 (.cells #[.slice so l.length ca, .slice si bs.length ci] 25) :: [])) hA hM rfl rfl (m_store rfl rfl rfl (by kernel_rfl) hM 0 rfl rfl rfl) 0 rfl rfl rfl ?_
 intro w26 hM
 refine seq_do hA rfl rfl rfl (does_assign rfl) ?_
 intro a hA
 refine seq_end ?_
 refine hK21 _ _ ?_
 refine wp_seq_k (fun K27 hK27 => ?_)
 refine wp_region_lit ?_
 refine seq_do hA rfl rfl rfl (m_loadS hM EnF_isS_25 rfl 4 rfl (cs := [.slice so l.length ca, .slice si bs.length ci]) rfl rfl) ?_
 intro a hA
 refine seq_call hA rfl rfl rfl (enters_func rfl rfl (fun w => by kernel_rfl)) (comp_okN (hR.below hM.bel) (hB.below hM.bel) hs hsd) ?_
 rintro _ w35 ⟨so28, ca29, si30, ci31, q32, hq33, rfl, hM34⟩
 replace hM : Mg w w35 (.row 9 1 (.slice so28 l.length ca29) l.length (strC l) :: .row 4 1 (.slice si30 q32.length ci31) q32.length (boolC q32) :: .obj g24 (.cells #[.slice none 0 0, .slice none 0 0] 25) :: .obj g18 (.cells #[.slice none 0 0, .slice none 0 0] 25) :: .obj g12 (.cells #[.slice none 0 0, .slice none 0 0] 25) :: .obj g5 (.cells #[.slice so2 l2.length ca2, .slice si2 bs2.length ci2] 25) :: .obj g3 (.cells #[.slice so l.length ca, .slice si bs.length ci] 25) :: []) := (hM.both hM34 (noBld_cons (by simp) (noBld_cons (by simp) (noBld_cons (by simp) (noBld_cons (by simp) (noBld_cons (by simp) (noBld_quiet quietL_nil)))))) (noBld_cons (by simp) (noBld_cons (by simp) (noBld_quiet quietL_nil))))
 refine ⟨_, rfl, ?_⟩
 intro a hA
 refine seq_do hA rfl rfl rfl (does_move rfl) ?_
 intro a hA
 refine seq_do (v := .agg #[.slice so28 l.length ca29, .slice si30 q32.length ci31]) hA rfl rfl rfl (does_extract (vs := [.agg #[.slice so28 l.length ca29, .slice si30 q32.length ci31], .int .i64 0]) rfl rfl) ?_
 intro a hA
 refine seq_do (v := .int .i64 0) hA rfl rfl rfl (does_extract (vs := [.agg #[.slice so28 l.length ca29, .slice si30 q32.length ci31], .int .i64 0]) rfl rfl) ?_
 intro a hA
 refine s_new (vs := [.slice none 0 0, .slice none 0 0]) (t := 25) hA hM rfl rfl rfl (fun g => .pointer (some ⟨g, 0, none⟩)) (does_alloc (z := .agg #[.slice none 0 0, .slice none 0 0]) (by kernel_rfl) rfl) (by decide) ?_
 intro g36 w37 hM a hA
 refine s_store (us := [.slice so28 l.length ca29, .slice si30 q32.length ci31]) (L' := (.obj g36 (.cells #[.slice so28 l.length ca29, .slice si30 q32.length ci31] 25) :: .row 9 1 (.slice so28 l.length ca29) l.length (strC l) :: .row 4 1 (.slice si30 q32.length ci31) q32.length (boolC q32) :: .obj g24 (.cells #[.slice none 0 0, .slice none 0 0] 25) :: .obj g18 (.cells #[.slice none 0 0, .slice none 0 0] 25) :: .obj g12 (.cells #[.slice none 0 0, .slice none 0 0] 25) :: .obj g5 (.cells #[.slice so2 l2.length ca2, .slice si2 bs2.length ci2] 25) :: .obj g3 (.cells #[.slice so l.length ca, .slice si bs.length ci] 25) :: [])) hA hM rfl rfl (m_store rfl rfl rfl (by kernel_rfl) hM 0 rfl rfl rfl) 0 rfl rfl rfl ?_
 intro w38 hM
 refine seq_do hA rfl rfl rfl (does_assign rfl) ?_
 intro a hA
 refine seq_end ?_
 refine hK27 _ _ ?_
 refine wp_seq_k (fun K39 hK39 => ?_)
 refine wp_region_lit ?_
 refine seq_do hA rfl rfl rfl (m_loadS hM EnF_isS_25 rfl 7 rfl (cs := [.slice so l.length ca, .slice si bs.length ci]) rfl rfl) ?_
 intro a hA
 refine seq_do hA rfl rfl rfl (m_loadS hM EnF_isS_25 rfl 6 rfl (cs := [.slice so2 l2.length ca2, .slice si2 bs2.length ci2]) rfl rfl) ?_
 intro a hA
 refine seq_call hA rfl rfl rfl (enters_func rfl rfl (fun w => by kernel_rfl)) (sub_ok (hR.below hM.bel) (hB.below hM.bel) (hR2.below hM.bel) (hB2.below hM.bel) hsd hsd2) ?_
 rintro _ w41 ⟨rfl, hb40⟩
 replace hM := hM.call hb40
 refine ⟨_, rfl, ?_⟩
 intro a hA
 refine seq_do hA rfl rfl rfl (does_move rfl) ?_
 intro a hA
 refine seq_do (v := .bool ((!(memS l bs).any fun s => !hasS l2 bs2 s))) hA rfl rfl rfl (does_extract (vs := [.bool ((!(memS l bs).any fun s => !hasS l2 bs2 s)), .int .i64 0]) rfl rfl) ?_
 intro a hA
 refine seq_do (v := .int .i64 0) hA rfl rfl rfl (does_extract (vs := [.bool ((!(memS l bs).any fun s => !hasS l2 bs2 s)), .int .i64 0]) rfl rfl) ?_
 intro a hA
 refine seq_do hA rfl rfl rfl (does_assign rfl) ?_
 intro a hA
 refine seq_do hA rfl rfl rfl (does_assign rfl) ?_
 intro a hA
 refine seq_end ?_
 refine hK39 _ _ ?_
 refine wp_seq_k (fun K42 hK42 => ?_)
 refine wp_region_lit ?_
 refine seq_do hA rfl rfl rfl (m_loadS hM EnF_isS_25 rfl 7 rfl (cs := [.slice so l.length ca, .slice si bs.length ci]) rfl rfl) ?_
 intro a hA
 refine seq_do hA rfl rfl rfl (m_loadS hM EnF_isS_25 rfl 6 rfl (cs := [.slice so2 l2.length ca2, .slice si2 bs2.length ci2]) rfl rfl) ?_
 intro a hA
 refine seq_call hA rfl rfl rfl (enters_func rfl rfl (fun w => by kernel_rfl)) (proj_okN (hR.below hM.bel) (hB.below hM.bel) (hR2.below hM.bel) (hB2.below hM.bel) hs2 hsd hsd2) ?_
 rintro _ w50 ⟨so43, ca44, si45, ci46, q47, hq48, rfl, hM49⟩
 replace hM : Mg w w50 (.row 9 1 (.slice so43 l2.length ca44) l2.length (strC l2) :: .row 4 1 (.slice si45 q47.length ci46) q47.length (boolC q47) :: .obj g36 (.cells #[.slice so28 l.length ca29, .slice si30 q32.length ci31] 25) :: .row 9 1 (.slice so28 l.length ca29) l.length (strC l) :: .row 4 1 (.slice si30 q32.length ci31) q32.length (boolC q32) :: .obj g24 (.cells #[.slice none 0 0, .slice none 0 0] 25) :: .obj g18 (.cells #[.slice none 0 0, .slice none 0 0] 25) :: .obj g12 (.cells #[.slice none 0 0, .slice none 0 0] 25) :: .obj g5 (.cells #[.slice so2 l2.length ca2, .slice si2 bs2.length ci2] 25) :: .obj g3 (.cells #[.slice so l.length ca, .slice si bs.length ci] 25) :: []) := (hM.both hM49 (noBld_cons (by simp) (noBld_cons (by simp) (noBld_cons (by simp) (noBld_cons (by simp) (noBld_cons (by simp) (noBld_cons (by simp) (noBld_cons (by simp) (noBld_cons (by simp) (noBld_quiet quietL_nil))))))))) (noBld_cons (by simp) (noBld_cons (by simp) (noBld_quiet quietL_nil))))
 refine ⟨_, rfl, ?_⟩
 intro a hA
 refine seq_do hA rfl rfl rfl (does_move rfl) ?_
 intro a hA
 refine seq_do (v := .agg #[.slice so43 l2.length ca44, .slice si45 q47.length ci46]) hA rfl rfl rfl (does_extract (vs := [.agg #[.slice so43 l2.length ca44, .slice si45 q47.length ci46], .int .i64 0]) rfl rfl) ?_
 intro a hA
 refine seq_do (v := .int .i64 0) hA rfl rfl rfl (does_extract (vs := [.agg #[.slice so43 l2.length ca44, .slice si45 q47.length ci46], .int .i64 0]) rfl rfl) ?_
 intro a hA
 refine s_new (vs := [.slice none 0 0, .slice none 0 0]) (t := 25) hA hM rfl rfl rfl (fun g => .pointer (some ⟨g, 0, none⟩)) (does_alloc (z := .agg #[.slice none 0 0, .slice none 0 0]) (by kernel_rfl) rfl) (by decide) ?_
 intro g51 w52 hM a hA
 refine s_store (us := [.slice so43 l2.length ca44, .slice si45 q47.length ci46]) (L' := (.obj g51 (.cells #[.slice so43 l2.length ca44, .slice si45 q47.length ci46] 25) :: .row 9 1 (.slice so43 l2.length ca44) l2.length (strC l2) :: .row 4 1 (.slice si45 q47.length ci46) q47.length (boolC q47) :: .obj g36 (.cells #[.slice so28 l.length ca29, .slice si30 q32.length ci31] 25) :: .row 9 1 (.slice so28 l.length ca29) l.length (strC l) :: .row 4 1 (.slice si30 q32.length ci31) q32.length (boolC q32) :: .obj g24 (.cells #[.slice none 0 0, .slice none 0 0] 25) :: .obj g18 (.cells #[.slice none 0 0, .slice none 0 0] 25) :: .obj g12 (.cells #[.slice none 0 0, .slice none 0 0] 25) :: .obj g5 (.cells #[.slice so2 l2.length ca2, .slice si2 bs2.length ci2] 25) :: .obj g3 (.cells #[.slice so l.length ca, .slice si bs.length ci] 25) :: [])) hA hM rfl rfl (m_store rfl rfl rfl (by kernel_rfl) hM 0 rfl rfl rfl) 0 rfl rfl rfl ?_
 intro w53 hM
 refine seq_do hA rfl rfl rfl (does_assign rfl) ?_
 intro a hA
 refine seq_end ?_
 refine hK42 _ _ ?_
 refine wp_seq_k (fun K54 hK54 => ?_)
 refine wp_seq_k (fun K55 hK55 => ?_)
 refine wp_region_lit ?_
 refine seq_call hA rfl rfl rfl (enters_func rfl rfl (fun w => by kernel_rfl)) (awake_any) ?_
 rintro _ w57 ⟨rfl, hb56⟩
 replace hM := hM.call hb56
 refine ⟨_, rfl, ?_⟩
 intro a hA
 refine seq_do (v := .bool false) hA rfl rfl rfl (does_un rfl un_not) ?_
 intro a hA
 refine seq_end ?_
 refine hK55 _ _ ?_
 refine wp_cond_false (hA.ev rfl) ?_
 refine wp_skip ?_
 refine hK54 _ _ ?_
 refine wp_seq_k (fun K58 hK58 => ?_)
 refine wp_seq_k (fun K59 hK59 => ?_)
 refine wp_region_lit ?_
 refine seq_do hA rfl rfl rfl (does_move rfl) ?_
 intro a hA
 refine seq_do hA rfl rfl rfl (does_move rfl) ?_
 intro a hA
 refine seq_call hA rfl rfl rfl (enters_func rfl rfl (fun w => by kernel_rfl)) (rsound_as (hR.below hM.bel) (hB.below hM.bel) hsd) ?_
 rintro _ w61 ⟨rfl, hb60⟩
 replace hM := hM.call hb60
 refine ⟨_, rfl, ?_⟩
 intro a hA
 refine seq_do (v := .bool false) hA rfl rfl rfl (does_un rfl un_not) ?_
 intro a hA
 refine seq_do hA rfl rfl rfl (does_move rfl) ?_
 intro a hA
 refine seq_do hA rfl rfl rfl (does_move rfl) ?_
 intro a hA
 refine seq_do hA rfl rfl rfl (does_move rfl) ?_
 intro a hA
 refine seq_call hA rfl rfl rfl (enters_func rfl rfl (fun w => by kernel_rfl)) (rsound_as (hR2.below hM.bel) (hB2.below hM.bel) hsd2) ?_
 rintro _ w63 ⟨rfl, hb62⟩
 replace hM := hM.call hb62
 refine ⟨_, rfl, ?_⟩
 intro a hA
 refine seq_do (v := .bool false) hA rfl rfl rfl (does_un rfl un_not) ?_
 intro a hA
 refine seq_do (v := .bool false) hA rfl rfl rfl (does_pick rfl rfl rfl rfl) ?_
 intro a hA
 refine seq_end ?_
 refine hK59 _ _ ?_
 refine wp_cond_false (hA.ev rfl) ?_
 refine wp_skip ?_
 refine hK58 _ _ ?_
 refine wp_seq_k (fun K64 hK64 => ?_)
 refine wp_region_lit ?_
 refine s_litE (e := 9) (sz := 1) (m := 0) (vs := strC []) hA hM rfl rfl rfl (does_buildSlice rfl (by kernel_rfl)) rfl rfl (.inl (by decide)) ?_
 intro g65 w66 hM a hA
 refine s_litE (e := 9) (sz := 1) (m := 0) (vs := strC []) hA hM rfl rfl rfl (does_buildSlice rfl (by kernel_rfl)) rfl rfl (.inl (by decide)) ?_
 intro g67 w68 hM a hA
 refine s_litE (e := 9) (sz := 1) (m := 0) (vs := strC []) hA hM rfl rfl rfl (does_buildSlice rfl (by kernel_rfl)) rfl rfl (.inl (by decide)) ?_
 intro g69 w70 hM a hA
 refine s_litE (e := 9) (sz := 1) (m := 0) (vs := strC []) hA hM rfl rfl rfl (does_buildSlice rfl (by kernel_rfl)) rfl rfl (.inl (by decide)) ?_
 intro g71 w72 hM a hA
 refine seq_do hA rfl rfl rfl (does_assign rfl) ?_
 intro a hA
 refine seq_do hA rfl rfl rfl (does_assign rfl) ?_
 intro a hA
 refine seq_do hA rfl rfl rfl (does_assign rfl) ?_
 intro a hA
 refine seq_do hA rfl rfl rfl (does_assign rfl) ?_
 intro a hA
 refine seq_end ?_
 refine hK64 _ _ ?_
 refine wp_seq_k (fun K73 hK73 => ?_)
 refine wp_region_lit ?_
 refine seq_do hA rfl rfl rfl (does_assign rfl) ?_
 intro a hA
 refine seq_end ?_
 refine hK73 _ _ ?_
 refine wp_seq_k (fun K74 hK74 => ?_)
 refine wp_seq_k (fun K75 hK75 => ?_)
 refine wp_region_lit ?_
 refine seq_do hA rfl rfl rfl (does_assign rfl) ?_
 intro a hA
 refine seq_end ?_
 refine hK75 _ _ ?_
 refine wp_block ?_
 obtain ⟨R9, hR9⟩ : ∃ R : List Ck, R = (.obj g51 (.cells #[.slice so43 l2.length ca44, .slice si45 q47.length ci46] 25) :: .row 9 1 (.slice so43 l2.length ca44) l2.length (strC l2) :: .row 4 1 (.slice si45 q47.length ci46) q47.length (boolC q47) :: .obj g36 (.cells #[.slice so28 l.length ca29, .slice si30 q32.length ci31] 25) :: .row 9 1 (.slice so28 l.length ca29) l.length (strC l) :: .row 4 1 (.slice si30 q32.length ci31) q32.length (boolC q32) :: .obj g24 (.cells #[.slice none 0 0, .slice none 0 0] 25) :: .obj g18 (.cells #[.slice none 0 0, .slice none 0 0] 25) :: .obj g12 (.cells #[.slice none 0 0, .slice none 0 0] 25) :: .obj g5 (.cells #[.slice so2 l2.length ca2, .slice si2 bs2.length ci2] 25) :: .obj g3 (.cells #[.slice so l.length ca, .slice si bs.length ci] 25) :: []) := ⟨_, rfl⟩
 replace hM : Mg w w72 (.row 9 1 (.slice (some ⟨g71, 0, none⟩) 0 0) 0 (strC []) :: .row 9 1 (.slice (some ⟨g69, 0, none⟩) 0 0) 0 (strC []) :: .row 9 1 (.slice (some ⟨g67, 0, none⟩) 0 0) 0 (strC []) :: .row 9 1 (.slice (some ⟨g65, 0, none⟩) 0 0) 0 (strC []) :: R9) := by rw [hR9]; exact hM
 refine wp_loop_n (fun m_ a w1 => ∃ (i : Nat) (xn : List ByteArray) (sn_ : Option Addr) (cn_ : Nat) (xl : List ByteArray) (sl_ : Option Addr) (cl_ : Nat) (xa : List ByteArray) (sa_ : Option Addr) (cA_ : Nat) (xo : List ByteArray) (so_ : Option Addr) (co_ : Nat) (fl : Bool), m_ = 1 + (l.length - i) ∧ (i ≤ l.length ∧ xn = (l.take i).filter (fun s => !hasS l bs s) ∧ xl = (l.take i).filter (fun s => hasS l bs s && !hasS l2 bs2 s) ∧ xa = (l.take i).filter (fun s => hasS l bs s && hasS l2 bs2 s) ∧ xo = (l.take i).filter (fun s => hasS l bs s || hasS l2 bs2 s) ∧ fl = !(l.take i).any (fun s => hasS l bs s && !hasS l2 bs2 s)) ∧ Sl a 265 [(0, .slice so l.length ca), (1, .slice si bs.length ci), (2, .slice so2 l2.length ca2), (3, .slice si2 bs2.length ci2), (8, .bool false), (9, .pointer (some ⟨g3, 0, none⟩)), (10, .pointer (some ⟨g5, 0, none⟩)), (11, .pointer (some ⟨g12, 0, none⟩)), (12, .int .i64 10), (13, .pointer (some ⟨g18, 0, none⟩)), (14, .int .i64 10), (15, .pointer (some ⟨g24, 0, none⟩)), (16, .int .i64 10), (17, .pointer (some ⟨g36, 0, none⟩)), (18, .int .i64 0), (19, .bool ((!(memS l bs).any fun s => !hasS l2 bs2 s))), (20, .int .i64 0), (21, .pointer (some ⟨g51, 0, none⟩)), (22, .int .i64 0), (23, .slice so_ xo.length co_), (24, .slice sa_ xa.length cA_), (25, .slice sl_ xl.length cl_), (26, .slice sn_ xn.length cn_), (27, .bool fl), (28, .int .i64 (((i : Nat) : Int))), (32, .slice so l.length ca), (33, .slice si bs.length ci), (34, .agg #[.slice so l.length ca, .slice si bs.length ci]), (35, .slice so2 l2.length ca2), (36, .slice si2 bs2.length ci2), (37, .agg #[.slice so2 l2.length ca2, .slice si2 bs2.length ci2]), (38, .tuple #[.agg #[.slice none 0 0, .slice none 0 0], .int .i64 10]), (39, .agg #[.slice so l.length ca, .slice si bs.length ci]), (40, .agg #[.slice so2 l2.length ca2, .slice si2 bs2.length ci2]), (41, .tuple #[.agg #[.slice none 0 0, .slice none 0 0], .int .i64 10]), (42, .agg #[.slice none 0 0, .slice none 0 0]), (43, .int .i64 10), (44, .tuple #[.agg #[.slice none 0 0, .slice none 0 0], .int .i64 10]), (45, .agg #[.slice so l.length ca, .slice si bs.length ci]), (46, .agg #[.slice so2 l2.length ca2, .slice si2 bs2.length ci2]), (47, .tuple #[.agg #[.slice none 0 0, .slice none 0 0], .int .i64 10]), (48, .agg #[.slice none 0 0, .slice none 0 0]), (49, .int .i64 10), (50, .tuple #[.agg #[.slice none 0 0, .slice none 0 0], .int .i64 10]), (51, .agg #[.slice so l.length ca, .slice si bs.length ci]), (52, .agg #[.slice so2 l2.length ca2, .slice si2 bs2.length ci2]), (53, .tuple #[.agg #[.slice none 0 0, .slice none 0 0], .int .i64 10]), (54, .agg #[.slice none 0 0, .slice none 0 0]), (55, .int .i64 10), (56, .tuple #[.agg #[.slice so28 l.length ca29, .slice si30 q32.length ci31], .int .i64 0]), (57, .agg #[.slice so l.length ca, .slice si bs.length ci]), (58, .tuple #[.agg #[.slice so28 l.length ca29, .slice si30 q32.length ci31], .int .i64 0]), (59, .agg #[.slice so28 l.length ca29, .slice si30 q32.length ci31]), (60, .int .i64 0), (61, .tuple #[.bool ((!(memS l bs).any fun s => !hasS l2 bs2 s)), .int .i64 0]), (62, .agg #[.slice so l.length ca, .slice si bs.length ci]), (63, .agg #[.slice so2 l2.length ca2, .slice si2 bs2.length ci2]), (64, .tuple #[.bool ((!(memS l bs).any fun s => !hasS l2 bs2 s)), .int .i64 0]), (65, .bool ((!(memS l bs).any fun s => !hasS l2 bs2 s))), (66, .int .i64 0), (67, .tuple #[.agg #[.slice so43 l2.length ca44, .slice si45 q47.length ci46], .int .i64 0]), (68, .agg #[.slice so l.length ca, .slice si bs.length ci]), (69, .agg #[.slice so2 l2.length ca2, .slice si2 bs2.length ci2]), (70, .tuple #[.agg #[.slice so43 l2.length ca44, .slice si45 q47.length ci46], .int .i64 0]), (71, .agg #[.slice so43 l2.length ca44, .slice si45 q47.length ci46]), (72, .int .i64 0), (73, .bool true), (74, .bool false), (75, .slice so l.length ca), (76, .slice si bs.length ci), (77, .bool true), (78, .bool false), (79, .bool false), (80, .slice so2 l2.length ca2), (81, .slice si2 bs2.length ci2), (82, .bool true), (83, .bool false), (84, .bool false), (116, .slice (some ⟨g65, 0, none⟩) 0 0), (117, .slice (some ⟨g67, 0, none⟩) 0 0), (118, .slice (some ⟨g69, 0, none⟩) 0 0), (119, .slice (some ⟨g71, 0, none⟩) 0 0)] ∧ Mg w w1 (.row 9 1 (.slice sn_ xn.length cn_) xn.length (strC xn) :: .row 9 1 (.slice sl_ xl.length cl_) xl.length (strC xl) :: .row 9 1 (.slice sa_ xa.length cA_) xa.length (strC xa) :: .row 9 1 (.slice so_ xo.length co_) xo.length (strC xo) :: R9)) _ ⟨0, [], _, 0, [], _, 0, [], _, 0, [], _, 0, true, rfl, ⟨Nat.zero_le _, rfl, rfl, rfl, rfl, rfl⟩, hA.keep _ ⟨rfl, rfl, rfl, rfl, rfl, rfl, rfl, rfl, rfl, rfl, rfl, rfl, rfl, rfl, rfl, rfl, rfl, rfl, rfl, rfl, rfl, rfl, rfl, rfl, rfl, rfl, rfl, rfl, rfl, rfl, rfl, rfl, rfl, rfl, rfl, rfl, rfl, rfl, rfl, rfl, rfl, rfl, rfl, rfl, rfl, rfl, rfl, rfl, rfl, rfl, rfl, rfl, rfl, rfl, rfl, rfl, rfl, rfl, rfl, rfl, rfl, rfl, rfl, rfl, rfl, rfl, rfl, rfl, rfl, rfl, rfl, rfl, rfl, rfl, rfl, rfl, rfl, rfl, rfl, rfl, rfl, rfl, trivial⟩, hM⟩ ?_
 clear hM hA
 rintro m_ a w76 ⟨i, xn, sn_, cn_, xl, sl_, cl_, xa, sa_, cA_, xo, so_, co_, fl, rfl, hinv78, hA, hM⟩ K77 hK77
 obtain ⟨hi0, hxn, hxl, hxa, hxo, hfl⟩ := hinv78
 have hLxn : xn.length ≤ i := by rw [hxn]; exact fil_len
 have hLxl : xl.length ≤ i := by rw [hxl]; exact fil_len
 have hLxa : xa.length ≤ i := by rw [hxa]; exact fil_len
 have hLxo : xo.length ≤ i := by rw [hxo]; exact fil_len
 refine wp_seq_k (fun K79 hK79 => ?_)
 refine wp_seq_k (fun K80 hK80 => ?_)
 refine wp_region_lit ?_
 refine seq_do hA rfl rfl rfl (does_move rfl) ?_
 intro a hA
 refine seq_do hA rfl rfl rfl (does_move rfl) ?_
 intro a hA
 refine seq_do (v := .int .i64 (((l.length : Nat) : Int))) hA rfl rfl rfl (does_len Try.underlying22 rfl) ?_
 intro a hA
 refine seq_do (v := .bool (decide (((i : Nat) : Int) < ((l.length : Nat) : Int)))) hA rfl rfl rfl (does_bin rfl rfl bin_lss) ?_
 intro a hA
 refine seq_end ?_
 refine hK80 _ _ ?_
 refine wp_cond_split (t := decide (((i : Nat) : Int) < ((l.length : Nat) : Int))) (hA.ev rfl) (fun hc81 => ?_) (fun hc81 => ?_)
 · have hc81' := of_decide_eq_true hc81
   refine wp_skip ?_
   refine hK79 _ _ ?_
   refine wp_seq_k (fun K82 hK82 => ?_)
   refine wp_block ?_
   refine wp_seq_k (fun K83 hK83 => ?_)
   refine wp_region_lit ?_
   refine seq_do hA rfl rfl rfl (does_move rfl) ?_
   intro a hA
   refine seq_do hA rfl rfl rfl (does_move rfl) ?_
   intro a hA
   refine seq_do hA rfl rfl rfl (does_move rfl) ?_
   intro a hA
   refine seq_do hA rfl rfl rfl (does_move rfl) ?_
   intro a hA
   obtain ⟨bx84, ox85, sx86, hs87, hc88, hi89⟩ := hR.at_ (i := i) (by omega)
   refine seq_do (v := .pointer (some ⟨bx84, ox85 + i, none⟩)) hA rfl rfl rfl (does_indexRow (k := i) Try.underlying22 (by kernel_rfl) rfl rfl (by first | rfl | omega) hs87 (by omega)) ?_
   intro a hA
   refine seq_do hA rfl rfl rfl (m_loadX hM hc88 EnF_is1_9 rfl) ?_
   intro a hA
   rcases Bool.eq_false_or_eq_true (hasS l2 bs2 sx86) with hb90 | hb90
   · refine seq_call hA rfl rfl rfl (enters_func rfl rfl (fun w => by kernel_rfl)) (rhas_as (hR2.below hM.bel) (hB2.below hM.bel) hl2 (snd_le hsd2).2.1 hb90) ?_
     rintro _ w92 ⟨rfl, hb91⟩
     replace hM := hM.call hb91
     refine ⟨_, rfl, ?_⟩
     intro a hA
     refine seq_do hA rfl rfl rfl (does_assign rfl) ?_
     intro a hA
     refine seq_end ?_
     refine hK83 _ _ ?_
     refine wp_seq_k (fun K93 hK93 => ?_)
     refine wp_seq_k (fun K94 hK94 => ?_)
     refine wp_region_lit ?_
     refine seq_do hA rfl rfl rfl (does_move rfl) ?_
     intro a hA
     refine seq_do hA rfl rfl rfl (does_move rfl) ?_
     intro a hA
     obtain ⟨bx95, ox96, sx97, hs98, hc99, hi100⟩ := hB.at_ (i := i) (by omega)
     refine seq_do (v := .pointer (some ⟨bx95, ox96 + i, none⟩)) hA rfl rfl rfl (does_indexRow (k := i) Try.underlying23 (by kernel_rfl) rfl rfl (by first | rfl | omega) hs98 (by omega)) ?_
     intro a hA
     rcases sx97 with _ | _
     · refine seq_do (v := .bool false) hA rfl rfl rfl (m_loadX hM hc99 EnF_is1_4 rfl) ?_
       intro a hA
       refine seq_do hA rfl rfl rfl (does_move rfl) ?_
       intro a hA
       refine seq_do hA rfl rfl rfl (does_move rfl) ?_
       intro a hA
       refine seq_do (v := .bool true) hA rfl rfl rfl (does_pick rfl rfl rfl rfl) ?_
       intro a hA
       refine seq_end ?_
       refine hK94 _ _ ?_
       refine wp_cond_true (hA.ev rfl) ?_
       refine wp_region_lit ?_
       refine seq_do hA rfl rfl rfl (does_move rfl) ?_
       intro a hA
       refine seq_do hA rfl rfl rfl (does_move rfl) ?_
       intro a hA
       refine seq_do hA rfl rfl rfl (does_move rfl) ?_
       intro a hA
       refine seq_do (v := .pointer (some ⟨bx84, ox85 + i, none⟩)) hA rfl rfl rfl (does_indexRow (k := i) Try.underlying22 (by kernel_rfl) rfl rfl (by first | rfl | omega) hs87 (by omega)) ?_
       intro a hA
       refine seq_do hA rfl rfl rfl (m_loadX hM hc88 EnF_is1_9 rfl) ?_
       intro a hA
       refine s_litE (e := 9) (sz := 1) (m := 1) (vs := strC [sx86]) hA hM rfl rfl rfl (does_buildSlice rfl (by kernel_rfl)) rfl rfl (.inl (by decide)) ?_
       intro g101 w102 hM a hA
       refine s_appendE (e := 9) (sz := 1) (k := 4) (q := xo.length) (m := 1) (xs := strC xo) (news := strC [sx86]) (L' := fun v103 => (.row 9 1 (.slice (some ⟨g101, 0, none⟩) 1 1) 1 (strC [sx86]) :: .row 9 1 (.slice sn_ xn.length cn_) xn.length (strC xn) :: .row 9 1 (.slice sl_ xl.length cl_) xl.length (strC xl) :: .row 9 1 (.slice sa_ xa.length cA_) xa.length (strC xa) :: .row 9 1 (v103) (xo.length + 1) (strC xo ++ strC [sx86]) :: R9)) hA rfl rfl rfl (m_appX (z := .string ⟨#[]⟩) (sz := 1) (by_ := 16) Try.underlying22 (by kernel_rfl) rfl rfl rfl hM 4 rfl rfl rfl (strC_n [sx86]) (rc_own (hM.has 0 rfl)) (strC_one [sx86]) (by first | omega | (simp only [List.length_nil]; omega))) (fun _ => rfl) ?_
       intro v103 w104 hM a hA
       replace hM : Mg w w104 (.row 9 1 (.slice (some ⟨g101, 0, none⟩) 1 1) 1 (strC [sx86]) :: .row 9 1 (.slice sn_ xn.length cn_) xn.length (strC xn) :: .row 9 1 (.slice sl_ xl.length cl_) xl.length (strC xl) :: .row 9 1 (.slice sa_ xa.length cA_) xa.length (strC xa) :: .row 9 1 (v103) ((xo ++ [sx86]).length) (strC (xo ++ [sx86])) :: R9) := by
         rw [← strC_app, List.length_append]; exact hM
       obtain ⟨so105, ca106, rfl⟩ := owns_any (hM.has 4 rfl)
       refine seq_do hA rfl rfl rfl (does_assign rfl) ?_
       intro a hA
       refine seq_end ?_
       refine hK93 _ _ ?_
       refine wp_seq_k (fun K107 hK107 => ?_)
       refine wp_seq_k (fun K108 hK108 => ?_)
       refine wp_region_lit ?_
       refine seq_do hA rfl rfl rfl (does_move rfl) ?_
       intro a hA
       refine seq_do hA rfl rfl rfl (does_move rfl) ?_
       intro a hA
       refine seq_do (v := .pointer (some ⟨bx95, ox96 + i, none⟩)) hA rfl rfl rfl (does_indexRow (k := i) Try.underlying23 (by kernel_rfl) rfl rfl (by first | rfl | omega) hs98 (by omega)) ?_
       intro a hA
       refine seq_do hA rfl rfl rfl (m_loadX hM hc99 EnF_is1_4 rfl) ?_
       intro a hA
       refine seq_do hA rfl rfl rfl (does_move rfl) ?_
       intro a hA
       refine seq_skip hA rfl rfl rfl ?_
       intro a hA
       refine seq_do (v := .bool false) hA rfl rfl rfl (does_pick rfl rfl rfl rfl) ?_
       intro a hA
       refine seq_end ?_
       refine hK108 _ _ ?_
       refine wp_cond_false (hA.ev rfl) ?_
       refine wp_skip ?_
       refine hK107 _ _ ?_
       refine wp_seq_k (fun K109 hK109 => ?_)
       refine wp_seq_k (fun K110 hK110 => ?_)
       refine wp_region_lit ?_
       refine seq_do hA rfl rfl rfl (does_move rfl) ?_
       intro a hA
       refine seq_do hA rfl rfl rfl (does_move rfl) ?_
       intro a hA
       refine seq_do (v := .pointer (some ⟨bx95, ox96 + i, none⟩)) hA rfl rfl rfl (does_indexRow (k := i) Try.underlying23 (by kernel_rfl) rfl rfl (by first | rfl | omega) hs98 (by omega)) ?_
       intro a hA
       refine seq_do hA rfl rfl rfl (m_loadX hM hc99 EnF_is1_4 rfl) ?_
       intro a hA
       refine seq_do hA rfl rfl rfl (does_move rfl) ?_
       intro a hA
       refine seq_skip hA rfl rfl rfl ?_
       intro a hA
       refine seq_skip hA rfl rfl rfl ?_
       intro a hA
       refine seq_do (v := .bool false) hA rfl rfl rfl (does_pick rfl rfl rfl rfl) ?_
       intro a hA
       refine seq_end ?_
       refine hK110 _ _ ?_
       refine wp_cond_false (hA.ev rfl) ?_
       refine wp_skip ?_
       refine hK109 _ _ ?_
       refine wp_seq_k (fun K111 hK111 => ?_)
       refine wp_region_lit ?_
       refine seq_do hA rfl rfl rfl (does_move rfl) ?_
       intro a hA
       refine seq_do hA rfl rfl rfl (does_move rfl) ?_
       intro a hA
       refine seq_do (v := .pointer (some ⟨bx95, ox96 + i, none⟩)) hA rfl rfl rfl (does_indexRow (k := i) Try.underlying23 (by kernel_rfl) rfl rfl (by first | rfl | omega) hs98 (by omega)) ?_
       intro a hA
       refine seq_do hA rfl rfl rfl (m_loadX hM hc99 EnF_is1_4 rfl) ?_
       intro a hA
       refine seq_do (v := .bool true) hA rfl rfl rfl (does_un rfl un_not) ?_
       intro a hA
       refine seq_end ?_
       refine hK111 _ _ ?_
       refine wp_cond_true (hA.ev rfl) ?_
       refine wp_region_lit ?_
       refine seq_do hA rfl rfl rfl (does_move rfl) ?_
       intro a hA
       refine seq_do hA rfl rfl rfl (does_move rfl) ?_
       intro a hA
       refine seq_do hA rfl rfl rfl (does_move rfl) ?_
       intro a hA
       refine seq_do (v := .pointer (some ⟨bx84, ox85 + i, none⟩)) hA rfl rfl rfl (does_indexRow (k := i) Try.underlying22 (by kernel_rfl) rfl rfl (by first | rfl | omega) hs87 (by omega)) ?_
       intro a hA
       refine seq_do hA rfl rfl rfl (m_loadX hM hc88 EnF_is1_9 rfl) ?_
       intro a hA
       refine s_litE (e := 9) (sz := 1) (m := 1) (vs := strC [sx86]) hA hM rfl rfl rfl (does_buildSlice rfl (by kernel_rfl)) rfl rfl (.inl (by decide)) ?_
       intro g112 w113 hM a hA
       refine s_appendE (e := 9) (sz := 1) (k := 2) (q := xn.length) (m := 1) (xs := strC xn) (news := strC [sx86]) (L' := fun v114 => (.row 9 1 (.slice (some ⟨g112, 0, none⟩) 1 1) 1 (strC [sx86]) :: .row 9 1 (.slice (some ⟨g101, 0, none⟩) 1 1) 1 (strC [sx86]) :: .row 9 1 (v114) (xn.length + 1) (strC xn ++ strC [sx86]) :: .row 9 1 (.slice sl_ xl.length cl_) xl.length (strC xl) :: .row 9 1 (.slice sa_ xa.length cA_) xa.length (strC xa) :: .row 9 1 (.slice so105 ((xo ++ [sx86]).length) ca106) ((xo ++ [sx86]).length) (strC (xo ++ [sx86])) :: R9)) hA rfl rfl rfl (m_appX (z := .string ⟨#[]⟩) (sz := 1) (by_ := 16) Try.underlying22 (by kernel_rfl) rfl rfl rfl hM 2 rfl rfl rfl (strC_n [sx86]) (rc_own (hM.has 0 rfl)) (strC_one [sx86]) (by first | omega | (simp only [List.length_nil]; omega))) (fun _ => rfl) ?_
       intro v114 w115 hM a hA
       replace hM : Mg w w115 (.row 9 1 (.slice (some ⟨g112, 0, none⟩) 1 1) 1 (strC [sx86]) :: .row 9 1 (.slice (some ⟨g101, 0, none⟩) 1 1) 1 (strC [sx86]) :: .row 9 1 (v114) ((xn ++ [sx86]).length) (strC (xn ++ [sx86])) :: .row 9 1 (.slice sl_ xl.length cl_) xl.length (strC xl) :: .row 9 1 (.slice sa_ xa.length cA_) xa.length (strC xa) :: .row 9 1 (.slice so105 ((xo ++ [sx86]).length) ca106) ((xo ++ [sx86]).length) (strC (xo ++ [sx86])) :: R9) := by
         rw [← strC_app, List.length_append]; exact hM
       obtain ⟨so116, ca117, rfl⟩ := owns_any (hM.has 2 rfl)
       refine seq_do hA rfl rfl rfl (does_assign rfl) ?_
       intro a hA
       refine seq_end ?_
       refine hK82 _ _ ?_
       refine wp_region_lit ?_
       refine seq_do hA rfl rfl rfl (does_move rfl) ?_
       intro a hA
       refine seq_do (v := .int .i64 (((i + 1 : Nat) : Int))) hA rfl rfl rfl (does_bin rfl rfl (ar_add ((in_i64 (by omega) (by omega)).trans (by omega)))) ?_
       intro a hA
       refine seq_do hA rfl rfl rfl (does_assign rfl) ?_
       intro a hA
       refine seq_end ?_
       replace hM : Mg w w115 (.row 9 1 (.slice so116 ((xn ++ [sx86]).length) ca117) ((xn ++ [sx86]).length) (strC (xn ++ [sx86])) :: .row 9 1 (.slice sl_ xl.length cl_) xl.length (strC xl) :: .row 9 1 (.slice sa_ xa.length cA_) xa.length (strC xa) :: .row 9 1 (.slice so105 ((xo ++ [sx86]).length) ca106) ((xo ++ [sx86]).length) (strC (xo ++ [sx86])) :: R9) := by
         have h9 := hM.sub (.cons _ (.cons _ (.cons_cons _ (.cons_cons _ (.cons_cons _ (.cons_cons _ (.refl _)))))))
         exact h9
       have hh118 := has_at (snd_le hsd).2.2 hi89 hi100
       refine hK77 _ _ _ (by omega) ⟨i + 1, xn ++ [sx86], so116, ca117, xl, sl_, cl_, xa, sa_, cA_, xo ++ [sx86], so105, ca106, fl, rfl, ⟨by omega, by rw [fil_step hi89, ← hxn]; simp [hh118, hb90], by rw [fil_step hi89, ← hxl]; simp [hh118, hb90], by rw [fil_step hi89, ← hxa]; simp [hh118, hb90], by rw [fil_step hi89, ← hxo]; simp [hh118, hb90], by rw [any_step hi89, Bool.not_or, ← hfl]; simp [hh118, hb90]⟩, hA.keep _ ⟨rfl, rfl, rfl, rfl, rfl, rfl, rfl, rfl, rfl, rfl, rfl, rfl, rfl, rfl, rfl, rfl, rfl, rfl, rfl, rfl, rfl, rfl, rfl, rfl, rfl, rfl, rfl, rfl, rfl, rfl, rfl, rfl, rfl, rfl, rfl, rfl, rfl, rfl, rfl, rfl, rfl, rfl, rfl, rfl, rfl, rfl, rfl, rfl, rfl, rfl, rfl, rfl, rfl, rfl, rfl, rfl, rfl, rfl, rfl, rfl, rfl, rfl, rfl, rfl, rfl, rfl, rfl, rfl, rfl, rfl, rfl, rfl, rfl, rfl, rfl, rfl, rfl, rfl, rfl, rfl, rfl, rfl, trivial⟩, hM⟩
     · refine seq_do (v := .bool true) hA rfl rfl rfl (m_loadX hM hc99 EnF_is1_4 rfl) ?_
       intro a hA
       refine seq_do hA rfl rfl rfl (does_move rfl) ?_
       intro a hA
       refine seq_skip hA rfl rfl rfl ?_
       intro a hA
       refine seq_do (v := .bool true) hA rfl rfl rfl (does_pick rfl rfl rfl rfl) ?_
       intro a hA
       refine seq_end ?_
       refine hK94 _ _ ?_
       refine wp_cond_true (hA.ev rfl) ?_
       refine wp_region_lit ?_
       refine seq_do hA rfl rfl rfl (does_move rfl) ?_
       intro a hA
       refine seq_do hA rfl rfl rfl (does_move rfl) ?_
       intro a hA
       refine seq_do hA rfl rfl rfl (does_move rfl) ?_
       intro a hA
       refine seq_do (v := .pointer (some ⟨bx84, ox85 + i, none⟩)) hA rfl rfl rfl (does_indexRow (k := i) Try.underlying22 (by kernel_rfl) rfl rfl (by first | rfl | omega) hs87 (by omega)) ?_
       intro a hA
       refine seq_do hA rfl rfl rfl (m_loadX hM hc88 EnF_is1_9 rfl) ?_
       intro a hA
       refine s_litE (e := 9) (sz := 1) (m := 1) (vs := strC [sx86]) hA hM rfl rfl rfl (does_buildSlice rfl (by kernel_rfl)) rfl rfl (.inl (by decide)) ?_
       intro g119 w120 hM a hA
       refine s_appendE (e := 9) (sz := 1) (k := 4) (q := xo.length) (m := 1) (xs := strC xo) (news := strC [sx86]) (L' := fun v121 => (.row 9 1 (.slice (some ⟨g119, 0, none⟩) 1 1) 1 (strC [sx86]) :: .row 9 1 (.slice sn_ xn.length cn_) xn.length (strC xn) :: .row 9 1 (.slice sl_ xl.length cl_) xl.length (strC xl) :: .row 9 1 (.slice sa_ xa.length cA_) xa.length (strC xa) :: .row 9 1 (v121) (xo.length + 1) (strC xo ++ strC [sx86]) :: R9)) hA rfl rfl rfl (m_appX (z := .string ⟨#[]⟩) (sz := 1) (by_ := 16) Try.underlying22 (by kernel_rfl) rfl rfl rfl hM 4 rfl rfl rfl (strC_n [sx86]) (rc_own (hM.has 0 rfl)) (strC_one [sx86]) (by first | omega | (simp only [List.length_nil]; omega))) (fun _ => rfl) ?_
       intro v121 w122 hM a hA
       replace hM : Mg w w122 (.row 9 1 (.slice (some ⟨g119, 0, none⟩) 1 1) 1 (strC [sx86]) :: .row 9 1 (.slice sn_ xn.length cn_) xn.length (strC xn) :: .row 9 1 (.slice sl_ xl.length cl_) xl.length (strC xl) :: .row 9 1 (.slice sa_ xa.length cA_) xa.length (strC xa) :: .row 9 1 (v121) ((xo ++ [sx86]).length) (strC (xo ++ [sx86])) :: R9) := by
         rw [← strC_app, List.length_append]; exact hM
       obtain ⟨so123, ca124, rfl⟩ := owns_any (hM.has 4 rfl)
       refine seq_do hA rfl rfl rfl (does_assign rfl) ?_
       intro a hA
       refine seq_end ?_
       refine hK93 _ _ ?_
       refine wp_seq_k (fun K125 hK125 => ?_)
       refine wp_seq_k (fun K126 hK126 => ?_)
       refine wp_region_lit ?_
       refine seq_do hA rfl rfl rfl (does_move rfl) ?_
       intro a hA
       refine seq_do hA rfl rfl rfl (does_move rfl) ?_
       intro a hA
       refine seq_do (v := .pointer (some ⟨bx95, ox96 + i, none⟩)) hA rfl rfl rfl (does_indexRow (k := i) Try.underlying23 (by kernel_rfl) rfl rfl (by first | rfl | omega) hs98 (by omega)) ?_
       intro a hA
       refine seq_do hA rfl rfl rfl (m_loadX hM hc99 EnF_is1_4 rfl) ?_
       intro a hA
       refine seq_do hA rfl rfl rfl (does_move rfl) ?_
       intro a hA
       refine seq_do hA rfl rfl rfl (does_move rfl) ?_
       intro a hA
       refine seq_do (v := .bool true) hA rfl rfl rfl (does_pick rfl rfl rfl rfl) ?_
       intro a hA
       refine seq_end ?_
       refine hK126 _ _ ?_
       refine wp_cond_true (hA.ev rfl) ?_
       refine wp_region_lit ?_
       refine seq_do hA rfl rfl rfl (does_move rfl) ?_
       intro a hA
       refine seq_do hA rfl rfl rfl (does_move rfl) ?_
       intro a hA
       refine seq_do hA rfl rfl rfl (does_move rfl) ?_
       intro a hA
       refine seq_do (v := .pointer (some ⟨bx84, ox85 + i, none⟩)) hA rfl rfl rfl (does_indexRow (k := i) Try.underlying22 (by kernel_rfl) rfl rfl (by first | rfl | omega) hs87 (by omega)) ?_
       intro a hA
       refine seq_do hA rfl rfl rfl (m_loadX hM hc88 EnF_is1_9 rfl) ?_
       intro a hA
       refine s_litE (e := 9) (sz := 1) (m := 1) (vs := strC [sx86]) hA hM rfl rfl rfl (does_buildSlice rfl (by kernel_rfl)) rfl rfl (.inl (by decide)) ?_
       intro g127 w128 hM a hA
       refine s_appendE (e := 9) (sz := 1) (k := 4) (q := xa.length) (m := 1) (xs := strC xa) (news := strC [sx86]) (L' := fun v129 => (.row 9 1 (.slice (some ⟨g127, 0, none⟩) 1 1) 1 (strC [sx86]) :: .row 9 1 (.slice (some ⟨g119, 0, none⟩) 1 1) 1 (strC [sx86]) :: .row 9 1 (.slice sn_ xn.length cn_) xn.length (strC xn) :: .row 9 1 (.slice sl_ xl.length cl_) xl.length (strC xl) :: .row 9 1 (v129) (xa.length + 1) (strC xa ++ strC [sx86]) :: .row 9 1 (.slice so123 ((xo ++ [sx86]).length) ca124) ((xo ++ [sx86]).length) (strC (xo ++ [sx86])) :: R9)) hA rfl rfl rfl (m_appX (z := .string ⟨#[]⟩) (sz := 1) (by_ := 16) Try.underlying22 (by kernel_rfl) rfl rfl rfl hM 4 rfl rfl rfl (strC_n [sx86]) (rc_own (hM.has 0 rfl)) (strC_one [sx86]) (by first | omega | (simp only [List.length_nil]; omega))) (fun _ => rfl) ?_
       intro v129 w130 hM a hA
       replace hM : Mg w w130 (.row 9 1 (.slice (some ⟨g127, 0, none⟩) 1 1) 1 (strC [sx86]) :: .row 9 1 (.slice (some ⟨g119, 0, none⟩) 1 1) 1 (strC [sx86]) :: .row 9 1 (.slice sn_ xn.length cn_) xn.length (strC xn) :: .row 9 1 (.slice sl_ xl.length cl_) xl.length (strC xl) :: .row 9 1 (v129) ((xa ++ [sx86]).length) (strC (xa ++ [sx86])) :: .row 9 1 (.slice so123 ((xo ++ [sx86]).length) ca124) ((xo ++ [sx86]).length) (strC (xo ++ [sx86])) :: R9) := by
         rw [← strC_app, List.length_append]; exact hM
       obtain ⟨so131, ca132, rfl⟩ := owns_any (hM.has 4 rfl)
       refine seq_do hA rfl rfl rfl (does_assign rfl) ?_
       intro a hA
       refine seq_end ?_
       refine hK125 _ _ ?_
       refine wp_seq_k (fun K133 hK133 => ?_)
       refine wp_seq_k (fun K134 hK134 => ?_)
       refine wp_region_lit ?_
       refine seq_do hA rfl rfl rfl (does_move rfl) ?_
       intro a hA
       refine seq_do hA rfl rfl rfl (does_move rfl) ?_
       intro a hA
       refine seq_do (v := .pointer (some ⟨bx95, ox96 + i, none⟩)) hA rfl rfl rfl (does_indexRow (k := i) Try.underlying23 (by kernel_rfl) rfl rfl (by first | rfl | omega) hs98 (by omega)) ?_
       intro a hA
       refine seq_do hA rfl rfl rfl (m_loadX hM hc99 EnF_is1_4 rfl) ?_
       intro a hA
       refine seq_do hA rfl rfl rfl (does_move rfl) ?_
       intro a hA
       refine seq_do hA rfl rfl rfl (does_move rfl) ?_
       intro a hA
       refine seq_do (v := .bool false) hA rfl rfl rfl (does_un rfl un_not) ?_
       intro a hA
       refine seq_do (v := .bool false) hA rfl rfl rfl (does_pick rfl rfl rfl rfl) ?_
       intro a hA
       refine seq_end ?_
       refine hK134 _ _ ?_
       refine wp_cond_false (hA.ev rfl) ?_
       refine wp_skip ?_
       refine hK133 _ _ ?_
       refine wp_seq_k (fun K135 hK135 => ?_)
       refine wp_region_lit ?_
       refine seq_do hA rfl rfl rfl (does_move rfl) ?_
       intro a hA
       refine seq_do hA rfl rfl rfl (does_move rfl) ?_
       intro a hA
       refine seq_do (v := .pointer (some ⟨bx95, ox96 + i, none⟩)) hA rfl rfl rfl (does_indexRow (k := i) Try.underlying23 (by kernel_rfl) rfl rfl (by first | rfl | omega) hs98 (by omega)) ?_
       intro a hA
       refine seq_do hA rfl rfl rfl (m_loadX hM hc99 EnF_is1_4 rfl) ?_
       intro a hA
       refine seq_do (v := .bool false) hA rfl rfl rfl (does_un rfl un_not) ?_
       intro a hA
       refine seq_end ?_
       refine hK135 _ _ ?_
       refine wp_cond_false (hA.ev rfl) ?_
       refine wp_skip ?_
       refine hK82 _ _ ?_
       refine wp_region_lit ?_
       refine seq_do hA rfl rfl rfl (does_move rfl) ?_
       intro a hA
       refine seq_do (v := .int .i64 (((i + 1 : Nat) : Int))) hA rfl rfl rfl (does_bin rfl rfl (ar_add ((in_i64 (by omega) (by omega)).trans (by omega)))) ?_
       intro a hA
       refine seq_do hA rfl rfl rfl (does_assign rfl) ?_
       intro a hA
       refine seq_end ?_
       replace hM : Mg w w130 (.row 9 1 (.slice sn_ xn.length cn_) xn.length (strC xn) :: .row 9 1 (.slice sl_ xl.length cl_) xl.length (strC xl) :: .row 9 1 (.slice so131 ((xa ++ [sx86]).length) ca132) ((xa ++ [sx86]).length) (strC (xa ++ [sx86])) :: .row 9 1 (.slice so123 ((xo ++ [sx86]).length) ca124) ((xo ++ [sx86]).length) (strC (xo ++ [sx86])) :: R9) := by
         have h9 := hM.sub (.cons _ (.cons _ (.cons_cons _ (.cons_cons _ (.cons_cons _ (.cons_cons _ (.refl _)))))))
         exact h9
       have hh136 := has_at (snd_le hsd).2.2 hi89 hi100
       refine hK77 _ _ _ (by omega) ⟨i + 1, xn, sn_, cn_, xl, sl_, cl_, xa ++ [sx86], so131, ca132, xo ++ [sx86], so123, ca124, fl, rfl, ⟨by omega, by rw [fil_step hi89, ← hxn]; simp [hh136, hb90], by rw [fil_step hi89, ← hxl]; simp [hh136, hb90], by rw [fil_step hi89, ← hxa]; simp [hh136, hb90], by rw [fil_step hi89, ← hxo]; simp [hh136, hb90], by rw [any_step hi89, Bool.not_or, ← hfl]; simp [hh136, hb90]⟩, hA.keep _ ⟨rfl, rfl, rfl, rfl, rfl, rfl, rfl, rfl, rfl, rfl, rfl, rfl, rfl, rfl, rfl, rfl, rfl, rfl, rfl, rfl, rfl, rfl, rfl, rfl, rfl, rfl, rfl, rfl, rfl, rfl, rfl, rfl, rfl, rfl, rfl, rfl, rfl, rfl, rfl, rfl, rfl, rfl, rfl, rfl, rfl, rfl, rfl, rfl, rfl, rfl, rfl, rfl, rfl, rfl, rfl, rfl, rfl, rfl, rfl, rfl, rfl, rfl, rfl, rfl, rfl, rfl, rfl, rfl, rfl, rfl, rfl, rfl, rfl, rfl, rfl, rfl, rfl, rfl, rfl, rfl, rfl, rfl, trivial⟩, hM⟩
   · refine seq_call hA rfl rfl rfl (enters_func rfl rfl (fun w => by kernel_rfl)) (rhas_as (hR2.below hM.bel) (hB2.below hM.bel) hl2 (snd_le hsd2).2.1 hb90) ?_
     rintro _ w138 ⟨rfl, hb137⟩
     replace hM := hM.call hb137
     refine ⟨_, rfl, ?_⟩
     intro a hA
     refine seq_do hA rfl rfl rfl (does_assign rfl) ?_
     intro a hA
     refine seq_end ?_
     refine hK83 _ _ ?_
     refine wp_seq_k (fun K139 hK139 => ?_)
     refine wp_seq_k (fun K140 hK140 => ?_)
     refine wp_region_lit ?_
     refine seq_do hA rfl rfl rfl (does_move rfl) ?_
     intro a hA
     refine seq_do hA rfl rfl rfl (does_move rfl) ?_
     intro a hA
     obtain ⟨bx141, ox142, sx143, hs144, hc145, hi146⟩ := hB.at_ (i := i) (by omega)
     refine seq_do (v := .pointer (some ⟨bx141, ox142 + i, none⟩)) hA rfl rfl rfl (does_indexRow (k := i) Try.underlying23 (by kernel_rfl) rfl rfl (by first | rfl | omega) hs144 (by omega)) ?_
     intro a hA
     rcases sx143 with _ | _
     · refine seq_do (v := .bool false) hA rfl rfl rfl (m_loadX hM hc145 EnF_is1_4 rfl) ?_
       intro a hA
       refine seq_do hA rfl rfl rfl (does_move rfl) ?_
       intro a hA
       refine seq_do hA rfl rfl rfl (does_move rfl) ?_
       intro a hA
       refine seq_do (v := .bool false) hA rfl rfl rfl (does_pick rfl rfl rfl rfl) ?_
       intro a hA
       refine seq_end ?_
       refine hK140 _ _ ?_
       refine wp_cond_false (hA.ev rfl) ?_
       refine wp_skip ?_
       refine hK139 _ _ ?_
       refine wp_seq_k (fun K147 hK147 => ?_)
       refine wp_seq_k (fun K148 hK148 => ?_)
       refine wp_region_lit ?_
       refine seq_do hA rfl rfl rfl (does_move rfl) ?_
       intro a hA
       refine seq_do hA rfl rfl rfl (does_move rfl) ?_
       intro a hA
       refine seq_do (v := .pointer (some ⟨bx141, ox142 + i, none⟩)) hA rfl rfl rfl (does_indexRow (k := i) Try.underlying23 (by kernel_rfl) rfl rfl (by first | rfl | omega) hs144 (by omega)) ?_
       intro a hA
       refine seq_do hA rfl rfl rfl (m_loadX hM hc145 EnF_is1_4 rfl) ?_
       intro a hA
       refine seq_do hA rfl rfl rfl (does_move rfl) ?_
       intro a hA
       refine seq_skip hA rfl rfl rfl ?_
       intro a hA
       refine seq_do (v := .bool false) hA rfl rfl rfl (does_pick rfl rfl rfl rfl) ?_
       intro a hA
       refine seq_end ?_
       refine hK148 _ _ ?_
       refine wp_cond_false (hA.ev rfl) ?_
       refine wp_skip ?_
       refine hK147 _ _ ?_
       refine wp_seq_k (fun K149 hK149 => ?_)
       refine wp_seq_k (fun K150 hK150 => ?_)
       refine wp_region_lit ?_
       refine seq_do hA rfl rfl rfl (does_move rfl) ?_
       intro a hA
       refine seq_do hA rfl rfl rfl (does_move rfl) ?_
       intro a hA
       refine seq_do (v := .pointer (some ⟨bx141, ox142 + i, none⟩)) hA rfl rfl rfl (does_indexRow (k := i) Try.underlying23 (by kernel_rfl) rfl rfl (by first | rfl | omega) hs144 (by omega)) ?_
       intro a hA
       refine seq_do hA rfl rfl rfl (m_loadX hM hc145 EnF_is1_4 rfl) ?_
       intro a hA
       refine seq_do hA rfl rfl rfl (does_move rfl) ?_
       intro a hA
       refine seq_skip hA rfl rfl rfl ?_
       intro a hA
       refine seq_skip hA rfl rfl rfl ?_
       intro a hA
       refine seq_do (v := .bool false) hA rfl rfl rfl (does_pick rfl rfl rfl rfl) ?_
       intro a hA
       refine seq_end ?_
       refine hK150 _ _ ?_
       refine wp_cond_false (hA.ev rfl) ?_
       refine wp_skip ?_
       refine hK149 _ _ ?_
       refine wp_seq_k (fun K151 hK151 => ?_)
       refine wp_region_lit ?_
       refine seq_do hA rfl rfl rfl (does_move rfl) ?_
       intro a hA
       refine seq_do hA rfl rfl rfl (does_move rfl) ?_
       intro a hA
       refine seq_do (v := .pointer (some ⟨bx141, ox142 + i, none⟩)) hA rfl rfl rfl (does_indexRow (k := i) Try.underlying23 (by kernel_rfl) rfl rfl (by first | rfl | omega) hs144 (by omega)) ?_
       intro a hA
       refine seq_do hA rfl rfl rfl (m_loadX hM hc145 EnF_is1_4 rfl) ?_
       intro a hA
       refine seq_do (v := .bool true) hA rfl rfl rfl (does_un rfl un_not) ?_
       intro a hA
       refine seq_end ?_
       refine hK151 _ _ ?_
       refine wp_cond_true (hA.ev rfl) ?_
       refine wp_region_lit ?_
       refine seq_do hA rfl rfl rfl (does_move rfl) ?_
       intro a hA
       refine seq_do hA rfl rfl rfl (does_move rfl) ?_
       intro a hA
       refine seq_do hA rfl rfl rfl (does_move rfl) ?_
       intro a hA
       refine seq_do (v := .pointer (some ⟨bx84, ox85 + i, none⟩)) hA rfl rfl rfl (does_indexRow (k := i) Try.underlying22 (by kernel_rfl) rfl rfl (by first | rfl | omega) hs87 (by omega)) ?_
       intro a hA
       refine seq_do hA rfl rfl rfl (m_loadX hM hc88 EnF_is1_9 rfl) ?_
       intro a hA
       refine s_litE (e := 9) (sz := 1) (m := 1) (vs := strC [sx86]) hA hM rfl rfl rfl (does_buildSlice rfl (by kernel_rfl)) rfl rfl (.inl (by decide)) ?_
       intro g152 w153 hM a hA
       refine s_appendE (e := 9) (sz := 1) (k := 1) (q := xn.length) (m := 1) (xs := strC xn) (news := strC [sx86]) (L' := fun v154 => (.row 9 1 (.slice (some ⟨g152, 0, none⟩) 1 1) 1 (strC [sx86]) :: .row 9 1 (v154) (xn.length + 1) (strC xn ++ strC [sx86]) :: .row 9 1 (.slice sl_ xl.length cl_) xl.length (strC xl) :: .row 9 1 (.slice sa_ xa.length cA_) xa.length (strC xa) :: .row 9 1 (.slice so_ xo.length co_) xo.length (strC xo) :: R9)) hA rfl rfl rfl (m_appX (z := .string ⟨#[]⟩) (sz := 1) (by_ := 16) Try.underlying22 (by kernel_rfl) rfl rfl rfl hM 1 rfl rfl rfl (strC_n [sx86]) (rc_own (hM.has 0 rfl)) (strC_one [sx86]) (by first | omega | (simp only [List.length_nil]; omega))) (fun _ => rfl) ?_
       intro v154 w155 hM a hA
       replace hM : Mg w w155 (.row 9 1 (.slice (some ⟨g152, 0, none⟩) 1 1) 1 (strC [sx86]) :: .row 9 1 (v154) ((xn ++ [sx86]).length) (strC (xn ++ [sx86])) :: .row 9 1 (.slice sl_ xl.length cl_) xl.length (strC xl) :: .row 9 1 (.slice sa_ xa.length cA_) xa.length (strC xa) :: .row 9 1 (.slice so_ xo.length co_) xo.length (strC xo) :: R9) := by
         rw [← strC_app, List.length_append]; exact hM
       obtain ⟨so156, ca157, rfl⟩ := owns_any (hM.has 1 rfl)
       refine seq_do hA rfl rfl rfl (does_assign rfl) ?_
       intro a hA
       refine seq_end ?_
       refine hK82 _ _ ?_
       refine wp_region_lit ?_
       refine seq_do hA rfl rfl rfl (does_move rfl) ?_
       intro a hA
       refine seq_do (v := .int .i64 (((i + 1 : Nat) : Int))) hA rfl rfl rfl (does_bin rfl rfl (ar_add ((in_i64 (by omega) (by omega)).trans (by omega)))) ?_
       intro a hA
       refine seq_do hA rfl rfl rfl (does_assign rfl) ?_
       intro a hA
       refine seq_end ?_
       replace hM : Mg w w155 (.row 9 1 (.slice so156 ((xn ++ [sx86]).length) ca157) ((xn ++ [sx86]).length) (strC (xn ++ [sx86])) :: .row 9 1 (.slice sl_ xl.length cl_) xl.length (strC xl) :: .row 9 1 (.slice sa_ xa.length cA_) xa.length (strC xa) :: .row 9 1 (.slice so_ xo.length co_) xo.length (strC xo) :: R9) := by
         have h9 := hM.sub (.cons _ (.cons_cons _ (.cons_cons _ (.cons_cons _ (.cons_cons _ (.refl _))))))
         exact h9
       have hh158 := has_at (snd_le hsd).2.2 hi89 hi146
       refine hK77 _ _ _ (by omega) ⟨i + 1, xn ++ [sx86], so156, ca157, xl, sl_, cl_, xa, sa_, cA_, xo, so_, co_, fl, rfl, ⟨by omega, by rw [fil_step hi89, ← hxn]; simp [hh158, hb90], by rw [fil_step hi89, ← hxl]; simp [hh158, hb90], by rw [fil_step hi89, ← hxa]; simp [hh158, hb90], by rw [fil_step hi89, ← hxo]; simp [hh158, hb90], by rw [any_step hi89, Bool.not_or, ← hfl]; simp [hh158, hb90]⟩, hA.keep _ ⟨rfl, rfl, rfl, rfl, rfl, rfl, rfl, rfl, rfl, rfl, rfl, rfl, rfl, rfl, rfl, rfl, rfl, rfl, rfl, rfl, rfl, rfl, rfl, rfl, rfl, rfl, rfl, rfl, rfl, rfl, rfl, rfl, rfl, rfl, rfl, rfl, rfl, rfl, rfl, rfl, rfl, rfl, rfl, rfl, rfl, rfl, rfl, rfl, rfl, rfl, rfl, rfl, rfl, rfl, rfl, rfl, rfl, rfl, rfl, rfl, rfl, rfl, rfl, rfl, rfl, rfl, rfl, rfl, rfl, rfl, rfl, rfl, rfl, rfl, rfl, rfl, rfl, rfl, rfl, rfl, rfl, rfl, trivial⟩, hM⟩
     · refine seq_do (v := .bool true) hA rfl rfl rfl (m_loadX hM hc145 EnF_is1_4 rfl) ?_
       intro a hA
       refine seq_do hA rfl rfl rfl (does_move rfl) ?_
       intro a hA
       refine seq_skip hA rfl rfl rfl ?_
       intro a hA
       refine seq_do (v := .bool true) hA rfl rfl rfl (does_pick rfl rfl rfl rfl) ?_
       intro a hA
       refine seq_end ?_
       refine hK140 _ _ ?_
       refine wp_cond_true (hA.ev rfl) ?_
       refine wp_region_lit ?_
       refine seq_do hA rfl rfl rfl (does_move rfl) ?_
       intro a hA
       refine seq_do hA rfl rfl rfl (does_move rfl) ?_
       intro a hA
       refine seq_do hA rfl rfl rfl (does_move rfl) ?_
       intro a hA
       refine seq_do (v := .pointer (some ⟨bx84, ox85 + i, none⟩)) hA rfl rfl rfl (does_indexRow (k := i) Try.underlying22 (by kernel_rfl) rfl rfl (by first | rfl | omega) hs87 (by omega)) ?_
       intro a hA
       refine seq_do hA rfl rfl rfl (m_loadX hM hc88 EnF_is1_9 rfl) ?_
       intro a hA
       refine s_litE (e := 9) (sz := 1) (m := 1) (vs := strC [sx86]) hA hM rfl rfl rfl (does_buildSlice rfl (by kernel_rfl)) rfl rfl (.inl (by decide)) ?_
       intro g159 w160 hM a hA
       refine s_appendE (e := 9) (sz := 1) (k := 4) (q := xo.length) (m := 1) (xs := strC xo) (news := strC [sx86]) (L' := fun v161 => (.row 9 1 (.slice (some ⟨g159, 0, none⟩) 1 1) 1 (strC [sx86]) :: .row 9 1 (.slice sn_ xn.length cn_) xn.length (strC xn) :: .row 9 1 (.slice sl_ xl.length cl_) xl.length (strC xl) :: .row 9 1 (.slice sa_ xa.length cA_) xa.length (strC xa) :: .row 9 1 (v161) (xo.length + 1) (strC xo ++ strC [sx86]) :: R9)) hA rfl rfl rfl (m_appX (z := .string ⟨#[]⟩) (sz := 1) (by_ := 16) Try.underlying22 (by kernel_rfl) rfl rfl rfl hM 4 rfl rfl rfl (strC_n [sx86]) (rc_own (hM.has 0 rfl)) (strC_one [sx86]) (by first | omega | (simp only [List.length_nil]; omega))) (fun _ => rfl) ?_
       intro v161 w162 hM a hA
       replace hM : Mg w w162 (.row 9 1 (.slice (some ⟨g159, 0, none⟩) 1 1) 1 (strC [sx86]) :: .row 9 1 (.slice sn_ xn.length cn_) xn.length (strC xn) :: .row 9 1 (.slice sl_ xl.length cl_) xl.length (strC xl) :: .row 9 1 (.slice sa_ xa.length cA_) xa.length (strC xa) :: .row 9 1 (v161) ((xo ++ [sx86]).length) (strC (xo ++ [sx86])) :: R9) := by
         rw [← strC_app, List.length_append]; exact hM
       obtain ⟨so163, ca164, rfl⟩ := owns_any (hM.has 4 rfl)
       refine seq_do hA rfl rfl rfl (does_assign rfl) ?_
       intro a hA
       refine seq_end ?_
       refine hK139 _ _ ?_
       refine wp_seq_k (fun K165 hK165 => ?_)
       refine wp_seq_k (fun K166 hK166 => ?_)
       refine wp_region_lit ?_
       refine seq_do hA rfl rfl rfl (does_move rfl) ?_
       intro a hA
       refine seq_do hA rfl rfl rfl (does_move rfl) ?_
       intro a hA
       refine seq_do (v := .pointer (some ⟨bx141, ox142 + i, none⟩)) hA rfl rfl rfl (does_indexRow (k := i) Try.underlying23 (by kernel_rfl) rfl rfl (by first | rfl | omega) hs144 (by omega)) ?_
       intro a hA
       refine seq_do hA rfl rfl rfl (m_loadX hM hc145 EnF_is1_4 rfl) ?_
       intro a hA
       refine seq_do hA rfl rfl rfl (does_move rfl) ?_
       intro a hA
       refine seq_do hA rfl rfl rfl (does_move rfl) ?_
       intro a hA
       refine seq_do (v := .bool false) hA rfl rfl rfl (does_pick rfl rfl rfl rfl) ?_
       intro a hA
       refine seq_end ?_
       refine hK166 _ _ ?_
       refine wp_cond_false (hA.ev rfl) ?_
       refine wp_skip ?_
       refine hK165 _ _ ?_
       refine wp_seq_k (fun K167 hK167 => ?_)
       refine wp_seq_k (fun K168 hK168 => ?_)
       refine wp_region_lit ?_
       refine seq_do hA rfl rfl rfl (does_move rfl) ?_
       intro a hA
       refine seq_do hA rfl rfl rfl (does_move rfl) ?_
       intro a hA
       refine seq_do (v := .pointer (some ⟨bx141, ox142 + i, none⟩)) hA rfl rfl rfl (does_indexRow (k := i) Try.underlying23 (by kernel_rfl) rfl rfl (by first | rfl | omega) hs144 (by omega)) ?_
       intro a hA
       refine seq_do hA rfl rfl rfl (m_loadX hM hc145 EnF_is1_4 rfl) ?_
       intro a hA
       refine seq_do hA rfl rfl rfl (does_move rfl) ?_
       intro a hA
       refine seq_do hA rfl rfl rfl (does_move rfl) ?_
       intro a hA
       refine seq_do (v := .bool true) hA rfl rfl rfl (does_un rfl un_not) ?_
       intro a hA
       refine seq_do (v := .bool true) hA rfl rfl rfl (does_pick rfl rfl rfl rfl) ?_
       intro a hA
       refine seq_end ?_
       refine hK168 _ _ ?_
       refine wp_cond_true (hA.ev rfl) ?_
       refine wp_seq_k (fun K169 hK169 => ?_)
       refine wp_region_lit ?_
       refine seq_do hA rfl rfl rfl (does_move rfl) ?_
       intro a hA
       refine seq_do hA rfl rfl rfl (does_move rfl) ?_
       intro a hA
       refine seq_do hA rfl rfl rfl (does_move rfl) ?_
       intro a hA
       refine seq_do (v := .pointer (some ⟨bx84, ox85 + i, none⟩)) hA rfl rfl rfl (does_indexRow (k := i) Try.underlying22 (by kernel_rfl) rfl rfl (by first | rfl | omega) hs87 (by omega)) ?_
       intro a hA
       refine seq_do hA rfl rfl rfl (m_loadX hM hc88 EnF_is1_9 rfl) ?_
       intro a hA
       refine s_litE (e := 9) (sz := 1) (m := 1) (vs := strC [sx86]) hA hM rfl rfl rfl (does_buildSlice rfl (by kernel_rfl)) rfl rfl (.inl (by decide)) ?_
       intro g170 w171 hM a hA
       refine s_appendE (e := 9) (sz := 1) (k := 3) (q := xl.length) (m := 1) (xs := strC xl) (news := strC [sx86]) (L' := fun v172 => (.row 9 1 (.slice (some ⟨g170, 0, none⟩) 1 1) 1 (strC [sx86]) :: .row 9 1 (.slice (some ⟨g159, 0, none⟩) 1 1) 1 (strC [sx86]) :: .row 9 1 (.slice sn_ xn.length cn_) xn.length (strC xn) :: .row 9 1 (v172) (xl.length + 1) (strC xl ++ strC [sx86]) :: .row 9 1 (.slice sa_ xa.length cA_) xa.length (strC xa) :: .row 9 1 (.slice so163 ((xo ++ [sx86]).length) ca164) ((xo ++ [sx86]).length) (strC (xo ++ [sx86])) :: R9)) hA rfl rfl rfl (m_appX (z := .string ⟨#[]⟩) (sz := 1) (by_ := 16) Try.underlying22 (by kernel_rfl) rfl rfl rfl hM 3 rfl rfl rfl (strC_n [sx86]) (rc_own (hM.has 0 rfl)) (strC_one [sx86]) (by first | omega | (simp only [List.length_nil]; omega))) (fun _ => rfl) ?_
       intro v172 w173 hM a hA
       replace hM : Mg w w173 (.row 9 1 (.slice (some ⟨g170, 0, none⟩) 1 1) 1 (strC [sx86]) :: .row 9 1 (.slice (some ⟨g159, 0, none⟩) 1 1) 1 (strC [sx86]) :: .row 9 1 (.slice sn_ xn.length cn_) xn.length (strC xn) :: .row 9 1 (v172) ((xl ++ [sx86]).length) (strC (xl ++ [sx86])) :: .row 9 1 (.slice sa_ xa.length cA_) xa.length (strC xa) :: .row 9 1 (.slice so163 ((xo ++ [sx86]).length) ca164) ((xo ++ [sx86]).length) (strC (xo ++ [sx86])) :: R9) := by
         rw [← strC_app, List.length_append]; exact hM
       obtain ⟨so174, ca175, rfl⟩ := owns_any (hM.has 3 rfl)
       refine seq_do hA rfl rfl rfl (does_assign rfl) ?_
       intro a hA
       refine seq_end ?_
       refine hK169 _ _ ?_
       refine wp_region_lit ?_
       refine seq_do hA rfl rfl rfl (does_assign rfl) ?_
       intro a hA
       refine seq_end ?_
       refine hK167 _ _ ?_
       refine wp_seq_k (fun K176 hK176 => ?_)
       refine wp_region_lit ?_
       refine seq_do hA rfl rfl rfl (does_move rfl) ?_
       intro a hA
       refine seq_do hA rfl rfl rfl (does_move rfl) ?_
       intro a hA
       refine seq_do (v := .pointer (some ⟨bx141, ox142 + i, none⟩)) hA rfl rfl rfl (does_indexRow (k := i) Try.underlying23 (by kernel_rfl) rfl rfl (by first | rfl | omega) hs144 (by omega)) ?_
       intro a hA
       refine seq_do hA rfl rfl rfl (m_loadX hM hc145 EnF_is1_4 rfl) ?_
       intro a hA
       refine seq_do (v := .bool false) hA rfl rfl rfl (does_un rfl un_not) ?_
       intro a hA
       refine seq_end ?_
       refine hK176 _ _ ?_
       refine wp_cond_false (hA.ev rfl) ?_
       refine wp_skip ?_
       refine hK82 _ _ ?_
       refine wp_region_lit ?_
       refine seq_do hA rfl rfl rfl (does_move rfl) ?_
       intro a hA
       refine seq_do (v := .int .i64 (((i + 1 : Nat) : Int))) hA rfl rfl rfl (does_bin rfl rfl (ar_add ((in_i64 (by omega) (by omega)).trans (by omega)))) ?_
       intro a hA
       refine seq_do hA rfl rfl rfl (does_assign rfl) ?_
       intro a hA
       refine seq_end ?_
       replace hM : Mg w w173 (.row 9 1 (.slice sn_ xn.length cn_) xn.length (strC xn) :: .row 9 1 (.slice so174 ((xl ++ [sx86]).length) ca175) ((xl ++ [sx86]).length) (strC (xl ++ [sx86])) :: .row 9 1 (.slice sa_ xa.length cA_) xa.length (strC xa) :: .row 9 1 (.slice so163 ((xo ++ [sx86]).length) ca164) ((xo ++ [sx86]).length) (strC (xo ++ [sx86])) :: R9) := by
         have h9 := hM.sub (.cons _ (.cons _ (.cons_cons _ (.cons_cons _ (.cons_cons _ (.cons_cons _ (.refl _)))))))
         exact h9
       have hh177 := has_at (snd_le hsd).2.2 hi89 hi146
       refine hK77 _ _ _ (by omega) ⟨i + 1, xn, sn_, cn_, xl ++ [sx86], so174, ca175, xa, sa_, cA_, xo ++ [sx86], so163, ca164, false, rfl, ⟨by omega, by rw [fil_step hi89, ← hxn]; simp [hh177, hb90], by rw [fil_step hi89, ← hxl]; simp [hh177, hb90], by rw [fil_step hi89, ← hxa]; simp [hh177, hb90], by rw [fil_step hi89, ← hxo]; simp [hh177, hb90], by rw [any_step hi89, Bool.not_or, ← hfl]; simp [hh177, hb90]⟩, hA.keep _ ⟨rfl, rfl, rfl, rfl, rfl, rfl, rfl, rfl, rfl, rfl, rfl, rfl, rfl, rfl, rfl, rfl, rfl, rfl, rfl, rfl, rfl, rfl, rfl, rfl, rfl, rfl, rfl, rfl, rfl, rfl, rfl, rfl, rfl, rfl, rfl, rfl, rfl, rfl, rfl, rfl, rfl, rfl, rfl, rfl, rfl, rfl, rfl, rfl, rfl, rfl, rfl, rfl, rfl, rfl, rfl, rfl, rfl, rfl, rfl, rfl, rfl, rfl, rfl, rfl, rfl, rfl, rfl, rfl, rfl, rfl, rfl, rfl, rfl, rfl, rfl, rfl, rfl, rfl, rfl, rfl, rfl, rfl, trivial⟩, hM⟩
 · have hc81' := of_decide_eq_false hc81
   refine wp_exit ?_
   refine hK74 _ _ ?_
   refine wp_seq_k (fun K178 hK178 => ?_)
   refine wp_region_lit ?_
   refine s_litE (e := 9) (sz := 1) (m := 0) (vs := strC []) hA hM rfl rfl rfl (does_buildSlice rfl (by kernel_rfl)) rfl rfl (.inl (by decide)) ?_
   intro g179 w180 hM a hA
   refine seq_do hA rfl rfl rfl (does_assign rfl) ?_
   intro a hA
   refine seq_end ?_
   refine hK178 _ _ ?_
   refine wp_seq_k (fun K181 hK181 => ?_)
   refine wp_seq_k (fun K182 hK182 => ?_)
   refine wp_region_lit ?_
   refine seq_do hA rfl rfl rfl (does_assign rfl) ?_
   intro a hA
   refine seq_end ?_
   refine hK182 _ _ ?_
   refine wp_block ?_
   refine wp_loop_n (fun m_ a w1 => ∃ (j : Nat) (xp : List ByteArray) (sp_ : Option Addr) (cp_ : Nat), m_ = 1 + (l2.length - j) ∧ (j ≤ l2.length ∧ xp = (l2.take j).filter (hasS l bs)) ∧ Sl a 265 [(0, .slice so l.length ca), (1, .slice si bs.length ci), (2, .slice so2 l2.length ca2), (3, .slice si2 bs2.length ci2), (8, .bool false), (9, .pointer (some ⟨g3, 0, none⟩)), (10, .pointer (some ⟨g5, 0, none⟩)), (11, .pointer (some ⟨g12, 0, none⟩)), (12, .int .i64 10), (13, .pointer (some ⟨g18, 0, none⟩)), (14, .int .i64 10), (15, .pointer (some ⟨g24, 0, none⟩)), (16, .int .i64 10), (17, .pointer (some ⟨g36, 0, none⟩)), (18, .int .i64 0), (19, .bool ((!(memS l bs).any fun s => !hasS l2 bs2 s))), (20, .int .i64 0), (21, .pointer (some ⟨g51, 0, none⟩)), (22, .int .i64 0), (23, .slice so_ xo.length co_), (24, .slice sa_ xa.length cA_), (25, .slice sl_ xl.length cl_), (26, .slice sn_ xn.length cn_), (27, .bool fl), (28, .int .i64 (((i : Nat) : Int))), (30, .slice sp_ xp.length cp_), (31, .int .i64 (((j : Nat) : Int))), (32, .slice so l.length ca), (33, .slice si bs.length ci), (34, .agg #[.slice so l.length ca, .slice si bs.length ci]), (35, .slice so2 l2.length ca2), (36, .slice si2 bs2.length ci2), (37, .agg #[.slice so2 l2.length ca2, .slice si2 bs2.length ci2]), (38, .tuple #[.agg #[.slice none 0 0, .slice none 0 0], .int .i64 10]), (39, .agg #[.slice so l.length ca, .slice si bs.length ci]), (40, .agg #[.slice so2 l2.length ca2, .slice si2 bs2.length ci2]), (41, .tuple #[.agg #[.slice none 0 0, .slice none 0 0], .int .i64 10]), (42, .agg #[.slice none 0 0, .slice none 0 0]), (43, .int .i64 10), (44, .tuple #[.agg #[.slice none 0 0, .slice none 0 0], .int .i64 10]), (45, .agg #[.slice so l.length ca, .slice si bs.length ci]), (46, .agg #[.slice so2 l2.length ca2, .slice si2 bs2.length ci2]), (47, .tuple #[.agg #[.slice none 0 0, .slice none 0 0], .int .i64 10]), (48, .agg #[.slice none 0 0, .slice none 0 0]), (49, .int .i64 10), (50, .tuple #[.agg #[.slice none 0 0, .slice none 0 0], .int .i64 10]), (51, .agg #[.slice so l.length ca, .slice si bs.length ci]), (52, .agg #[.slice so2 l2.length ca2, .slice si2 bs2.length ci2]), (53, .tuple #[.agg #[.slice none 0 0, .slice none 0 0], .int .i64 10]), (54, .agg #[.slice none 0 0, .slice none 0 0]), (55, .int .i64 10), (56, .tuple #[.agg #[.slice so28 l.length ca29, .slice si30 q32.length ci31], .int .i64 0]), (57, .agg #[.slice so l.length ca, .slice si bs.length ci]), (58, .tuple #[.agg #[.slice so28 l.length ca29, .slice si30 q32.length ci31], .int .i64 0]), (59, .agg #[.slice so28 l.length ca29, .slice si30 q32.length ci31]), (60, .int .i64 0), (61, .tuple #[.bool ((!(memS l bs).any fun s => !hasS l2 bs2 s)), .int .i64 0]), (62, .agg #[.slice so l.length ca, .slice si bs.length ci]), (63, .agg #[.slice so2 l2.length ca2, .slice si2 bs2.length ci2]), (64, .tuple #[.bool ((!(memS l bs).any fun s => !hasS l2 bs2 s)), .int .i64 0]), (65, .bool ((!(memS l bs).any fun s => !hasS l2 bs2 s))), (66, .int .i64 0), (67, .tuple #[.agg #[.slice so43 l2.length ca44, .slice si45 q47.length ci46], .int .i64 0]), (68, .agg #[.slice so l.length ca, .slice si bs.length ci]), (69, .agg #[.slice so2 l2.length ca2, .slice si2 bs2.length ci2]), (70, .tuple #[.agg #[.slice so43 l2.length ca44, .slice si45 q47.length ci46], .int .i64 0]), (71, .agg #[.slice so43 l2.length ca44, .slice si45 q47.length ci46]), (72, .int .i64 0), (73, .bool true), (74, .bool false), (75, .slice so l.length ca), (76, .slice si bs.length ci), (77, .bool true), (78, .bool false), (79, .bool false), (80, .slice so2 l2.length ca2), (81, .slice si2 bs2.length ci2), (82, .bool true), (83, .bool false), (84, .bool false), (116, .slice (some ⟨g65, 0, none⟩) 0 0), (117, .slice (some ⟨g67, 0, none⟩) 0 0), (118, .slice (some ⟨g69, 0, none⟩) 0 0), (119, .slice (some ⟨g71, 0, none⟩) 0 0), (120, .int .i64 (((i : Nat) : Int))), (121, .slice so l.length ca), (122, .int .i64 (((l.length : Nat) : Int))), (123, .bool (decide (((i : Nat) : Int) < ((l.length : Nat) : Int)))), (188, .slice (some ⟨g179, 0, none⟩) 0 0)] ∧ Mg w w1 (.row 9 1 (.slice sp_ xp.length cp_) xp.length (strC xp) :: .row 9 1 (.slice sn_ xn.length cn_) xn.length (strC xn) :: .row 9 1 (.slice sl_ xl.length cl_) xl.length (strC xl) :: .row 9 1 (.slice sa_ xa.length cA_) xa.length (strC xa) :: .row 9 1 (.slice so_ xo.length co_) xo.length (strC xo) :: R9)) _ ⟨0, [], _, 0, rfl, ⟨Nat.zero_le _, rfl⟩, hA.keep _ ⟨rfl, rfl, rfl, rfl, rfl, rfl, rfl, rfl, rfl, rfl, rfl, rfl, rfl, rfl, rfl, rfl, rfl, rfl, rfl, rfl, rfl, rfl, rfl, rfl, rfl, rfl, rfl, rfl, rfl, rfl, rfl, rfl, rfl, rfl, rfl, rfl, rfl, rfl, rfl, rfl, rfl, rfl, rfl, rfl, rfl, rfl, rfl, rfl, rfl, rfl, rfl, rfl, rfl, rfl, rfl, rfl, rfl, rfl, rfl, rfl, rfl, rfl, rfl, rfl, rfl, rfl, rfl, rfl, rfl, rfl, rfl, rfl, rfl, rfl, rfl, rfl, rfl, rfl, rfl, rfl, rfl, rfl, rfl, rfl, rfl, rfl, rfl, rfl, rfl, trivial⟩, hM⟩ ?_
   clear hM hA
   rintro m_ a w183 ⟨j, xp, sp_, cp_, rfl, hinv185, hA, hM⟩ K184 hK184
   obtain ⟨hj0, hxp⟩ := hinv185
   have hLxp : xp.length ≤ j := by rw [hxp]; exact fil_len
   refine wp_seq_k (fun K186 hK186 => ?_)
   refine wp_seq_k (fun K187 hK187 => ?_)
   refine wp_region_lit ?_
   refine seq_do hA rfl rfl rfl (does_move rfl) ?_
   intro a hA
   refine seq_do hA rfl rfl rfl (does_move rfl) ?_
   intro a hA
   refine seq_do (v := .int .i64 (((l2.length : Nat) : Int))) hA rfl rfl rfl (does_len Try.underlying22 rfl) ?_
   intro a hA
   refine seq_do (v := .bool (decide (((j : Nat) : Int) < ((l2.length : Nat) : Int)))) hA rfl rfl rfl (does_bin rfl rfl bin_lss) ?_
   intro a hA
   refine seq_end ?_
   refine hK187 _ _ ?_
   refine wp_cond_split (t := decide (((j : Nat) : Int) < ((l2.length : Nat) : Int))) (hA.ev rfl) (fun hc188 => ?_) (fun hc188 => ?_)
   · have hc188' := of_decide_eq_true hc188
     refine wp_skip ?_
     refine hK186 _ _ ?_
     refine wp_seq_k (fun K189 hK189 => ?_)
     refine wp_block ?_
     refine wp_seq_k (fun K190 hK190 => ?_)
     refine wp_region_lit ?_
     refine seq_do hA rfl rfl rfl (does_move rfl) ?_
     intro a hA
     refine seq_do hA rfl rfl rfl (does_move rfl) ?_
     intro a hA
     refine seq_do hA rfl rfl rfl (does_move rfl) ?_
     intro a hA
     refine seq_do hA rfl rfl rfl (does_move rfl) ?_
     intro a hA
     obtain ⟨bx191, ox192, sx193, hs194, hc195, hi196⟩ := hR2.at_ (i := j) (by omega)
     refine seq_do (v := .pointer (some ⟨bx191, ox192 + j, none⟩)) hA rfl rfl rfl (does_indexRow (k := j) Try.underlying22 (by kernel_rfl) rfl rfl (by first | rfl | omega) hs194 (by omega)) ?_
     intro a hA
     refine seq_do hA rfl rfl rfl (m_loadX hM hc195 EnF_is1_9 rfl) ?_
     intro a hA
     rcases Bool.eq_false_or_eq_true (hasS l bs sx193) with hb197 | hb197
     · refine seq_call hA rfl rfl rfl (enters_func rfl rfl (fun w => by kernel_rfl)) (rhas_as (hR.below hM.bel) (hB.below hM.bel) hl (snd_le hsd).2.1 hb197) ?_
       rintro _ w199 ⟨rfl, hb198⟩
       replace hM := hM.call hb198
       refine ⟨_, rfl, ?_⟩
       intro a hA
       refine seq_end ?_
       refine hK190 _ _ ?_
       refine wp_cond_true (hA.ev rfl) ?_
       refine wp_region_lit ?_
       refine seq_do hA rfl rfl rfl (does_move rfl) ?_
       intro a hA
       refine seq_do hA rfl rfl rfl (does_move rfl) ?_
       intro a hA
       refine seq_do hA rfl rfl rfl (does_move rfl) ?_
       intro a hA
       refine seq_do (v := .pointer (some ⟨bx191, ox192 + j, none⟩)) hA rfl rfl rfl (does_indexRow (k := j) Try.underlying22 (by kernel_rfl) rfl rfl (by first | rfl | omega) hs194 (by omega)) ?_
       intro a hA
       refine seq_do hA rfl rfl rfl (m_loadX hM hc195 EnF_is1_9 rfl) ?_
       intro a hA
       refine s_litE (e := 9) (sz := 1) (m := 1) (vs := strC [sx193]) hA hM rfl rfl rfl (does_buildSlice rfl (by kernel_rfl)) rfl rfl (.inl (by decide)) ?_
       intro g200 w201 hM a hA
       refine s_appendE (e := 9) (sz := 1) (k := 1) (q := xp.length) (m := 1) (xs := strC xp) (news := strC [sx193]) (L' := fun v202 => (.row 9 1 (.slice (some ⟨g200, 0, none⟩) 1 1) 1 (strC [sx193]) :: .row 9 1 (v202) (xp.length + 1) (strC xp ++ strC [sx193]) :: .row 9 1 (.slice sn_ xn.length cn_) xn.length (strC xn) :: .row 9 1 (.slice sl_ xl.length cl_) xl.length (strC xl) :: .row 9 1 (.slice sa_ xa.length cA_) xa.length (strC xa) :: .row 9 1 (.slice so_ xo.length co_) xo.length (strC xo) :: R9)) hA rfl rfl rfl (m_appX (z := .string ⟨#[]⟩) (sz := 1) (by_ := 16) Try.underlying22 (by kernel_rfl) rfl rfl rfl hM 1 rfl rfl rfl (strC_n [sx193]) (rc_own (hM.has 0 rfl)) (strC_one [sx193]) (by first | omega | (simp only [List.length_nil]; omega))) (fun _ => rfl) ?_
       intro v202 w203 hM a hA
       replace hM : Mg w w203 (.row 9 1 (.slice (some ⟨g200, 0, none⟩) 1 1) 1 (strC [sx193]) :: .row 9 1 (v202) ((xp ++ [sx193]).length) (strC (xp ++ [sx193])) :: .row 9 1 (.slice sn_ xn.length cn_) xn.length (strC xn) :: .row 9 1 (.slice sl_ xl.length cl_) xl.length (strC xl) :: .row 9 1 (.slice sa_ xa.length cA_) xa.length (strC xa) :: .row 9 1 (.slice so_ xo.length co_) xo.length (strC xo) :: R9) := by
         rw [← strC_app, List.length_append]; exact hM
       obtain ⟨so204, ca205, rfl⟩ := owns_any (hM.has 1 rfl)
       refine seq_do hA rfl rfl rfl (does_assign rfl) ?_
       intro a hA
       refine seq_end ?_
       refine hK189 _ _ ?_
       refine wp_region_lit ?_
       refine seq_do hA rfl rfl rfl (does_move rfl) ?_
       intro a hA
       refine seq_do (v := .int .i64 (((j + 1 : Nat) : Int))) hA rfl rfl rfl (does_bin rfl rfl (ar_add ((in_i64 (by omega) (by omega)).trans (by omega)))) ?_
       intro a hA
       refine seq_do hA rfl rfl rfl (does_assign rfl) ?_
       intro a hA
       refine seq_end ?_
       replace hM : Mg w w203 (.row 9 1 (.slice so204 ((xp ++ [sx193]).length) ca205) ((xp ++ [sx193]).length) (strC (xp ++ [sx193])) :: .row 9 1 (.slice sn_ xn.length cn_) xn.length (strC xn) :: .row 9 1 (.slice sl_ xl.length cl_) xl.length (strC xl) :: .row 9 1 (.slice sa_ xa.length cA_) xa.length (strC xa) :: .row 9 1 (.slice so_ xo.length co_) xo.length (strC xo) :: R9) := by
         have h9 := hM.sub (.cons _ (.cons_cons _ (.cons_cons _ (.cons_cons _ (.cons_cons _ (.cons_cons _ (.refl _)))))))
         exact h9
       refine hK184 _ _ _ (by omega) ⟨j + 1, xp ++ [sx193], so204, ca205, rfl, ⟨by omega, by rw [fil_step hi196, ← hxp]; simp [hb197]⟩, hA.keep _ ⟨rfl, rfl, rfl, rfl, rfl, rfl, rfl, rfl, rfl, rfl, rfl, rfl, rfl, rfl, rfl, rfl, rfl, rfl, rfl, rfl, rfl, rfl, rfl, rfl, rfl, rfl, rfl, rfl, rfl, rfl, rfl, rfl, rfl, rfl, rfl, rfl, rfl, rfl, rfl, rfl, rfl, rfl, rfl, rfl, rfl, rfl, rfl, rfl, rfl, rfl, rfl, rfl, rfl, rfl, rfl, rfl, rfl, rfl, rfl, rfl, rfl, rfl, rfl, rfl, rfl, rfl, rfl, rfl, rfl, rfl, rfl, rfl, rfl, rfl, rfl, rfl, rfl, rfl, rfl, rfl, rfl, rfl, rfl, rfl, rfl, rfl, rfl, rfl, rfl, trivial⟩, hM⟩
     · refine seq_call hA rfl rfl rfl (enters_func rfl rfl (fun w => by kernel_rfl)) (rhas_as (hR.below hM.bel) (hB.below hM.bel) hl (snd_le hsd).2.1 hb197) ?_
       rintro _ w207 ⟨rfl, hb206⟩
       replace hM := hM.call hb206
       refine ⟨_, rfl, ?_⟩
       intro a hA
       refine seq_end ?_
       refine hK190 _ _ ?_
       refine wp_cond_false (hA.ev rfl) ?_
       refine wp_skip ?_
       refine hK189 _ _ ?_
       refine wp_region_lit ?_
       refine seq_do hA rfl rfl rfl (does_move rfl) ?_
       intro a hA
       refine seq_do (v := .int .i64 (((j + 1 : Nat) : Int))) hA rfl rfl rfl (does_bin rfl rfl (ar_add ((in_i64 (by omega) (by omega)).trans (by omega)))) ?_
       intro a hA
       refine seq_do hA rfl rfl rfl (does_assign rfl) ?_
       intro a hA
       refine seq_end ?_
       refine hK184 _ _ _ (by omega) ⟨j + 1, xp, sp_, cp_, rfl, ⟨by omega, by rw [fil_step hi196, ← hxp]; simp [hb197]⟩, hA.keep _ ⟨rfl, rfl, rfl, rfl, rfl, rfl, rfl, rfl, rfl, rfl, rfl, rfl, rfl, rfl, rfl, rfl, rfl, rfl, rfl, rfl, rfl, rfl, rfl, rfl, rfl, rfl, rfl, rfl, rfl, rfl, rfl, rfl, rfl, rfl, rfl, rfl, rfl, rfl, rfl, rfl, rfl, rfl, rfl, rfl, rfl, rfl, rfl, rfl, rfl, rfl, rfl, rfl, rfl, rfl, rfl, rfl, rfl, rfl, rfl, rfl, rfl, rfl, rfl, rfl, rfl, rfl, rfl, rfl, rfl, rfl, rfl, rfl, rfl, rfl, rfl, rfl, rfl, rfl, rfl, rfl, rfl, rfl, rfl, rfl, rfl, rfl, rfl, rfl, rfl, trivial⟩, hM⟩
   · have hc188' := of_decide_eq_false hc188
     refine wp_exit ?_
     refine hK181 _ _ ?_
     refine wp_seq_k (fun K208 hK208 => ?_)
     refine wp_seq_k (fun K209 hK209 => ?_)
     replace hM : Mg w w183 (.row 9 1 (.slice sp_ xp.length cp_) xp.length (strC xp) :: .row 9 1 (.slice sn_ xn.length cn_) xn.length (strC xn) :: .row 9 1 (.slice sl_ xl.length cl_) xl.length (strC xl) :: .row 9 1 (.slice sa_ xa.length cA_) xa.length (strC xa) :: .row 9 1 (.slice so_ xo.length co_) xo.length (strC xo) :: .obj g51 (.cells #[.slice so43 l2.length ca44, .slice si45 q47.length ci46] 25) :: .row 9 1 (.slice so43 l2.length ca44) l2.length (strC l2) :: .row 4 1 (.slice si45 q47.length ci46) q47.length (boolC q47) :: .obj g36 (.cells #[.slice so28 l.length ca29, .slice si30 q32.length ci31] 25) :: .row 9 1 (.slice so28 l.length ca29) l.length (strC l) :: .row 4 1 (.slice si30 q32.length ci31) q32.length (boolC q32) :: .obj g24 (.cells #[.slice none 0 0, .slice none 0 0] 25) :: .obj g18 (.cells #[.slice none 0 0, .slice none 0 0] 25) :: .obj g12 (.cells #[.slice none 0 0, .slice none 0 0] 25) :: .obj g5 (.cells #[.slice so2 l2.length ca2, .slice si2 bs2.length ci2] 25) :: .obj g3 (.cells #[.slice so l.length ca, .slice si bs.length ci] 25) :: []) := by rw [hR9] at hM; exact hM
     refine wp_region_lit ?_
     refine seq_do hA rfl rfl rfl (m_loadS hM EnF_isS_25 rfl 8 rfl (cs := [.slice so28 l.length ca29, .slice si30 q32.length ci31]) rfl rfl) ?_
     intro a hA
     refine seq_do hA rfl rfl rfl (does_move rfl) ?_
     intro a hA
     refine seq_do hA rfl rfl rfl (does_move rfl) ?_
     intro a hA
     refine seq_do hA rfl rfl rfl (does_move rfl) ?_
     intro a hA
     refine seq_call hA rfl rfl rfl (enters_func rfl rfl (fun w => by kernel_rfl)) (is_any (rc_own (hM.has 9 rfl)) (rc_own (hM.has 10 rfl)) (hR.below hM.bel) (rc_own (hM.has 1 rfl)) (by rw [hxn]; exact Nat.le_trans fil_len (by omega)) (snd_map hsd hq33) (by rw [hq33, mem_map, hxn, fil_full (by omega)])) ?_
     rintro _ w211 ⟨rfl, hb210⟩
     replace hM := hM.call hb210
     refine ⟨_, rfl, ?_⟩
     intro a hA
     refine seq_do (v := .bool false) hA rfl rfl rfl (does_un rfl un_not) ?_
     intro a hA
     refine seq_do hA rfl rfl rfl (does_move rfl) ?_
     intro a hA
     refine seq_do hA rfl rfl rfl (does_move rfl) ?_
     intro a hA
     refine seq_do (v := .bool false) hA rfl rfl rfl (does_bin rfl rfl (fun w => by kernel_rfl)) ?_
     intro a hA
     refine seq_do (v := .bool false) hA rfl rfl rfl (does_pick rfl rfl rfl rfl) ?_
     intro a hA
     refine seq_do hA rfl rfl rfl (does_move rfl) ?_
     intro a hA
     refine seq_do hA rfl rfl rfl (does_move rfl) ?_
     intro a hA
     refine seq_do hA rfl rfl rfl (does_move rfl) ?_
     intro a hA
     refine seq_do (v := .bool false) hA rfl rfl rfl (does_bin rfl rfl (fun w => ((bin_neqB Try.underlying4) w).trans (by rw [show (!((!(memS l bs).any fun s => !hasS l2 bs2 s) == fl)) = false from (by rw [hfl, sub_eq hsd, List.take_of_length_le (show l.length ≤ i by omega)]; simp)]))) ?_
     intro a hA
     refine seq_do (v := .bool false) hA rfl rfl rfl (does_pick rfl rfl rfl rfl) ?_
     intro a hA
     refine seq_do hA rfl rfl rfl (does_move rfl) ?_
     intro a hA
     refine seq_do hA rfl rfl rfl (m_loadS hM EnF_isS_25 rfl 5 rfl (cs := [.slice so43 l2.length ca44, .slice si45 q47.length ci46]) rfl rfl) ?_
     intro a hA
     refine seq_do hA rfl rfl rfl (does_move rfl) ?_
     intro a hA
     refine seq_do hA rfl rfl rfl (does_move rfl) ?_
     intro a hA
     refine seq_do hA rfl rfl rfl (does_move rfl) ?_
     intro a hA
     refine seq_call hA rfl rfl rfl (enters_func rfl rfl (fun w => by kernel_rfl)) (is_any (rc_own (hM.has 6 rfl)) (rc_own (hM.has 7 rfl)) (hR2.below hM.bel) (rc_own (hM.has 0 rfl)) (by rw [hxp]; exact Nat.le_trans fil_len (by omega)) (snd_map hsd2 hq48) (by rw [hq48, mem_map, hxp, fil_full (by omega)])) ?_
     rintro _ w213 ⟨rfl, hb212⟩
     replace hM := hM.call hb212
     refine ⟨_, rfl, ?_⟩
     intro a hA
     refine seq_do (v := .bool false) hA rfl rfl rfl (does_un rfl un_not) ?_
     intro a hA
     refine seq_do (v := .bool false) hA rfl rfl rfl (does_pick rfl rfl rfl rfl) ?_
     intro a hA
     refine seq_end ?_
     refine hK209 _ _ ?_
     refine wp_cond_false (hA.ev rfl) ?_
     refine wp_skip ?_
     refine hK208 _ _ ?_
     refine wp_seq_k (fun K214 hK214 => ?_)
     refine wp_seq_k (fun K215 hK215 => ?_)
     refine wp_region_lit ?_
     refine seq_do hA rfl rfl rfl (does_move rfl) ?_
     intro a hA
     refine seq_do hA rfl rfl rfl (does_move rfl) ?_
     intro a hA
     refine seq_call hA rfl rfl rfl (enters_func rfl rfl (fun w => by kernel_rfl)) (sameT_as (hR.below hM.bel) hl (hR2.below hM.bel) hl2 heq) ?_
     rintro _ w217 ⟨rfl, hb216⟩
     replace hM := hM.call hb216
     refine ⟨_, rfl, ?_⟩
     intro a hA
     refine seq_do (v := .bool true) hA rfl rfl rfl (does_un rfl un_not) ?_
     intro a hA
     refine seq_end ?_
     refine hK215 _ _ ?_
     refine wp_cond_true (hA.ev rfl) ?_
     refine wp_seq_k (fun K218 hK218 => ?_)
     refine wp_region_lit ?_
     refine seq_do hA rfl rfl rfl (does_move rfl) ?_
     intro a hA
     refine seq_do (v := .bool true) hA rfl rfl rfl (does_bin rfl rfl (fun w => by kernel_rfl)) ?_
     intro a hA
     refine seq_do hA rfl rfl rfl (does_move rfl) ?_
     intro a hA
     refine seq_do hA rfl rfl rfl (does_move rfl) ?_
     intro a hA
     refine seq_do (v := .bool true) hA rfl rfl rfl (does_bin rfl rfl (fun w => by kernel_rfl)) ?_
     intro a hA
     refine seq_do (v := .bool true) hA rfl rfl rfl (does_pick rfl rfl rfl rfl) ?_
     intro a hA
     refine seq_do hA rfl rfl rfl (does_move rfl) ?_
     intro a hA
     refine seq_do hA rfl rfl rfl (does_move rfl) ?_
     intro a hA
     refine seq_do (v := .bool true) hA rfl rfl rfl (does_bin rfl rfl (fun w => by kernel_rfl)) ?_
     intro a hA
     refine seq_do (v := .bool true) hA rfl rfl rfl (does_pick rfl rfl rfl rfl) ?_
     intro a hA
     refine seq_do hA rfl rfl rfl (does_assign rfl) ?_
     intro a hA
     refine seq_end ?_
     refine hK218 _ _ ?_
     refine wp_ret ?_
     refine hret _ _ ?_
     refine ends (v := .bool true) hA rfl (.cons (res_tmp rfl) .nil) rfl ?_
     exact ⟨rfl, hM.bel⟩
set_option maxHeartbeats 1000000 in
theorem sets_ok {w : World} {so si : Option Addr} {ca ci : Nat} {l : List ByteArray} {bs : List Bool} (hR : Rs w so l) (hB : Rl w si bs) {so2 si2 : Option Addr} {ca2 ci2 : Nat} {l2 : List ByteArray} {bs2 : List Bool} (hR2 : Rs w so2 l2) (hB2 : Rl w si2 bs2) (hs : ∀ s ∈ l, s.size ≤ 281474976710656) (hs2 : ∀ s ∈ l2, s.size ≤ 281474976710656) (hsd : sndS l bs = true) (hsd2 : sndS l2 bs2 = true) (heq : decide (l = l2) = true) : Calls Try.prog 4 #[.slice so l.length ca, .slice si bs.length ci, .slice so2 l2.length ca2, .slice si2 bs2.length ci2] w fun e w' => e = .returned (.bool true) ∧ Below w.heap.size w w' := by
 have hl : l.length ≤ 8796093021952 := by have := (snd_le hsd).1; omega
 have hl2 : l2.length ≤ 8796093021952 := by have := (snd_le hsd2).1; omega
 have h64 := (snd_le hsd).1
 have hbl := (snd_le hsd).2.1
 have h642 := (snd_le hsd2).1
 have hbl2 := (snd_le hsd2).2.1
 have hM : Mg w w ([]) := Mg.start w
 refine walk_of (l := [(0, .slice so l.length ca), (1, .slice si bs.length ci), (2, .slice so2 l2.length ca2), (3, .slice si2 bs2.length ci2)]) Try.func4 rfl Try.ntmps4 rfl rfl ?_
 intro Q hret hnorm hP a hA
 refine wp_seq_k (fun K1 hK1 => ?_)
 refine wp_region_lit ?_
 refine seq_do hA rfl rfl rfl (does_assign rfl) ?_
 intro a hA
 refine seq_end ?_
 refine hK1 _ _ ?_
 refine wp_seq_k (fun K2 hK2 => ?_)
 refine wp_region_lit ?_
 refine seq_do hA rfl rfl rfl (does_move rfl) ?_
 intro a hA
 refine seq_do hA rfl rfl rfl (does_move rfl) ?_
 intro a hA
 refine seq_do (v := .agg #[.slice so l.length ca, .slice si bs.length ci]) hA rfl rfl rfl (does_build rfl (fun w => by kernel_rfl)) ?_
 intro a hA
 refine seq_do hA rfl rfl rfl (does_move rfl) ?_
 intro a hA
 refine seq_do hA rfl rfl rfl (does_move rfl) ?_
 intro a hA
 refine seq_do (v := .agg #[.slice so2 l2.length ca2, .slice si2 bs2.length ci2]) hA rfl rfl rfl (does_build rfl (fun w => by kernel_rfl)) ?_
 intro a hA
 refine s_new (vs := [.slice none 0 0, .slice none 0 0]) (t := 25) hA hM rfl rfl rfl (fun g => .pointer (some ⟨g, 0, none⟩)) (does_alloc (z := .agg #[.slice none 0 0, .slice none 0 0]) (by kernel_rfl) rfl) (by decide) ?_
 intro g3 w4 hM a hA
 refine s_new (vs := [.slice none 0 0, .slice none 0 0]) (t := 25) hA hM rfl rfl rfl (fun g => .pointer (some ⟨g, 0, none⟩)) (does_alloc (z := .agg #[.slice none 0 0, .slice none 0 0]) (by kernel_rfl) rfl) (by decide) ?_
 intro g5 w6 hM a hA
 refine s_store (us := [.slice so l.length ca, .slice si bs.length ci]) (L' := (.obj g5 (.cells #[.slice none 0 0, .slice none 0 0] 25) :: .obj g3 (.cells #[.slice so l.length ca, .slice si bs.length ci] 25) :: [])) hA hM rfl rfl (m_store rfl rfl rfl (by kernel_rfl) hM 1 rfl rfl rfl) 1 rfl rfl rfl ?_
 intro w7 hM
 refine s_store (us := [.slice so2 l2.length ca2, .slice si2 bs2.length ci2]) (L' := (.obj g5 (.cells #[.slice so2 l2.length ca2, .slice si2 bs2.length ci2] 25) :: .obj g3 (.cells #[.slice so l.length ca, .slice si bs.length ci] 25) :: [])) hA hM rfl rfl (m_store rfl rfl rfl (by kernel_rfl) hM 0 rfl rfl rfl) 0 rfl rfl rfl ?_
 intro w8 hM
 refine seq_end ?_
 refine hK2 _ _ ?_
 refine wp_seq_k (fun K9 hK9 => ?_)
 refine wp_region_lit ?_
 refine seq_do hA rfl rfl rfl (m_loadS hM EnF_isS_25 rfl 1 rfl (cs := [.slice so l.length ca, .slice si bs.length ci]) rfl rfl) ?_
 intro a hA
 refine seq_do hA rfl rfl rfl (m_loadS hM EnF_isS_25 rfl 0 rfl (cs := [.slice so2 l2.length ca2, .slice si2 bs2.length ci2]) rfl rfl) ?_
 intro a hA
 refine seq_call hA rfl rfl rfl (enters_func rfl rfl (fun w => by kernel_rfl)) (union_okN (hR.below hM.bel) (hB.below hM.bel) (hR2.below hM.bel) (hB2.below hM.bel) hs hsd hsd2 heq) ?_
 rintro _ w17 ⟨so10, ca11, si12, ci13, q14, hq15, rfl, hM16⟩
 replace hM : Mg w w17 (.row 9 1 (.slice so10 l.length ca11) l.length (strC l) :: .row 4 1 (.slice si12 q14.length ci13) q14.length (boolC q14) :: .obj g5 (.cells #[.slice so2 l2.length ca2, .slice si2 bs2.length ci2] 25) :: .obj g3 (.cells #[.slice so l.length ca, .slice si bs.length ci] 25) :: []) := (hM.both hM16 (noBld_cons (by simp) (noBld_cons (by simp) (noBld_quiet quietL_nil))) (noBld_cons (by simp) (noBld_cons (by simp) (noBld_quiet quietL_nil))))
 refine ⟨_, rfl, ?_⟩
 intro a hA
 refine seq_do hA rfl rfl rfl (does_move rfl) ?_
 intro a hA
 refine seq_do (v := .agg #[.slice so10 l.length ca11, .slice si12 q14.length ci13]) hA rfl rfl rfl (does_extract (vs := [.agg #[.slice so10 l.length ca11, .slice si12 q14.length ci13], .int .i64 0]) rfl rfl) ?_
 intro a hA
 refine seq_do (v := .int .i64 0) hA rfl rfl rfl (does_extract (vs := [.agg #[.slice so10 l.length ca11, .slice si12 q14.length ci13], .int .i64 0]) rfl rfl) ?_
 intro a hA
 refine s_new (vs := [.slice none 0 0, .slice none 0 0]) (t := 25) hA hM rfl rfl rfl (fun g => .pointer (some ⟨g, 0, none⟩)) (does_alloc (z := .agg #[.slice none 0 0, .slice none 0 0]) (by kernel_rfl) rfl) (by decide) ?_
 intro g18 w19 hM a hA
 refine s_store (us := [.slice so10 l.length ca11, .slice si12 q14.length ci13]) (L' := (.obj g18 (.cells #[.slice so10 l.length ca11, .slice si12 q14.length ci13] 25) :: .row 9 1 (.slice so10 l.length ca11) l.length (strC l) :: .row 4 1 (.slice si12 q14.length ci13) q14.length (boolC q14) :: .obj g5 (.cells #[.slice so2 l2.length ca2, .slice si2 bs2.length ci2] 25) :: .obj g3 (.cells #[.slice so l.length ca, .slice si bs.length ci] 25) :: [])) hA hM rfl rfl (m_store rfl rfl rfl (by kernel_rfl) hM 0 rfl rfl rfl) 0 rfl rfl rfl ?_
 intro w20 hM
 refine seq_do hA rfl rfl rfl (does_assign rfl) ?_
 intro a hA
 refine seq_end ?_
 refine hK9 _ _ ?_
 refine wp_seq_k (fun K21 hK21 => ?_)
 refine wp_region_lit ?_
 refine seq_do hA rfl rfl rfl (m_loadS hM EnF_isS_25 rfl 4 rfl (cs := [.slice so l.length ca, .slice si bs.length ci]) rfl rfl) ?_
 intro a hA
 refine seq_do hA rfl rfl rfl (m_loadS hM EnF_isS_25 rfl 3 rfl (cs := [.slice so2 l2.length ca2, .slice si2 bs2.length ci2]) rfl rfl) ?_
 intro a hA
 refine seq_call hA rfl rfl rfl (enters_func rfl rfl (fun w => by kernel_rfl)) (meet_okN (hR.below hM.bel) (hB.below hM.bel) (hR2.below hM.bel) (hB2.below hM.bel) hs hsd hsd2 heq) ?_
 rintro _ w29 ⟨so22, ca23, si24, ci25, q26, hq27, rfl, hM28⟩
 replace hM : Mg w w29 (.row 9 1 (.slice so22 l.length ca23) l.length (strC l) :: .row 4 1 (.slice si24 q26.length ci25) q26.length (boolC q26) :: .obj g18 (.cells #[.slice so10 l.length ca11, .slice si12 q14.length ci13] 25) :: .row 9 1 (.slice so10 l.length ca11) l.length (strC l) :: .row 4 1 (.slice si12 q14.length ci13) q14.length (boolC q14) :: .obj g5 (.cells #[.slice so2 l2.length ca2, .slice si2 bs2.length ci2] 25) :: .obj g3 (.cells #[.slice so l.length ca, .slice si bs.length ci] 25) :: []) := (hM.both hM28 (noBld_cons (by simp) (noBld_cons (by simp) (noBld_cons (by simp) (noBld_cons (by simp) (noBld_cons (by simp) (noBld_quiet quietL_nil)))))) (noBld_cons (by simp) (noBld_cons (by simp) (noBld_quiet quietL_nil))))
 refine ⟨_, rfl, ?_⟩
 intro a hA
 refine seq_do hA rfl rfl rfl (does_move rfl) ?_
 intro a hA
 refine seq_do (v := .agg #[.slice so22 l.length ca23, .slice si24 q26.length ci25]) hA rfl rfl rfl (does_extract (vs := [.agg #[.slice so22 l.length ca23, .slice si24 q26.length ci25], .int .i64 0]) rfl rfl) ?_
 intro a hA
 refine seq_do (v := .int .i64 0) hA rfl rfl rfl (does_extract (vs := [.agg #[.slice so22 l.length ca23, .slice si24 q26.length ci25], .int .i64 0]) rfl rfl) ?_
 intro a hA
 refine s_new (vs := [.slice none 0 0, .slice none 0 0]) (t := 25) hA hM rfl rfl rfl (fun g => .pointer (some ⟨g, 0, none⟩)) (does_alloc (z := .agg #[.slice none 0 0, .slice none 0 0]) (by kernel_rfl) rfl) (by decide) ?_
 intro g30 w31 hM a hA
 refine s_store (us := [.slice so22 l.length ca23, .slice si24 q26.length ci25]) (L' := (.obj g30 (.cells #[.slice so22 l.length ca23, .slice si24 q26.length ci25] 25) :: .row 9 1 (.slice so22 l.length ca23) l.length (strC l) :: .row 4 1 (.slice si24 q26.length ci25) q26.length (boolC q26) :: .obj g18 (.cells #[.slice so10 l.length ca11, .slice si12 q14.length ci13] 25) :: .row 9 1 (.slice so10 l.length ca11) l.length (strC l) :: .row 4 1 (.slice si12 q14.length ci13) q14.length (boolC q14) :: .obj g5 (.cells #[.slice so2 l2.length ca2, .slice si2 bs2.length ci2] 25) :: .obj g3 (.cells #[.slice so l.length ca, .slice si bs.length ci] 25) :: [])) hA hM rfl rfl (m_store rfl rfl rfl (by kernel_rfl) hM 0 rfl rfl rfl) 0 rfl rfl rfl ?_
 intro w32 hM
 refine seq_do hA rfl rfl rfl (does_assign rfl) ?_
 intro a hA
 refine seq_end ?_
 refine hK21 _ _ ?_
 refine wp_seq_k (fun K33 hK33 => ?_)
 refine wp_region_lit ?_
 refine seq_do hA rfl rfl rfl (m_loadS hM EnF_isS_25 rfl 7 rfl (cs := [.slice so l.length ca, .slice si bs.length ci]) rfl rfl) ?_
 intro a hA
 refine seq_do hA rfl rfl rfl (m_loadS hM EnF_isS_25 rfl 6 rfl (cs := [.slice so2 l2.length ca2, .slice si2 bs2.length ci2]) rfl rfl) ?_
 intro a hA
 refine seq_call hA rfl rfl rfl (enters_func rfl rfl (fun w => by kernel_rfl)) (minus_okN (hR.below hM.bel) (hB.below hM.bel) (hR2.below hM.bel) (hB2.below hM.bel) hs hsd hsd2 heq) ?_
 rintro _ w41 ⟨so34, ca35, si36, ci37, q38, hq39, rfl, hM40⟩
 replace hM : Mg w w41 (.row 9 1 (.slice so34 l.length ca35) l.length (strC l) :: .row 4 1 (.slice si36 q38.length ci37) q38.length (boolC q38) :: .obj g30 (.cells #[.slice so22 l.length ca23, .slice si24 q26.length ci25] 25) :: .row 9 1 (.slice so22 l.length ca23) l.length (strC l) :: .row 4 1 (.slice si24 q26.length ci25) q26.length (boolC q26) :: .obj g18 (.cells #[.slice so10 l.length ca11, .slice si12 q14.length ci13] 25) :: .row 9 1 (.slice so10 l.length ca11) l.length (strC l) :: .row 4 1 (.slice si12 q14.length ci13) q14.length (boolC q14) :: .obj g5 (.cells #[.slice so2 l2.length ca2, .slice si2 bs2.length ci2] 25) :: .obj g3 (.cells #[.slice so l.length ca, .slice si bs.length ci] 25) :: []) := (hM.both hM40 (noBld_cons (by simp) (noBld_cons (by simp) (noBld_cons (by simp) (noBld_cons (by simp) (noBld_cons (by simp) (noBld_cons (by simp) (noBld_cons (by simp) (noBld_cons (by simp) (noBld_quiet quietL_nil))))))))) (noBld_cons (by simp) (noBld_cons (by simp) (noBld_quiet quietL_nil))))
 refine ⟨_, rfl, ?_⟩
 intro a hA
 refine seq_do hA rfl rfl rfl (does_move rfl) ?_
 intro a hA
 refine seq_do (v := .agg #[.slice so34 l.length ca35, .slice si36 q38.length ci37]) hA rfl rfl rfl (does_extract (vs := [.agg #[.slice so34 l.length ca35, .slice si36 q38.length ci37], .int .i64 0]) rfl rfl) ?_
 intro a hA
 refine seq_do (v := .int .i64 0) hA rfl rfl rfl (does_extract (vs := [.agg #[.slice so34 l.length ca35, .slice si36 q38.length ci37], .int .i64 0]) rfl rfl) ?_
 intro a hA
 refine s_new (vs := [.slice none 0 0, .slice none 0 0]) (t := 25) hA hM rfl rfl rfl (fun g => .pointer (some ⟨g, 0, none⟩)) (does_alloc (z := .agg #[.slice none 0 0, .slice none 0 0]) (by kernel_rfl) rfl) (by decide) ?_
 intro g42 w43 hM a hA
 refine s_store (us := [.slice so34 l.length ca35, .slice si36 q38.length ci37]) (L' := (.obj g42 (.cells #[.slice so34 l.length ca35, .slice si36 q38.length ci37] 25) :: .row 9 1 (.slice so34 l.length ca35) l.length (strC l) :: .row 4 1 (.slice si36 q38.length ci37) q38.length (boolC q38) :: .obj g30 (.cells #[.slice so22 l.length ca23, .slice si24 q26.length ci25] 25) :: .row 9 1 (.slice so22 l.length ca23) l.length (strC l) :: .row 4 1 (.slice si24 q26.length ci25) q26.length (boolC q26) :: .obj g18 (.cells #[.slice so10 l.length ca11, .slice si12 q14.length ci13] 25) :: .row 9 1 (.slice so10 l.length ca11) l.length (strC l) :: .row 4 1 (.slice si12 q14.length ci13) q14.length (boolC q14) :: .obj g5 (.cells #[.slice so2 l2.length ca2, .slice si2 bs2.length ci2] 25) :: .obj g3 (.cells #[.slice so l.length ca, .slice si bs.length ci] 25) :: [])) hA hM rfl rfl (m_store rfl rfl rfl (by kernel_rfl) hM 0 rfl rfl rfl) 0 rfl rfl rfl ?_
 intro w44 hM
 refine seq_do hA rfl rfl rfl (does_assign rfl) ?_
 intro a hA
 refine seq_end ?_
 refine hK33 _ _ ?_
 refine wp_seq_k (fun K45 hK45 => ?_)
 refine wp_region_lit ?_
 refine seq_do hA rfl rfl rfl (m_loadS hM EnF_isS_25 rfl 10 rfl (cs := [.slice so l.length ca, .slice si bs.length ci]) rfl rfl) ?_
 intro a hA
 refine seq_call hA rfl rfl rfl (enters_func rfl rfl (fun w => by kernel_rfl)) (comp_okN (hR.below hM.bel) (hB.below hM.bel) hs hsd) ?_
 rintro _ w53 ⟨so46, ca47, si48, ci49, q50, hq51, rfl, hM52⟩
 replace hM : Mg w w53 (.row 9 1 (.slice so46 l.length ca47) l.length (strC l) :: .row 4 1 (.slice si48 q50.length ci49) q50.length (boolC q50) :: .obj g42 (.cells #[.slice so34 l.length ca35, .slice si36 q38.length ci37] 25) :: .row 9 1 (.slice so34 l.length ca35) l.length (strC l) :: .row 4 1 (.slice si36 q38.length ci37) q38.length (boolC q38) :: .obj g30 (.cells #[.slice so22 l.length ca23, .slice si24 q26.length ci25] 25) :: .row 9 1 (.slice so22 l.length ca23) l.length (strC l) :: .row 4 1 (.slice si24 q26.length ci25) q26.length (boolC q26) :: .obj g18 (.cells #[.slice so10 l.length ca11, .slice si12 q14.length ci13] 25) :: .row 9 1 (.slice so10 l.length ca11) l.length (strC l) :: .row 4 1 (.slice si12 q14.length ci13) q14.length (boolC q14) :: .obj g5 (.cells #[.slice so2 l2.length ca2, .slice si2 bs2.length ci2] 25) :: .obj g3 (.cells #[.slice so l.length ca, .slice si bs.length ci] 25) :: []) := (hM.both hM52 (noBld_cons (by simp) (noBld_cons (by simp) (noBld_cons (by simp) (noBld_cons (by simp) (noBld_cons (by simp) (noBld_cons (by simp) (noBld_cons (by simp) (noBld_cons (by simp) (noBld_cons (by simp) (noBld_cons (by simp) (noBld_cons (by simp) (noBld_quiet quietL_nil)))))))))))) (noBld_cons (by simp) (noBld_cons (by simp) (noBld_quiet quietL_nil))))
 refine ⟨_, rfl, ?_⟩
 intro a hA
 refine seq_do hA rfl rfl rfl (does_move rfl) ?_
 intro a hA
 refine seq_do (v := .agg #[.slice so46 l.length ca47, .slice si48 q50.length ci49]) hA rfl rfl rfl (does_extract (vs := [.agg #[.slice so46 l.length ca47, .slice si48 q50.length ci49], .int .i64 0]) rfl rfl) ?_
 intro a hA
 refine seq_do (v := .int .i64 0) hA rfl rfl rfl (does_extract (vs := [.agg #[.slice so46 l.length ca47, .slice si48 q50.length ci49], .int .i64 0]) rfl rfl) ?_
 intro a hA
 refine s_new (vs := [.slice none 0 0, .slice none 0 0]) (t := 25) hA hM rfl rfl rfl (fun g => .pointer (some ⟨g, 0, none⟩)) (does_alloc (z := .agg #[.slice none 0 0, .slice none 0 0]) (by kernel_rfl) rfl) (by decide) ?_
 intro g54 w55 hM a hA
 refine s_store (us := [.slice so46 l.length ca47, .slice si48 q50.length ci49]) (L' := (.obj g54 (.cells #[.slice so46 l.length ca47, .slice si48 q50.length ci49] 25) :: .row 9 1 (.slice so46 l.length ca47) l.length (strC l) :: .row 4 1 (.slice si48 q50.length ci49) q50.length (boolC q50) :: .obj g42 (.cells #[.slice so34 l.length ca35, .slice si36 q38.length ci37] 25) :: .row 9 1 (.slice so34 l.length ca35) l.length (strC l) :: .row 4 1 (.slice si36 q38.length ci37) q38.length (boolC q38) :: .obj g30 (.cells #[.slice so22 l.length ca23, .slice si24 q26.length ci25] 25) :: .row 9 1 (.slice so22 l.length ca23) l.length (strC l) :: .row 4 1 (.slice si24 q26.length ci25) q26.length (boolC q26) :: .obj g18 (.cells #[.slice so10 l.length ca11, .slice si12 q14.length ci13] 25) :: .row 9 1 (.slice so10 l.length ca11) l.length (strC l) :: .row 4 1 (.slice si12 q14.length ci13) q14.length (boolC q14) :: .obj g5 (.cells #[.slice so2 l2.length ca2, .slice si2 bs2.length ci2] 25) :: .obj g3 (.cells #[.slice so l.length ca, .slice si bs.length ci] 25) :: [])) hA hM rfl rfl (m_store rfl rfl rfl (by kernel_rfl) hM 0 rfl rfl rfl) 0 rfl rfl rfl ?_
 intro w56 hM
 refine seq_do hA rfl rfl rfl (does_assign rfl) ?_
 intro a hA
 refine seq_end ?_
 refine hK45 _ _ ?_
 refine wp_seq_k (fun K57 hK57 => ?_)
 refine wp_region_lit ?_
 refine seq_do hA rfl rfl rfl (m_loadS hM EnF_isS_25 rfl 13 rfl (cs := [.slice so l.length ca, .slice si bs.length ci]) rfl rfl) ?_
 intro a hA
 refine seq_do hA rfl rfl rfl (m_loadS hM EnF_isS_25 rfl 12 rfl (cs := [.slice so2 l2.length ca2, .slice si2 bs2.length ci2]) rfl rfl) ?_
 intro a hA
 refine seq_call hA rfl rfl rfl (enters_func rfl rfl (fun w => by kernel_rfl)) (sub_ok (hR.below hM.bel) (hB.below hM.bel) (hR2.below hM.bel) (hB2.below hM.bel) hsd hsd2) ?_
 rintro _ w59 ⟨rfl, hb58⟩
 replace hM := hM.call hb58
 refine ⟨_, rfl, ?_⟩
 intro a hA
 refine seq_do hA rfl rfl rfl (does_move rfl) ?_
 intro a hA
 refine seq_do (v := .bool ((!(memS l bs).any fun s => !hasS l2 bs2 s))) hA rfl rfl rfl (does_extract (vs := [.bool ((!(memS l bs).any fun s => !hasS l2 bs2 s)), .int .i64 0]) rfl rfl) ?_
 intro a hA
 refine seq_do (v := .int .i64 0) hA rfl rfl rfl (does_extract (vs := [.bool ((!(memS l bs).any fun s => !hasS l2 bs2 s)), .int .i64 0]) rfl rfl) ?_
 intro a hA
 refine seq_do hA rfl rfl rfl (does_assign rfl) ?_
 intro a hA
 refine seq_do hA rfl rfl rfl (does_assign rfl) ?_
 intro a hA
 refine seq_end ?_
 refine hK57 _ _ ?_
 refine wp_seq_k (fun K60 hK60 => ?_)
 refine wp_region_lit ?_
 refine seq_do hA rfl rfl rfl (m_loadS hM EnF_isS_25 rfl 13 rfl (cs := [.slice so l.length ca, .slice si bs.length ci]) rfl rfl) ?_
 intro a hA
 refine seq_do hA rfl rfl rfl (m_loadS hM EnF_isS_25 rfl 12 rfl (cs := [.slice so2 l2.length ca2, .slice si2 bs2.length ci2]) rfl rfl) ?_
 intro a hA
 refine seq_call hA rfl rfl rfl (enters_func rfl rfl (fun w => by kernel_rfl)) (proj_okN (hR.below hM.bel) (hB.below hM.bel) (hR2.below hM.bel) (hB2.below hM.bel) hs2 hsd hsd2) ?_
 rintro _ w68 ⟨so61, ca62, si63, ci64, q65, hq66, rfl, hM67⟩
 replace hM : Mg w w68 (.row 9 1 (.slice so61 l2.length ca62) l2.length (strC l2) :: .row 4 1 (.slice si63 q65.length ci64) q65.length (boolC q65) :: .obj g54 (.cells #[.slice so46 l.length ca47, .slice si48 q50.length ci49] 25) :: .row 9 1 (.slice so46 l.length ca47) l.length (strC l) :: .row 4 1 (.slice si48 q50.length ci49) q50.length (boolC q50) :: .obj g42 (.cells #[.slice so34 l.length ca35, .slice si36 q38.length ci37] 25) :: .row 9 1 (.slice so34 l.length ca35) l.length (strC l) :: .row 4 1 (.slice si36 q38.length ci37) q38.length (boolC q38) :: .obj g30 (.cells #[.slice so22 l.length ca23, .slice si24 q26.length ci25] 25) :: .row 9 1 (.slice so22 l.length ca23) l.length (strC l) :: .row 4 1 (.slice si24 q26.length ci25) q26.length (boolC q26) :: .obj g18 (.cells #[.slice so10 l.length ca11, .slice si12 q14.length ci13] 25) :: .row 9 1 (.slice so10 l.length ca11) l.length (strC l) :: .row 4 1 (.slice si12 q14.length ci13) q14.length (boolC q14) :: .obj g5 (.cells #[.slice so2 l2.length ca2, .slice si2 bs2.length ci2] 25) :: .obj g3 (.cells #[.slice so l.length ca, .slice si bs.length ci] 25) :: []) := (hM.both hM67 (noBld_cons (by simp) (noBld_cons (by simp) (noBld_cons (by simp) (noBld_cons (by simp) (noBld_cons (by simp) (noBld_cons (by simp) (noBld_cons (by simp) (noBld_cons (by simp) (noBld_cons (by simp) (noBld_cons (by simp) (noBld_cons (by simp) (noBld_cons (by simp) (noBld_cons (by simp) (noBld_cons (by simp) (noBld_quiet quietL_nil))))))))))))))) (noBld_cons (by simp) (noBld_cons (by simp) (noBld_quiet quietL_nil))))
 refine ⟨_, rfl, ?_⟩
 intro a hA
 refine seq_do hA rfl rfl rfl (does_move rfl) ?_
 intro a hA
 refine seq_do (v := .agg #[.slice so61 l2.length ca62, .slice si63 q65.length ci64]) hA rfl rfl rfl (does_extract (vs := [.agg #[.slice so61 l2.length ca62, .slice si63 q65.length ci64], .int .i64 0]) rfl rfl) ?_
 intro a hA
 refine seq_do (v := .int .i64 0) hA rfl rfl rfl (does_extract (vs := [.agg #[.slice so61 l2.length ca62, .slice si63 q65.length ci64], .int .i64 0]) rfl rfl) ?_
 intro a hA
 refine s_new (vs := [.slice none 0 0, .slice none 0 0]) (t := 25) hA hM rfl rfl rfl (fun g => .pointer (some ⟨g, 0, none⟩)) (does_alloc (z := .agg #[.slice none 0 0, .slice none 0 0]) (by kernel_rfl) rfl) (by decide) ?_
 intro g69 w70 hM a hA
 refine s_store (us := [.slice so61 l2.length ca62, .slice si63 q65.length ci64]) (L' := (.obj g69 (.cells #[.slice so61 l2.length ca62, .slice si63 q65.length ci64] 25) :: .row 9 1 (.slice so61 l2.length ca62) l2.length (strC l2) :: .row 4 1 (.slice si63 q65.length ci64) q65.length (boolC q65) :: .obj g54 (.cells #[.slice so46 l.length ca47, .slice si48 q50.length ci49] 25) :: .row 9 1 (.slice so46 l.length ca47) l.length (strC l) :: .row 4 1 (.slice si48 q50.length ci49) q50.length (boolC q50) :: .obj g42 (.cells #[.slice so34 l.length ca35, .slice si36 q38.length ci37] 25) :: .row 9 1 (.slice so34 l.length ca35) l.length (strC l) :: .row 4 1 (.slice si36 q38.length ci37) q38.length (boolC q38) :: .obj g30 (.cells #[.slice so22 l.length ca23, .slice si24 q26.length ci25] 25) :: .row 9 1 (.slice so22 l.length ca23) l.length (strC l) :: .row 4 1 (.slice si24 q26.length ci25) q26.length (boolC q26) :: .obj g18 (.cells #[.slice so10 l.length ca11, .slice si12 q14.length ci13] 25) :: .row 9 1 (.slice so10 l.length ca11) l.length (strC l) :: .row 4 1 (.slice si12 q14.length ci13) q14.length (boolC q14) :: .obj g5 (.cells #[.slice so2 l2.length ca2, .slice si2 bs2.length ci2] 25) :: .obj g3 (.cells #[.slice so l.length ca, .slice si bs.length ci] 25) :: [])) hA hM rfl rfl (m_store rfl rfl rfl (by kernel_rfl) hM 0 rfl rfl rfl) 0 rfl rfl rfl ?_
 intro w71 hM
 refine seq_do hA rfl rfl rfl (does_assign rfl) ?_
 intro a hA
 refine seq_end ?_
 refine hK60 _ _ ?_
 refine wp_seq_k (fun K72 hK72 => ?_)
 refine wp_seq_k (fun K73 hK73 => ?_)
 refine wp_region_lit ?_
 refine seq_call hA rfl rfl rfl (enters_func rfl rfl (fun w => by kernel_rfl)) (awake_any) ?_
 rintro _ w75 ⟨rfl, hb74⟩
 replace hM := hM.call hb74
 refine ⟨_, rfl, ?_⟩
 intro a hA
 refine seq_do (v := .bool false) hA rfl rfl rfl (does_un rfl un_not) ?_
 intro a hA
 refine seq_end ?_
 refine hK73 _ _ ?_
 refine wp_cond_false (hA.ev rfl) ?_
 refine wp_skip ?_
 refine hK72 _ _ ?_
 refine wp_seq_k (fun K76 hK76 => ?_)
 refine wp_seq_k (fun K77 hK77 => ?_)
 refine wp_region_lit ?_
 refine seq_do hA rfl rfl rfl (does_move rfl) ?_
 intro a hA
 refine seq_do hA rfl rfl rfl (does_move rfl) ?_
 intro a hA
 refine seq_call hA rfl rfl rfl (enters_func rfl rfl (fun w => by kernel_rfl)) (rsound_as (hR.below hM.bel) (hB.below hM.bel) hsd) ?_
 rintro _ w79 ⟨rfl, hb78⟩
 replace hM := hM.call hb78
 refine ⟨_, rfl, ?_⟩
 intro a hA
 refine seq_do (v := .bool false) hA rfl rfl rfl (does_un rfl un_not) ?_
 intro a hA
 refine seq_do hA rfl rfl rfl (does_move rfl) ?_
 intro a hA
 refine seq_do hA rfl rfl rfl (does_move rfl) ?_
 intro a hA
 refine seq_do hA rfl rfl rfl (does_move rfl) ?_
 intro a hA
 refine seq_call hA rfl rfl rfl (enters_func rfl rfl (fun w => by kernel_rfl)) (rsound_as (hR2.below hM.bel) (hB2.below hM.bel) hsd2) ?_
 rintro _ w81 ⟨rfl, hb80⟩
 replace hM := hM.call hb80
 refine ⟨_, rfl, ?_⟩
 intro a hA
 refine seq_do (v := .bool false) hA rfl rfl rfl (does_un rfl un_not) ?_
 intro a hA
 refine seq_do (v := .bool false) hA rfl rfl rfl (does_pick rfl rfl rfl rfl) ?_
 intro a hA
 refine seq_end ?_
 refine hK77 _ _ ?_
 refine wp_cond_false (hA.ev rfl) ?_
 refine wp_skip ?_
 refine hK76 _ _ ?_
 refine wp_seq_k (fun K82 hK82 => ?_)
 refine wp_region_lit ?_
 refine s_litE (e := 9) (sz := 1) (m := 0) (vs := strC []) hA hM rfl rfl rfl (does_buildSlice rfl (by kernel_rfl)) rfl rfl (.inl (by decide)) ?_
 intro g83 w84 hM a hA
 refine s_litE (e := 9) (sz := 1) (m := 0) (vs := strC []) hA hM rfl rfl rfl (does_buildSlice rfl (by kernel_rfl)) rfl rfl (.inl (by decide)) ?_
 intro g85 w86 hM a hA
 refine s_litE (e := 9) (sz := 1) (m := 0) (vs := strC []) hA hM rfl rfl rfl (does_buildSlice rfl (by kernel_rfl)) rfl rfl (.inl (by decide)) ?_
 intro g87 w88 hM a hA
 refine s_litE (e := 9) (sz := 1) (m := 0) (vs := strC []) hA hM rfl rfl rfl (does_buildSlice rfl (by kernel_rfl)) rfl rfl (.inl (by decide)) ?_
 intro g89 w90 hM a hA
 refine seq_do hA rfl rfl rfl (does_assign rfl) ?_
 intro a hA
 refine seq_do hA rfl rfl rfl (does_assign rfl) ?_
 intro a hA
 refine seq_do hA rfl rfl rfl (does_assign rfl) ?_
 intro a hA
 refine seq_do hA rfl rfl rfl (does_assign rfl) ?_
 intro a hA
 refine seq_end ?_
 refine hK82 _ _ ?_
 refine wp_seq_k (fun K91 hK91 => ?_)
 refine wp_region_lit ?_
 refine seq_do hA rfl rfl rfl (does_assign rfl) ?_
 intro a hA
 refine seq_end ?_
 refine hK91 _ _ ?_
 refine wp_seq_k (fun K92 hK92 => ?_)
 refine wp_seq_k (fun K93 hK93 => ?_)
 refine wp_region_lit ?_
 refine seq_do hA rfl rfl rfl (does_assign rfl) ?_
 intro a hA
 refine seq_end ?_
 refine hK93 _ _ ?_
 refine wp_block ?_
 obtain ⟨R9, hR9⟩ : ∃ R : List Ck, R = (.obj g69 (.cells #[.slice so61 l2.length ca62, .slice si63 q65.length ci64] 25) :: .row 9 1 (.slice so61 l2.length ca62) l2.length (strC l2) :: .row 4 1 (.slice si63 q65.length ci64) q65.length (boolC q65) :: .obj g54 (.cells #[.slice so46 l.length ca47, .slice si48 q50.length ci49] 25) :: .row 9 1 (.slice so46 l.length ca47) l.length (strC l) :: .row 4 1 (.slice si48 q50.length ci49) q50.length (boolC q50) :: .obj g42 (.cells #[.slice so34 l.length ca35, .slice si36 q38.length ci37] 25) :: .row 9 1 (.slice so34 l.length ca35) l.length (strC l) :: .row 4 1 (.slice si36 q38.length ci37) q38.length (boolC q38) :: .obj g30 (.cells #[.slice so22 l.length ca23, .slice si24 q26.length ci25] 25) :: .row 9 1 (.slice so22 l.length ca23) l.length (strC l) :: .row 4 1 (.slice si24 q26.length ci25) q26.length (boolC q26) :: .obj g18 (.cells #[.slice so10 l.length ca11, .slice si12 q14.length ci13] 25) :: .row 9 1 (.slice so10 l.length ca11) l.length (strC l) :: .row 4 1 (.slice si12 q14.length ci13) q14.length (boolC q14) :: .obj g5 (.cells #[.slice so2 l2.length ca2, .slice si2 bs2.length ci2] 25) :: .obj g3 (.cells #[.slice so l.length ca, .slice si bs.length ci] 25) :: []) := ⟨_, rfl⟩
 replace hM : Mg w w90 (.row 9 1 (.slice (some ⟨g89, 0, none⟩) 0 0) 0 (strC []) :: .row 9 1 (.slice (some ⟨g87, 0, none⟩) 0 0) 0 (strC []) :: .row 9 1 (.slice (some ⟨g85, 0, none⟩) 0 0) 0 (strC []) :: .row 9 1 (.slice (some ⟨g83, 0, none⟩) 0 0) 0 (strC []) :: R9) := by rw [hR9]; exact hM
 refine wp_loop_n (fun m_ a w1 => ∃ (i : Nat) (xn : List ByteArray) (sn_ : Option Addr) (cn_ : Nat) (xl : List ByteArray) (sl_ : Option Addr) (cl_ : Nat) (xa : List ByteArray) (sa_ : Option Addr) (cA_ : Nat) (xo : List ByteArray) (so_ : Option Addr) (co_ : Nat) (fl : Bool), m_ = 1 + (l.length - i) ∧ (i ≤ l.length ∧ xn = (l.take i).filter (fun s => !hasS l bs s) ∧ xl = (l.take i).filter (fun s => hasS l bs s && !hasS l2 bs2 s) ∧ xa = (l.take i).filter (fun s => hasS l bs s && hasS l2 bs2 s) ∧ xo = (l.take i).filter (fun s => hasS l bs s || hasS l2 bs2 s) ∧ fl = !(l.take i).any (fun s => hasS l bs s && !hasS l2 bs2 s)) ∧ Sl a 265 [(0, .slice so l.length ca), (1, .slice si bs.length ci), (2, .slice so2 l2.length ca2), (3, .slice si2 bs2.length ci2), (8, .bool false), (9, .pointer (some ⟨g3, 0, none⟩)), (10, .pointer (some ⟨g5, 0, none⟩)), (11, .pointer (some ⟨g18, 0, none⟩)), (12, .int .i64 0), (13, .pointer (some ⟨g30, 0, none⟩)), (14, .int .i64 0), (15, .pointer (some ⟨g42, 0, none⟩)), (16, .int .i64 0), (17, .pointer (some ⟨g54, 0, none⟩)), (18, .int .i64 0), (19, .bool ((!(memS l bs).any fun s => !hasS l2 bs2 s))), (20, .int .i64 0), (21, .pointer (some ⟨g69, 0, none⟩)), (22, .int .i64 0), (23, .slice so_ xo.length co_), (24, .slice sa_ xa.length cA_), (25, .slice sl_ xl.length cl_), (26, .slice sn_ xn.length cn_), (27, .bool fl), (28, .int .i64 (((i : Nat) : Int))), (32, .slice so l.length ca), (33, .slice si bs.length ci), (34, .agg #[.slice so l.length ca, .slice si bs.length ci]), (35, .slice so2 l2.length ca2), (36, .slice si2 bs2.length ci2), (37, .agg #[.slice so2 l2.length ca2, .slice si2 bs2.length ci2]), (38, .tuple #[.agg #[.slice so10 l.length ca11, .slice si12 q14.length ci13], .int .i64 0]), (39, .agg #[.slice so l.length ca, .slice si bs.length ci]), (40, .agg #[.slice so2 l2.length ca2, .slice si2 bs2.length ci2]), (41, .tuple #[.agg #[.slice so10 l.length ca11, .slice si12 q14.length ci13], .int .i64 0]), (42, .agg #[.slice so10 l.length ca11, .slice si12 q14.length ci13]), (43, .int .i64 0), (44, .tuple #[.agg #[.slice so22 l.length ca23, .slice si24 q26.length ci25], .int .i64 0]), (45, .agg #[.slice so l.length ca, .slice si bs.length ci]), (46, .agg #[.slice so2 l2.length ca2, .slice si2 bs2.length ci2]), (47, .tuple #[.agg #[.slice so22 l.length ca23, .slice si24 q26.length ci25], .int .i64 0]), (48, .agg #[.slice so22 l.length ca23, .slice si24 q26.length ci25]), (49, .int .i64 0), (50, .tuple #[.agg #[.slice so34 l.length ca35, .slice si36 q38.length ci37], .int .i64 0]), (51, .agg #[.slice so l.length ca, .slice si bs.length ci]), (52, .agg #[.slice so2 l2.length ca2, .slice si2 bs2.length ci2]), (53, .tuple #[.agg #[.slice so34 l.length ca35, .slice si36 q38.length ci37], .int .i64 0]), (54, .agg #[.slice so34 l.length ca35, .slice si36 q38.length ci37]), (55, .int .i64 0), (56, .tuple #[.agg #[.slice so46 l.length ca47, .slice si48 q50.length ci49], .int .i64 0]), (57, .agg #[.slice so l.length ca, .slice si bs.length ci]), (58, .tuple #[.agg #[.slice so46 l.length ca47, .slice si48 q50.length ci49], .int .i64 0]), (59, .agg #[.slice so46 l.length ca47, .slice si48 q50.length ci49]), (60, .int .i64 0), (61, .tuple #[.bool ((!(memS l bs).any fun s => !hasS l2 bs2 s)), .int .i64 0]), (62, .agg #[.slice so l.length ca, .slice si bs.length ci]), (63, .agg #[.slice so2 l2.length ca2, .slice si2 bs2.length ci2]), (64, .tuple #[.bool ((!(memS l bs).any fun s => !hasS l2 bs2 s)), .int .i64 0]), (65, .bool ((!(memS l bs).any fun s => !hasS l2 bs2 s))), (66, .int .i64 0), (67, .tuple #[.agg #[.slice so61 l2.length ca62, .slice si63 q65.length ci64], .int .i64 0]), (68, .agg #[.slice so l.length ca, .slice si bs.length ci]), (69, .agg #[.slice so2 l2.length ca2, .slice si2 bs2.length ci2]), (70, .tuple #[.agg #[.slice so61 l2.length ca62, .slice si63 q65.length ci64], .int .i64 0]), (71, .agg #[.slice so61 l2.length ca62, .slice si63 q65.length ci64]), (72, .int .i64 0), (73, .bool true), (74, .bool false), (75, .slice so l.length ca), (76, .slice si bs.length ci), (77, .bool true), (78, .bool false), (79, .bool false), (80, .slice so2 l2.length ca2), (81, .slice si2 bs2.length ci2), (82, .bool true), (83, .bool false), (84, .bool false), (116, .slice (some ⟨g83, 0, none⟩) 0 0), (117, .slice (some ⟨g85, 0, none⟩) 0 0), (118, .slice (some ⟨g87, 0, none⟩) 0 0), (119, .slice (some ⟨g89, 0, none⟩) 0 0)] ∧ Mg w w1 (.row 9 1 (.slice sn_ xn.length cn_) xn.length (strC xn) :: .row 9 1 (.slice sl_ xl.length cl_) xl.length (strC xl) :: .row 9 1 (.slice sa_ xa.length cA_) xa.length (strC xa) :: .row 9 1 (.slice so_ xo.length co_) xo.length (strC xo) :: R9)) _ ⟨0, [], _, 0, [], _, 0, [], _, 0, [], _, 0, true, rfl, ⟨Nat.zero_le _, rfl, rfl, rfl, rfl, rfl⟩, hA.keep _ ⟨rfl, rfl, rfl, rfl, rfl, rfl, rfl, rfl, rfl, rfl, rfl, rfl, rfl, rfl, rfl, rfl, rfl, rfl, rfl, rfl, rfl, rfl, rfl, rfl, rfl, rfl, rfl, rfl, rfl, rfl, rfl, rfl, rfl, rfl, rfl, rfl, rfl, rfl, rfl, rfl, rfl, rfl, rfl, rfl, rfl, rfl, rfl, rfl, rfl, rfl, rfl, rfl, rfl, rfl, rfl, rfl, rfl, rfl, rfl, rfl, rfl, rfl, rfl, rfl, rfl, rfl, rfl, rfl, rfl, rfl, rfl, rfl, rfl, rfl, rfl, rfl, rfl, rfl, rfl, rfl, rfl, rfl, trivial⟩, hM⟩ ?_
 clear hM hA
 rintro m_ a w94 ⟨i, xn, sn_, cn_, xl, sl_, cl_, xa, sa_, cA_, xo, so_, co_, fl, rfl, hinv96, hA, hM⟩ K95 hK95
 obtain ⟨hi0, hxn, hxl, hxa, hxo, hfl⟩ := hinv96
 have hLxn : xn.length ≤ i := by rw [hxn]; exact fil_len
 have hLxl : xl.length ≤ i := by rw [hxl]; exact fil_len
 have hLxa : xa.length ≤ i := by rw [hxa]; exact fil_len
 have hLxo : xo.length ≤ i := by rw [hxo]; exact fil_len
 refine wp_seq_k (fun K97 hK97 => ?_)
 refine wp_seq_k (fun K98 hK98 => ?_)
 refine wp_region_lit ?_
 refine seq_do hA rfl rfl rfl (does_move rfl) ?_
 intro a hA
 refine seq_do hA rfl rfl rfl (does_move rfl) ?_
 intro a hA
 refine seq_do (v := .int .i64 (((l.length : Nat) : Int))) hA rfl rfl rfl (does_len Try.underlying22 rfl) ?_
 intro a hA
 refine seq_do (v := .bool (decide (((i : Nat) : Int) < ((l.length : Nat) : Int)))) hA rfl rfl rfl (does_bin rfl rfl bin_lss) ?_
 intro a hA
 refine seq_end ?_
 refine hK98 _ _ ?_
 refine wp_cond_split (t := decide (((i : Nat) : Int) < ((l.length : Nat) : Int))) (hA.ev rfl) (fun hc99 => ?_) (fun hc99 => ?_)
 · have hc99' := of_decide_eq_true hc99
   refine wp_skip ?_
   refine hK97 _ _ ?_
   refine wp_seq_k (fun K100 hK100 => ?_)
   refine wp_block ?_
   refine wp_seq_k (fun K101 hK101 => ?_)
   refine wp_region_lit ?_
   refine seq_do hA rfl rfl rfl (does_move rfl) ?_
   intro a hA
   refine seq_do hA rfl rfl rfl (does_move rfl) ?_
   intro a hA
   refine seq_do hA rfl rfl rfl (does_move rfl) ?_
   intro a hA
   refine seq_do hA rfl rfl rfl (does_move rfl) ?_
   intro a hA
   obtain ⟨bx102, ox103, sx104, hs105, hc106, hi107⟩ := hR.at_ (i := i) (by omega)
   refine seq_do (v := .pointer (some ⟨bx102, ox103 + i, none⟩)) hA rfl rfl rfl (does_indexRow (k := i) Try.underlying22 (by kernel_rfl) rfl rfl (by first | rfl | omega) hs105 (by omega)) ?_
   intro a hA
   refine seq_do hA rfl rfl rfl (m_loadX hM hc106 EnF_is1_9 rfl) ?_
   intro a hA
   rcases Bool.eq_false_or_eq_true (hasS l2 bs2 sx104) with hb108 | hb108
   · refine seq_call hA rfl rfl rfl (enters_func rfl rfl (fun w => by kernel_rfl)) (rhas_as (hR2.below hM.bel) (hB2.below hM.bel) hl2 (snd_le hsd2).2.1 hb108) ?_
     rintro _ w110 ⟨rfl, hb109⟩
     replace hM := hM.call hb109
     refine ⟨_, rfl, ?_⟩
     intro a hA
     refine seq_do hA rfl rfl rfl (does_assign rfl) ?_
     intro a hA
     refine seq_end ?_
     refine hK101 _ _ ?_
     refine wp_seq_k (fun K111 hK111 => ?_)
     refine wp_seq_k (fun K112 hK112 => ?_)
     refine wp_region_lit ?_
     refine seq_do hA rfl rfl rfl (does_move rfl) ?_
     intro a hA
     refine seq_do hA rfl rfl rfl (does_move rfl) ?_
     intro a hA
     obtain ⟨bx113, ox114, sx115, hs116, hc117, hi118⟩ := hB.at_ (i := i) (by omega)
     refine seq_do (v := .pointer (some ⟨bx113, ox114 + i, none⟩)) hA rfl rfl rfl (does_indexRow (k := i) Try.underlying23 (by kernel_rfl) rfl rfl (by first | rfl | omega) hs116 (by omega)) ?_
     intro a hA
     rcases sx115 with _ | _
     · refine seq_do (v := .bool false) hA rfl rfl rfl (m_loadX hM hc117 EnF_is1_4 rfl) ?_
       intro a hA
       refine seq_do hA rfl rfl rfl (does_move rfl) ?_
       intro a hA
       refine seq_do hA rfl rfl rfl (does_move rfl) ?_
       intro a hA
       refine seq_do (v := .bool true) hA rfl rfl rfl (does_pick rfl rfl rfl rfl) ?_
       intro a hA
       refine seq_end ?_
       refine hK112 _ _ ?_
       refine wp_cond_true (hA.ev rfl) ?_
       refine wp_region_lit ?_
       refine seq_do hA rfl rfl rfl (does_move rfl) ?_
       intro a hA
       refine seq_do hA rfl rfl rfl (does_move rfl) ?_
       intro a hA
       refine seq_do hA rfl rfl rfl (does_move rfl) ?_
       intro a hA
       refine seq_do (v := .pointer (some ⟨bx102, ox103 + i, none⟩)) hA rfl rfl rfl (does_indexRow (k := i) Try.underlying22 (by kernel_rfl) rfl rfl (by first | rfl | omega) hs105 (by omega)) ?_
       intro a hA
       refine seq_do hA rfl rfl rfl (m_loadX hM hc106 EnF_is1_9 rfl) ?_
       intro a hA
       refine s_litE (e := 9) (sz := 1) (m := 1) (vs := strC [sx104]) hA hM rfl rfl rfl (does_buildSlice rfl (by kernel_rfl)) rfl rfl (.inl (by decide)) ?_
       intro g119 w120 hM a hA
       refine s_appendE (e := 9) (sz := 1) (k := 4) (q := xo.length) (m := 1) (xs := strC xo) (news := strC [sx104]) (L' := fun v121 => (.row 9 1 (.slice (some ⟨g119, 0, none⟩) 1 1) 1 (strC [sx104]) :: .row 9 1 (.slice sn_ xn.length cn_) xn.length (strC xn) :: .row 9 1 (.slice sl_ xl.length cl_) xl.length (strC xl) :: .row 9 1 (.slice sa_ xa.length cA_) xa.length (strC xa) :: .row 9 1 (v121) (xo.length + 1) (strC xo ++ strC [sx104]) :: R9)) hA rfl rfl rfl (m_appX (z := .string ⟨#[]⟩) (sz := 1) (by_ := 16) Try.underlying22 (by kernel_rfl) rfl rfl rfl hM 4 rfl rfl rfl (strC_n [sx104]) (rc_own (hM.has 0 rfl)) (strC_one [sx104]) (by first | omega | (simp only [List.length_nil]; omega))) (fun _ => rfl) ?_
       intro v121 w122 hM a hA
       replace hM : Mg w w122 (.row 9 1 (.slice (some ⟨g119, 0, none⟩) 1 1) 1 (strC [sx104]) :: .row 9 1 (.slice sn_ xn.length cn_) xn.length (strC xn) :: .row 9 1 (.slice sl_ xl.length cl_) xl.length (strC xl) :: .row 9 1 (.slice sa_ xa.length cA_) xa.length (strC xa) :: .row 9 1 (v121) ((xo ++ [sx104]).length) (strC (xo ++ [sx104])) :: R9) := by
         rw [← strC_app, List.length_append]; exact hM
       obtain ⟨so123, ca124, rfl⟩ := owns_any (hM.has 4 rfl)
       refine seq_do hA rfl rfl rfl (does_assign rfl) ?_
       intro a hA
       refine seq_end ?_
       refine hK111 _ _ ?_
       refine wp_seq_k (fun K125 hK125 => ?_)
       refine wp_seq_k (fun K126 hK126 => ?_)
       refine wp_region_lit ?_
       refine seq_do hA rfl rfl rfl (does_move rfl) ?_
       intro a hA
       refine seq_do hA rfl rfl rfl (does_move rfl) ?_
       intro a hA
       refine seq_do (v := .pointer (some ⟨bx113, ox114 + i, none⟩)) hA rfl rfl rfl (does_indexRow (k := i) Try.underlying23 (by kernel_rfl) rfl rfl (by first | rfl | omega) hs116 (by omega)) ?_
       intro a hA
       refine seq_do hA rfl rfl rfl (m_loadX hM hc117 EnF_is1_4 rfl) ?_
       intro a hA
       refine seq_do hA rfl rfl rfl (does_move rfl) ?_
       intro a hA
       refine seq_skip hA rfl rfl rfl ?_
       intro a hA
       refine seq_do (v := .bool false) hA rfl rfl rfl (does_pick rfl rfl rfl rfl) ?_
       intro a hA
       refine seq_end ?_
       refine hK126 _ _ ?_
       refine wp_cond_false (hA.ev rfl) ?_
       refine wp_skip ?_
       refine hK125 _ _ ?_
       refine wp_seq_k (fun K127 hK127 => ?_)
       refine wp_seq_k (fun K128 hK128 => ?_)
       refine wp_region_lit ?_
       refine seq_do hA rfl rfl rfl (does_move rfl) ?_
       intro a hA
       refine seq_do hA rfl rfl rfl (does_move rfl) ?_
       intro a hA
       refine seq_do (v := .pointer (some ⟨bx113, ox114 + i, none⟩)) hA rfl rfl rfl (does_indexRow (k := i) Try.underlying23 (by kernel_rfl) rfl rfl (by first | rfl | omega) hs116 (by omega)) ?_
       intro a hA
       refine seq_do hA rfl rfl rfl (m_loadX hM hc117 EnF_is1_4 rfl) ?_
       intro a hA
       refine seq_do hA rfl rfl rfl (does_move rfl) ?_
       intro a hA
       refine seq_skip hA rfl rfl rfl ?_
       intro a hA
       refine seq_skip hA rfl rfl rfl ?_
       intro a hA
       refine seq_do (v := .bool false) hA rfl rfl rfl (does_pick rfl rfl rfl rfl) ?_
       intro a hA
       refine seq_end ?_
       refine hK128 _ _ ?_
       refine wp_cond_false (hA.ev rfl) ?_
       refine wp_skip ?_
       refine hK127 _ _ ?_
       refine wp_seq_k (fun K129 hK129 => ?_)
       refine wp_region_lit ?_
       refine seq_do hA rfl rfl rfl (does_move rfl) ?_
       intro a hA
       refine seq_do hA rfl rfl rfl (does_move rfl) ?_
       intro a hA
       refine seq_do (v := .pointer (some ⟨bx113, ox114 + i, none⟩)) hA rfl rfl rfl (does_indexRow (k := i) Try.underlying23 (by kernel_rfl) rfl rfl (by first | rfl | omega) hs116 (by omega)) ?_
       intro a hA
       refine seq_do hA rfl rfl rfl (m_loadX hM hc117 EnF_is1_4 rfl) ?_
       intro a hA
       refine seq_do (v := .bool true) hA rfl rfl rfl (does_un rfl un_not) ?_
       intro a hA
       refine seq_end ?_
       refine hK129 _ _ ?_
       refine wp_cond_true (hA.ev rfl) ?_
       refine wp_region_lit ?_
       refine seq_do hA rfl rfl rfl (does_move rfl) ?_
       intro a hA
       refine seq_do hA rfl rfl rfl (does_move rfl) ?_
       intro a hA
       refine seq_do hA rfl rfl rfl (does_move rfl) ?_
       intro a hA
       refine seq_do (v := .pointer (some ⟨bx102, ox103 + i, none⟩)) hA rfl rfl rfl (does_indexRow (k := i) Try.underlying22 (by kernel_rfl) rfl rfl (by first | rfl | omega) hs105 (by omega)) ?_
       intro a hA
       refine seq_do hA rfl rfl rfl (m_loadX hM hc106 EnF_is1_9 rfl) ?_
       intro a hA
       refine s_litE (e := 9) (sz := 1) (m := 1) (vs := strC [sx104]) hA hM rfl rfl rfl (does_buildSlice rfl (by kernel_rfl)) rfl rfl (.inl (by decide)) ?_
       intro g130 w131 hM a hA
       refine s_appendE (e := 9) (sz := 1) (k := 2) (q := xn.length) (m := 1) (xs := strC xn) (news := strC [sx104]) (L' := fun v132 => (.row 9 1 (.slice (some ⟨g130, 0, none⟩) 1 1) 1 (strC [sx104]) :: .row 9 1 (.slice (some ⟨g119, 0, none⟩) 1 1) 1 (strC [sx104]) :: .row 9 1 (v132) (xn.length + 1) (strC xn ++ strC [sx104]) :: .row 9 1 (.slice sl_ xl.length cl_) xl.length (strC xl) :: .row 9 1 (.slice sa_ xa.length cA_) xa.length (strC xa) :: .row 9 1 (.slice so123 ((xo ++ [sx104]).length) ca124) ((xo ++ [sx104]).length) (strC (xo ++ [sx104])) :: R9)) hA rfl rfl rfl (m_appX (z := .string ⟨#[]⟩) (sz := 1) (by_ := 16) Try.underlying22 (by kernel_rfl) rfl rfl rfl hM 2 rfl rfl rfl (strC_n [sx104]) (rc_own (hM.has 0 rfl)) (strC_one [sx104]) (by first | omega | (simp only [List.length_nil]; omega))) (fun _ => rfl) ?_
       intro v132 w133 hM a hA
       replace hM : Mg w w133 (.row 9 1 (.slice (some ⟨g130, 0, none⟩) 1 1) 1 (strC [sx104]) :: .row 9 1 (.slice (some ⟨g119, 0, none⟩) 1 1) 1 (strC [sx104]) :: .row 9 1 (v132) ((xn ++ [sx104]).length) (strC (xn ++ [sx104])) :: .row 9 1 (.slice sl_ xl.length cl_) xl.length (strC xl) :: .row 9 1 (.slice sa_ xa.length cA_) xa.length (strC xa) :: .row 9 1 (.slice so123 ((xo ++ [sx104]).length) ca124) ((xo ++ [sx104]).length) (strC (xo ++ [sx104])) :: R9) := by
         rw [← strC_app, List.length_append]; exact hM
       obtain ⟨so134, ca135, rfl⟩ := owns_any (hM.has 2 rfl)
       refine seq_do hA rfl rfl rfl (does_assign rfl) ?_
       intro a hA
       refine seq_end ?_
       refine hK100 _ _ ?_
       refine wp_region_lit ?_
       refine seq_do hA rfl rfl rfl (does_move rfl) ?_
       intro a hA
       refine seq_do (v := .int .i64 (((i + 1 : Nat) : Int))) hA rfl rfl rfl (does_bin rfl rfl (ar_add ((in_i64 (by omega) (by omega)).trans (by omega)))) ?_
       intro a hA
       refine seq_do hA rfl rfl rfl (does_assign rfl) ?_
       intro a hA
       refine seq_end ?_
       replace hM : Mg w w133 (.row 9 1 (.slice so134 ((xn ++ [sx104]).length) ca135) ((xn ++ [sx104]).length) (strC (xn ++ [sx104])) :: .row 9 1 (.slice sl_ xl.length cl_) xl.length (strC xl) :: .row 9 1 (.slice sa_ xa.length cA_) xa.length (strC xa) :: .row 9 1 (.slice so123 ((xo ++ [sx104]).length) ca124) ((xo ++ [sx104]).length) (strC (xo ++ [sx104])) :: R9) := by
         have h9 := hM.sub (.cons _ (.cons _ (.cons_cons _ (.cons_cons _ (.cons_cons _ (.cons_cons _ (.refl _)))))))
         exact h9
       have hh136 := has_at (snd_le hsd).2.2 hi107 hi118
       refine hK95 _ _ _ (by omega) ⟨i + 1, xn ++ [sx104], so134, ca135, xl, sl_, cl_, xa, sa_, cA_, xo ++ [sx104], so123, ca124, fl, rfl, ⟨by omega, by rw [fil_step hi107, ← hxn]; simp [hh136, hb108], by rw [fil_step hi107, ← hxl]; simp [hh136, hb108], by rw [fil_step hi107, ← hxa]; simp [hh136, hb108], by rw [fil_step hi107, ← hxo]; simp [hh136, hb108], by rw [any_step hi107, Bool.not_or, ← hfl]; simp [hh136, hb108]⟩, hA.keep _ ⟨rfl, rfl, rfl, rfl, rfl, rfl, rfl, rfl, rfl, rfl, rfl, rfl, rfl, rfl, rfl, rfl, rfl, rfl, rfl, rfl, rfl, rfl, rfl, rfl, rfl, rfl, rfl, rfl, rfl, rfl, rfl, rfl, rfl, rfl, rfl, rfl, rfl, rfl, rfl, rfl, rfl, rfl, rfl, rfl, rfl, rfl, rfl, rfl, rfl, rfl, rfl, rfl, rfl, rfl, rfl, rfl, rfl, rfl, rfl, rfl, rfl, rfl, rfl, rfl, rfl, rfl, rfl, rfl, rfl, rfl, rfl, rfl, rfl, rfl, rfl, rfl, rfl, rfl, rfl, rfl, rfl, rfl, trivial⟩, hM⟩
     · refine seq_do (v := .bool true) hA rfl rfl rfl (m_loadX hM hc117 EnF_is1_4 rfl) ?_
       intro a hA
       refine seq_do hA rfl rfl rfl (does_move rfl) ?_
       intro a hA
       refine seq_skip hA rfl rfl rfl ?_
       intro a hA
       refine seq_do (v := .bool true) hA rfl rfl rfl (does_pick rfl rfl rfl rfl) ?_
       intro a hA
       refine seq_end ?_
       refine hK112 _ _ ?_
       refine wp_cond_true (hA.ev rfl) ?_
       refine wp_region_lit ?_
       refine seq_do hA rfl rfl rfl (does_move rfl) ?_
       intro a hA
       refine seq_do hA rfl rfl rfl (does_move rfl) ?_
       intro a hA
       refine seq_do hA rfl rfl rfl (does_move rfl) ?_
       intro a hA
       refine seq_do (v := .pointer (some ⟨bx102, ox103 + i, none⟩)) hA rfl rfl rfl (does_indexRow (k := i) Try.underlying22 (by kernel_rfl) rfl rfl (by first | rfl | omega) hs105 (by omega)) ?_
       intro a hA
       refine seq_do hA rfl rfl rfl (m_loadX hM hc106 EnF_is1_9 rfl) ?_
       intro a hA
       refine s_litE (e := 9) (sz := 1) (m := 1) (vs := strC [sx104]) hA hM rfl rfl rfl (does_buildSlice rfl (by kernel_rfl)) rfl rfl (.inl (by decide)) ?_
       intro g137 w138 hM a hA
       refine s_appendE (e := 9) (sz := 1) (k := 4) (q := xo.length) (m := 1) (xs := strC xo) (news := strC [sx104]) (L' := fun v139 => (.row 9 1 (.slice (some ⟨g137, 0, none⟩) 1 1) 1 (strC [sx104]) :: .row 9 1 (.slice sn_ xn.length cn_) xn.length (strC xn) :: .row 9 1 (.slice sl_ xl.length cl_) xl.length (strC xl) :: .row 9 1 (.slice sa_ xa.length cA_) xa.length (strC xa) :: .row 9 1 (v139) (xo.length + 1) (strC xo ++ strC [sx104]) :: R9)) hA rfl rfl rfl (m_appX (z := .string ⟨#[]⟩) (sz := 1) (by_ := 16) Try.underlying22 (by kernel_rfl) rfl rfl rfl hM 4 rfl rfl rfl (strC_n [sx104]) (rc_own (hM.has 0 rfl)) (strC_one [sx104]) (by first | omega | (simp only [List.length_nil]; omega))) (fun _ => rfl) ?_
       intro v139 w140 hM a hA
       replace hM : Mg w w140 (.row 9 1 (.slice (some ⟨g137, 0, none⟩) 1 1) 1 (strC [sx104]) :: .row 9 1 (.slice sn_ xn.length cn_) xn.length (strC xn) :: .row 9 1 (.slice sl_ xl.length cl_) xl.length (strC xl) :: .row 9 1 (.slice sa_ xa.length cA_) xa.length (strC xa) :: .row 9 1 (v139) ((xo ++ [sx104]).length) (strC (xo ++ [sx104])) :: R9) := by
         rw [← strC_app, List.length_append]; exact hM
       obtain ⟨so141, ca142, rfl⟩ := owns_any (hM.has 4 rfl)
       refine seq_do hA rfl rfl rfl (does_assign rfl) ?_
       intro a hA
       refine seq_end ?_
       refine hK111 _ _ ?_
       refine wp_seq_k (fun K143 hK143 => ?_)
       refine wp_seq_k (fun K144 hK144 => ?_)
       refine wp_region_lit ?_
       refine seq_do hA rfl rfl rfl (does_move rfl) ?_
       intro a hA
       refine seq_do hA rfl rfl rfl (does_move rfl) ?_
       intro a hA
       refine seq_do (v := .pointer (some ⟨bx113, ox114 + i, none⟩)) hA rfl rfl rfl (does_indexRow (k := i) Try.underlying23 (by kernel_rfl) rfl rfl (by first | rfl | omega) hs116 (by omega)) ?_
       intro a hA
       refine seq_do hA rfl rfl rfl (m_loadX hM hc117 EnF_is1_4 rfl) ?_
       intro a hA
       refine seq_do hA rfl rfl rfl (does_move rfl) ?_
       intro a hA
       refine seq_do hA rfl rfl rfl (does_move rfl) ?_
       intro a hA
       refine seq_do (v := .bool true) hA rfl rfl rfl (does_pick rfl rfl rfl rfl) ?_
       intro a hA
       refine seq_end ?_
       refine hK144 _ _ ?_
       refine wp_cond_true (hA.ev rfl) ?_
       refine wp_region_lit ?_
       refine seq_do hA rfl rfl rfl (does_move rfl) ?_
       intro a hA
       refine seq_do hA rfl rfl rfl (does_move rfl) ?_
       intro a hA
       refine seq_do hA rfl rfl rfl (does_move rfl) ?_
       intro a hA
       refine seq_do (v := .pointer (some ⟨bx102, ox103 + i, none⟩)) hA rfl rfl rfl (does_indexRow (k := i) Try.underlying22 (by kernel_rfl) rfl rfl (by first | rfl | omega) hs105 (by omega)) ?_
       intro a hA
       refine seq_do hA rfl rfl rfl (m_loadX hM hc106 EnF_is1_9 rfl) ?_
       intro a hA
       refine s_litE (e := 9) (sz := 1) (m := 1) (vs := strC [sx104]) hA hM rfl rfl rfl (does_buildSlice rfl (by kernel_rfl)) rfl rfl (.inl (by decide)) ?_
       intro g145 w146 hM a hA
       refine s_appendE (e := 9) (sz := 1) (k := 4) (q := xa.length) (m := 1) (xs := strC xa) (news := strC [sx104]) (L' := fun v147 => (.row 9 1 (.slice (some ⟨g145, 0, none⟩) 1 1) 1 (strC [sx104]) :: .row 9 1 (.slice (some ⟨g137, 0, none⟩) 1 1) 1 (strC [sx104]) :: .row 9 1 (.slice sn_ xn.length cn_) xn.length (strC xn) :: .row 9 1 (.slice sl_ xl.length cl_) xl.length (strC xl) :: .row 9 1 (v147) (xa.length + 1) (strC xa ++ strC [sx104]) :: .row 9 1 (.slice so141 ((xo ++ [sx104]).length) ca142) ((xo ++ [sx104]).length) (strC (xo ++ [sx104])) :: R9)) hA rfl rfl rfl (m_appX (z := .string ⟨#[]⟩) (sz := 1) (by_ := 16) Try.underlying22 (by kernel_rfl) rfl rfl rfl hM 4 rfl rfl rfl (strC_n [sx104]) (rc_own (hM.has 0 rfl)) (strC_one [sx104]) (by first | omega | (simp only [List.length_nil]; omega))) (fun _ => rfl) ?_
       intro v147 w148 hM a hA
       replace hM : Mg w w148 (.row 9 1 (.slice (some ⟨g145, 0, none⟩) 1 1) 1 (strC [sx104]) :: .row 9 1 (.slice (some ⟨g137, 0, none⟩) 1 1) 1 (strC [sx104]) :: .row 9 1 (.slice sn_ xn.length cn_) xn.length (strC xn) :: .row 9 1 (.slice sl_ xl.length cl_) xl.length (strC xl) :: .row 9 1 (v147) ((xa ++ [sx104]).length) (strC (xa ++ [sx104])) :: .row 9 1 (.slice so141 ((xo ++ [sx104]).length) ca142) ((xo ++ [sx104]).length) (strC (xo ++ [sx104])) :: R9) := by
         rw [← strC_app, List.length_append]; exact hM
       obtain ⟨so149, ca150, rfl⟩ := owns_any (hM.has 4 rfl)
       refine seq_do hA rfl rfl rfl (does_assign rfl) ?_
       intro a hA
       refine seq_end ?_
       refine hK143 _ _ ?_
       refine wp_seq_k (fun K151 hK151 => ?_)
       refine wp_seq_k (fun K152 hK152 => ?_)
       refine wp_region_lit ?_
       refine seq_do hA rfl rfl rfl (does_move rfl) ?_
       intro a hA
       refine seq_do hA rfl rfl rfl (does_move rfl) ?_
       intro a hA
       refine seq_do (v := .pointer (some ⟨bx113, ox114 + i, none⟩)) hA rfl rfl rfl (does_indexRow (k := i) Try.underlying23 (by kernel_rfl) rfl rfl (by first | rfl | omega) hs116 (by omega)) ?_
       intro a hA
       refine seq_do hA rfl rfl rfl (m_loadX hM hc117 EnF_is1_4 rfl) ?_
       intro a hA
       refine seq_do hA rfl rfl rfl (does_move rfl) ?_
       intro a hA
       refine seq_do hA rfl rfl rfl (does_move rfl) ?_
       intro a hA
       refine seq_do (v := .bool false) hA rfl rfl rfl (does_un rfl un_not) ?_
       intro a hA
       refine seq_do (v := .bool false) hA rfl rfl rfl (does_pick rfl rfl rfl rfl) ?_
       intro a hA
       refine seq_end ?_
       refine hK152 _ _ ?_
       refine wp_cond_false (hA.ev rfl) ?_
       refine wp_skip ?_
       refine hK151 _ _ ?_
       refine wp_seq_k (fun K153 hK153 => ?_)
       refine wp_region_lit ?_
       refine seq_do hA rfl rfl rfl (does_move rfl) ?_
       intro a hA
       refine seq_do hA rfl rfl rfl (does_move rfl) ?_
       intro a hA
       refine seq_do (v := .pointer (some ⟨bx113, ox114 + i, none⟩)) hA rfl rfl rfl (does_indexRow (k := i) Try.underlying23 (by kernel_rfl) rfl rfl (by first | rfl | omega) hs116 (by omega)) ?_
       intro a hA
       refine seq_do hA rfl rfl rfl (m_loadX hM hc117 EnF_is1_4 rfl) ?_
       intro a hA
       refine seq_do (v := .bool false) hA rfl rfl rfl (does_un rfl un_not) ?_
       intro a hA
       refine seq_end ?_
       refine hK153 _ _ ?_
       refine wp_cond_false (hA.ev rfl) ?_
       refine wp_skip ?_
       refine hK100 _ _ ?_
       refine wp_region_lit ?_
       refine seq_do hA rfl rfl rfl (does_move rfl) ?_
       intro a hA
       refine seq_do (v := .int .i64 (((i + 1 : Nat) : Int))) hA rfl rfl rfl (does_bin rfl rfl (ar_add ((in_i64 (by omega) (by omega)).trans (by omega)))) ?_
       intro a hA
       refine seq_do hA rfl rfl rfl (does_assign rfl) ?_
       intro a hA
       refine seq_end ?_
       replace hM : Mg w w148 (.row 9 1 (.slice sn_ xn.length cn_) xn.length (strC xn) :: .row 9 1 (.slice sl_ xl.length cl_) xl.length (strC xl) :: .row 9 1 (.slice so149 ((xa ++ [sx104]).length) ca150) ((xa ++ [sx104]).length) (strC (xa ++ [sx104])) :: .row 9 1 (.slice so141 ((xo ++ [sx104]).length) ca142) ((xo ++ [sx104]).length) (strC (xo ++ [sx104])) :: R9) := by
         have h9 := hM.sub (.cons _ (.cons _ (.cons_cons _ (.cons_cons _ (.cons_cons _ (.cons_cons _ (.refl _)))))))
         exact h9
       have hh154 := has_at (snd_le hsd).2.2 hi107 hi118
       refine hK95 _ _ _ (by omega) ⟨i + 1, xn, sn_, cn_, xl, sl_, cl_, xa ++ [sx104], so149, ca150, xo ++ [sx104], so141, ca142, fl, rfl, ⟨by omega, by rw [fil_step hi107, ← hxn]; simp [hh154, hb108], by rw [fil_step hi107, ← hxl]; simp [hh154, hb108], by rw [fil_step hi107, ← hxa]; simp [hh154, hb108], by rw [fil_step hi107, ← hxo]; simp [hh154, hb108], by rw [any_step hi107, Bool.not_or, ← hfl]; simp [hh154, hb108]⟩, hA.keep _ ⟨rfl, rfl, rfl, rfl, rfl, rfl, rfl, rfl, rfl, rfl, rfl, rfl, rfl, rfl, rfl, rfl, rfl, rfl, rfl, rfl, rfl, rfl, rfl, rfl, rfl, rfl, rfl, rfl, rfl, rfl, rfl, rfl, rfl, rfl, rfl, rfl, rfl, rfl, rfl, rfl, rfl, rfl, rfl, rfl, rfl, rfl, rfl, rfl, rfl, rfl, rfl, rfl, rfl, rfl, rfl, rfl, rfl, rfl, rfl, rfl, rfl, rfl, rfl, rfl, rfl, rfl, rfl, rfl, rfl, rfl, rfl, rfl, rfl, rfl, rfl, rfl, rfl, rfl, rfl, rfl, rfl, rfl, trivial⟩, hM⟩
   · refine seq_call hA rfl rfl rfl (enters_func rfl rfl (fun w => by kernel_rfl)) (rhas_as (hR2.below hM.bel) (hB2.below hM.bel) hl2 (snd_le hsd2).2.1 hb108) ?_
     rintro _ w156 ⟨rfl, hb155⟩
     replace hM := hM.call hb155
     refine ⟨_, rfl, ?_⟩
     intro a hA
     refine seq_do hA rfl rfl rfl (does_assign rfl) ?_
     intro a hA
     refine seq_end ?_
     refine hK101 _ _ ?_
     refine wp_seq_k (fun K157 hK157 => ?_)
     refine wp_seq_k (fun K158 hK158 => ?_)
     refine wp_region_lit ?_
     refine seq_do hA rfl rfl rfl (does_move rfl) ?_
     intro a hA
     refine seq_do hA rfl rfl rfl (does_move rfl) ?_
     intro a hA
     obtain ⟨bx159, ox160, sx161, hs162, hc163, hi164⟩ := hB.at_ (i := i) (by omega)
     refine seq_do (v := .pointer (some ⟨bx159, ox160 + i, none⟩)) hA rfl rfl rfl (does_indexRow (k := i) Try.underlying23 (by kernel_rfl) rfl rfl (by first | rfl | omega) hs162 (by omega)) ?_
     intro a hA
     rcases sx161 with _ | _
     · refine seq_do (v := .bool false) hA rfl rfl rfl (m_loadX hM hc163 EnF_is1_4 rfl) ?_
       intro a hA
       refine seq_do hA rfl rfl rfl (does_move rfl) ?_
       intro a hA
       refine seq_do hA rfl rfl rfl (does_move rfl) ?_
       intro a hA
       refine seq_do (v := .bool false) hA rfl rfl rfl (does_pick rfl rfl rfl rfl) ?_
       intro a hA
       refine seq_end ?_
       refine hK158 _ _ ?_
       refine wp_cond_false (hA.ev rfl) ?_
       refine wp_skip ?_
       refine hK157 _ _ ?_
       refine wp_seq_k (fun K165 hK165 => ?_)
       refine wp_seq_k (fun K166 hK166 => ?_)
       refine wp_region_lit ?_
       refine seq_do hA rfl rfl rfl (does_move rfl) ?_
       intro a hA
       refine seq_do hA rfl rfl rfl (does_move rfl) ?_
       intro a hA
       refine seq_do (v := .pointer (some ⟨bx159, ox160 + i, none⟩)) hA rfl rfl rfl (does_indexRow (k := i) Try.underlying23 (by kernel_rfl) rfl rfl (by first | rfl | omega) hs162 (by omega)) ?_
       intro a hA
       refine seq_do hA rfl rfl rfl (m_loadX hM hc163 EnF_is1_4 rfl) ?_
       intro a hA
       refine seq_do hA rfl rfl rfl (does_move rfl) ?_
       intro a hA
       refine seq_skip hA rfl rfl rfl ?_
       intro a hA
       refine seq_do (v := .bool false) hA rfl rfl rfl (does_pick rfl rfl rfl rfl) ?_
       intro a hA
       refine seq_end ?_
       refine hK166 _ _ ?_
       refine wp_cond_false (hA.ev rfl) ?_
       refine wp_skip ?_
       refine hK165 _ _ ?_
       refine wp_seq_k (fun K167 hK167 => ?_)
       refine wp_seq_k (fun K168 hK168 => ?_)
       refine wp_region_lit ?_
       refine seq_do hA rfl rfl rfl (does_move rfl) ?_
       intro a hA
       refine seq_do hA rfl rfl rfl (does_move rfl) ?_
       intro a hA
       refine seq_do (v := .pointer (some ⟨bx159, ox160 + i, none⟩)) hA rfl rfl rfl (does_indexRow (k := i) Try.underlying23 (by kernel_rfl) rfl rfl (by first | rfl | omega) hs162 (by omega)) ?_
       intro a hA
       refine seq_do hA rfl rfl rfl (m_loadX hM hc163 EnF_is1_4 rfl) ?_
       intro a hA
       refine seq_do hA rfl rfl rfl (does_move rfl) ?_
       intro a hA
       refine seq_skip hA rfl rfl rfl ?_
       intro a hA
       refine seq_skip hA rfl rfl rfl ?_
       intro a hA
       refine seq_do (v := .bool false) hA rfl rfl rfl (does_pick rfl rfl rfl rfl) ?_
       intro a hA
       refine seq_end ?_
       refine hK168 _ _ ?_
       refine wp_cond_false (hA.ev rfl) ?_
       refine wp_skip ?_
       refine hK167 _ _ ?_
       refine wp_seq_k (fun K169 hK169 => ?_)
       refine wp_region_lit ?_
       refine seq_do hA rfl rfl rfl (does_move rfl) ?_
       intro a hA
       refine seq_do hA rfl rfl rfl (does_move rfl) ?_
       intro a hA
       refine seq_do (v := .pointer (some ⟨bx159, ox160 + i, none⟩)) hA rfl rfl rfl (does_indexRow (k := i) Try.underlying23 (by kernel_rfl) rfl rfl (by first | rfl | omega) hs162 (by omega)) ?_
       intro a hA
       refine seq_do hA rfl rfl rfl (m_loadX hM hc163 EnF_is1_4 rfl) ?_
       intro a hA
       refine seq_do (v := .bool true) hA rfl rfl rfl (does_un rfl un_not) ?_
       intro a hA
       refine seq_end ?_
       refine hK169 _ _ ?_
       refine wp_cond_true (hA.ev rfl) ?_
       refine wp_region_lit ?_
       refine seq_do hA rfl rfl rfl (does_move rfl) ?_
       intro a hA
       refine seq_do hA rfl rfl rfl (does_move rfl) ?_
       intro a hA
       refine seq_do hA rfl rfl rfl (does_move rfl) ?_
       intro a hA
       refine seq_do (v := .pointer (some ⟨bx102, ox103 + i, none⟩)) hA rfl rfl rfl (does_indexRow (k := i) Try.underlying22 (by kernel_rfl) rfl rfl (by first | rfl | omega) hs105 (by omega)) ?_
       intro a hA
       refine seq_do hA rfl rfl rfl (m_loadX hM hc106 EnF_is1_9 rfl) ?_
       intro a hA
       refine s_litE (e := 9) (sz := 1) (m := 1) (vs := strC [sx104]) hA hM rfl rfl rfl (does_buildSlice rfl (by kernel_rfl)) rfl rfl (.inl (by decide)) ?_
       intro g170 w171 hM a hA
       refine s_appendE (e := 9) (sz := 1) (k := 1) (q := xn.length) (m := 1) (xs := strC xn) (news := strC [sx104]) (L' := fun v172 => (.row 9 1 (.slice (some ⟨g170, 0, none⟩) 1 1) 1 (strC [sx104]) :: .row 9 1 (v172) (xn.length + 1) (strC xn ++ strC [sx104]) :: .row 9 1 (.slice sl_ xl.length cl_) xl.length (strC xl) :: .row 9 1 (.slice sa_ xa.length cA_) xa.length (strC xa) :: .row 9 1 (.slice so_ xo.length co_) xo.length (strC xo) :: R9)) hA rfl rfl rfl (m_appX (z := .string ⟨#[]⟩) (sz := 1) (by_ := 16) Try.underlying22 (by kernel_rfl) rfl rfl rfl hM 1 rfl rfl rfl (strC_n [sx104]) (rc_own (hM.has 0 rfl)) (strC_one [sx104]) (by first | omega | (simp only [List.length_nil]; omega))) (fun _ => rfl) ?_
       intro v172 w173 hM a hA
       replace hM : Mg w w173 (.row 9 1 (.slice (some ⟨g170, 0, none⟩) 1 1) 1 (strC [sx104]) :: .row 9 1 (v172) ((xn ++ [sx104]).length) (strC (xn ++ [sx104])) :: .row 9 1 (.slice sl_ xl.length cl_) xl.length (strC xl) :: .row 9 1 (.slice sa_ xa.length cA_) xa.length (strC xa) :: .row 9 1 (.slice so_ xo.length co_) xo.length (strC xo) :: R9) := by
         rw [← strC_app, List.length_append]; exact hM
       obtain ⟨so174, ca175, rfl⟩ := owns_any (hM.has 1 rfl)
       refine seq_do hA rfl rfl rfl (does_assign rfl) ?_
       intro a hA
       refine seq_end ?_
       refine hK100 _ _ ?_
       refine wp_region_lit ?_
       refine seq_do hA rfl rfl rfl (does_move rfl) ?_
       intro a hA
       refine seq_do (v := .int .i64 (((i + 1 : Nat) : Int))) hA rfl rfl rfl (does_bin rfl rfl (ar_add ((in_i64 (by omega) (by omega)).trans (by omega)))) ?_
       intro a hA
       refine seq_do hA rfl rfl rfl (does_assign rfl) ?_
       intro a hA
       refine seq_end ?_
       replace hM : Mg w w173 (.row 9 1 (.slice so174 ((xn ++ [sx104]).length) ca175) ((xn ++ [sx104]).length) (strC (xn ++ [sx104])) :: .row 9 1 (.slice sl_ xl.length cl_) xl.length (strC xl) :: .row 9 1 (.slice sa_ xa.length cA_) xa.length (strC xa) :: .row 9 1 (.slice so_ xo.length co_) xo.length (strC xo) :: R9) := by
         have h9 := hM.sub (.cons _ (.cons_cons _ (.cons_cons _ (.cons_cons _ (.cons_cons _ (.refl _))))))
         exact h9
       have hh176 := has_at (snd_le hsd).2.2 hi107 hi164
       refine hK95 _ _ _ (by omega) ⟨i + 1, xn ++ [sx104], so174, ca175, xl, sl_, cl_, xa, sa_, cA_, xo, so_, co_, fl, rfl, ⟨by omega, by rw [fil_step hi107, ← hxn]; simp [hh176, hb108], by rw [fil_step hi107, ← hxl]; simp [hh176, hb108], by rw [fil_step hi107, ← hxa]; simp [hh176, hb108], by rw [fil_step hi107, ← hxo]; simp [hh176, hb108], by rw [any_step hi107, Bool.not_or, ← hfl]; simp [hh176, hb108]⟩, hA.keep _ ⟨rfl, rfl, rfl, rfl, rfl, rfl, rfl, rfl, rfl, rfl, rfl, rfl, rfl, rfl, rfl, rfl, rfl, rfl, rfl, rfl, rfl, rfl, rfl, rfl, rfl, rfl, rfl, rfl, rfl, rfl, rfl, rfl, rfl, rfl, rfl, rfl, rfl, rfl, rfl, rfl, rfl, rfl, rfl, rfl, rfl, rfl, rfl, rfl, rfl, rfl, rfl, rfl, rfl, rfl, rfl, rfl, rfl, rfl, rfl, rfl, rfl, rfl, rfl, rfl, rfl, rfl, rfl, rfl, rfl, rfl, rfl, rfl, rfl, rfl, rfl, rfl, rfl, rfl, rfl, rfl, rfl, rfl, trivial⟩, hM⟩
     · refine seq_do (v := .bool true) hA rfl rfl rfl (m_loadX hM hc163 EnF_is1_4 rfl) ?_
       intro a hA
       refine seq_do hA rfl rfl rfl (does_move rfl) ?_
       intro a hA
       refine seq_skip hA rfl rfl rfl ?_
       intro a hA
       refine seq_do (v := .bool true) hA rfl rfl rfl (does_pick rfl rfl rfl rfl) ?_
       intro a hA
       refine seq_end ?_
       refine hK158 _ _ ?_
       refine wp_cond_true (hA.ev rfl) ?_
       refine wp_region_lit ?_
       refine seq_do hA rfl rfl rfl (does_move rfl) ?_
       intro a hA
       refine seq_do hA rfl rfl rfl (does_move rfl) ?_
       intro a hA
       refine seq_do hA rfl rfl rfl (does_move rfl) ?_
       intro a hA
       refine seq_do (v := .pointer (some ⟨bx102, ox103 + i, none⟩)) hA rfl rfl rfl (does_indexRow (k := i) Try.underlying22 (by kernel_rfl) rfl rfl (by first | rfl | omega) hs105 (by omega)) ?_
       intro a hA
       refine seq_do hA rfl rfl rfl (m_loadX hM hc106 EnF_is1_9 rfl) ?_
       intro a hA
       refine s_litE (e := 9) (sz := 1) (m := 1) (vs := strC [sx104]) hA hM rfl rfl rfl (does_buildSlice rfl (by kernel_rfl)) rfl rfl (.inl (by decide)) ?_
       intro g177 w178 hM a hA
       refine s_appendE (e := 9) (sz := 1) (k := 4) (q := xo.length) (m := 1) (xs := strC xo) (news := strC [sx104]) (L' := fun v179 => (.row 9 1 (.slice (some ⟨g177, 0, none⟩) 1 1) 1 (strC [sx104]) :: .row 9 1 (.slice sn_ xn.length cn_) xn.length (strC xn) :: .row 9 1 (.slice sl_ xl.length cl_) xl.length (strC xl) :: .row 9 1 (.slice sa_ xa.length cA_) xa.length (strC xa) :: .row 9 1 (v179) (xo.length + 1) (strC xo ++ strC [sx104]) :: R9)) hA rfl rfl rfl (m_appX (z := .string ⟨#[]⟩) (sz := 1) (by_ := 16) Try.underlying22 (by kernel_rfl) rfl rfl rfl hM 4 rfl rfl rfl (strC_n [sx104]) (rc_own (hM.has 0 rfl)) (strC_one [sx104]) (by first | omega | (simp only [List.length_nil]; omega))) (fun _ => rfl) ?_
       intro v179 w180 hM a hA
       replace hM : Mg w w180 (.row 9 1 (.slice (some ⟨g177, 0, none⟩) 1 1) 1 (strC [sx104]) :: .row 9 1 (.slice sn_ xn.length cn_) xn.length (strC xn) :: .row 9 1 (.slice sl_ xl.length cl_) xl.length (strC xl) :: .row 9 1 (.slice sa_ xa.length cA_) xa.length (strC xa) :: .row 9 1 (v179) ((xo ++ [sx104]).length) (strC (xo ++ [sx104])) :: R9) := by
         rw [← strC_app, List.length_append]; exact hM
       obtain ⟨so181, ca182, rfl⟩ := owns_any (hM.has 4 rfl)
       refine seq_do hA rfl rfl rfl (does_assign rfl) ?_
       intro a hA
       refine seq_end ?_
       refine hK157 _ _ ?_
       refine wp_seq_k (fun K183 hK183 => ?_)
       refine wp_seq_k (fun K184 hK184 => ?_)
       refine wp_region_lit ?_
       refine seq_do hA rfl rfl rfl (does_move rfl) ?_
       intro a hA
       refine seq_do hA rfl rfl rfl (does_move rfl) ?_
       intro a hA
       refine seq_do (v := .pointer (some ⟨bx159, ox160 + i, none⟩)) hA rfl rfl rfl (does_indexRow (k := i) Try.underlying23 (by kernel_rfl) rfl rfl (by first | rfl | omega) hs162 (by omega)) ?_
       intro a hA
       refine seq_do hA rfl rfl rfl (m_loadX hM hc163 EnF_is1_4 rfl) ?_
       intro a hA
       refine seq_do hA rfl rfl rfl (does_move rfl) ?_
       intro a hA
       refine seq_do hA rfl rfl rfl (does_move rfl) ?_
       intro a hA
       refine seq_do (v := .bool false) hA rfl rfl rfl (does_pick rfl rfl rfl rfl) ?_
       intro a hA
       refine seq_end ?_
       refine hK184 _ _ ?_
       refine wp_cond_false (hA.ev rfl) ?_
       refine wp_skip ?_
       refine hK183 _ _ ?_
       refine wp_seq_k (fun K185 hK185 => ?_)
       refine wp_seq_k (fun K186 hK186 => ?_)
       refine wp_region_lit ?_
       refine seq_do hA rfl rfl rfl (does_move rfl) ?_
       intro a hA
       refine seq_do hA rfl rfl rfl (does_move rfl) ?_
       intro a hA
       refine seq_do (v := .pointer (some ⟨bx159, ox160 + i, none⟩)) hA rfl rfl rfl (does_indexRow (k := i) Try.underlying23 (by kernel_rfl) rfl rfl (by first | rfl | omega) hs162 (by omega)) ?_
       intro a hA
       refine seq_do hA rfl rfl rfl (m_loadX hM hc163 EnF_is1_4 rfl) ?_
       intro a hA
       refine seq_do hA rfl rfl rfl (does_move rfl) ?_
       intro a hA
       refine seq_do hA rfl rfl rfl (does_move rfl) ?_
       intro a hA
       refine seq_do (v := .bool true) hA rfl rfl rfl (does_un rfl un_not) ?_
       intro a hA
       refine seq_do (v := .bool true) hA rfl rfl rfl (does_pick rfl rfl rfl rfl) ?_
       intro a hA
       refine seq_end ?_
       refine hK186 _ _ ?_
       refine wp_cond_true (hA.ev rfl) ?_
       refine wp_seq_k (fun K187 hK187 => ?_)
       refine wp_region_lit ?_
       refine seq_do hA rfl rfl rfl (does_move rfl) ?_
       intro a hA
       refine seq_do hA rfl rfl rfl (does_move rfl) ?_
       intro a hA
       refine seq_do hA rfl rfl rfl (does_move rfl) ?_
       intro a hA
       refine seq_do (v := .pointer (some ⟨bx102, ox103 + i, none⟩)) hA rfl rfl rfl (does_indexRow (k := i) Try.underlying22 (by kernel_rfl) rfl rfl (by first | rfl | omega) hs105 (by omega)) ?_
       intro a hA
       refine seq_do hA rfl rfl rfl (m_loadX hM hc106 EnF_is1_9 rfl) ?_
       intro a hA
       refine s_litE (e := 9) (sz := 1) (m := 1) (vs := strC [sx104]) hA hM rfl rfl rfl (does_buildSlice rfl (by kernel_rfl)) rfl rfl (.inl (by decide)) ?_
       intro g188 w189 hM a hA
       refine s_appendE (e := 9) (sz := 1) (k := 3) (q := xl.length) (m := 1) (xs := strC xl) (news := strC [sx104]) (L' := fun v190 => (.row 9 1 (.slice (some ⟨g188, 0, none⟩) 1 1) 1 (strC [sx104]) :: .row 9 1 (.slice (some ⟨g177, 0, none⟩) 1 1) 1 (strC [sx104]) :: .row 9 1 (.slice sn_ xn.length cn_) xn.length (strC xn) :: .row 9 1 (v190) (xl.length + 1) (strC xl ++ strC [sx104]) :: .row 9 1 (.slice sa_ xa.length cA_) xa.length (strC xa) :: .row 9 1 (.slice so181 ((xo ++ [sx104]).length) ca182) ((xo ++ [sx104]).length) (strC (xo ++ [sx104])) :: R9)) hA rfl rfl rfl (m_appX (z := .string ⟨#[]⟩) (sz := 1) (by_ := 16) Try.underlying22 (by kernel_rfl) rfl rfl rfl hM 3 rfl rfl rfl (strC_n [sx104]) (rc_own (hM.has 0 rfl)) (strC_one [sx104]) (by first | omega | (simp only [List.length_nil]; omega))) (fun _ => rfl) ?_
       intro v190 w191 hM a hA
       replace hM : Mg w w191 (.row 9 1 (.slice (some ⟨g188, 0, none⟩) 1 1) 1 (strC [sx104]) :: .row 9 1 (.slice (some ⟨g177, 0, none⟩) 1 1) 1 (strC [sx104]) :: .row 9 1 (.slice sn_ xn.length cn_) xn.length (strC xn) :: .row 9 1 (v190) ((xl ++ [sx104]).length) (strC (xl ++ [sx104])) :: .row 9 1 (.slice sa_ xa.length cA_) xa.length (strC xa) :: .row 9 1 (.slice so181 ((xo ++ [sx104]).length) ca182) ((xo ++ [sx104]).length) (strC (xo ++ [sx104])) :: R9) := by
         rw [← strC_app, List.length_append]; exact hM
       obtain ⟨so192, ca193, rfl⟩ := owns_any (hM.has 3 rfl)
       refine seq_do hA rfl rfl rfl (does_assign rfl) ?_
       intro a hA
       refine seq_end ?_
       refine hK187 _ _ ?_
       refine wp_region_lit ?_
       refine seq_do hA rfl rfl rfl (does_assign rfl) ?_
       intro a hA
       refine seq_end ?_
       refine hK185 _ _ ?_
       refine wp_seq_k (fun K194 hK194 => ?_)
       refine wp_region_lit ?_
       refine seq_do hA rfl rfl rfl (does_move rfl) ?_
       intro a hA
       refine seq_do hA rfl rfl rfl (does_move rfl) ?_
       intro a hA
       refine seq_do (v := .pointer (some ⟨bx159, ox160 + i, none⟩)) hA rfl rfl rfl (does_indexRow (k := i) Try.underlying23 (by kernel_rfl) rfl rfl (by first | rfl | omega) hs162 (by omega)) ?_
       intro a hA
       refine seq_do hA rfl rfl rfl (m_loadX hM hc163 EnF_is1_4 rfl) ?_
       intro a hA
       refine seq_do (v := .bool false) hA rfl rfl rfl (does_un rfl un_not) ?_
       intro a hA
       refine seq_end ?_
       refine hK194 _ _ ?_
       refine wp_cond_false (hA.ev rfl) ?_
       refine wp_skip ?_
       refine hK100 _ _ ?_
       refine wp_region_lit ?_
       refine seq_do hA rfl rfl rfl (does_move rfl) ?_
       intro a hA
       refine seq_do (v := .int .i64 (((i + 1 : Nat) : Int))) hA rfl rfl rfl (does_bin rfl rfl (ar_add ((in_i64 (by omega) (by omega)).trans (by omega)))) ?_
       intro a hA
       refine seq_do hA rfl rfl rfl (does_assign rfl) ?_
       intro a hA
       refine seq_end ?_
       replace hM : Mg w w191 (.row 9 1 (.slice sn_ xn.length cn_) xn.length (strC xn) :: .row 9 1 (.slice so192 ((xl ++ [sx104]).length) ca193) ((xl ++ [sx104]).length) (strC (xl ++ [sx104])) :: .row 9 1 (.slice sa_ xa.length cA_) xa.length (strC xa) :: .row 9 1 (.slice so181 ((xo ++ [sx104]).length) ca182) ((xo ++ [sx104]).length) (strC (xo ++ [sx104])) :: R9) := by
         have h9 := hM.sub (.cons _ (.cons _ (.cons_cons _ (.cons_cons _ (.cons_cons _ (.cons_cons _ (.refl _)))))))
         exact h9
       have hh195 := has_at (snd_le hsd).2.2 hi107 hi164
       refine hK95 _ _ _ (by omega) ⟨i + 1, xn, sn_, cn_, xl ++ [sx104], so192, ca193, xa, sa_, cA_, xo ++ [sx104], so181, ca182, false, rfl, ⟨by omega, by rw [fil_step hi107, ← hxn]; simp [hh195, hb108], by rw [fil_step hi107, ← hxl]; simp [hh195, hb108], by rw [fil_step hi107, ← hxa]; simp [hh195, hb108], by rw [fil_step hi107, ← hxo]; simp [hh195, hb108], by rw [any_step hi107, Bool.not_or, ← hfl]; simp [hh195, hb108]⟩, hA.keep _ ⟨rfl, rfl, rfl, rfl, rfl, rfl, rfl, rfl, rfl, rfl, rfl, rfl, rfl, rfl, rfl, rfl, rfl, rfl, rfl, rfl, rfl, rfl, rfl, rfl, rfl, rfl, rfl, rfl, rfl, rfl, rfl, rfl, rfl, rfl, rfl, rfl, rfl, rfl, rfl, rfl, rfl, rfl, rfl, rfl, rfl, rfl, rfl, rfl, rfl, rfl, rfl, rfl, rfl, rfl, rfl, rfl, rfl, rfl, rfl, rfl, rfl, rfl, rfl, rfl, rfl, rfl, rfl, rfl, rfl, rfl, rfl, rfl, rfl, rfl, rfl, rfl, rfl, rfl, rfl, rfl, rfl, rfl, trivial⟩, hM⟩
 · have hc99' := of_decide_eq_false hc99
   refine wp_exit ?_
   refine hK92 _ _ ?_
   refine wp_seq_k (fun K196 hK196 => ?_)
   refine wp_region_lit ?_
   refine s_litE (e := 9) (sz := 1) (m := 0) (vs := strC []) hA hM rfl rfl rfl (does_buildSlice rfl (by kernel_rfl)) rfl rfl (.inl (by decide)) ?_
   intro g197 w198 hM a hA
   refine seq_do hA rfl rfl rfl (does_assign rfl) ?_
   intro a hA
   refine seq_end ?_
   refine hK196 _ _ ?_
   refine wp_seq_k (fun K199 hK199 => ?_)
   refine wp_seq_k (fun K200 hK200 => ?_)
   refine wp_region_lit ?_
   refine seq_do hA rfl rfl rfl (does_assign rfl) ?_
   intro a hA
   refine seq_end ?_
   refine hK200 _ _ ?_
   refine wp_block ?_
   refine wp_loop_n (fun m_ a w1 => ∃ (j : Nat) (xp : List ByteArray) (sp_ : Option Addr) (cp_ : Nat), m_ = 1 + (l2.length - j) ∧ (j ≤ l2.length ∧ xp = (l2.take j).filter (hasS l bs)) ∧ Sl a 265 [(0, .slice so l.length ca), (1, .slice si bs.length ci), (2, .slice so2 l2.length ca2), (3, .slice si2 bs2.length ci2), (8, .bool false), (9, .pointer (some ⟨g3, 0, none⟩)), (10, .pointer (some ⟨g5, 0, none⟩)), (11, .pointer (some ⟨g18, 0, none⟩)), (12, .int .i64 0), (13, .pointer (some ⟨g30, 0, none⟩)), (14, .int .i64 0), (15, .pointer (some ⟨g42, 0, none⟩)), (16, .int .i64 0), (17, .pointer (some ⟨g54, 0, none⟩)), (18, .int .i64 0), (19, .bool ((!(memS l bs).any fun s => !hasS l2 bs2 s))), (20, .int .i64 0), (21, .pointer (some ⟨g69, 0, none⟩)), (22, .int .i64 0), (23, .slice so_ xo.length co_), (24, .slice sa_ xa.length cA_), (25, .slice sl_ xl.length cl_), (26, .slice sn_ xn.length cn_), (27, .bool fl), (28, .int .i64 (((i : Nat) : Int))), (30, .slice sp_ xp.length cp_), (31, .int .i64 (((j : Nat) : Int))), (32, .slice so l.length ca), (33, .slice si bs.length ci), (34, .agg #[.slice so l.length ca, .slice si bs.length ci]), (35, .slice so2 l2.length ca2), (36, .slice si2 bs2.length ci2), (37, .agg #[.slice so2 l2.length ca2, .slice si2 bs2.length ci2]), (38, .tuple #[.agg #[.slice so10 l.length ca11, .slice si12 q14.length ci13], .int .i64 0]), (39, .agg #[.slice so l.length ca, .slice si bs.length ci]), (40, .agg #[.slice so2 l2.length ca2, .slice si2 bs2.length ci2]), (41, .tuple #[.agg #[.slice so10 l.length ca11, .slice si12 q14.length ci13], .int .i64 0]), (42, .agg #[.slice so10 l.length ca11, .slice si12 q14.length ci13]), (43, .int .i64 0), (44, .tuple #[.agg #[.slice so22 l.length ca23, .slice si24 q26.length ci25], .int .i64 0]), (45, .agg #[.slice so l.length ca, .slice si bs.length ci]), (46, .agg #[.slice so2 l2.length ca2, .slice si2 bs2.length ci2]), (47, .tuple #[.agg #[.slice so22 l.length ca23, .slice si24 q26.length ci25], .int .i64 0]), (48, .agg #[.slice so22 l.length ca23, .slice si24 q26.length ci25]), (49, .int .i64 0), (50, .tuple #[.agg #[.slice so34 l.length ca35, .slice si36 q38.length ci37], .int .i64 0]), (51, .agg #[.slice so l.length ca, .slice si bs.length ci]), (52, .agg #[.slice so2 l2.length ca2, .slice si2 bs2.length ci2]), (53, .tuple #[.agg #[.slice so34 l.length ca35, .slice si36 q38.length ci37], .int .i64 0]), (54, .agg #[.slice so34 l.length ca35, .slice si36 q38.length ci37]), (55, .int .i64 0), (56, .tuple #[.agg #[.slice so46 l.length ca47, .slice si48 q50.length ci49], .int .i64 0]), (57, .agg #[.slice so l.length ca, .slice si bs.length ci]), (58, .tuple #[.agg #[.slice so46 l.length ca47, .slice si48 q50.length ci49], .int .i64 0]), (59, .agg #[.slice so46 l.length ca47, .slice si48 q50.length ci49]), (60, .int .i64 0), (61, .tuple #[.bool ((!(memS l bs).any fun s => !hasS l2 bs2 s)), .int .i64 0]), (62, .agg #[.slice so l.length ca, .slice si bs.length ci]), (63, .agg #[.slice so2 l2.length ca2, .slice si2 bs2.length ci2]), (64, .tuple #[.bool ((!(memS l bs).any fun s => !hasS l2 bs2 s)), .int .i64 0]), (65, .bool ((!(memS l bs).any fun s => !hasS l2 bs2 s))), (66, .int .i64 0), (67, .tuple #[.agg #[.slice so61 l2.length ca62, .slice si63 q65.length ci64], .int .i64 0]), (68, .agg #[.slice so l.length ca, .slice si bs.length ci]), (69, .agg #[.slice so2 l2.length ca2, .slice si2 bs2.length ci2]), (70, .tuple #[.agg #[.slice so61 l2.length ca62, .slice si63 q65.length ci64], .int .i64 0]), (71, .agg #[.slice so61 l2.length ca62, .slice si63 q65.length ci64]), (72, .int .i64 0), (73, .bool true), (74, .bool false), (75, .slice so l.length ca), (76, .slice si bs.length ci), (77, .bool true), (78, .bool false), (79, .bool false), (80, .slice so2 l2.length ca2), (81, .slice si2 bs2.length ci2), (82, .bool true), (83, .bool false), (84, .bool false), (116, .slice (some ⟨g83, 0, none⟩) 0 0), (117, .slice (some ⟨g85, 0, none⟩) 0 0), (118, .slice (some ⟨g87, 0, none⟩) 0 0), (119, .slice (some ⟨g89, 0, none⟩) 0 0), (120, .int .i64 (((i : Nat) : Int))), (121, .slice so l.length ca), (122, .int .i64 (((l.length : Nat) : Int))), (123, .bool (decide (((i : Nat) : Int) < ((l.length : Nat) : Int)))), (188, .slice (some ⟨g197, 0, none⟩) 0 0)] ∧ Mg w w1 (.row 9 1 (.slice sp_ xp.length cp_) xp.length (strC xp) :: .row 9 1 (.slice sn_ xn.length cn_) xn.length (strC xn) :: .row 9 1 (.slice sl_ xl.length cl_) xl.length (strC xl) :: .row 9 1 (.slice sa_ xa.length cA_) xa.length (strC xa) :: .row 9 1 (.slice so_ xo.length co_) xo.length (strC xo) :: R9)) _ ⟨0, [], _, 0, rfl, ⟨Nat.zero_le _, rfl⟩, hA.keep _ ⟨rfl, rfl, rfl, rfl, rfl, rfl, rfl, rfl, rfl, rfl, rfl, rfl, rfl, rfl, rfl, rfl, rfl, rfl, rfl, rfl, rfl, rfl, rfl, rfl, rfl, rfl, rfl, rfl, rfl, rfl, rfl, rfl, rfl, rfl, rfl, rfl, rfl, rfl, rfl, rfl, rfl, rfl, rfl, rfl, rfl, rfl, rfl, rfl, rfl, rfl, rfl, rfl, rfl, rfl, rfl, rfl, rfl, rfl, rfl, rfl, rfl, rfl, rfl, rfl, rfl, rfl, rfl, rfl, rfl, rfl, rfl, rfl, rfl, rfl, rfl, rfl, rfl, rfl, rfl, rfl, rfl, rfl, rfl, rfl, rfl, rfl, rfl, rfl, rfl, trivial⟩, hM⟩ ?_
   clear hM hA
   rintro m_ a w201 ⟨j, xp, sp_, cp_, rfl, hinv203, hA, hM⟩ K202 hK202
   obtain ⟨hj0, hxp⟩ := hinv203
   have hLxp : xp.length ≤ j := by rw [hxp]; exact fil_len
   refine wp_seq_k (fun K204 hK204 => ?_)
   refine wp_seq_k (fun K205 hK205 => ?_)
   refine wp_region_lit ?_
   refine seq_do hA rfl rfl rfl (does_move rfl) ?_
   intro a hA
   refine seq_do hA rfl rfl rfl (does_move rfl) ?_
   intro a hA
   refine seq_do (v := .int .i64 (((l2.length : Nat) : Int))) hA rfl rfl rfl (does_len Try.underlying22 rfl) ?_
   intro a hA
   refine seq_do (v := .bool (decide (((j : Nat) : Int) < ((l2.length : Nat) : Int)))) hA rfl rfl rfl (does_bin rfl rfl bin_lss) ?_
   intro a hA
   refine seq_end ?_
   refine hK205 _ _ ?_
   refine wp_cond_split (t := decide (((j : Nat) : Int) < ((l2.length : Nat) : Int))) (hA.ev rfl) (fun hc206 => ?_) (fun hc206 => ?_)
   · have hc206' := of_decide_eq_true hc206
     refine wp_skip ?_
     refine hK204 _ _ ?_
     refine wp_seq_k (fun K207 hK207 => ?_)
     refine wp_block ?_
     refine wp_seq_k (fun K208 hK208 => ?_)
     refine wp_region_lit ?_
     refine seq_do hA rfl rfl rfl (does_move rfl) ?_
     intro a hA
     refine seq_do hA rfl rfl rfl (does_move rfl) ?_
     intro a hA
     refine seq_do hA rfl rfl rfl (does_move rfl) ?_
     intro a hA
     refine seq_do hA rfl rfl rfl (does_move rfl) ?_
     intro a hA
     obtain ⟨bx209, ox210, sx211, hs212, hc213, hi214⟩ := hR2.at_ (i := j) (by omega)
     refine seq_do (v := .pointer (some ⟨bx209, ox210 + j, none⟩)) hA rfl rfl rfl (does_indexRow (k := j) Try.underlying22 (by kernel_rfl) rfl rfl (by first | rfl | omega) hs212 (by omega)) ?_
     intro a hA
     refine seq_do hA rfl rfl rfl (m_loadX hM hc213 EnF_is1_9 rfl) ?_
     intro a hA
     rcases Bool.eq_false_or_eq_true (hasS l bs sx211) with hb215 | hb215
     · refine seq_call hA rfl rfl rfl (enters_func rfl rfl (fun w => by kernel_rfl)) (rhas_as (hR.below hM.bel) (hB.below hM.bel) hl (snd_le hsd).2.1 hb215) ?_
       rintro _ w217 ⟨rfl, hb216⟩
       replace hM := hM.call hb216
       refine ⟨_, rfl, ?_⟩
       intro a hA
       refine seq_end ?_
       refine hK208 _ _ ?_
       refine wp_cond_true (hA.ev rfl) ?_
       refine wp_region_lit ?_
       refine seq_do hA rfl rfl rfl (does_move rfl) ?_
       intro a hA
       refine seq_do hA rfl rfl rfl (does_move rfl) ?_
       intro a hA
       refine seq_do hA rfl rfl rfl (does_move rfl) ?_
       intro a hA
       refine seq_do (v := .pointer (some ⟨bx209, ox210 + j, none⟩)) hA rfl rfl rfl (does_indexRow (k := j) Try.underlying22 (by kernel_rfl) rfl rfl (by first | rfl | omega) hs212 (by omega)) ?_
       intro a hA
       refine seq_do hA rfl rfl rfl (m_loadX hM hc213 EnF_is1_9 rfl) ?_
       intro a hA
       refine s_litE (e := 9) (sz := 1) (m := 1) (vs := strC [sx211]) hA hM rfl rfl rfl (does_buildSlice rfl (by kernel_rfl)) rfl rfl (.inl (by decide)) ?_
       intro g218 w219 hM a hA
       refine s_appendE (e := 9) (sz := 1) (k := 1) (q := xp.length) (m := 1) (xs := strC xp) (news := strC [sx211]) (L' := fun v220 => (.row 9 1 (.slice (some ⟨g218, 0, none⟩) 1 1) 1 (strC [sx211]) :: .row 9 1 (v220) (xp.length + 1) (strC xp ++ strC [sx211]) :: .row 9 1 (.slice sn_ xn.length cn_) xn.length (strC xn) :: .row 9 1 (.slice sl_ xl.length cl_) xl.length (strC xl) :: .row 9 1 (.slice sa_ xa.length cA_) xa.length (strC xa) :: .row 9 1 (.slice so_ xo.length co_) xo.length (strC xo) :: R9)) hA rfl rfl rfl (m_appX (z := .string ⟨#[]⟩) (sz := 1) (by_ := 16) Try.underlying22 (by kernel_rfl) rfl rfl rfl hM 1 rfl rfl rfl (strC_n [sx211]) (rc_own (hM.has 0 rfl)) (strC_one [sx211]) (by first | omega | (simp only [List.length_nil]; omega))) (fun _ => rfl) ?_
       intro v220 w221 hM a hA
       replace hM : Mg w w221 (.row 9 1 (.slice (some ⟨g218, 0, none⟩) 1 1) 1 (strC [sx211]) :: .row 9 1 (v220) ((xp ++ [sx211]).length) (strC (xp ++ [sx211])) :: .row 9 1 (.slice sn_ xn.length cn_) xn.length (strC xn) :: .row 9 1 (.slice sl_ xl.length cl_) xl.length (strC xl) :: .row 9 1 (.slice sa_ xa.length cA_) xa.length (strC xa) :: .row 9 1 (.slice so_ xo.length co_) xo.length (strC xo) :: R9) := by
         rw [← strC_app, List.length_append]; exact hM
       obtain ⟨so222, ca223, rfl⟩ := owns_any (hM.has 1 rfl)
       refine seq_do hA rfl rfl rfl (does_assign rfl) ?_
       intro a hA
       refine seq_end ?_
       refine hK207 _ _ ?_
       refine wp_region_lit ?_
       refine seq_do hA rfl rfl rfl (does_move rfl) ?_
       intro a hA
       refine seq_do (v := .int .i64 (((j + 1 : Nat) : Int))) hA rfl rfl rfl (does_bin rfl rfl (ar_add ((in_i64 (by omega) (by omega)).trans (by omega)))) ?_
       intro a hA
       refine seq_do hA rfl rfl rfl (does_assign rfl) ?_
       intro a hA
       refine seq_end ?_
       replace hM : Mg w w221 (.row 9 1 (.slice so222 ((xp ++ [sx211]).length) ca223) ((xp ++ [sx211]).length) (strC (xp ++ [sx211])) :: .row 9 1 (.slice sn_ xn.length cn_) xn.length (strC xn) :: .row 9 1 (.slice sl_ xl.length cl_) xl.length (strC xl) :: .row 9 1 (.slice sa_ xa.length cA_) xa.length (strC xa) :: .row 9 1 (.slice so_ xo.length co_) xo.length (strC xo) :: R9) := by
         have h9 := hM.sub (.cons _ (.cons_cons _ (.cons_cons _ (.cons_cons _ (.cons_cons _ (.cons_cons _ (.refl _)))))))
         exact h9
       refine hK202 _ _ _ (by omega) ⟨j + 1, xp ++ [sx211], so222, ca223, rfl, ⟨by omega, by rw [fil_step hi214, ← hxp]; simp [hb215]⟩, hA.keep _ ⟨rfl, rfl, rfl, rfl, rfl, rfl, rfl, rfl, rfl, rfl, rfl, rfl, rfl, rfl, rfl, rfl, rfl, rfl, rfl, rfl, rfl, rfl, rfl, rfl, rfl, rfl, rfl, rfl, rfl, rfl, rfl, rfl, rfl, rfl, rfl, rfl, rfl, rfl, rfl, rfl, rfl, rfl, rfl, rfl, rfl, rfl, rfl, rfl, rfl, rfl, rfl, rfl, rfl, rfl, rfl, rfl, rfl, rfl, rfl, rfl, rfl, rfl, rfl, rfl, rfl, rfl, rfl, rfl, rfl, rfl, rfl, rfl, rfl, rfl, rfl, rfl, rfl, rfl, rfl, rfl, rfl, rfl, rfl, rfl, rfl, rfl, rfl, rfl, rfl, trivial⟩, hM⟩
     · refine seq_call hA rfl rfl rfl (enters_func rfl rfl (fun w => by kernel_rfl)) (rhas_as (hR.below hM.bel) (hB.below hM.bel) hl (snd_le hsd).2.1 hb215) ?_
       rintro _ w225 ⟨rfl, hb224⟩
       replace hM := hM.call hb224
       refine ⟨_, rfl, ?_⟩
       intro a hA
       refine seq_end ?_
       refine hK208 _ _ ?_
       refine wp_cond_false (hA.ev rfl) ?_
       refine wp_skip ?_
       refine hK207 _ _ ?_
       refine wp_region_lit ?_
       refine seq_do hA rfl rfl rfl (does_move rfl) ?_
       intro a hA
       refine seq_do (v := .int .i64 (((j + 1 : Nat) : Int))) hA rfl rfl rfl (does_bin rfl rfl (ar_add ((in_i64 (by omega) (by omega)).trans (by omega)))) ?_
       intro a hA
       refine seq_do hA rfl rfl rfl (does_assign rfl) ?_
       intro a hA
       refine seq_end ?_
       refine hK202 _ _ _ (by omega) ⟨j + 1, xp, sp_, cp_, rfl, ⟨by omega, by rw [fil_step hi214, ← hxp]; simp [hb215]⟩, hA.keep _ ⟨rfl, rfl, rfl, rfl, rfl, rfl, rfl, rfl, rfl, rfl, rfl, rfl, rfl, rfl, rfl, rfl, rfl, rfl, rfl, rfl, rfl, rfl, rfl, rfl, rfl, rfl, rfl, rfl, rfl, rfl, rfl, rfl, rfl, rfl, rfl, rfl, rfl, rfl, rfl, rfl, rfl, rfl, rfl, rfl, rfl, rfl, rfl, rfl, rfl, rfl, rfl, rfl, rfl, rfl, rfl, rfl, rfl, rfl, rfl, rfl, rfl, rfl, rfl, rfl, rfl, rfl, rfl, rfl, rfl, rfl, rfl, rfl, rfl, rfl, rfl, rfl, rfl, rfl, rfl, rfl, rfl, rfl, rfl, rfl, rfl, rfl, rfl, rfl, rfl, trivial⟩, hM⟩
   · have hc206' := of_decide_eq_false hc206
     refine wp_exit ?_
     refine hK199 _ _ ?_
     refine wp_seq_k (fun K226 hK226 => ?_)
     refine wp_seq_k (fun K227 hK227 => ?_)
     replace hM : Mg w w201 (.row 9 1 (.slice sp_ xp.length cp_) xp.length (strC xp) :: .row 9 1 (.slice sn_ xn.length cn_) xn.length (strC xn) :: .row 9 1 (.slice sl_ xl.length cl_) xl.length (strC xl) :: .row 9 1 (.slice sa_ xa.length cA_) xa.length (strC xa) :: .row 9 1 (.slice so_ xo.length co_) xo.length (strC xo) :: .obj g69 (.cells #[.slice so61 l2.length ca62, .slice si63 q65.length ci64] 25) :: .row 9 1 (.slice so61 l2.length ca62) l2.length (strC l2) :: .row 4 1 (.slice si63 q65.length ci64) q65.length (boolC q65) :: .obj g54 (.cells #[.slice so46 l.length ca47, .slice si48 q50.length ci49] 25) :: .row 9 1 (.slice so46 l.length ca47) l.length (strC l) :: .row 4 1 (.slice si48 q50.length ci49) q50.length (boolC q50) :: .obj g42 (.cells #[.slice so34 l.length ca35, .slice si36 q38.length ci37] 25) :: .row 9 1 (.slice so34 l.length ca35) l.length (strC l) :: .row 4 1 (.slice si36 q38.length ci37) q38.length (boolC q38) :: .obj g30 (.cells #[.slice so22 l.length ca23, .slice si24 q26.length ci25] 25) :: .row 9 1 (.slice so22 l.length ca23) l.length (strC l) :: .row 4 1 (.slice si24 q26.length ci25) q26.length (boolC q26) :: .obj g18 (.cells #[.slice so10 l.length ca11, .slice si12 q14.length ci13] 25) :: .row 9 1 (.slice so10 l.length ca11) l.length (strC l) :: .row 4 1 (.slice si12 q14.length ci13) q14.length (boolC q14) :: .obj g5 (.cells #[.slice so2 l2.length ca2, .slice si2 bs2.length ci2] 25) :: .obj g3 (.cells #[.slice so l.length ca, .slice si bs.length ci] 25) :: []) := by rw [hR9] at hM; exact hM
     refine wp_region_lit ?_
     refine seq_do hA rfl rfl rfl (m_loadS hM EnF_isS_25 rfl 8 rfl (cs := [.slice so46 l.length ca47, .slice si48 q50.length ci49]) rfl rfl) ?_
     intro a hA
     refine seq_do hA rfl rfl rfl (does_move rfl) ?_
     intro a hA
     refine seq_do hA rfl rfl rfl (does_move rfl) ?_
     intro a hA
     refine seq_do hA rfl rfl rfl (does_move rfl) ?_
     intro a hA
     refine seq_call hA rfl rfl rfl (enters_func rfl rfl (fun w => by kernel_rfl)) (is_any (rc_own (hM.has 9 rfl)) (rc_own (hM.has 10 rfl)) (hR.below hM.bel) (rc_own (hM.has 1 rfl)) (by rw [hxn]; exact Nat.le_trans fil_len (by omega)) (snd_map hsd hq51) (by rw [hq51, mem_map, hxn, fil_full (by omega)])) ?_
     rintro _ w229 ⟨rfl, hb228⟩
     replace hM := hM.call hb228
     refine ⟨_, rfl, ?_⟩
     intro a hA
     refine seq_do (v := .bool false) hA rfl rfl rfl (does_un rfl un_not) ?_
     intro a hA
     refine seq_do hA rfl rfl rfl (does_move rfl) ?_
     intro a hA
     refine seq_do hA rfl rfl rfl (does_move rfl) ?_
     intro a hA
     refine seq_do (v := .bool false) hA rfl rfl rfl (does_bin rfl rfl (fun w => by kernel_rfl)) ?_
     intro a hA
     refine seq_do (v := .bool false) hA rfl rfl rfl (does_pick rfl rfl rfl rfl) ?_
     intro a hA
     refine seq_do hA rfl rfl rfl (does_move rfl) ?_
     intro a hA
     refine seq_do hA rfl rfl rfl (does_move rfl) ?_
     intro a hA
     refine seq_do hA rfl rfl rfl (does_move rfl) ?_
     intro a hA
     refine seq_do (v := .bool false) hA rfl rfl rfl (does_bin rfl rfl (fun w => ((bin_neqB Try.underlying4) w).trans (by rw [show (!((!(memS l bs).any fun s => !hasS l2 bs2 s) == fl)) = false from (by rw [hfl, sub_eq hsd, List.take_of_length_le (show l.length ≤ i by omega)]; simp)]))) ?_
     intro a hA
     refine seq_do (v := .bool false) hA rfl rfl rfl (does_pick rfl rfl rfl rfl) ?_
     intro a hA
     refine seq_do hA rfl rfl rfl (does_move rfl) ?_
     intro a hA
     refine seq_do hA rfl rfl rfl (m_loadS hM EnF_isS_25 rfl 5 rfl (cs := [.slice so61 l2.length ca62, .slice si63 q65.length ci64]) rfl rfl) ?_
     intro a hA
     refine seq_do hA rfl rfl rfl (does_move rfl) ?_
     intro a hA
     refine seq_do hA rfl rfl rfl (does_move rfl) ?_
     intro a hA
     refine seq_do hA rfl rfl rfl (does_move rfl) ?_
     intro a hA
     refine seq_call hA rfl rfl rfl (enters_func rfl rfl (fun w => by kernel_rfl)) (is_any (rc_own (hM.has 6 rfl)) (rc_own (hM.has 7 rfl)) (hR2.below hM.bel) (rc_own (hM.has 0 rfl)) (by rw [hxp]; exact Nat.le_trans fil_len (by omega)) (snd_map hsd2 hq66) (by rw [hq66, mem_map, hxp, fil_full (by omega)])) ?_
     rintro _ w231 ⟨rfl, hb230⟩
     replace hM := hM.call hb230
     refine ⟨_, rfl, ?_⟩
     intro a hA
     refine seq_do (v := .bool false) hA rfl rfl rfl (does_un rfl un_not) ?_
     intro a hA
     refine seq_do (v := .bool false) hA rfl rfl rfl (does_pick rfl rfl rfl rfl) ?_
     intro a hA
     refine seq_end ?_
     refine hK227 _ _ ?_
     refine wp_cond_false (hA.ev rfl) ?_
     refine wp_skip ?_
     refine hK226 _ _ ?_
     refine wp_seq_k (fun K232 hK232 => ?_)
     refine wp_seq_k (fun K233 hK233 => ?_)
     refine wp_region_lit ?_
     refine seq_do hA rfl rfl rfl (does_move rfl) ?_
     intro a hA
     refine seq_do hA rfl rfl rfl (does_move rfl) ?_
     intro a hA
     refine seq_call hA rfl rfl rfl (enters_func rfl rfl (fun w => by kernel_rfl)) (sameT_as (hR.below hM.bel) hl (hR2.below hM.bel) hl2 heq) ?_
     rintro _ w235 ⟨rfl, hb234⟩
     replace hM := hM.call hb234
     refine ⟨_, rfl, ?_⟩
     intro a hA
     refine seq_do (v := .bool false) hA rfl rfl rfl (does_un rfl un_not) ?_
     intro a hA
     refine seq_end ?_
     refine hK233 _ _ ?_
     refine wp_cond_false (hA.ev rfl) ?_
     refine wp_skip ?_
     refine hK232 _ _ ?_
     refine wp_seq_k (fun K236 hK236 => ?_)
     refine wp_region_lit ?_
     refine seq_do hA rfl rfl rfl (m_loadS hM EnF_isS_25 rfl 17 rfl (cs := [.slice so10 l.length ca11, .slice si12 q14.length ci13]) rfl rfl) ?_
     intro a hA
     refine seq_do hA rfl rfl rfl (does_move rfl) ?_
     intro a hA
     refine seq_do hA rfl rfl rfl (does_move rfl) ?_
     intro a hA
     refine seq_do hA rfl rfl rfl (does_move rfl) ?_
     intro a hA
     refine seq_call hA rfl rfl rfl (enters_func rfl rfl (fun w => by kernel_rfl)) (is_any (rc_own (hM.has 18 rfl)) (rc_own (hM.has 19 rfl)) (hR.below hM.bel) (rc_own (hM.has 4 rfl)) (by rw [hxo]; exact Nat.le_trans fil_len (by omega)) (snd_map hsd hq15) (by rw [hq15, mem_map, hxo, fil_full (by omega)])) ?_
     rintro _ w238 ⟨rfl, hb237⟩
     replace hM := hM.call hb237
     refine ⟨_, rfl, ?_⟩
     intro a hA
     refine seq_do hA rfl rfl rfl (does_move rfl) ?_
     intro a hA
     refine seq_do hA rfl rfl rfl (m_loadS hM EnF_isS_25 rfl 14 rfl (cs := [.slice so22 l.length ca23, .slice si24 q26.length ci25]) rfl rfl) ?_
     intro a hA
     refine seq_do hA rfl rfl rfl (does_move rfl) ?_
     intro a hA
     refine seq_do hA rfl rfl rfl (does_move rfl) ?_
     intro a hA
     refine seq_do hA rfl rfl rfl (does_move rfl) ?_
     intro a hA
     refine seq_call hA rfl rfl rfl (enters_func rfl rfl (fun w => by kernel_rfl)) (is_any (rc_own (hM.has 15 rfl)) (rc_own (hM.has 16 rfl)) (hR.below hM.bel) (rc_own (hM.has 3 rfl)) (by rw [hxa]; exact Nat.le_trans fil_len (by omega)) (snd_map hsd hq27) (by rw [hq27, mem_map, hxa, fil_full (by omega)])) ?_
     rintro _ w240 ⟨rfl, hb239⟩
     replace hM := hM.call hb239
     refine ⟨_, rfl, ?_⟩
     intro a hA
     refine seq_do (v := .bool true) hA rfl rfl rfl (does_pick rfl rfl rfl rfl) ?_
     intro a hA
     refine seq_do hA rfl rfl rfl (does_move rfl) ?_
     intro a hA
     refine seq_do hA rfl rfl rfl (m_loadS hM EnF_isS_25 rfl 11 rfl (cs := [.slice so34 l.length ca35, .slice si36 q38.length ci37]) rfl rfl) ?_
     intro a hA
     refine seq_do hA rfl rfl rfl (does_move rfl) ?_
     intro a hA
     refine seq_do hA rfl rfl rfl (does_move rfl) ?_
     intro a hA
     refine seq_do hA rfl rfl rfl (does_move rfl) ?_
     intro a hA
     refine seq_call hA rfl rfl rfl (enters_func rfl rfl (fun w => by kernel_rfl)) (is_any (rc_own (hM.has 12 rfl)) (rc_own (hM.has 13 rfl)) (hR.below hM.bel) (rc_own (hM.has 2 rfl)) (by rw [hxl]; exact Nat.le_trans fil_len (by omega)) (snd_map hsd hq39) (by rw [hq39, mem_map, hxl, fil_full (by omega)])) ?_
     rintro _ w242 ⟨rfl, hb241⟩
     replace hM := hM.call hb241
     refine ⟨_, rfl, ?_⟩
     intro a hA
     refine seq_do (v := .bool true) hA rfl rfl rfl (does_pick rfl rfl rfl rfl) ?_
     intro a hA
     refine seq_do hA rfl rfl rfl (does_assign rfl) ?_
     intro a hA
     refine seq_end ?_
     refine hK236 _ _ ?_
     refine wp_ret ?_
     refine hret _ _ ?_
     refine ends (v := .bool true) hA rfl (.cons (res_tmp rfl) .nil) rfl ?_
     exact ⟨rfl, hM.bel⟩
theorem enumSets_any {w : World} {so si : Option Addr} {ca ci : Nat} {l : List ByteArray} {bs : List Bool} (hR : Rs w so l) (hB : Rl w si bs) {so2 si2 : Option Addr} {ca2 ci2 : Nat} {l2 : List ByteArray} {bs2 : List Bool} (hR2 : Rs w so2 l2) (hB2 : Rl w si2 bs2) (hs : ∀ s ∈ l, s.size ≤ 281474976710656) (hs2 : ∀ s ∈ l2, s.size ≤ 281474976710656) : Calls Try.prog 4 #[.slice so l.length ca, .slice si bs.length ci, .slice so2 l2.length ca2, .slice si2 bs2.length ci2] w fun e w' => e = .returned (.bool true) ∧ Below w.heap.size w w' := by
  rcases Bool.eq_false_or_eq_true (sndS l bs) with h1 | h1
  · rcases Bool.eq_false_or_eq_true (sndS l2 bs2) with h2 | h2
    · rcases Bool.eq_false_or_eq_true (decide (l = l2)) with h3 | h3
      · exact sets_ok hR hB hR2 hB2 hs hs2 h1 h2 h3
      · exact sets_ty hR hB hR2 hB2 hs hs2 h1 h2 h3
    · exact sets_f2 hR hB hR2 hB2 hs hs2 h1 h2
  · exact sets_f1 hR hB hR2 hB2 hs hs2 h1
end Go.Proofs.Ytbdhfooeanbnlaa
