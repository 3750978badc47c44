/- Walks of sets: where, sound, membership, members. -/
import Derived.Test.YtbdhfooeanbnlaaEnA
namespace Go.Proofs.Ytbdhfooeanbnlaa
open Go.RowKit Go.Lib Go.Sort
set_option linter.unusedVariables false
set_option linter.unusedSimpArgs false
set_option maxRecDepth 100000
theorem EnB_is1_22 : Is1 Try.prog 22 := ⟨⟨_, Try.underlying22, rfl⟩, by kernel_rfl⟩
theorem EnB_is1_23 : Is1 Try.prog 23 := ⟨⟨_, Try.underlying23, rfl⟩, by kernel_rfl⟩
theorem EnB_is1_4 : Is1 Try.prog 4 := ⟨⟨_, Try.underlying4, rfl⟩, by kernel_rfl⟩
theorem EnB_is1_9 : Is1 Try.prog 9 := ⟨⟨_, Try.underlying9, rfl⟩, by kernel_rfl⟩
theorem EnB_fld_25_0 : FieldAt Try.prog 25 0 0 := ⟨_, _, Try.underlying25, rfl, rfl, by kernel_rfl⟩
theorem EnB_fld_25_1 : FieldAt Try.prog 25 1 1 := ⟨_, _, Try.underlying25, rfl, rfl, by kernel_rfl⟩
theorem EnB_isS_25 : IsS Try.prog 25 2 := ⟨⟨_, Try.underlying25⟩, by kernel_rfl⟩
theorem boolC_made (m : Nat) : (madeCells (Value.bool false).cells (m * 1)).toList = boolC (List.replicate m false) := by
  apply List.ext_getElem?
  intro j
  by_cases hj : j < m
  · simp [madeCells, boolC, Value.cells, hj, List.getElem?_replicate, Nat.mod_one]
  · simp [madeCells, boolC, Value.cells, hj, List.getElem?_replicate]
theorem boolC_set (bs : List Bool) (i : Nat) (b : Bool) (h : i < bs.length) : over (boolC bs) (i * 1) [.bool b] = boolC (bs.set i b) := by
  rw [over_one (by rw [Nat.mul_one]; simpa [boolC] using h), Nat.mul_one]
  simp [boolC, List.map_set]
/-- What stands where so many were asked. -/
def askT (p : ByteArray → Bool) (l : List ByteArray) (i : Nat) : List Bool := (l.take i).map p ++ List.replicate (l.length - i) false
theorem askT_len (p : ByteArray → Bool) (l : List ByteArray) {i : Nat} (h : i ≤ l.length) : (askT p l i).length = l.length := by
  unfold askT
  rw [List.length_append, List.length_map, List.length_take, List.length_replicate]
  omega
theorem askT_step {p : ByteArray → Bool} {l : List ByteArray} {i : Nat} {s : ByteArray} (h : l[i]? = some s) : (askT p l i).set i (p s) = askT p l (i + 1) := by
  have hi := (List.getElem?_eq_some_iff.1 h).1
  unfold askT
  rw [List.set_append_right _ _ (by rw [List.length_map, List.length_take]; omega), List.length_map, List.length_take, Nat.min_eq_left (by omega), Nat.sub_self, List.take_add_one, h, Option.toList_some, List.map_append, List.append_assoc, show l.length - i = (l.length - (i + 1)) + 1 by omega, List.replicate_succ]
  rfl
theorem askT_full {p : ByteArray → Bool} {l : List ByteArray} {i : Nat} (h : l.length ≤ i) : askT p l i = l.map p := by
  unfold askT
  rw [List.take_of_length_le h, show l.length - i = 0 by omega]
  simp
def idxP (p : ByteArray → Bool) (l : List ByteArray) : Int := match l.findIdx? p with | some i => ((i : Nat) : Int) | none => -1
theorem idxP_hit {p : ByteArray → Bool} {l : List ByteArray} {i : Nat} {s : ByteArray} (hb : ∀ j u, j < i → l[j]? = some u → p u = false) (h : l[i]? = some s) (hp : p s = true) : idxP p l = ((i : Nat) : Int) := by
  obtain ⟨h1, h2⟩ := List.getElem?_eq_some_iff.1 h
  have : l.findIdx? p = some i := List.findIdx?_eq_some_iff_getElem.2 ⟨h1, by rw [h2]; exact hp, fun j hj => by rw [hb j _ hj (List.getElem?_eq_getElem (by omega))]; decide⟩
  unfold idxP
  rw [this]
theorem idxP_miss {p : ByteArray → Bool} {l : List ByteArray} (hb : ∀ j u, j < l.length → l[j]? = some u → p u = false) : idxP p l = -1 := by
  have : l.findIdx? p = none := by
    rw [List.findIdx?_eq_none_iff]
    intro x hx
    obtain ⟨i, hi, rfl⟩ := List.getElem_of_mem hx
    exact hb i _ hi (List.getElem?_eq_getElem hi)
  unfold idxP
  rw [this]
theorem idxP_any (p : ByteArray → Bool) (l : List ByteArray) : decide (0 ≤ idxP p l) = l.any p := by
  unfold idxP
  cases h : l.findIdx? p with
  | none =>
    rw [List.findIdx?_eq_none_iff] at h
    have : l.any p = false := by rw [List.any_eq_false]; intro x hx; rw [h x hx]; decide
    rw [this]; rfl
  | some i =>
    obtain ⟨h1, h2, _⟩ := List.findIdx?_eq_some_iff_getElem.1 h
    have : l.any p = true := List.any_eq_true.2 ⟨_, List.getElem_mem h1, h2⟩
    rw [this]
    simp
theorem mem_sub {l : List ByteArray} {bs : List Bool} {s : ByteArray} (h : s ∈ memS l bs) : s ∈ l := by
  unfold memS at h
  obtain ⟨⟨a, b⟩, h1, rfl⟩ := List.mem_map.1 h
  exact (List.of_mem_zip (List.mem_filter.1 h1).1).1
theorem where_any {w : World} {so : Option Addr} {ca : Nat} {l : List ByteArray} (hR : Rs w so l) (hl : l.length ≤ 8796093021952) (hs : ∀ s ∈ l, s.size ≤ 281474976710656) {f : FuncId} {cs : List Value} {p : ByteArray → Bool} (hF : AskS Try.prog f cs w p) : Calls Try.prog 28 #[.slice so l.length ca, .func (.func f) #[] cs.toArray] w fun e w' => ∃ so' ca' si' ci', e = .returned (.agg #[.slice so' l.length ca', .slice si' l.length ci']) ∧ Mg w w' [.row 9 1 (.slice so' l.length ca') l.length (strC l), .row 4 1 (.slice si' l.length ci') l.length (boolC (l.map p))] := by
 have hM : Mg w w ([]) := Mg.start w
 refine walk_of (l := [(0, .slice so l.length ca), (1, .func (.func f) #[] cs.toArray)]) Try.func28 rfl Try.ntmps28 rfl rfl ?_
 intro Q hret hnorm hP a hA
 refine wp_seq_k (fun K1 hK1 => ?_)
 refine wp_region_lit ?_
 refine s_new (vs := [.slice none 0 0, .slice none 0 0]) (t := 25) hA hM rfl rfl rfl (fun g => .pointer (some ⟨g, 0, none⟩)) (does_alloc (z := .agg #[.slice none 0 0, .slice none 0 0]) (by kernel_rfl) rfl) (by decide) ?_
 intro g2 w3 hM a hA
 refine seq_end ?_
 refine hK1 _ _ ?_
 refine wp_seq_k (fun K4 hK4 => ?_)
 refine wp_region_lit ?_
 refine seq_do hA rfl rfl rfl (does_move rfl) ?_
 intro a hA
 refine seq_do (v := .int .i64 (((l.length : Nat) : Int))) hA rfl rfl rfl (does_len Try.underlying22 rfl) ?_
 intro a hA
 refine s_makeE (z := .bool false) (sz := 1) (by_ := 1) (m := l.length) hA hM Try.underlying23 (by kernel_rfl) rfl rfl rfl rfl rfl rfl (by omega) (by omega) (.inl (by decide)) ?_
 intro g5 w6 hM a hA
 replace hM : Mg w w6 (.row 4 1 (.slice (some ⟨g5, 0, none⟩) l.length l.length) l.length (boolC (List.replicate l.length false)) :: .obj g2 (.cells #[.slice none 0 0, .slice none 0 0] 25) :: []) := by rw [← boolC_made]; exact hM
 refine seq_do hA rfl rfl rfl (does_assign rfl) ?_
 intro a hA
 refine seq_end ?_
 refine hK4 _ _ ?_
 refine wp_seq_k (fun K7 hK7 => ?_)
 refine wp_seq_k (fun K8 hK8 => ?_)
 refine wp_region_lit ?_
 refine seq_do hA rfl rfl rfl (does_move rfl) ?_
 intro a hA
 refine seq_do (v := .int .i64 (((l.length : Nat) : Int))) hA rfl rfl rfl (does_len Try.underlying22 rfl) ?_
 intro a hA
 refine seq_do hA rfl rfl rfl (does_move rfl) ?_
 intro a hA
 refine seq_end ?_
 refine hK8 _ _ ?_
 refine wp_block ?_
 replace hM : Mg w w6 (.row 4 1 (.slice (some ⟨g5, 0, none⟩) l.length l.length) l.length (boolC (askT p l 0)) :: .obj g2 (.cells #[.slice none 0 0, .slice none 0 0] 25) :: []) := by rw [show askT p l 0 = List.replicate l.length false by simp [askT]]; exact hM
 refine wp_loop_n (fun m_ a w1 => ∃ (i : Nat), m_ = 1 + (l.length - i) ∧ (i ≤ l.length) ∧ Sl a 29 [(0, .slice so l.length ca), (1, .func (.func f) #[] cs.toArray), (4, .pointer (some ⟨g2, 0, none⟩)), (5, .slice (some ⟨g5, 0, none⟩) l.length l.length), (8, .slice so l.length ca), (9, .int .i64 (((l.length : Nat) : Int))), (10, .slice (some ⟨g5, 0, none⟩) l.length l.length), (11, .slice so l.length ca), (12, .int .i64 (((l.length : Nat) : Int))), (13, .int .i64 (((i : Nat) : Int)))] ∧ Mg w w1 (.row 4 1 (.slice (some ⟨g5, 0, none⟩) l.length l.length) l.length (boolC (askT p l i)) :: .obj g2 (.cells #[.slice none 0 0, .slice none 0 0] 25) :: [])) _ ⟨0, rfl, Nat.zero_le _, hA.keep _ ⟨rfl, rfl, rfl, rfl, rfl, rfl, rfl, rfl, rfl, rfl, trivial⟩, hM⟩ ?_
 clear hM hA
 rintro m_ a w9 ⟨i, rfl, hinv11, hA, hM⟩ K10 hK10
 have hi0 := hinv11
 refine wp_seq_k (fun K12 hK12 => ?_)
 refine wp_region_lit ?_
 rcases Bool.eq_false_or_eq_true (decide (((i : Nat) : Int) < ((l.length : Nat) : Int))) with hb13 | hb13
 · have hb13' := of_decide_eq_true hb13
   refine seq_do (v := .bool true) hA rfl rfl rfl (does_bin rfl rfl (fun w => (bin_lss w).trans (by rw [hb13]))) ?_
   intro a hA
   refine seq_end ?_
   refine hK12 _ _ ?_
   refine wp_seq_k (fun K14 hK14 => ?_)
   refine wp_cond_true (hA.ev rfl) ?_
   refine wp_skip ?_
   refine hK14 _ _ ?_
   refine wp_seq_k (fun K15 hK15 => ?_)
   refine wp_block ?_
   refine wp_seq_k (fun K16 hK16 => ?_)
   refine wp_region_lit ?_
   refine seq_do hA rfl rfl rfl (does_move rfl) ?_
   intro a hA
   obtain ⟨bx17, ox18, sx19, hs20, hc21, hi22⟩ := hR.at_ (i := i) (by omega)
   refine seq_do (v := .pointer (some ⟨bx17, ox18 + i, none⟩)) hA rfl rfl rfl (does_indexRow (k := i) Try.underlying22 (by kernel_rfl) rfl rfl (by first | rfl | omega) hs20 (by omega)) ?_
   intro a hA
   refine seq_do hA rfl rfl rfl (m_loadX hM hc21 EnB_is1_9 rfl) ?_
   intro a hA
   refine seq_do hA rfl rfl rfl (does_assign rfl) ?_
   intro a hA
   refine seq_do hA rfl rfl rfl (does_assign rfl) ?_
   intro a hA
   refine seq_end ?_
   refine hK16 _ _ ?_
   refine wp_region_lit ?_
   refine seq_do hA rfl rfl rfl (does_move rfl) ?_
   intro a hA
   refine seq_do hA rfl rfl rfl (does_move rfl) ?_
   intro a hA
   refine seq_do hA rfl rfl rfl (does_move rfl) ?_
   intro a hA
   refine seq_do hA rfl rfl rfl (does_move rfl) ?_
   intro a hA
   refine seq_call hA rfl rfl rfl (enters_fn rfl rfl hF.inv) (hF.run sx19 _ hM.bel) ?_
   rintro _ w24 ⟨rfl, hb23⟩
   replace hM := hM.call hb23
   refine ⟨_, rfl, ?_⟩
   intro a hA
   refine seq_do (v := .pointer (some ⟨g5, i * 1, none⟩)) hA rfl rfl rfl (does_indexE (k := i) Try.underlying23 (by kernel_rfl) rfl rfl (by first | rfl | omega) (by first | omega | decide)) ?_
   intro a hA
   refine s_storeE (us := []) (L' := (.row 4 1 (.slice (some ⟨g5, 0, none⟩) l.length l.length) l.length (boolC (askT p l (i + 1))) :: .obj g2 (.cells #[.slice none 0 0, .slice none 0 0] 25) :: [])) hA hM rfl rfl (m_storeE (cs := [.bool (p sx19)]) rfl rfl rfl (by kernel_rfl) hM 0 rfl (by show _ + 1 ≤ _; omega) rfl) 0 rfl (by rw [boolC_set _ _ _ (by rw [askT_len p l (by omega)]; omega), askT_step hi22]; rfl) ?_
   intro w25 hM
   refine seq_end ?_
   refine hK15 _ _ ?_
   refine wp_region_lit ?_
   refine seq_do (v := .int .i64 (((i + 1 : Nat) : Int))) hA rfl rfl rfl (does_bin rfl rfl (ar_add ((in_i64 (by omega) (by omega)).trans (by omega)))) ?_
   intro a hA
   refine seq_do hA rfl rfl rfl (does_move rfl) ?_
   intro a hA
   refine seq_end ?_
   refine hK10 _ _ _ (by omega) ⟨i + 1, rfl, by omega, hA.keep _ ⟨rfl, rfl, rfl, rfl, rfl, rfl, rfl, rfl, rfl, rfl, trivial⟩, hM⟩
 · have hb13' := of_decide_eq_false hb13
   refine seq_do (v := .bool false) hA rfl rfl rfl (does_bin rfl rfl (fun w => (bin_lss w).trans (by rw [hb13]))) ?_
   intro a hA
   refine seq_end ?_
   refine hK12 _ _ ?_
   refine wp_seq_k (fun K26 hK26 => ?_)
   refine wp_cond_false (hA.ev rfl) ?_
   refine wp_exit ?_
   refine hK7 _ _ ?_
   refine wp_seq_k (fun K27 hK27 => ?_)
   refine wp_region_lit ?_
   refine seq_do hA rfl rfl rfl (does_move rfl) ?_
   intro a hA
   refine seq_call hA rfl rfl rfl (enters_func rfl rfl (fun w => by kernel_rfl)) (texts_any (hR.below hM.bel) hl hs) ?_
   rintro _ w31 ⟨so28, ca29, rfl, hM30⟩
   replace hM : Mg w w31 (.row 9 1 (.slice so28 l.length ca29) l.length (strC l) :: .row 4 1 (.slice (some ⟨g5, 0, none⟩) l.length l.length) l.length (boolC (askT p l i)) :: .obj g2 (.cells #[.slice none 0 0, .slice none 0 0] 25) :: []) := (hM.both hM30 (noBld_cons (by simp) (noBld_cons (by simp) (noBld_quiet quietL_nil))) (noBld_cons (by simp) (noBld_quiet quietL_nil)))
   refine ⟨_, rfl, ?_⟩
   intro a hA
   refine seq_do hA rfl rfl rfl (does_move rfl) ?_
   intro a hA
   refine seq_do (v := .agg #[.slice so28 l.length ca29, .slice (some ⟨g5, 0, none⟩) l.length l.length]) hA rfl rfl rfl (does_build rfl (fun w => by kernel_rfl)) ?_
   intro a hA
   refine s_store (us := [.slice so28 l.length ca29, .slice (some ⟨g5, 0, none⟩) l.length l.length]) (L' := (.row 9 1 (.slice so28 l.length ca29) l.length (strC l) :: .row 4 1 (.slice (some ⟨g5, 0, none⟩) l.length l.length) l.length (boolC (askT p l i)) :: .obj g2 (.cells #[.slice so28 l.length ca29, .slice (some ⟨g5, 0, none⟩) l.length l.length] 25) :: [])) hA hM rfl rfl (m_store rfl rfl rfl (by kernel_rfl) hM 2 rfl rfl rfl) 2 rfl rfl rfl ?_
   intro w32 hM
   refine seq_end ?_
   refine hK27 _ _ ?_
   refine wp_ret ?_
   refine hret _ _ ?_
   refine ends (v := .agg #[.slice so28 l.length ca29, .slice (some ⟨g5, 0, none⟩) l.length l.length]) hA rfl (.cons (res_cellS hM EnB_isS_25 rfl 2 rfl (cs := [.slice so28 l.length ca29, .slice (some ⟨g5, 0, none⟩) l.length l.length]) rfl rfl) .nil) rfl ?_
   replace hM : Mg w w32 (.row 9 1 (.slice so28 l.length ca29) l.length (strC l) :: .row 4 1 (.slice (some ⟨g5, 0, none⟩) l.length l.length) l.length (boolC (askT p l i)) :: []) := by
     have h9 := hM.sub (.cons_cons _ (.cons_cons _ (.cons _ (.refl _))))
     exact h9
   rw [askT_full (show l.length ≤ i by omega)] at hM
   exact ⟨_, _, _, _, rfl, hM⟩
theorem sound_any {w : World} {so si : Option Addr} {ca ci : Nat} {l : List ByteArray} {bs : List Bool} (hR : Rs w so l) (hB : Rl w si bs) : Calls Try.prog 12 #[.agg #[.slice so l.length ca, .slice si bs.length ci]] w fun e w' => e = .returned (.bool (sndS l bs)) ∧ Below w.heap.size w w' := by
 have hM : Mg w w ([]) := Mg.start w
 refine walk_of (l := [(0, .agg #[.slice so l.length ca, .slice si bs.length ci])]) Try.func12 rfl Try.ntmps12 rfl rfl ?_
 intro Q hret hnorm hP a hA
 refine wp_seq_k (fun K1 hK1 => ?_)
 refine wp_region_lit ?_
 refine s_new (vs := [.slice so l.length ca, .slice si bs.length ci]) (t := 25) hA hM rfl rfl rfl (fun g => .pointer (some ⟨g, 0, none⟩)) (does_box rfl rfl) (by decide) ?_
 intro g2 w3 hM a hA
 refine seq_do hA rfl rfl rfl (does_assign rfl) ?_
 intro a hA
 refine seq_end ?_
 refine hK1 _ _ ?_
 refine wp_seq_k (fun K4 hK4 => ?_)
 refine wp_region_lit ?_
 refine seq_do (v := .pointer (some ⟨g2, 0, none⟩)) hA rfl rfl rfl (does_field EnB_fld_25_0 rfl rfl) ?_
 intro a hA
 refine seq_do hA rfl rfl rfl (m_load1 hM EnB_is1_22 rfl 0 rfl rfl) ?_
 intro a hA
 refine seq_do (v := .int .i64 (((l.length : Nat) : Int))) hA rfl rfl rfl (does_len Try.underlying22 rfl) ?_
 intro a hA
 rcases Bool.eq_false_or_eq_true (decide (((l.length : Nat) : Int) ≤ 64)) with hb5 | hb5
 · have hb5' := of_decide_eq_true hb5
   refine seq_do (v := .bool true) hA rfl rfl rfl (does_bin rfl rfl (fun w => (bin_leq w).trans (by rw [hb5]))) ?_
   intro a hA
   refine seq_do hA rfl rfl rfl (does_move rfl) ?_
   intro a hA
   refine seq_do (v := .pointer (some ⟨g2, 1, none⟩)) hA rfl rfl rfl (does_field EnB_fld_25_1 rfl rfl) ?_
   intro a hA
   refine seq_do hA rfl rfl rfl (m_load1 hM EnB_is1_23 rfl 0 rfl rfl) ?_
   intro a hA
   refine seq_do (v := .int .i64 (((bs.length : Nat) : Int))) hA rfl rfl rfl (does_len Try.underlying23 rfl) ?_
   intro a hA
   refine seq_do (v := .pointer (some ⟨g2, 0, none⟩)) hA rfl rfl rfl (does_field EnB_fld_25_0 rfl rfl) ?_
   intro a hA
   refine seq_do hA rfl rfl rfl (m_load1 hM EnB_is1_22 rfl 0 rfl rfl) ?_
   intro a hA
   refine seq_do (v := .int .i64 (((l.length : Nat) : Int))) hA rfl rfl rfl (does_len Try.underlying22 rfl) ?_
   intro a hA
   rcases Bool.eq_false_or_eq_true ((((bs.length : Nat) : Int) == ((l.length : Nat) : Int))) with hb6 | hb6
   · have hb6' := eq_of_beq hb6
     refine seq_do (v := .bool true) hA rfl rfl rfl (does_bin rfl rfl (fun w => (bin_eql w).trans (by rw [hb6]))) ?_
     intro a hA
     refine seq_do (v := .bool true) hA rfl rfl rfl (does_pick rfl rfl rfl rfl) ?_
     intro a hA
     refine seq_do hA rfl rfl rfl (does_move rfl) ?_
     intro a hA
     refine seq_do (v := .pointer (some ⟨g2, 0, none⟩)) hA rfl rfl rfl (does_field EnB_fld_25_0 rfl rfl) ?_
     intro a hA
     refine seq_do hA rfl rfl rfl (m_load1 hM EnB_is1_22 rfl 0 rfl rfl) ?_
     intro a hA
     rcases Bool.eq_false_or_eq_true (twS l) with hb7 | hb7
     · refine seq_call hA rfl rfl rfl (enters_func rfl rfl (fun w => by kernel_rfl)) ((hb7 ▸ twice_any (hR.below hM.bel) (by omega))) ?_
       rintro _ w9 ⟨rfl, hb8⟩
       replace hM := hM.call hb8
       refine ⟨_, rfl, ?_⟩
       intro a hA
       refine seq_do (v := .bool false) hA rfl rfl rfl (does_un rfl un_not) ?_
       intro a hA
       refine seq_do (v := .bool false) hA rfl rfl rfl (does_pick rfl rfl rfl rfl) ?_
       intro a hA
       refine seq_do hA rfl rfl rfl (does_assign rfl) ?_
       intro a hA
       refine seq_end ?_
       refine hK4 _ _ ?_
       refine wp_ret ?_
       refine hret _ _ ?_
       refine ends (v := .bool false) hA rfl (.cons (res_tmp rfl) .nil) rfl ?_
       refine ⟨?_, hM.bel⟩
       rw [show sndS l bs = false from by simp only [sndS, decide_eq_true (show l.length ≤ 64 by omega), decide_eq_true (show bs.length = l.length by omega), hb7, Bool.false_and, Bool.and_false, Bool.true_and, Bool.and_true, Bool.not_false, Bool.not_true]]
     · refine seq_call hA rfl rfl rfl (enters_func rfl rfl (fun w => by kernel_rfl)) ((hb7 ▸ twice_any (hR.below hM.bel) (by omega))) ?_
       rintro _ w11 ⟨rfl, hb10⟩
       replace hM := hM.call hb10
       refine ⟨_, rfl, ?_⟩
       intro a hA
       refine seq_do (v := .bool true) hA rfl rfl rfl (does_un rfl un_not) ?_
       intro a hA
       refine seq_do (v := .bool true) hA rfl rfl rfl (does_pick rfl rfl rfl rfl) ?_
       intro a hA
       refine seq_do hA rfl rfl rfl (does_assign rfl) ?_
       intro a hA
       refine seq_end ?_
       refine hK4 _ _ ?_
       refine wp_ret ?_
       refine hret _ _ ?_
       refine ends (v := .bool true) hA rfl (.cons (res_tmp rfl) .nil) rfl ?_
       refine ⟨?_, hM.bel⟩
       rw [show sndS l bs = true from by simp only [sndS, decide_eq_true (show l.length ≤ 64 by omega), decide_eq_true (show bs.length = l.length by omega), hb7, Bool.false_and, Bool.and_false, Bool.true_and, Bool.and_true, Bool.not_false, Bool.not_true]]
   · have hb6' := ne_of_beq_false hb6
     refine seq_do (v := .bool false) hA rfl rfl rfl (does_bin rfl rfl (fun w => (bin_eql w).trans (by rw [hb6]))) ?_
     intro a hA
     refine seq_do (v := .bool false) hA rfl rfl rfl (does_pick rfl rfl rfl rfl) ?_
     intro a hA
     refine seq_do hA rfl rfl rfl (does_move rfl) ?_
     intro a hA
     refine seq_skip hA rfl rfl rfl ?_
     intro a hA
     refine seq_skip hA rfl rfl rfl ?_
     intro a hA
     refine seq_skip hA rfl rfl rfl ?_
     intro a hA
     refine seq_skip hA rfl rfl rfl ?_
     intro a hA
     refine seq_do (v := .bool false) hA rfl rfl rfl (does_pick rfl rfl rfl rfl) ?_
     intro a hA
     refine seq_do hA rfl rfl rfl (does_assign rfl) ?_
     intro a hA
     refine seq_end ?_
     refine hK4 _ _ ?_
     refine wp_ret ?_
     refine hret _ _ ?_
     refine ends (v := .bool false) hA rfl (.cons (res_tmp rfl) .nil) rfl ?_
     refine ⟨?_, hM.bel⟩
     rw [show sndS l bs = false from by simp only [sndS, decide_eq_true (show l.length ≤ 64 by omega), decide_eq_false (show ¬ bs.length = l.length by omega), Bool.false_and, Bool.and_false, Bool.true_and, Bool.and_true, Bool.not_false, Bool.not_true]]
 · have hb5' := of_decide_eq_false hb5
   refine seq_do (v := .bool false) hA rfl rfl rfl (does_bin rfl rfl (fun w => (bin_leq w).trans (by rw [hb5]))) ?_
   intro a hA
   refine seq_do hA rfl rfl rfl (does_move rfl) ?_
   intro a hA
   refine seq_skip hA rfl rfl rfl ?_
   intro a hA
   refine seq_skip hA rfl rfl rfl ?_
   intro a hA
   refine seq_skip hA rfl rfl rfl ?_
   intro a hA
   refine seq_skip hA rfl rfl rfl ?_
   intro a hA
   refine seq_skip hA rfl rfl rfl ?_
   intro a hA
   refine seq_skip hA rfl rfl rfl ?_
   intro a hA
   refine seq_skip hA rfl rfl rfl ?_
   intro a hA
   refine seq_do (v := .bool false) hA rfl rfl rfl (does_pick rfl rfl rfl rfl) ?_
   intro a hA
   refine seq_do hA rfl rfl rfl (does_move rfl) ?_
   intro a hA
   refine seq_skip hA rfl rfl rfl ?_
   intro a hA
   refine seq_skip hA rfl rfl rfl ?_
   intro a hA
   refine seq_skip hA rfl rfl rfl ?_
   intro a hA
   refine seq_skip hA rfl rfl rfl ?_
   intro a hA
   refine seq_do (v := .bool false) hA rfl rfl rfl (does_pick rfl rfl rfl rfl) ?_
   intro a hA
   refine seq_do hA rfl rfl rfl (does_assign rfl) ?_
   intro a hA
   refine seq_end ?_
   refine hK4 _ _ ?_
   refine wp_ret ?_
   refine hret _ _ ?_
   refine ends (v := .bool false) hA rfl (.cons (res_tmp rfl) .nil) rfl ?_
   refine ⟨?_, hM.bel⟩
   rw [show sndS l bs = false from by simp only [sndS, decide_eq_false (show ¬ l.length ≤ 64 by omega), Bool.false_and, Bool.and_false, Bool.true_and, Bool.and_true, Bool.not_false, Bool.not_true]]
theorem sound_as {w : World} {so si : Option Addr} {ca ci : Nat} {l : List ByteArray} {bs : List Bool} (hR : Rs w so l) (hB : Rl w si bs) {b : Bool} (h : sndS l bs = b) : Calls Try.prog 12 #[.agg #[.slice so l.length ca, .slice si bs.length ci]] w fun e w' => e = .returned (.bool b) ∧ Below w.heap.size w w' := h ▸ sound_any hR hB
theorem membership_any {w : World} {so si : Option Addr} {ca ci : Nat} {l : List ByteArray} {bs : List Bool} : Calls Try.prog 41 #[.agg #[.slice so l.length ca, .slice si bs.length ci]] w fun e w' => ∃ g, e = .returned (.func (.func 52) #[] #[.pointer (some ⟨g, 0, none⟩)]) ∧ Mg w w' [.obj g (.cells #[.slice so l.length ca, .slice si bs.length ci] 25)] := by
 have hM : Mg w w ([]) := Mg.start w
 refine walk_of (l := [(0, .agg #[.slice so l.length ca, .slice si bs.length ci])]) Try.func41 rfl Try.ntmps41 rfl rfl ?_
 intro Q hret hnorm hP a hA
 refine wp_seq_k (fun K1 hK1 => ?_)
 refine wp_region_lit ?_
 refine s_new (vs := [.slice so l.length ca, .slice si bs.length ci]) (t := 25) hA hM rfl rfl rfl (fun g => .pointer (some ⟨g, 0, none⟩)) (does_box rfl rfl) (by decide) ?_
 intro g2 w3 hM a hA
 refine seq_do hA rfl rfl rfl (does_assign rfl) ?_
 intro a hA
 refine seq_end ?_
 refine hK1 _ _ ?_
 refine wp_seq_k (fun K4 hK4 => ?_)
 refine wp_region_lit ?_
 refine seq_do (v := .func (.func 52) #[] [.pointer (some ⟨g2, 0, none⟩)].toArray) hA rfl rfl rfl (does_makeFunc rfl) ?_
 intro a hA
 refine seq_do hA rfl rfl rfl (does_assign rfl) ?_
 intro a hA
 refine seq_end ?_
 refine hK4 _ _ ?_
 refine wp_ret ?_
 refine hret _ _ ?_
 refine ends (v := .func (.func 52) #[] [.pointer (some ⟨g2, 0, none⟩)].toArray) hA rfl (.cons (res_tmp rfl) .nil) rfl ?_
 exact ⟨_, rfl, hM⟩
theorem memb1_any {w : World} {so si : Option Addr} {ca ci : Nat} {l : List ByteArray} {bs : List Bool} (hR : Rs w so l) (hB : Rl w si bs) (hl : l.length ≤ 8796093021952) (hbl : bs.length = l.length) {g : Nat} (h0 : w.cell? ⟨g, 0, none⟩ = some (.slice so l.length ca)) (h1 : w.cell? ⟨g, 0 + 1, none⟩ = some (.slice si bs.length ci)) {s : ByteArray} : Calls Try.prog 52 #[.string s, .pointer (some ⟨g, 0, none⟩)] w fun e w' => e = .returned (.bool (hasS l bs s)) ∧ Below w.heap.size w w' := by
 have hge := idx_ge l s
 have hM : Mg w w ([]) := Mg.start w
 refine walk_of (l := [(0, .string s), (1, .pointer (some ⟨g, 0, none⟩))]) Try.func52 rfl Try.ntmps52 rfl rfl ?_
 intro Q hret hnorm hP a hA
 refine wp_seq_k (fun K1 hK1 => ?_)
 refine wp_region_lit ?_
 refine seq_do hA rfl rfl rfl (does_assign rfl) ?_
 intro a hA
 refine seq_end ?_
 refine hK1 _ _ ?_
 refine wp_seq_k (fun K2 hK2 => ?_)
 refine wp_region_lit ?_
 refine seq_do (v := .pointer (some ⟨g, 0, none⟩)) hA rfl rfl rfl (does_field EnB_fld_25_0 rfl rfl) ?_
 intro a hA
 refine seq_do hA rfl rfl rfl (m_loadX hM h0 EnB_is1_22 rfl) ?_
 intro a hA
 refine seq_do hA rfl rfl rfl (does_move rfl) ?_
 intro a hA
 refine seq_call hA rfl rfl rfl (enters_func rfl rfl (fun w => by kernel_rfl)) (indexS_any (hR.below hM.bel) hl) ?_
 rintro _ w4 ⟨rfl, hb3⟩
 replace hM := hM.call hb3
 refine ⟨_, rfl, ?_⟩
 intro a hA
 refine seq_do hA rfl rfl rfl (does_assign rfl) ?_
 intro a hA
 refine seq_end ?_
 refine hK2 _ _ ?_
 refine wp_seq_k (fun K5 hK5 => ?_)
 refine wp_region_lit ?_
 refine seq_do hA rfl rfl rfl (does_move rfl) ?_
 intro a hA
 rcases Bool.eq_false_or_eq_true (decide (0 ≤ idxOfS l s)) with hb6 | hb6
 · have hb6' := of_decide_eq_true hb6
   refine seq_do (v := .bool true) hA rfl rfl rfl (does_bin rfl rfl (fun w => (bin_geq w).trans (by rw [hb6]))) ?_
   intro a hA
   refine seq_do hA rfl rfl rfl (does_move rfl) ?_
   intro a hA
   refine seq_do (v := .pointer (some ⟨g, 1, none⟩)) hA rfl rfl rfl (does_field EnB_fld_25_1 rfl rfl) ?_
   intro a hA
   refine seq_do hA rfl rfl rfl (m_loadX hM h1 EnB_is1_23 rfl) ?_
   intro a hA
   refine seq_do hA rfl rfl rfl (does_move rfl) ?_
   intro a hA
   obtain ⟨bx7, ox8, sx9, hs10, hc11, hi12⟩ := hB.at_ (i := (idxOfS l s).toNat) (by omega)
   refine seq_do (v := .pointer (some ⟨bx7, ox8 + (idxOfS l s).toNat, none⟩)) hA rfl rfl rfl (does_indexRow (k := (idxOfS l s).toNat) Try.underlying23 (by kernel_rfl) rfl rfl (by omega) hs10 (by omega)) ?_
   intro a hA
   rcases sx9 with _ | _
   · refine seq_do (v := .bool false) hA rfl rfl rfl (m_loadX hM hc11 EnB_is1_4 rfl) ?_
     intro a hA
     refine seq_do (v := .bool false) hA rfl rfl rfl (does_pick rfl rfl rfl rfl) ?_
     intro a hA
     refine seq_do hA rfl rfl rfl (does_assign rfl) ?_
     intro a hA
     refine seq_end ?_
     refine hK5 _ _ ?_
     refine wp_ret ?_
     refine hret _ _ ?_
     refine ends (v := .bool false) hA rfl (.cons (res_tmp rfl) .nil) rfl ?_
     refine ⟨?_, hM.bel⟩
     rw [show hasS l bs s = false from by unfold hasS; rw [decide_eq_true (by omega), Bool.true_and, List.getD_eq_getElem?_getD, hi12]; rfl]
   · refine seq_do (v := .bool true) hA rfl rfl rfl (m_loadX hM hc11 EnB_is1_4 rfl) ?_
     intro a hA
     refine seq_do (v := .bool true) hA rfl rfl rfl (does_pick rfl rfl rfl rfl) ?_
     intro a hA
     refine seq_do hA rfl rfl rfl (does_assign rfl) ?_
     intro a hA
     refine seq_end ?_
     refine hK5 _ _ ?_
     refine wp_ret ?_
     refine hret _ _ ?_
     refine ends (v := .bool true) hA rfl (.cons (res_tmp rfl) .nil) rfl ?_
     refine ⟨?_, hM.bel⟩
     rw [show hasS l bs s = true from by unfold hasS; rw [decide_eq_true (by omega), Bool.true_and, List.getD_eq_getElem?_getD, hi12]; rfl]
 · have hb6' := of_decide_eq_false hb6
   refine seq_do (v := .bool false) hA rfl rfl rfl (does_bin rfl rfl (fun w => (bin_geq w).trans (by rw [hb6]))) ?_
   intro a hA
   refine seq_do hA rfl rfl rfl (does_move rfl) ?_
   intro a hA
   refine seq_skip hA rfl rfl rfl ?_
   intro a hA
   refine seq_skip hA rfl rfl rfl ?_
   intro a hA
   refine seq_skip hA rfl rfl rfl ?_
   intro a hA
   refine seq_skip hA rfl rfl rfl ?_
   intro a hA
   refine seq_skip hA rfl rfl rfl ?_
   intro a hA
   refine seq_do (v := .bool false) hA rfl rfl rfl (does_pick rfl rfl rfl rfl) ?_
   intro a hA
   refine seq_do hA rfl rfl rfl (does_assign rfl) ?_
   intro a hA
   refine seq_end ?_
   refine hK5 _ _ ?_
   refine wp_ret ?_
   refine hret _ _ ?_
   refine ends (v := .bool false) hA rfl (.cons (res_tmp rfl) .nil) rfl ?_
   refine ⟨?_, hM.bel⟩
   rw [show hasS l bs s = false from by unfold hasS; rw [decide_eq_false (by omega), Bool.false_and]]
theorem asks_memb {w : World} {so si : Option Addr} {ca ci : Nat} {l : List ByteArray} {bs : List Bool} (hR : Rs w so l) (hB : Rl w si bs) (hl : l.length ≤ 8796093021952) (hbl : bs.length = l.length) {g : Nat} (h0 : w.cell? ⟨g, 0, none⟩ = some (.slice so l.length ca)) (h1 : w.cell? ⟨g, 0 + 1, none⟩ = some (.slice si bs.length ci)) : AskS Try.prog 52 [.pointer (some ⟨g, 0, none⟩)] w (hasS l bs) :=
  ⟨fun us w => by kernel_rfl, fun s w1 hb => memb1_any (hR.below hb) (hB.below hb) hl hbl ((hb.cell (cell_ltE h0)).trans h0) ((hb.cell (cell_ltE h1)).trans h1)⟩
theorem members_any {w : World} {so si : Option Addr} {ca ci : Nat} {l : List ByteArray} {bs : List Bool} (hR : Rs w so l) (hB : Rl w si bs) (hl : l.length ≤ 1000000) (hbl : bs.length = l.length) : Calls Try.prog 35 #[.agg #[.slice so l.length ca, .slice si bs.length ci]] w fun e w' => ∃ so' ca', e = .returned (.slice so' (memS l bs).length ca') ∧ Mg w w' [.row 9 1 (.slice so' (memS l bs).length ca') (memS l bs).length (strC (memS l bs))] := by
 have hM : Mg w w ([]) := Mg.start w
 refine walk_of (l := [(0, .agg #[.slice so l.length ca, .slice si bs.length ci])]) Try.func35 rfl Try.ntmps35 rfl rfl ?_
 intro Q hret hnorm hP a hA
 refine wp_seq_k (fun K1 hK1 => ?_)
 refine wp_region_lit ?_
 refine s_new (vs := [.slice so l.length ca, .slice si bs.length ci]) (t := 25) hA hM rfl rfl rfl (fun g => .pointer (some ⟨g, 0, none⟩)) (does_box rfl rfl) (by decide) ?_
 intro g2 w3 hM a hA
 refine seq_do hA rfl rfl rfl (does_assign rfl) ?_
 intro a hA
 refine seq_end ?_
 refine hK1 _ _ ?_
 refine wp_seq_k (fun K4 hK4 => ?_)
 refine wp_region_lit ?_
 refine seq_do hA rfl rfl rfl (does_assign rfl) ?_
 intro a hA
 refine seq_end ?_
 refine hK4 _ _ ?_
 refine wp_seq_k (fun K5 hK5 => ?_)
 refine wp_seq_k (fun K6 hK6 => ?_)
 refine wp_region_lit ?_
 refine seq_do (v := .pointer (some ⟨g2, 0, none⟩)) hA rfl rfl rfl (does_field EnB_fld_25_0 rfl rfl) ?_
 intro a hA
 refine seq_do hA rfl rfl rfl (m_load1 hM EnB_is1_22 rfl 0 rfl rfl) ?_
 intro a hA
 refine seq_do (v := .int .i64 (((l.length : Nat) : Int))) hA rfl rfl rfl (does_len Try.underlying22 rfl) ?_
 intro a hA
 refine seq_do hA rfl rfl rfl (does_move rfl) ?_
 intro a hA
 refine seq_end ?_
 refine hK6 _ _ ?_
 refine wp_block ?_
 replace hM := hM.nilRow (noBld_cons (by simp) (noBld_quiet quietL_nil)) 9 1
 refine wp_loop_n (fun m_ a w1 => ∃ (i : Nat) (xs : List ByteArray) (so_ : Option Addr) (ca_ : Nat), m_ = 1 + (l.length - i) ∧ (i ≤ l.length ∧ xs = memT l bs i) ∧ Sl a 25 [(0, .agg #[.slice so l.length ca, .slice si bs.length ci]), (1, .pointer (some ⟨g2, 0, none⟩)), (2, .slice none 0 0), (3, .slice so_ xs.length ca_), (6, .pointer (some ⟨g2, 0, none⟩)), (7, .slice so l.length ca), (8, .int .i64 (((l.length : Nat) : Int))), (9, .int .i64 (((i : Nat) : Int)))] ∧ Mg w w1 (.row 9 1 (.slice so_ xs.length ca_) xs.length (strC xs) :: .obj g2 (.cells #[.slice so l.length ca, .slice si bs.length ci] 25) :: [])) _ ⟨0, [], none, 0, rfl, ⟨Nat.zero_le _, rfl⟩, hA.keep _ ⟨rfl, rfl, rfl, rfl, rfl, rfl, rfl, rfl, trivial⟩, hM⟩ ?_
 clear hM hA
 rintro m_ a w7 ⟨i, xs, so_, ca_, rfl, hinv9, hA, hM⟩ K8 hK8
 obtain ⟨hi0, hx9⟩ := hinv9
 have hxl : xs.length ≤ i := by rw [hx9]; exact memT_len l bs i
 refine wp_seq_k (fun K10 hK10 => ?_)
 refine wp_region_lit ?_
 rcases Bool.eq_false_or_eq_true (decide (((i : Nat) : Int) < ((l.length : Nat) : Int))) with hb11 | hb11
 · have hb11' := of_decide_eq_true hb11
   refine seq_do (v := .bool true) hA rfl rfl rfl (does_bin rfl rfl (fun w => (bin_lss w).trans (by rw [hb11]))) ?_
   intro a hA
   refine seq_end ?_
   refine hK10 _ _ ?_
   refine wp_seq_k (fun K12 hK12 => ?_)
   refine wp_cond_true (hA.ev rfl) ?_
   refine wp_skip ?_
   refine hK12 _ _ ?_
   refine wp_seq_k (fun K13 hK13 => ?_)
   refine wp_block ?_
   refine wp_seq_k (fun K14 hK14 => ?_)
   refine wp_region_lit ?_
   refine seq_do hA rfl rfl rfl (does_move rfl) ?_
   intro a hA
   obtain ⟨bx15, ox16, sx17, hs18, hc19, hi20⟩ := hR.at_ (i := i) (by omega)
   refine seq_do (v := .pointer (some ⟨bx15, ox16 + i, none⟩)) hA rfl rfl rfl (does_indexRow (k := i) Try.underlying22 (by kernel_rfl) rfl rfl (by first | rfl | omega) hs18 (by omega)) ?_
   intro a hA
   refine seq_do hA rfl rfl rfl (m_loadX hM hc19 EnB_is1_9 rfl) ?_
   intro a hA
   refine seq_do hA rfl rfl rfl (does_assign rfl) ?_
   intro a hA
   refine seq_do hA rfl rfl rfl (does_assign rfl) ?_
   intro a hA
   refine seq_end ?_
   refine hK14 _ _ ?_
   refine wp_seq_k (fun K21 hK21 => ?_)
   refine wp_region_lit ?_
   refine seq_do (v := .pointer (some ⟨g2, 1, none⟩)) hA rfl rfl rfl (does_field EnB_fld_25_1 rfl rfl) ?_
   intro a hA
   refine seq_do hA rfl rfl rfl (m_load1 hM EnB_is1_23 rfl 1 rfl rfl) ?_
   intro a hA
   refine seq_do hA rfl rfl rfl (does_move rfl) ?_
   intro a hA
   obtain ⟨bx22, ox23, sx24, hs25, hc26, hi27⟩ := hB.at_ (i := i) (by omega)
   refine seq_do (v := .pointer (some ⟨bx22, ox23 + i, none⟩)) hA rfl rfl rfl (does_indexRow (k := i) Try.underlying23 (by kernel_rfl) rfl rfl (by first | rfl | omega) hs25 (by omega)) ?_
   intro a hA
   rcases sx24 with _ | _
   · refine seq_do (v := .bool false) hA rfl rfl rfl (m_loadX hM hc26 EnB_is1_4 rfl) ?_
     intro a hA
     refine seq_end ?_
     refine hK21 _ _ ?_
     refine wp_cond_false (hA.ev rfl) ?_
     refine wp_skip ?_
     refine hK13 _ _ ?_
     refine wp_region_lit ?_
     refine seq_do (v := .int .i64 (((i + 1 : Nat) : Int))) hA rfl rfl rfl (does_bin rfl rfl (ar_add ((in_i64 (by omega) (by omega)).trans (by omega)))) ?_
     intro a hA
     refine seq_do hA rfl rfl rfl (does_move rfl) ?_
     intro a hA
     refine seq_end ?_
     refine hK8 _ _ _ (by omega) ⟨i + 1, xs, so_, ca_, rfl, ⟨by omega, by rw [memT_step hi20 hi27, ← hx9]; simp⟩, hA.keep _ ⟨rfl, rfl, rfl, rfl, rfl, rfl, rfl, rfl, trivial⟩, hM⟩
   · refine seq_do (v := .bool true) hA rfl rfl rfl (m_loadX hM hc26 EnB_is1_4 rfl) ?_
     intro a hA
     refine seq_end ?_
     refine hK21 _ _ ?_
     refine wp_cond_true (hA.ev rfl) ?_
     refine wp_region_lit ?_
     refine seq_do hA rfl rfl rfl (does_move rfl) ?_
     intro a hA
     refine seq_do hA rfl rfl rfl (does_move rfl) ?_
     intro a hA
     refine s_litE (e := 9) (sz := 1) (m := 1) (vs := strC [sx17]) hA hM rfl rfl rfl (does_buildSlice rfl (by kernel_rfl)) rfl rfl (.inl (by decide)) ?_
     intro g28 w29 hM a hA
     refine s_appendE (e := 9) (sz := 1) (k := 1) (q := xs.length) (m := 1) (xs := strC xs) (news := strC [sx17]) (L' := fun v30 => (.row 9 1 (.slice (some ⟨g28, 0, none⟩) 1 1) 1 (strC [sx17]) :: .row 9 1 (v30) (xs.length + 1) (strC xs ++ strC [sx17]) :: .obj g2 (.cells #[.slice so l.length ca, .slice si bs.length ci] 25) :: [])) hA rfl rfl rfl (m_appX (z := .string ⟨#[]⟩) (sz := 1) (by_ := 16) Try.underlying22 (by kernel_rfl) rfl rfl rfl hM 1 rfl rfl rfl (strC_n [sx17]) (rc_own (hM.has 0 rfl)) (strC_one [sx17]) (by first | omega | (simp only [List.length_nil]; omega))) (fun _ => rfl) ?_
     intro v30 w31 hM a hA
     replace hM : Mg w w31 (.row 9 1 (.slice (some ⟨g28, 0, none⟩) 1 1) 1 (strC [sx17]) :: .row 9 1 (v30) ((xs ++ [sx17]).length) (strC (xs ++ [sx17])) :: .obj g2 (.cells #[.slice so l.length ca, .slice si bs.length ci] 25) :: []) := by
       rw [← strC_app, List.length_append]; exact hM
     obtain ⟨so32, ca33, rfl⟩ := owns_any (hM.has 1 rfl)
     refine seq_do hA rfl rfl rfl (does_assign rfl) ?_
     intro a hA
     refine seq_end ?_
     refine hK13 _ _ ?_
     refine wp_region_lit ?_
     refine seq_do (v := .int .i64 (((i + 1 : Nat) : Int))) hA rfl rfl rfl (does_bin rfl rfl (ar_add ((in_i64 (by omega) (by omega)).trans (by omega)))) ?_
     intro a hA
     refine seq_do hA rfl rfl rfl (does_move rfl) ?_
     intro a hA
     refine seq_end ?_
     replace hM : Mg w w31 (.obj g2 (.cells #[.slice so l.length ca, .slice si bs.length ci] 25) :: .row 9 1 (.slice (some ⟨g28, 0, none⟩) 1 1) 1 (strC [sx17]) :: .row 9 1 (.slice so32 ((xs ++ [sx17]).length) ca33) ((xs ++ [sx17]).length) (strC (xs ++ [sx17])) :: []) := hM.bring 2 rfl rfl
     replace hM : Mg w w31 (.row 9 1 (.slice so32 ((xs ++ [sx17]).length) ca33) ((xs ++ [sx17]).length) (strC (xs ++ [sx17])) :: .obj g2 (.cells #[.slice so l.length ca, .slice si bs.length ci] 25) :: .row 9 1 (.slice (some ⟨g28, 0, none⟩) 1 1) 1 (strC [sx17]) :: []) := hM.bring 2 rfl rfl
     replace hM : Mg w w31 (.row 9 1 (.slice so32 ((xs ++ [sx17]).length) ca33) ((xs ++ [sx17]).length) (strC (xs ++ [sx17])) :: .obj g2 (.cells #[.slice so l.length ca, .slice si bs.length ci] 25) :: []) := by
       have h9 := hM.sub (.cons_cons _ (.cons_cons _ (.cons _ (.refl _))))
       exact h9
     refine hK8 _ _ _ (by omega) ⟨i + 1, xs ++ [sx17], so32, ca33, rfl, ⟨by omega, by rw [memT_step hi20 hi27, ← hx9]; simp⟩, hA.keep _ ⟨rfl, rfl, rfl, rfl, rfl, rfl, rfl, rfl, trivial⟩, hM⟩
 · have hb11' := of_decide_eq_false hb11
   refine seq_do (v := .bool false) hA rfl rfl rfl (does_bin rfl rfl (fun w => (bin_lss w).trans (by rw [hb11]))) ?_
   intro a hA
   refine seq_end ?_
   refine hK10 _ _ ?_
   refine wp_seq_k (fun K34 hK34 => ?_)
   refine wp_cond_false (hA.ev rfl) ?_
   refine wp_exit ?_
   refine hK5 _ _ ?_
   refine wp_seq_k (fun K35 hK35 => ?_)
   refine wp_region_lit ?_
   refine seq_do hA rfl rfl rfl (does_move rfl) ?_
   intro a hA
   refine seq_do hA rfl rfl rfl (does_assign rfl) ?_
   intro a hA
   refine seq_end ?_
   refine hK35 _ _ ?_
   refine wp_ret ?_
   refine hret _ _ ?_
   refine ends (v := .slice so_ xs.length ca_) hA rfl (.cons (res_tmp rfl) .nil) rfl ?_
   replace hM : Mg w w7 (.row 9 1 (.slice so_ xs.length ca_) xs.length (strC xs) :: []) := by
     have h9 := hM.sub (.cons_cons _ (.cons _ (.refl _)))
     exact h9
   have e9 : xs = memS l bs := by rw [hx9, memT_full (.inl (by omega))]
   subst e9
   exact ⟨_, _, rfl, hM⟩
theorem indexf_any {w : World} {so : Option Addr} {ca : Nat} {l : List ByteArray} (hR : Rs w so l) (hl : l.length ≤ 8796093021952) {f : FuncId} {cs : List Value} {p : ByteArray → Bool} (hF : AskS Try.prog f cs w p) : Calls Try.prog 47 #[.slice so l.length ca, .func (.func f) #[] cs.toArray] w fun e w' => e = .returned (.int .i64 (idxP p l)) ∧ Below w.heap.size w w' := by
 have hM : Mg w w ([]) := Mg.start w
 refine walk_of (l := [(0, .slice so l.length ca), (1, .func (.func f) #[] cs.toArray)]) Try.func47 rfl Try.ntmps47 rfl rfl ?_
 intro Q hret hnorm hP a hA
 refine wp_seq_k (fun K1 hK1 => ?_)
 refine wp_region_lit ?_
 refine seq_do hA rfl rfl rfl (does_assign rfl) ?_
 intro a hA
 refine seq_end ?_
 refine hK1 _ _ ?_
 refine wp_seq_k (fun K2 hK2 => ?_)
 refine wp_seq_k (fun K3 hK3 => ?_)
 refine wp_region_lit ?_
 refine seq_do hA rfl rfl rfl (does_move rfl) ?_
 intro a hA
 refine seq_do (v := .int .i64 (((l.length : Nat) : Int))) hA rfl rfl rfl (does_len Try.underlying22 rfl) ?_
 intro a hA
 refine seq_do hA rfl rfl rfl (does_move rfl) ?_
 intro a hA
 refine seq_end ?_
 refine hK3 _ _ ?_
 refine wp_block ?_
 refine wp_loop_n (fun m_ a w1 => ∃ (i : Nat), m_ = 1 + (l.length - i) ∧ (i ≤ l.length ∧ ∀ (j : Nat) u, j < i → l[j]? = some u → p u = false) ∧ Sl a 19 [(0, .slice so l.length ca), (1, .func (.func f) #[] cs.toArray), (6, .slice so l.length ca), (7, .int .i64 (((l.length : Nat) : Int))), (8, .int .i64 (((i : Nat) : Int)))] ∧ Mg w w1 ([])) _ ⟨0, rfl, ⟨Nat.zero_le _, fun j u h => absurd h (Nat.not_lt_zero _)⟩, hA.keep _ ⟨rfl, rfl, rfl, rfl, rfl, trivial⟩, hM⟩ ?_
 clear hM hA
 rintro m_ a w4 ⟨i, rfl, hinv6, hA, hM⟩ K5 hK5
 obtain ⟨hi0, hin9⟩ := hinv6
 refine wp_seq_k (fun K7 hK7 => ?_)
 refine wp_region_lit ?_
 rcases Bool.eq_false_or_eq_true (decide (((i : Nat) : Int) < ((l.length : Nat) : Int))) with hb8 | hb8
 · have hb8' := of_decide_eq_true hb8
   refine seq_do (v := .bool true) hA rfl rfl rfl (does_bin rfl rfl (fun w => (bin_lss w).trans (by rw [hb8]))) ?_
   intro a hA
   refine seq_end ?_
   refine hK7 _ _ ?_
   refine wp_seq_k (fun K9 hK9 => ?_)
   refine wp_cond_true (hA.ev rfl) ?_
   refine wp_skip ?_
   refine hK9 _ _ ?_
   refine wp_seq_k (fun K10 hK10 => ?_)
   refine wp_block ?_
   refine wp_seq_k (fun K11 hK11 => ?_)
   refine wp_region_lit ?_
   refine seq_do hA rfl rfl rfl (does_move rfl) ?_
   intro a hA
   refine seq_do hA rfl rfl rfl (does_assign rfl) ?_
   intro a hA
   refine seq_end ?_
   refine hK11 _ _ ?_
   refine wp_seq_k (fun K12 hK12 => ?_)
   refine wp_region_lit ?_
   refine seq_do hA rfl rfl rfl (does_move rfl) ?_
   intro a hA
   refine seq_do hA rfl rfl rfl (does_move rfl) ?_
   intro a hA
   refine seq_do hA rfl rfl rfl (does_move rfl) ?_
   intro a hA
   obtain ⟨bx13, ox14, sx15, hs16, hc17, hi18⟩ := hR.at_ (i := i) (by omega)
   refine seq_do (v := .pointer (some ⟨bx13, ox14 + i, none⟩)) hA rfl rfl rfl (does_indexRow (k := i) Try.underlying22 (by kernel_rfl) rfl rfl (by first | rfl | omega) hs16 (by omega)) ?_
   intro a hA
   refine seq_do hA rfl rfl rfl (m_loadX hM hc17 EnB_is1_9 rfl) ?_
   intro a hA
   rcases Bool.eq_false_or_eq_true (p sx15) with hb19 | hb19
   · refine seq_call hA rfl rfl rfl (enters_fn rfl rfl hF.inv) ((hb19 ▸ hF.run sx15 _ hM.bel)) ?_
     rintro _ w21 ⟨rfl, hb20⟩
     replace hM := hM.call hb20
     refine ⟨_, rfl, ?_⟩
     intro a hA
     refine seq_end ?_
     refine hK12 _ _ ?_
     refine wp_cond_true (hA.ev rfl) ?_
     refine wp_seq_k (fun K22 hK22 => ?_)
     refine wp_region_lit ?_
     refine seq_do hA rfl rfl rfl (does_move rfl) ?_
     intro a hA
     refine seq_do hA rfl rfl rfl (does_assign rfl) ?_
     intro a hA
     refine seq_end ?_
     refine hK22 _ _ ?_
     refine wp_ret ?_
     refine hret _ _ ?_
     refine ends (v := .int .i64 (((i : Nat) : Int))) hA rfl (.cons (res_tmp rfl) .nil) rfl ?_
     exact ⟨by rw [idxP_hit hin9 hi18 hb19], hM.bel⟩
   · refine seq_call hA rfl rfl rfl (enters_fn rfl rfl hF.inv) ((hb19 ▸ hF.run sx15 _ hM.bel)) ?_
     rintro _ w24 ⟨rfl, hb23⟩
     replace hM := hM.call hb23
     refine ⟨_, rfl, ?_⟩
     intro a hA
     refine seq_end ?_
     refine hK12 _ _ ?_
     refine wp_cond_false (hA.ev rfl) ?_
     refine wp_skip ?_
     refine hK10 _ _ ?_
     refine wp_region_lit ?_
     refine seq_do (v := .int .i64 (((i + 1 : Nat) : Int))) hA rfl rfl rfl (does_bin rfl rfl (ar_add ((in_i64 (by omega) (by omega)).trans (by omega)))) ?_
     intro a hA
     refine seq_do hA rfl rfl rfl (does_move rfl) ?_
     intro a hA
     refine seq_end ?_
     replace hM : Mg w w24 ([]) := by
       have h9 := hM.sub (.refl _)
       exact h9
     refine hK5 _ _ _ (by omega) ⟨i + 1, rfl, ⟨by omega, fun j u hj hu => if h9 : j < i then hin9 j u h9 hu else by have h8 : j = i := (by omega); subst h8; rw [hi18] at hu; rw [← Option.some.inj hu]; exact hb19⟩, hA.keep _ ⟨rfl, rfl, rfl, rfl, rfl, trivial⟩, hM⟩
 · have hb8' := of_decide_eq_false hb8
   refine seq_do (v := .bool false) hA rfl rfl rfl (does_bin rfl rfl (fun w => (bin_lss w).trans (by rw [hb8]))) ?_
   intro a hA
   refine seq_end ?_
   refine hK7 _ _ ?_
   refine wp_seq_k (fun K25 hK25 => ?_)
   refine wp_cond_false (hA.ev rfl) ?_
   refine wp_exit ?_
   refine hK2 _ _ ?_
   refine wp_seq_k (fun K26 hK26 => ?_)
   refine wp_region_lit ?_
   refine seq_do hA rfl rfl rfl (does_assign rfl) ?_
   intro a hA
   refine seq_end ?_
   refine hK26 _ _ ?_
   refine wp_ret ?_
   refine hret _ _ ?_
   refine ends (v := .int .i64 (-1)) hA rfl (.cons (res_tmp rfl) .nil) rfl ?_
   exact ⟨by rw [idxP_miss (fun j u hj => hin9 j u (by omega))], hM.bel⟩
theorem containsf_any {w : World} {so : Option Addr} {ca : Nat} {l : List ByteArray} (hR : Rs w so l) (hl : l.length ≤ 8796093021952) {f : FuncId} {cs : List Value} {p : ByteArray → Bool} (hF : AskS Try.prog f cs w p) : Calls Try.prog 32 #[.slice so l.length ca, .func (.func f) #[] cs.toArray] w fun e w' => e = .returned (.bool (l.any p)) ∧ Below w.heap.size w w' := by
 have hM : Mg w w ([]) := Mg.start w
 refine walk_of (l := [(0, .slice so l.length ca), (1, .func (.func f) #[] cs.toArray)]) Try.func32 rfl Try.ntmps32 rfl rfl ?_
 intro Q hret hnorm hP a hA
 refine wp_seq_k (fun K1 hK1 => ?_)
 refine wp_region_lit ?_
 refine seq_do hA rfl rfl rfl (does_assign rfl) ?_
 intro a hA
 refine seq_end ?_
 refine hK1 _ _ ?_
 refine wp_seq_k (fun K2 hK2 => ?_)
 refine wp_region_lit ?_
 refine seq_do hA rfl rfl rfl (does_move rfl) ?_
 intro a hA
 refine seq_do hA rfl rfl rfl (does_move rfl) ?_
 intro a hA
 refine seq_call hA rfl rfl rfl (enters_func rfl rfl (fun w => by kernel_rfl)) (indexf_any (hR.below hM.bel) hl (hF.below hM.bel)) ?_
 rintro _ w4 ⟨rfl, hb3⟩
 replace hM := hM.call hb3
 refine ⟨_, rfl, ?_⟩
 intro a hA
 refine seq_do (v := .bool (decide (0 ≤ idxP p l))) hA rfl rfl rfl (does_bin rfl rfl bin_geq) ?_
 intro a hA
 refine seq_do hA rfl rfl rfl (does_assign rfl) ?_
 intro a hA
 refine seq_end ?_
 refine hK2 _ _ ?_
 refine wp_ret ?_
 refine hret _ _ ?_
 refine ends (v := .bool (decide (0 ≤ idxP p l))) hA rfl (.cons (res_tmp rfl) .nil) rfl ?_
 exact ⟨by rw [← idxP_any p l], hM.bel⟩
end Go.Proofs.Ytbdhfooeanbnlaa
